import PyProof.Rows.All
import Wide.All
import OpenK.AllK
import Wide.FinOn
import Lean
import PyProof.EqAt
import PyProof.EqKinds
import PyProof.TupleCall
import PyProof.ExcArgsOwn
import PyProof.ExcAttrAll.ValueError
import KE.KTryMore
import PyProof.NsDelKeeps
import PyProof.ExcBaseAll.ValueError
import KE.RegKTryMore
import KE.RegKIsAll
import KE.KRevSl
import PyProof.ZipIter
import PyProof.ExcClass3
import PyProof.ExcInit
import KE.KSuper
import PyProof.DictIter
import KE.KDictIter
import KE.KDictList
import PyProof.EnumStmt
import PyProof.WalksEnum
import PyProof.EnumMake
import PyProof.Rows.EnumRows
import PyProof.Rows.InDataRows
import PyProof.SumWalk
import PyProof.Rows.SeqCalls
import PyProof.WalksMore
import PyProof.Rows.SetFrom
import PyProof.SetRoads
import PyProof.Rows.TupMore
import PyProof.Rows.SortWalk
import PyProof.MaxThree
import PySem.Challenge.RW_nearlands_k68_the_least_ring
set_option Elab.async false
set_option linter.all false
set_option maxRecDepth 100000
namespace L2
open PySem PySem.Spec PyProof.Rows
noncomputable abbrev Key := Sum Int Str
noncomputable def keyIs : Key → Value → Bool
 | .inl k, v => Value.isInt k v
 | .inr x, v => Value.isStrOf x v
noncomputable def keyH (w : World) : Key → Int
 | .inl k => hashInt k
 | .inr x => hashStr w x
theorem keyIs_shape : ∀ {k : Key} {v : Value}, keyIs k v = true → (∃ i t, k = Sum.inl i ∧ v = Value.int i t) ∨ (∃ x t, k = Sum.inr x ∧ v = Value.str x t)
 | .inl i, v, h => by
  obtain ⟨t, e⟩ := Value.isInt_shape (k := i) (v := v) h
  exact .inl ⟨i, t, rfl, e⟩
 | .inr x, v, h => by
  obtain ⟨t, e⟩ := Value.isStrOf_shape (x := x) (v := v) h
  exact .inr ⟨x, t, rfl, e⟩
theorem keyIs_int (i : Int) (t : Tok) : keyIs (.inl i) (.int i t) = true := by simp [keyIs, Value.isInt]
theorem keyIs_str (x : Str) (t : Tok) : keyIs (.inr x) (.str x t) = true := by simp [keyIs, Value.isStrOf]
theorem key_ll (a b : Int) : decide ((Sum.inl a : Key) = Sum.inl b) = (a == b) := by
 by_cases e : a = b
 ·subst e; simp
 ·have h : ¬ (Sum.inl a : Key) = Sum.inl b := fun q => e (Sum.inl.inj q)
  rw [decide_eq_false h]
  exact (beq_eq_false_iff_ne.mpr e).symm
theorem key_rr (a b : Str) : decide ((Sum.inr a : Key) = Sum.inr b) = decide (a = b) := by
 by_cases e : a = b
 ·subst e; simp
 ·have h : ¬ (Sum.inr a : Key) = Sum.inr b := fun q => e (Sum.inr.inj q)
  rw [decide_eq_false h, decide_eq_false e]
theorem key_lr (a : Int) (b : Str) : decide ((Sum.inl a : Key) = Sum.inr b) = false := decide_eq_false (fun q => nomatch q)
theorem key_rl (a : Str) (b : Int) : decide ((Sum.inr a : Key) = Sum.inl b) = false := decide_eq_false (fun q => nomatch q)
noncomputable def mixKind (prog : Program) (w : World) : PySem.KeyKind prog w Key where
 is := keyIs
 hash := keyH w
 inj := fun v a b ha hb => by
  rcases keyIs_shape ha with ⟨i, t, rfl, rfl⟩ | ⟨x, t, rfl, rfl⟩
  ·rcases keyIs_shape hb with ⟨j, u, rfl, e⟩ | ⟨y, u, rfl, e⟩
   ·injection e with e1 _; rw [e1]
   ·exact nomatch e
  ·rcases keyIs_shape hb with ⟨j, u, rfl, e⟩ | ⟨y, u, rfl, e⟩
   ·exact nomatch e
   ·injection e with e1 _; rw [e1]
 byValue := fun k v h => by
  rcases keyIs_shape h with ⟨i, t, rfl, rfl⟩ | ⟨x, t, rfl, rfl⟩ <;> rfl
 pyHash := fun hv h => by
  rcases keyIs_shape hv with ⟨i, t, rfl, rfl⟩ | ⟨x, t, rfl, rfl⟩
  ·exact wpAny_pyHash_int h
  ·exact wpAny_pyHash_str h
 eqBool := fun hu hv h => by
  rcases keyIs_shape hu with ⟨i, t, rfl, rfl⟩ | ⟨x, t, rfl, rfl⟩
  ·rcases keyIs_shape hv with ⟨j, u, rfl, rfl⟩ | ⟨y, u, rfl, rfl⟩
   ·rw [key_ll] at h; exact wpAny_eqBool_int h
   ·rw [key_lr] at h; exact SeqAt.EqAt.int_str i t y u _ _ _ _ h
  ·rcases keyIs_shape hv with ⟨j, u, rfl, rfl⟩ | ⟨y, u, rfl, rfl⟩
   ·rw [key_rl] at h; exact SeqAt.EqAt.str_int x t j u _ _ _ _ h
   ·rw [key_rr] at h; exact wpAny_eqBool_str h
 «strs» := fun k x t v h => by
  rcases keyIs_shape h with ⟨i, u, rfl, e⟩ | ⟨y, u, rfl, e⟩
  ·exact nomatch e
  ·injection e with e1 _
   subst e1
   cases v <;> rfl
theorem mixKind_int (prog : Program) (w : World) (i : Int) (t : Tok) : (mixKind prog w).is (.inl i) (.int i t) = true := keyIs_int i t
theorem mixKind_str (prog : Program) (w : World) (x : Str) (t : Tok) : (mixKind prog w).is (.inr x) (.str x t) = true := keyIs_str x t
end L2
namespace L2
open PySem PySem.Spec PyProof.Rows
inductive V where
 | non | bl (b : Bool) | int (i : Int) | str (x : Str) | byt (b : Array UInt8) | flt (b : UInt64) | ref (a : Addr) | ty (n : String)
 deriving DecidableEq
noncomputable def RelV : V → Value → Prop
 | .non, u => u = Value.none
 | .bl b, u => u = Value.bool b
 | .int i, u => ∃ t, u = Value.int i t
 | .str x, u => ∃ t, u = Value.str x t
 | .byt b, u => ∃ t, u = Value.bytes b t
 | .flt b, u => ∃ t, u = Value.float b t
 | .ref a, u => u = Value.ref a
 | .ty n, u => u = Value.type n
noncomputable abbrev Vals : List V → List Value → Prop := Paired RelV
theorem Vals.length {xs : List V} {us : List Value} (r : Vals xs us) : xs.length = us.length := Paired.length r
theorem Vals.get : ∀ {xs : List V} {us : List Value} {i : Nat} {x : V}, Vals xs us → xs[i]? = some x → ∃ u, us[i]? = some u ∧ RelV x u
 | _, _, _, _, .nil, e => by simp at e
 | _, _, 0, _, .cons r _, e => by simp at e; subst e; exact ⟨_, rfl, r⟩
 | _, _, i + 1, x, .cons _ t, e => by
  obtain ⟨u, h1, h2⟩ := Vals.get (i := i) (x := x) t (by simpa using e)
  exact ⟨u, by simpa using h1, h2⟩
theorem Vals.append : ∀ {xs ys : List V} {us ws : List Value}, Vals xs us → Vals ys ws → Vals (xs ++ ys) (us ++ ws)
 | _, _, _, _, .nil, s => s
 | _, _, _, _, .cons r t, s => .cons r (Vals.append t s)
theorem Vals.take : ∀ {xs : List V} {us : List Value} (n : Nat), Vals xs us → Vals (xs.take n) (us.take n)
 | _, _, 0, _ => .nil
 | _, _, _ + 1, .nil => .nil
 | _, _, n + 1, .cons r t => .cons r (Vals.take n t)
theorem Vals.drop : ∀ {xs : List V} {us : List Value} (n : Nat), Vals xs us → Vals (xs.drop n) (us.drop n)
 | _, _, 0, r => r
 | _, _, _ + 1, .nil => .nil
 | _, _, n + 1, .cons _ t => Vals.drop n t
noncomputable def RelO : Option V → Option Value → Prop
 | some v, some u => RelV v u
 | none, none => True
 | _, _ => False
noncomputable def KV {κ : Type} : List (κ × V) → List (κ × Value) → Prop := Paired fun (p : κ × V) (q : κ × Value) => p.1 = q.1 ∧ RelV p.2 q.2
noncomputable def kV : Key → V
 | .inl i => .int i
 | .inr x => .str x
inductive HO where
 | lst (xs : List V)
 | tup (xs : List V)
 | dK (kvs : List (Key × V)) | dT (kvs : List (List Key × V))
 | set (S : Int → Bool) (n : Nat)
 | ins (C dx : Addr) (fs : List (Str × V))
 | own (x : Addr)
 | xd (fs : List (Str × V))
 | met (f x : Addr)
 | rng (lo hi : Int)
 | frz (o : Obj) (u : HO)
 | tbl (ps : Array Value)
 | ext (φ : Heap → Prop)
noncomputable abbrev Hp := Addr → Option HO
noncomputable def upd (H : Hp) (a : Addr) (o : HO) : Hp := fun b => if b = a then some o else H b
theorem upd_same {H : Hp} {a : Addr} {o : HO} : upd H a o a = some o := by unfold upd; rw [if_pos rfl]
theorem upd_ne {H : Hp} {a b : Addr} {o : HO} (h : b ≠ a) : upd H a o b = H b := by unfold upd; rw [if_neg h]
theorem upd_upd {H : Hp} {a : Addr} {o u : HO} : upd (upd H a o) a u = upd H a u := by
 funext b; unfold upd; split <;> rfl
theorem ne_of {H : Hp} {a b : Addr} {o u : HO} (h : H a = some o) (h' : H b = some u) (d : o ≠ u) : a ≠ b := by
 intro e; subst e; rw [h] at h'; exact d (Option.some.inj h')
theorem ne_of_none {H : Hp} {a b : Addr} {o : HO} (h : H a = some o) (h' : H b = none) : a ≠ b := by
 intro e; subst e; rw [h] at h'; cases h'
section
variable (P : Program) (w : World)
noncomputable def ObjOk (H : Hp) (h : Heap) (a : Addr) : HO → Prop
 | .lst xs => xs.length ≤ sizeLine ∧ ∃ (its : List Value) (n : Nat), Vals xs its ∧ h.get? a = some { cls := .type "list", data := .seq its.toArray n }
 | .tup xs => xs.length ≤ sizeLine ∧ ∃ its : List Value, Vals xs its ∧ IsTup h a its.toArray
 | .dK kvs => kvs.length ≤ sizeLine ∧ (a == sysModules) = false ∧ ∃ vs, KV kvs vs ∧ h.DictOf (mixKind P w) a vs
 | .dT kvs => kvs.length ≤ sizeLine ∧ (a == sysModules) = false ∧ ∃ xs : List (List Key × Addr × Value),
   Paired (fun (p : List Key × V) (q : List Key × Addr × Value) => p.1 = q.1 ∧ H q.2.1 = some (.tup (p.1.map kV)) ∧ RelV p.2 q.2.2) kvs xs ∧
   ∃ o es ep, h.get? a = some o ∧ o.ExactDict ∧ o.data = .dict es ep ∧ es.toList = xs.map (entryOfKey (tupleKind (mixKind P w))) ∧ (xs.map (·.1)).Nodup
 | .set S n => h.SetOf (intKind P w) a S n
 | .ins C dx fs => H dx = some (.own a) ∧ fs.length ≤ 1000 ∧ dx ≠ a ∧ h.get? a = some (PySem.W.instObj C dx) ∧
   ∃ mA, h.Ns1 dx mA ∧ (∀ f, RelO (fs.lookup f) (mA f)) ∧ PySem.Within mA (fs.map (·.1))
 | .own _ => ∃ o, h.get? a = some o
 | .xd fs => ∃ mA, h.Ns1 a mA ∧ ∀ f, RelO (fs.lookup f) (mA f)
 | .rng lo hi => ∃ t u v, h.get? a = some { cls := .type "range", data := .fields #[.int lo t, .int hi u, .int 1 v] }
 | .frz o u => h.get? a = some o ∧ ObjOk H h a u
 | .tbl ps => h.get? a = some { cls := .none, data := .fields ps }
 | .met f x => h.get? a = some (PySem.W.methodObj (.ref f) (.ref x))
 | .ext φ => φ h ∧ (∃ o, h.get? a = some o) ∧ ∀ h1 h2 : Heap, φ h1 → (∀ o, h1.get? a = some o → h2.get? a = some o) → φ h2
noncomputable def HOk (H : Hp) (h : Heap) : Prop := ∀ a o, H a = some o → ObjOk P w H h a o
end
section
variable {P : Program} {w : World} {H H' : Hp} {h h' : Heap} {a : Addr} {o : HO}
theorem ObjOk.lt (x : ObjOk P w H h a o) : a < h.objs.size := by
 cases o with
 | lst xs => obtain ⟨_, _, _, _, e⟩ := x; exact Heap.lt_size e
 | tup xs => obtain ⟨_, _, _, p⟩ := x; exact p.lt
 | dK kvs => obtain ⟨_, _, _, _, o, _, _, e, _⟩ := x; exact Heap.lt_size e
 | dT kvs => obtain ⟨_, _, _, _, o, _, _, e, _⟩ := x; exact Heap.lt_size e
 | set S n => obtain ⟨o, _, _, _, e, _⟩ := x; exact Heap.lt_size e
 | ins C dx fs => obtain ⟨_, _, _, e, _⟩ := x; exact Heap.lt_size e
 | own y => obtain ⟨_, e⟩ := x; exact Heap.lt_size e
 | xd fs => obtain ⟨_, ⟨_, _, _, e, _⟩, _⟩ := x; exact Heap.lt_size e
 | rng lo hi => obtain ⟨_, _, _, e⟩ := x; exact Heap.lt_size e
 | frz ob u => obtain ⟨e, _⟩ := x; exact Heap.lt_size e
 | tbl ps => exact Heap.lt_size (show h.get? a = some _ from x)
 | met f y => exact Heap.lt_size (show h.get? a = some _ from x)
 | ext φ => obtain ⟨_, ⟨_, e⟩, _⟩ := x; exact Heap.lt_size e
theorem Paired.mapP {α β : Type} {F G : α → β → Prop} : ∀ {l₁ : List α} {l₂ : List β}, Paired F l₁ l₂ → (∀ a b, F a b → G a b) → Paired G l₁ l₂
 | _, _, .nil, _ => .nil
 | _, _, .cons r t, f => .cons (f _ _ r) (Paired.mapP t f)
theorem ObjOk.stay (x : ObjOk P w H h a o) (k : ∀ b u, (b = a ∨ H b = some (.own a)) → h.get? b = some u → h'.get? b = some u)
  (ho : ∀ b, H b = some (.own a) → H' b = some (.own a)) (ht : ∀ b xs, H b = some (.tup xs) → H' b = some (.tup xs)) : ObjOk P w H' h' a o := by
 induction o with
 | lst xs => obtain ⟨z, its, n, r, e⟩ := x; exact ⟨z, its, n, r, k _ _ (.inl rfl) e⟩
 | tup xs => obtain ⟨z, its, r, ob, e, c⟩ := x; exact ⟨z, its, r, ob, k _ _ (.inl rfl) e, c⟩
 | dK kvs => obtain ⟨z, y, vs, r, ob, es, ep, e, c⟩ := x; exact ⟨z, y, vs, r, ob, es, ep, k _ _ (.inl rfl) e, c⟩
 | dT kvs =>
  obtain ⟨z, y, xs, r, ob, es, ep, e, c⟩ := x
  exact ⟨z, y, xs, Paired.mapP r fun p q z => ⟨z.1, ht _ _ z.2.1, z.2.2⟩, ob, es, ep, k _ _ (.inl rfl) e, c⟩
 | set S n => obtain ⟨ob, es, ep, t, e, c⟩ := x; exact ⟨ob, es, ep, t, k _ _ (.inl rfl) e, c⟩
 | ins C dx fs =>
  obtain ⟨d, z, ne, e, mA, ⟨od, es, ep, e2, c⟩, r⟩ := x
  exact ⟨ho _ d, z, ne, k _ _ (.inl rfl) e, mA, ⟨od, es, ep, k _ _ (.inr d) e2, c⟩, r⟩
 | own y => obtain ⟨ob, e⟩ := x; exact ⟨ob, k _ _ (.inl rfl) e⟩
 | xd fs => obtain ⟨mA, ⟨od, es, ep, e, c⟩, r⟩ := x; exact ⟨mA, ⟨od, es, ep, k _ _ (.inl rfl) e, c⟩, r⟩
 | rng lo hi => obtain ⟨t, u, v, e⟩ := x; exact ⟨t, u, v, k _ _ (.inl rfl) e⟩
 | frz ob u ih => obtain ⟨e, q⟩ := x; exact ⟨k _ _ (.inl rfl) e, ih q⟩
 | tbl ps =>
  have e : h.get? a = some { cls := .none, data := .fields ps } := x
  show h'.get? a = some { cls := .none, data := .fields ps }
  exact k a _ (.inl rfl) e
 | met f y =>
  have e : h.get? a = some (PySem.W.methodObj (.ref f) (.ref y)) := x
  show h'.get? a = some (PySem.W.methodObj (.ref f) (.ref y))
  exact k a _ (.inl rfl) e
 | ext φ => obtain ⟨p, ⟨o, e⟩, st⟩ := x; exact ⟨st _ _ p fun o q => k _ _ (.inl rfl) q, ⟨o, k _ _ (.inl rfl) e⟩, st⟩
theorem HOk.lt (x : HOk P w H h) (e : H a = some o) : a < h.objs.size := (x a o e).lt
theorem HOk.fresh (x : HOk P w H h) (e : h.objs.size ≤ a) : H a = none := by
 cases q : H a with
 | none => rfl
 | some u => exact absurd (Nat.lt_of_lt_of_le (x.lt q) e) (Nat.lt_irrefl _)
theorem HOk.kept (x : HOk P w H h) (k : ∀ b u, h.get? b = some u → h'.get? b = some u) : HOk P w H h' := fun a o e =>
 (x a o e).stay (fun b u _ q => k b u q) (fun _ q => q) fun _ _ q => q
theorem HOk.laid (x : HOk P w H h) (k : ∀ b u, h.get? b = some u → h'.get? b = some u) (hp : h.objs.size ≤ a) (new : ObjOk P w (upd H a o) h' a o) : HOk P w (upd H a o) h' := fun b u e => by
 have hn := x.fresh hp
 by_cases hb : b = a
 ·subst hb; rw [upd_same] at e; cases e; exact new
 ·rw [upd_ne hb] at e
  exact (x b u e).stay (fun c v _ q => k c v q) (fun c q => by rw [upd_ne (ne_of_none q hn)]; exact q) fun c xs q => by rw [upd_ne (ne_of_none q hn)]; exact q
end
noncomputable def Rd (H : Hp) (a : Addr) (u : HO) : Prop := H a = some u ∨ ∃ o, H a = some (.frz o u)
theorem Rd.of {H : Hp} {a : Addr} {u : HO} (h : H a = some u) : Rd H a u := .inl h
theorem Rd.ok {P : Program} {w : World} {H : Hp} {h : Heap} {a : Addr} {u : HO} (r : Rd H a u) (x : HOk P w H h) : ObjOk P w H h a u := by
 rcases r with r | ⟨o, r⟩
 ·exact x a u r
 ·obtain ⟨_, q⟩ := x a _ r
  exact q
noncomputable def Mut : Option HO → Prop
 | some (.lst _) => True
 | some (.dK _) => True
 | some (.dT _) => True
 | some (.set _ _) => True
 | some (.ins _ _ _) => True
 | some (.ext _) => True
 | _ => False
section
variable {P : Program} {w : World} {H : Hp} {h h' : Heap} {x e : Addr} {o' : HO}
theorem HOk.write (ok : HOk P w H h) (mu : Mut (H x)) (he : e = x ∨ H e = some (.own x)) (k : ∀ b u, b ≠ e → h.get? b = some u → h'.get? b = some u) (heo : ∃ u, h'.get? e = some u)
  (new : ObjOk P w (upd H x o') h' x o') : HOk P w (upd H x o') h' := fun b u q => by
 have nown : ∀ c y, H c = some (.own y) → c ≠ x := fun c y r z => by subst z; rw [r] at mu; exact mu
 have ntup : ∀ c xs, H c = some (.tup xs) → c ≠ x := fun c xs r z => by subst z; rw [r] at mu; exact mu
 by_cases hb : b = x
 ·subst hb; rw [upd_same] at q; cases q; exact new
 ·rw [upd_ne hb] at q
  by_cases hbe : b = e
  ·have q' : H b = some (.own x) := by
    rcases he with z | z
    ·exact absurd (hbe.trans z) hb
    ·rw [hbe]; exact z
   rw [q] at q'; cases q'
   obtain ⟨v, hv⟩ := heo
   exact ⟨v, by rw [hbe]; exact hv⟩
  ·refine (ok b u q).stay (fun c v hc r => k c v ?_ r) (fun c r => by rw [upd_ne (nown c b r)]; exact r) fun c xs r => by rw [upd_ne (ntup c xs r)]; exact r
   rcases hc with rfl | hc
   ·exact hbe
   ·rintro rfl
    rcases he with z | z
    ·exact nown c b hc z
    ·rw [hc] at z; cases z; exact hb rfl
end
structure Un (fs ex : List Addr) (H H' : Hp) (h h' : Heap) : Prop where
 keep : ∀ b o, h.get? b = some o → H b = none → b ∉ fs → b ∉ ex → h'.get? b = some o
 slot : ∀ b o, h.get? b = some o → H b = none → b ∈ fs → b ∉ ex → ∃ sl, h'.get? b = some { o with slots := sl }
 free : ∀ b o, h.get? b = some o → H b = none → b ∉ ex → H' b = none
 there : ∀ b o, h.get? b = some o → b ∉ ex → ∃ o', h'.get? b = some o'
 tups : ∀ b xs, H b = some (.tup xs) → H' b = some (.tup xs)
 frzs : ∀ b o u, H b = some (.frz o u) → H' b = some (.frz o u)
 tbls : ∀ b ps, H b = some (.tbl ps) → ∃ more, H' b = some (.tbl (ps ++ more))
section
variable {fs fs' ex ex' : List Addr} {H H1 H2 : Hp} {h h1 h2 h' : Heap} {a x e : Addr} {o : HO}
theorem Un.any (u : Un fs ex H H1 h h1) {b : Addr} {ob : Obj} (q : h.get? b = some ob) (n : H b = none) (hx : b ∉ ex) : ∃ sl, h1.get? b = some { ob with slots := sl } := by
 by_cases hb : b ∈ fs
 ·exact u.slot b ob q n hb hx
 ·exact ⟨ob.slots, u.keep b ob q n hb hx⟩
theorem Un.kept (k : ∀ b u, h.get? b = some u → h'.get? b = some u) : Un fs ex H H h h' :=
 ⟨fun b ob q _ _ _ => k b ob q, fun b ob q _ _ _ => ⟨ob.slots, k b ob q⟩, fun _ _ _ n _ => n, fun b ob q _ => ⟨ob, k b ob q⟩, fun _ _ q => q, fun _ _ _ q => q, fun _ ps q => ⟨#[], by rw [q]; simp⟩⟩
theorem Un.refl : Un fs ex H H h h := Un.kept fun _ _ q => q
theorem Un.laid (k : ∀ b u, h.get? b = some u → h'.get? b = some u) (hp : h.objs.size ≤ a) (hn : H a = none) : Un fs ex H (upd H a o) h h' where
 keep := fun b u q _ _ _ => k b u q
 slot := fun b u q _ _ _ => ⟨u.slots, k b u q⟩
 free := fun b u q n _ => by rw [upd_ne (Nat.ne_of_lt (Nat.lt_of_lt_of_le (Heap.lt_size q) hp))]; exact n
 there := fun b u q _ => ⟨u, k b u q⟩
 tups := fun b xs q => by rw [upd_ne (ne_of_none q hn)]; exact q
 frzs := fun b u xs q => by rw [upd_ne (ne_of_none q hn)]; exact q
 tbls := fun b ps q => ⟨#[], by rw [upd_ne (ne_of_none q hn), q]; simp⟩
theorem Un.write (mu : Mut (H x)) (he : e = x ∨ H e = some (.own x)) (k : ∀ b u, b ≠ e → h.get? b = some u → h'.get? b = some u) (heo : ∃ u, h'.get? e = some u) : Un fs ex H (upd H x o) h h' := by
 have hx : ∀ b, H b = none → b ≠ x := fun b n z => by subst z; rw [n] at mu; exact mu
 have hb : ∀ b, H b = none → b ≠ e := fun b n z => by
  subst z
  rcases he with r | r
  ·exact hx b n r
  ·rw [n] at r; cases r
 have hm : ∀ b u, H b = some u → ¬ Mut (some u) → b ≠ x := fun b u q nm z => by subst z; rw [q] at mu; exact nm mu
 refine ⟨fun b u q n _ _ => k b u (hb b n) q, fun b u q n _ _ => ⟨u.slots, k b u (hb b n) q⟩, fun b u q n _ => by rw [upd_ne (hx b n)]; exact n, fun b u q _ => ?_,
  fun b xs q => by rw [upd_ne (hm b _ q fun z => z)]; exact q, fun b u xs q => by rw [upd_ne (hm b _ q fun z => z)]; exact q, fun b ps q => ⟨#[], by rw [upd_ne (hm b _ q fun z => z), q]; simp⟩⟩
 by_cases hbe : b = e
 ·subst hbe; exact heo
 ·exact ⟨u, k b u hbe q⟩
end
noncomputable def trk (h : Heap) (H : Hp) : List Addr := (List.range h.objs.size).filter fun a => (H a).isSome
noncomputable def hidT (h : Heap) (H : Hp) : Heap := PySem.W.hideAll h (trk h H)
theorem hidT_size (h : Heap) (H : Hp) : (hidT h H).objs.size = h.objs.size := PySem.W.hideAll_size _ _
theorem hidT_get {h : Heap} {H : Hp} {b : Addr} {o : Obj} (e : h.get? b = some o) (n : H b = none) : (hidT h H).get? b = some o :=
 PySem.W.hideAll_get _ e fun hm => by
  have q : (H b).isSome = true := (List.mem_filter.mp hm).2
  rw [n] at q; simp at q
theorem of_hidT {h : Heap} {H : Hp} {b : Addr} {o : Obj} (e : (hidT h H).get? b = some o) : h.get? b = some o ∧ H b = none := by
 have e' : h.get? b = some o := PySem.W.of_hideAll (trk h H) e
 refine ⟨e', ?_⟩
 cases q : H b with
 | none => rfl
 | some x =>
  have hm : b ∈ trk h H := List.mem_filter.mpr ⟨List.mem_range.mpr (Heap.lt_size e'), by simp [q]⟩
  have z : (hidT h H).get? b = none := PySem.W.hideAll_none (trk h H) hm
  rw [z] at e; cases e
end L2
namespace L2
open PySem PySem.Spec PyProof.Rows
structure Mod (K : PySem.W.Frag) (mg : Str → Option Value) (base : Heap) : Prop where
 kin : K.In base
 glob : base.Ns mainGlobals mg
 blt : ∃ mb, base.Ns builtinsNs mb ∧ ∀ x : Str, x ≠ "__name__" → mb x = bootBuiltins x
 nolimit : base.NoLimit
structure Cx where
 prog : Program
 w : World
 K : PySem.W.Frag
 mg : Str → Option Value
 base : Heap
 A : Around
 N : List Str
 s₀ : Shared
 H₀ : Hp
 env : Env
 outer : List Env
 stack : List Env
 ex : List Addr
 fn : Str → Bool
 calm : Bool
 pn : List (Addr × Obj)
 xe : Value → Shared → Prop
noncomputable def frs (l : List Env) : List Addr := l.filterMap (·.frame)
noncomputable abbrev Cx.fs (X : Cx) : List Addr := frs X.outer
noncomputable def Vis (sc : Scope) (x : Str) : Prop := sc.names.lookup x = some .local ∨ sc.names.lookup x = some .cell ∨ sc.names.lookup x = some .free
noncomputable def Loc (sc : Scope) (x : Str) : Prop := sc.names.lookup x = some .local ∨ sc.names.lookup x = some .cell
noncomputable def Look (env : Env) (h : Heap) (m : Str → Option Value) (x : Str) (u : Value) : Prop :=
 (env.kindOf x = some .local ∧ m x = some u) ∨ ((env.kindOf x = some .cell ∨ env.kindOf x = some .free) ∧ ∃ c, env.cells.lookup x = some c ∧ h.IsCell c (some u))
structure Cx.Ok (X : Cx) : Prop where
 mod : Mod X.K X.mg X.base
 kind : X.env.scope.kind = .function
 glob : X.env.globals = mainGlobals
 blt : X.env.builtins = builtinsNs
 above : X.s₀.heap.objs.size ≤ X.env.locals
 inj : ∀ x y c, X.env.cells.lookup x = some c → X.env.cells.lookup y = some c → x = y
 has : ∀ x, (X.env.kindOf x = some .cell ∨ X.env.kindOf x = some .free) → ∃ c, X.env.cells.lookup x = some c
 cab : ∀ x c, X.fn x = true → X.env.cells.lookup x = some c → X.s₀.heap.objs.size ≤ c
 hd : X.calm = true → X.A.handled = none
 frames : X.A.frames = some X.stack
 stk : X.stack = X.outer ∨ (X.stack = X.env :: X.outer ∧ X.env.frame = some X.env.locals)
 exf : ∀ b ∈ X.ex, b ≠ X.env.locals ∧ ∀ x c, X.env.cells.lookup x = some c → c ≠ b
 bs : ∀ b o, X.base.get? b = some o → X.s₀.heap.get? b = some o ∧ X.H₀ b = none
 bsz : X.base.objs.size ≤ X.s₀.heap.objs.size
 noex : ∀ b o, X.base.get? b = some o → b ∉ X.ex
 exfs : ∀ b ∈ X.ex, b ∉ X.fs
 funs : X.s₀.heap.FunFrames X.base X.outer
 frf : ∀ b ∈ X.fs, X.H₀ b = none
structure Inv (X : Cx) (pins : List (Addr × Obj)) (σ : List (Option V)) (H : Hp) (s : Shared) : Prop where
 ok : X.Ok
 os : s.os = X.s₀.os
 bare : AllBare s.gens
 base : Un X.fs X.ex X.H₀ H X.s₀.heap s.heap
 loc : ∃ m, s.heap.Ns X.env.locals m ∧ ∀ (i : Nat) (x : Str) (v : V), X.N[i]? = some x → σ[i]? = some (some v) → Vis X.env.scope x → ∃ u, RelV v u ∧ Look X.env s.heap m x u
 cell : ∀ x c, X.env.cells.lookup x = some c → ∃ v, s.heap.IsCell c v
 free : H X.env.locals = none
 freeC : ∀ x c, X.env.cells.lookup x = some c → H c = none
 pin : ∀ p ∈ X.pn ++ pins, s.heap.get? p.1 = some p.2 ∧ H p.1 = none ∧ p.1 ≠ X.env.locals ∧ p.1 ∉ X.fs ∧ ∀ v, p.2.data ≠ .cell v
 hok : HOk X.prog X.w H s.heap
 len : σ.length = X.N.length
section
variable {X : Cx} {pins : List (Addr × Obj)} {σ : List (Option V)} {H H' : Hp} {s : Shared} {h' : Heap}
theorem Cx.Ok.nofr (ok : X.Ok) {b : Addr} {o : Obj} (e : X.base.get? b = some o) : b ∉ X.fs := fun hb => by
 have := (ok.funs.mem hb).1
 rw [e] at this; cases this
theorem Inv.bs (I : Inv X pins σ H s) : ∀ b o, X.base.get? b = some o → s.heap.get? b = some o ∧ H b = none := fun b o e =>
 ⟨I.base.keep b o (I.ok.bs b o e).1 (I.ok.bs b o e).2 (I.ok.nofr e) (I.ok.noex b o e), I.base.free b o (I.ok.bs b o e).1 (I.ok.bs b o e).2 (I.ok.noex b o e)⟩
theorem Inv.bk (I : Inv X pins σ H s) : ∀ b o, X.base.get? b = some o → s.heap.get? b = some o := fun b o e => (I.bs b o e).1
theorem Inv.mod (I : Inv X pins σ H s) : Mod X.K X.mg X.base := I.ok.mod
theorem Inv.kIn (I : Inv X pins σ H s) : X.K.In s.heap := I.ok.mod.kin.keeps I.bk
theorem Inv.lt (I : Inv X pins σ H s) : X.env.locals < s.heap.objs.size := let ⟨_, hn, _⟩ := I.loc; hn.lt
theorem Inv.sz (I : Inv X pins σ H s) : X.s₀.heap.objs.size ≤ s.heap.objs.size := Nat.le_trans I.ok.above (Nat.le_of_lt I.lt)
theorem Inv.nofs (I : Inv X pins σ H s) {a : Addr} (h : s.heap.objs.size ≤ a) : a ∉ X.fs := fun hb => by
 obtain ⟨_, o, ho, _⟩ := I.ok.funs.mem hb
 exact absurd (Nat.lt_of_lt_of_le (Heap.lt_size ho) (Nat.le_trans I.sz h)) (Nat.lt_irrefl _)
theorem Inv.cne (I : Inv X pins σ H s) : ∀ x c, X.env.cells.lookup x = some c → c ≠ X.env.locals := fun x c e z => by
 obtain ⟨v, o, ho, hd⟩ := I.cell x c e
 obtain ⟨m, ⟨o', es, ep, ho', hd', _⟩, _⟩ := I.loc
 rw [z, ho'] at ho; cases ho; rw [hd'] at hd; cases hd
theorem Inv.funs (I : Inv X pins σ H s) : s.heap.FunFrames X.base X.outer := by
 have all : ∀ (l : List Env), (∀ b ∈ frs l, b ∈ X.fs) → X.s₀.heap.FunFrames X.base l → s.heap.FunFrames X.base l := by
  intro l
  induction l with
  | nil => intro _ _; trivial
  | cons env r ih =>
   intro hs hl
   obtain ⟨hk, ⟨L, o, hf, hn, ho, hd⟩, hr⟩ := hl
   have hL : L ∈ X.fs := hs L (by unfold frs; rw [List.filterMap_cons, hf]; exact List.mem_cons_self)
   obtain ⟨sl, e⟩ := I.base.slot L o ho (I.ok.frf L hL) hL fun z => I.ok.exfs L z hL
   exact ⟨hk, ⟨L, _, hf, hn, e, hd⟩, ih (fun b hb => hs b (by unfold frs; rw [List.filterMap_cons, hf]; exact List.mem_cons_of_mem _ hb)) hr⟩
 exact all X.outer (fun _ hb => hb) I.ok.funs
theorem Inv.stack (I : Inv X pins σ H s) : s.heap.FunFrames X.base X.stack := by
 rcases I.ok.stk with e | ⟨e, hf⟩
 ·rw [e]; exact I.funs
 ·rw [e]
  obtain ⟨m, hn, _⟩ := I.loc
  refine .cons (by rw [I.ok.kind]; decide) hf hn ?_ I.funs
  exact Heap.get?_none_of_le (Nat.le_trans I.ok.bsz I.ok.above)
theorem Inv.stkSub (I : Inv X pins σ H s) : ∀ b ∈ frs X.stack, b ∈ X.env.locals :: X.fs := fun b hb => by
 rcases I.ok.stk with e | ⟨e, hf⟩
 ·rw [e] at hb; exact List.mem_cons_of_mem _ hb
 ·rw [e] at hb
  unfold frs at hb
  rw [List.filterMap_cons, hf] at hb
  exact hb
theorem Inv.stkFree (I : Inv X pins σ H s) : ∀ b ∈ frs X.stack, H b = none := fun b hb => by
 rcases List.mem_cons.mp (I.stkSub b hb) with e | hb
 ·rw [e]; exact I.free
 ·obtain ⟨_, o, ho, _⟩ := I.ok.funs.mem hb
  exact I.base.free b o ho (I.ok.frf b hb) fun z => I.ok.exfs b z hb
theorem Inv.step {g' : Array GenState} {t' : Nat} {d' : Drawn} {ch : List Addr} (I : Inv X pins σ H s)
  (hch : ∀ b ∈ ch, (b ∈ X.ex ∨ X.s₀.heap.objs.size ≤ b) ∧ b ≠ X.env.locals ∧ (∀ x c, X.env.cells.lookup x = some c → c ≠ b) ∧ ∀ p ∈ X.pn ++ pins, p.1 ≠ b)
  (keep : ∀ b o, b ≠ X.env.locals → b ∉ X.fs → b ∉ ch → s.heap.get? b = some o → H b = none → h'.get? b = some o)
  (slot : ∀ b o, b ≠ X.env.locals → b ∈ X.fs → b ∉ ch → s.heap.get? b = some o → H b = none → ∃ sl, h'.get? b = some { o with slots := sl }) (free : ∀ b o, b ∉ ch → s.heap.get? b = some o → H b = none → H' b = none)
  (there : ∀ b o, b ∉ ch → s.heap.get? b = some o → ∃ o', h'.get? b = some o')
  (tups : ∀ b xs, H b = some (.tup xs) → H' b = some (.tup xs)) (frzs : ∀ b o u, H b = some (.frz o u) → H' b = some (.frz o u)) (tbls : ∀ b ps, H b = some (.tbl ps) → ∃ more, H' b = some (.tbl (ps ++ more)))
  (ns : ∀ m, s.heap.Ns X.env.locals m → h'.Ns X.env.locals m) (hok : HOk X.prog X.w H' h') (hg : AllBare g') :
  Inv X pins σ H' { s with heap := h', gens := g', drawn := d', toks := t' } := by
 have neL : ∀ b o, X.s₀.heap.get? b = some o → b ≠ X.env.locals := fun b o e => Nat.ne_of_lt (Nat.lt_of_lt_of_le (Heap.lt_size e) I.ok.above)
 have neC : ∀ b o, X.s₀.heap.get? b = some o → b ∉ X.ex → b ∉ ch := fun b o e hx hb => by
  rcases (hch b hb).1 with z | z
  ·exact hx z
  ·exact absurd (Nat.lt_of_lt_of_le (Heap.lt_size e) z) (Nat.lt_irrefl _)
 have cellK : ∀ x c, X.env.cells.lookup x = some c → ∀ v, s.heap.IsCell c v → h'.IsCell c v := fun x c e v ⟨o, ho, hd⟩ => by
  have nch : c ∉ ch := fun z => (hch c z).2.2.1 x c e rfl
  by_cases hc : c ∈ X.fs
  ·obtain ⟨sl, q⟩ := slot c o (I.cne x c e) hc nch ho (I.freeC x c e)
   exact ⟨_, q, hd⟩
  ·exact ⟨o, keep c o (I.cne x c e) hc nch ho (I.freeC x c e), hd⟩
 refine ⟨I.ok, I.os, hg, ⟨fun b o e n hb hx => ?_, fun b o e n hb hx => ?_, fun b o e n hx => ?_, fun b o e hx => ?_, fun b xs e => tups b xs (I.base.tups b xs e), fun b o xs e => frzs b o xs (I.base.frzs b o xs e), fun b ps e => ?_⟩, ?_, fun x c e => ?_, ?_, fun x c e => ?_, fun p hp => ?_, hok, I.len⟩
 ·exact keep b o (neL b o e) hb (neC b o e hx) (I.base.keep b o e n hb hx) (I.base.free b o e n hx)
 ·obtain ⟨sl, e1⟩ := I.base.slot b o e n hb hx
  obtain ⟨sl', e2⟩ := slot b _ (neL b o e) hb (neC b o e hx) e1 (I.base.free b o e n hx)
  exact ⟨sl', e2⟩
 ·obtain ⟨o', e1⟩ := I.base.there b o e hx
  exact free b o' (neC b o e hx) e1 (I.base.free b o e n hx)
 ·obtain ⟨o', e1⟩ := I.base.there b o e hx
  exact there b o' (neC b o e hx) e1
 ·obtain ⟨m1, e1⟩ := I.base.tbls b ps e
  obtain ⟨m2, e2⟩ := tbls b _ e1
  exact ⟨m1 ++ m2, by rw [e2, Array.append_assoc]⟩
 ·obtain ⟨m, hn, hl⟩ := I.loc
  refine ⟨m, ns m hn, fun i x v e1 e2 e3 => ?_⟩
  obtain ⟨u, r, l⟩ := hl i x v e1 e2 e3
  refine ⟨u, r, ?_⟩
  rcases l with l | ⟨k, c, e, z⟩
  ·exact .inl l
  ·exact .inr ⟨k, c, e, cellK x c e _ z⟩
 ·obtain ⟨v, z⟩ := I.cell x c e
  exact ⟨v, cellK x c e v z⟩
 ·obtain ⟨m, ⟨o, _, _, ho, _⟩, _⟩ := I.loc
  exact free _ o (fun z => (hch _ z).2.1 rfl) ho I.free
 ·obtain ⟨v, o, ho, hd⟩ := I.cell x c e
  exact free c o (fun z => (hch c z).2.2.1 x c e rfl) ho (I.freeC x c e)
 ·obtain ⟨e, n, ne, nf, d⟩ := I.pin p hp
  have nch : p.1 ∉ ch := fun z => (hch p.1 z).2.2.2 p hp rfl
  exact ⟨keep p.1 p.2 ne nf nch e n, free p.1 p.2 nch e n, ne, nf, d⟩
theorem Inv.un {t' : Nat} (I : Inv X pins σ H s) (u : Un X.fs [] H H' s.heap h') (hok : HOk X.prog X.w H' h') : Inv X pins σ H' { s with heap := h', toks := t' } := by
 obtain ⟨m, ⟨o, es, ep, ho, r⟩, _⟩ := id I.loc
 obtain ⟨sl, hL⟩ := u.any ho I.free (by simp)
 exact I.step (g' := s.gens) (d' := s.drawn) (ch := []) (fun _ z => nomatch z) (fun b o _ hb _ e n => u.keep b o e n hb (by simp)) (fun b o _ hb _ e n => u.slot b o e n hb (by simp)) (fun b o _ e n => u.free b o e n (by simp)) (fun b o _ e => u.there b o e (by simp)) u.tups u.frzs u.tbls (fun m' hm => by
  obtain ⟨o', es', ep', ho', r'⟩ := hm
  rw [ho] at ho'; cases ho'
  exact ⟨_, es', ep', hL, r'⟩) hok I.bare
theorem Inv.call {g' : Array GenState} {t' : Nat} {d' : Drawn} {ch : List Addr} (I : Inv X pins σ H s) (u : Un (frs X.stack) ch H H' s.heap h') (hok : HOk X.prog X.w H' h') (hg : AllBare g')
  (hch : ∀ b ∈ ch, (b ∈ X.ex ∨ X.s₀.heap.objs.size ≤ b) ∧ b ≠ X.env.locals ∧ (∀ x c, X.env.cells.lookup x = some c → c ≠ b) ∧ ∀ p ∈ X.pn ++ pins, p.1 ≠ b) :
  Inv X pins σ H' { s with heap := h', gens := g', drawn := d', toks := t' } := by
 obtain ⟨m, ⟨o, es, ep, ho, r⟩, _⟩ := id I.loc
 obtain ⟨sl, hL⟩ := u.any ho I.free fun z => (hch _ z).2.1 rfl
 exact I.step (ch := ch) hch (fun b o hL hb hc e n => u.keep b o e n (fun z => (List.mem_cons.mp (I.stkSub b z)).elim hL hb) hc) (fun b o _ _ hc e n => u.any e n hc) (fun b o hc e n => u.free b o e n hc) (fun b o hc e => u.there b o e hc) u.tups u.frzs u.tbls (fun m' hm => by
  obtain ⟨o', es', ep', ho', r'⟩ := hm
  rw [ho] at ho'; cases ho'
  exact ⟨_, es', ep', hL, r'⟩) hok hg
theorem Inv.turned {t' : Nat} {it : Addr} (I : Inv X pins σ H s) (k : ∀ b o, b ≠ it → s.heap.get? b = some o → h'.get? b = some o) (hn : H it = none) (hL : it ≠ X.env.locals)
  (h1 : it ∈ X.ex ∨ X.s₀.heap.objs.size ≤ it) (h2 : ∀ x c, X.env.cells.lookup x = some c → c ≠ it) (h3 : ∀ p ∈ X.pn ++ pins, p.1 ≠ it) : Inv X pins σ H { s with heap := h', toks := t' } := by
 have nit : ∀ b u, H b = some u → b ≠ it := fun b u e z => by rw [z, hn] at e; cases e
 refine I.step (g' := s.gens) (d' := s.drawn) (ch := [it]) (fun b hb => ?_) (fun b o _ _ hc e _ => k b o (fun z => hc (by simp [z])) e) (fun b o _ _ hc e _ => ⟨o.slots, k b o (fun z => hc (by simp [z])) e⟩) (fun _ _ _ _ n => n)
  (fun b o hc e => ⟨o, k b o (fun z => hc (by simp [z])) e⟩) (fun _ _ e => e) (fun _ _ _ e => e) (fun b ps e => ⟨#[], by rw [e]; simp⟩) (fun m hm => ?_) (fun b u e => ?_) I.bare
 ·have e : b = it := by simpa using hb
  subst e
  exact ⟨h1, hL, h2, h3⟩
 ·obtain ⟨o, es, ep, ho, r⟩ := hm
  exact ⟨o, es, ep, k _ o (Ne.symm hL) ho, r⟩
 ·refine (I.hok b u e).stay (fun c v hc q => k c v ?_ q) (fun _ q => q) fun _ _ q => q
  rcases hc with z | z
  ·rw [z]; exact nit b u e
  ·exact nit c _ z
theorem Inv.tok (I : Inv X pins σ H s) (t : Nat) : Inv X pins σ H { s with toks := t } := I.un (h' := s.heap) (t' := t) Un.refl I.hok
theorem Inv.kept {t' : Nat} (I : Inv X pins σ H s) (k : ∀ b u, s.heap.get? b = some u → h'.get? b = some u) : Inv X pins σ H { s with heap := h', toks := t' } := I.un (Un.kept k) (I.hok.kept k)
theorem Inv.laid {a : Addr} {o : HO} {t' : Nat} (I : Inv X pins σ H s) (k : ∀ b u, s.heap.get? b = some u → h'.get? b = some u) (hp : s.heap.objs.size ≤ a) (new : ObjOk X.prog X.w (upd H a o) h' a o) :
  Inv X pins σ (upd H a o) { s with heap := h', toks := t' } := I.un (Un.laid k hp (I.hok.fresh hp)) (I.hok.laid k hp new)
theorem Inv.write {x e : Addr} {o : HO} {t' : Nat} (I : Inv X pins σ H s) (mu : Mut (H x)) (he : e = x ∨ H e = some (.own x)) (k : ∀ b u, b ≠ e → s.heap.get? b = some u → h'.get? b = some u) (heo : ∃ u, h'.get? e = some u)
  (new : ObjOk X.prog X.w (upd H x o) h' x o) : Inv X pins σ (upd H x o) { s with heap := h', toks := t' } := I.un (Un.write mu he k heo) (I.hok.write mu he k heo new)
theorem Inv.weak {σ' : List (Option V)} (I : Inv X pins σ H s) (hl : σ'.length = σ.length) (w : ∀ (i : Nat) v, σ'[i]? = some (some v) → σ[i]? = some (some v)) : Inv X pins σ' H s :=
 ⟨I.ok, I.os, I.bare, I.base, let ⟨m, hn, hl'⟩ := I.loc; ⟨m, hn, fun i x v e1 e2 e3 => hl' i x v e1 (w i v e2) e3⟩, I.cell, I.free, I.freeC, I.pin, I.hok, hl.trans I.len⟩
theorem Inv.pins_of {pins' : List (Addr × Obj)} (I : Inv X pins σ H s) (h : ∀ p ∈ pins', s.heap.get? p.1 = some p.2 ∧ H p.1 = none ∧ p.1 ≠ X.env.locals ∧ p.1 ∉ X.fs ∧ ∀ v, p.2.data ≠ .cell v) : Inv X pins' σ H s :=
 ⟨I.ok, I.os, I.bare, I.base, I.loc, I.cell, I.free, I.freeC, fun p hp => (List.mem_append.mp hp).elim (fun z => I.pin p (List.mem_append_left _ z)) (h p), I.hok, I.len⟩
theorem nodup_ix {N : List Str} (hN : N.Nodup) {i j : Nat} {x : Str} (a : N[i]? = some x) (b : N[j]? = some x) : i = j := by
 obtain ⟨h1, e1⟩ := List.getElem?_eq_some_iff.mp a
 obtain ⟨h2, e2⟩ := List.getElem?_eq_some_iff.mp b
 exact (List.getElem_inj hN).mp (e1.trans e2.symm)
theorem store_ok2 {M : Model} {A : Around} {E : Value → Shared → Prop} {i : Nat} {x : Str} {v : V} {u : Value} {Q : Unit → Shared → Prop} (I : Inv X pins σ H s) (hN : X.N.Nodup) (hi : X.N[i]? = some x) (hx : Loc X.env.scope x) (r : RelV v u)
  (h : ∀ s', Inv X pins (σ.set i (some v)) H s' → (∃ a, Heap.SameBut a s.heap s'.heap ∧ (a = X.env.locals ∨ X.env.cells.lookup x = some a)) → Q () s') (hf : X.fn x = true ∨ X.env.scope.names.lookup x = some .local := by first | exact .inl rfl | exact .inr rfl | assumption) : wpAny M A (storeName X.env x u) Q E s := by
 obtain ⟨m, hn, hl⟩ := id I.loc
 have hcls : (X.env.scope.kind == .class || (X.env.scope.kind == .module && X.env.locals != X.env.globals)) = false := by rw [I.ok.kind]; rfl
 have hiσ : i < σ.length := by rw [I.len]; exact (List.getElem?_eq_some_iff.mp hi).1
 have cne := I.cne
 have tracked : ∀ {a : Addr} {h' : Heap}, (∃ o, s.heap.get? a = some o ∧ H a = none) → Heap.SameBut a s.heap h' → HOk X.prog X.w H h' := fun {a h'} ha hs b ob e => by
  obtain ⟨_, _, hfree⟩ := ha
  refine (I.hok b ob e).stay (fun c w' hc q => (hs.2 c ?_).trans q) (fun _ q => q) fun _ _ q => q
  rintro rfl
  rcases hc with rfl | hc
  ·rw [hfree] at e; cases e
  ·rw [hfree] at hc; cases hc
 rcases hx with hk | hk
 ·refine wpAny_storeName_local hk hn (fun h' hn' hs => ?_) hcls
  obtain ⟨oL, _, _, hoL, _⟩ := id hn
  refine h _ ⟨I.ok, I.os, I.bare, ⟨fun b o e n hb hx => ?_, fun b o e n hb hx => ?_, I.base.free, fun b o e hx => ?_, I.base.tups, I.base.frzs, I.base.tbls⟩, ⟨_, hn', fun j y v' e1 e2 e3 => ?_⟩, fun y c e => ?_, I.free, I.freeC, fun p hp => ?_, tracked ⟨oL, hoL, I.free⟩ hs, by simpa using I.len⟩ ⟨_, hs, .inl rfl⟩
  ·exact (hs.2 b (Nat.ne_of_lt (Nat.lt_of_lt_of_le (Heap.lt_size e) I.ok.above))).trans (I.base.keep b o e n hb hx)
  ·obtain ⟨sl, e1⟩ := I.base.slot b o e n hb hx
   exact ⟨sl, (hs.2 b (Nat.ne_of_lt (Nat.lt_of_lt_of_le (Heap.lt_size e) I.ok.above))).trans e1⟩
  ·obtain ⟨o', e1⟩ := I.base.there b o e hx
   exact ⟨o', (hs.2 b (Nat.ne_of_lt (Nat.lt_of_lt_of_le (Heap.lt_size e) I.ok.above))).trans e1⟩
  ·by_cases hj : j = i
   ·subst hj
    rw [hi] at e1; cases e1
    rw [List.getElem?_set_self hiσ] at e2
    cases e2
    exact ⟨u, r, .inl ⟨hk, by simp⟩⟩
   ·rw [List.getElem?_set_ne (Ne.symm hj)] at e2
    obtain ⟨u', r', q⟩ := hl j y v' e1 e2 e3
    refine ⟨u', r', ?_⟩
    rcases q with ⟨k, e⟩ | ⟨k, c, e, z⟩
    ·refine .inl ⟨k, ?_⟩
     have : y ≠ x := fun e => hj (nodup_ix hN e1 (e ▸ hi))
     simp [this, e]
    ·exact .inr ⟨k, c, e, z.sameBut hs (cne y c e)⟩
  ·obtain ⟨w', z⟩ := I.cell y c e
   exact ⟨w', z.sameBut hs (cne y c e)⟩
  ·obtain ⟨e, n, ne, nf, d⟩ := I.pin p hp
   exact ⟨(hs.2 p.1 ne).trans e, n, ne, nf, d⟩
 ·have hfn : X.fn x = true := by
   rcases hf with z | z
   ·exact z
   ·rw [z] at hk; cases hk
  obtain ⟨c, hc⟩ := I.ok.has x (.inl hk)
  obtain ⟨w', z⟩ := I.cell x c hc
  refine wpAny_storeName_cell I.ok.kind hk hc z (fun h' hc' hs => ?_)
  obtain ⟨oc, hoc, hocd⟩ := id z
  refine h { s with heap := h' } ⟨I.ok, I.os, I.bare, ⟨fun b o e n hb hx => ?_, fun b o e n hb hx => ?_, I.base.free, fun b o e hx => ?_, I.base.tups, I.base.frzs, I.base.tbls⟩, ⟨m, hn.sameBut hs (Ne.symm (cne x c hc)), fun j y v' e1 e2 e3 => ?_⟩, fun y c' e => ?_, I.free, I.freeC, fun p hp => ?_, tracked ⟨oc, hoc, I.freeC x c hc⟩ hs, by simpa using I.len⟩ ⟨c, hs, .inr hc⟩
  ·exact (hs.2 b (Nat.ne_of_lt (Nat.lt_of_lt_of_le (Heap.lt_size e) (I.ok.cab x c hfn hc)))).trans (I.base.keep b o e n hb hx)
  ·obtain ⟨sl, e1⟩ := I.base.slot b o e n hb hx
   exact ⟨sl, (hs.2 b (Nat.ne_of_lt (Nat.lt_of_lt_of_le (Heap.lt_size e) (I.ok.cab x c hfn hc)))).trans e1⟩
  ·obtain ⟨o', e1⟩ := I.base.there b o e hx
   exact ⟨o', (hs.2 b (Nat.ne_of_lt (Nat.lt_of_lt_of_le (Heap.lt_size e) (I.ok.cab x c hfn hc)))).trans e1⟩
  ·by_cases hj : j = i
   ·subst hj
    rw [hi] at e1; cases e1
    rw [List.getElem?_set_self hiσ] at e2
    cases e2
    exact ⟨u, r, .inr ⟨.inl hk, c, hc, hc'⟩⟩
   ·rw [List.getElem?_set_ne (Ne.symm hj)] at e2
    obtain ⟨u', r', q⟩ := hl j y v' e1 e2 e3
    refine ⟨u', r', ?_⟩
    rcases q with q | ⟨k, c', e, z'⟩
    ·exact .inl q
    ·refine .inr ⟨k, c', e, z'.sameBut hs ?_⟩
     rintro rfl
     exact hj (nodup_ix hN e1 (I.ok.inj _ _ _ e hc ▸ hi))
  ·by_cases hcc : c' = c
   ·subst hcc; exact ⟨_, hc'⟩
   ·obtain ⟨w2, z2⟩ := I.cell y c' e
    exact ⟨w2, z2.sameBut hs hcc⟩
  ·obtain ⟨e, n, ne, nf, d⟩ := I.pin p hp
   refine ⟨(hs.2 p.1 ?_).trans e, n, ne, nf, d⟩
   intro q
   rw [q, hoc] at e
   have q' : oc = p.2 := Option.some.inj e
   exact d w' (by rw [← q']; exact hocd)
theorem store_ok {M : Model} {A : Around} {E : Value → Shared → Prop} {i : Nat} {x : Str} {v : V} {u : Value} {Q : Unit → Shared → Prop} (I : Inv X pins σ H s) (hN : X.N.Nodup) (hi : X.N[i]? = some x) (hx : Loc X.env.scope x) (r : RelV v u)
  (h : ∀ s', Inv X pins (σ.set i (some v)) H s' → Q () s') (hf : X.fn x = true ∨ X.env.scope.names.lookup x = some .local := by first | exact .inl rfl | exact .inr rfl | assumption) : wpAny M A (storeName X.env x u) Q E s :=
 store_ok2 I hN hi hx r (fun s' I' _ => h s' I') hf
theorem Inv.call' {s' : Shared} {ch : List Addr} (I : Inv X pins σ H s) (ho : s'.os = s.os) (u : Un (frs X.stack) ch H H' s.heap s'.heap) (hok : HOk X.prog X.w H' s'.heap) (hg : AllBare s'.gens)
  (hch : ∀ b ∈ ch, (b ∈ X.ex ∨ X.s₀.heap.objs.size ≤ b) ∧ b ≠ X.env.locals ∧ (∀ x c, X.env.cells.lookup x = some c → c ≠ b) ∧ ∀ p ∈ X.pn ++ pins, p.1 ≠ b) : Inv X pins σ H' s' := by
 obtain ⟨h', g', d', t', o'⟩ := s'
 have e : o' = s.os := ho
 subst e
 exact I.call (g' := g') (t' := t') (d' := d') u hok hg hch
end
noncomputable abbrev XK := Value → Option Addr → Hp → Prop
noncomputable abbrev St := List (Option V)
noncomputable abbrev VK := V → Hp → Prop
noncomputable abbrev TE := St → Hp → VK → Prop
noncomputable abbrev TT := St → Hp → (Bool → Hp → Prop) → Prop
noncomputable abbrev TA := St → Hp → (List V → Hp → Prop) → Prop
structure Ends where
 nx : St → Hp → Prop
 rt : VK
 bk : St → Hp → Prop := fun _ _ => False
 ct : St → Hp → Prop := fun _ _ => False
noncomputable abbrev TS := Ends → St → Hp → Prop
noncomputable def EP (X : Cx) (pins : List (Addr × Obj)) (σ : St) (Q : VK) (u : Value) (s' : Shared) : Prop := ∃ v H', Inv X pins σ H' s' ∧ RelV v u ∧ Q v H'
noncomputable def TP (X : Cx) (pins : List (Addr × Obj)) (σ : St) (Q : Bool → Hp → Prop) (b : Bool) (s' : Shared) : Prop := ∃ H', Inv X pins σ H' s' ∧ Q b H'
noncomputable def AP (X : Cx) (pins : List (Addr × Obj)) (σ : St) (Q : List V → Hp → Prop) (us : List Value) (s' : Shared) : Prop := ∃ vs H', Inv X pins σ H' s' ∧ Vals vs us ∧ Q vs H'
noncomputable def SP (X : Cx) (pins : List (Addr × Obj)) (D : Ends) (f : Flow) (s' : Shared) : Prop :=
 match f with
 | .next => ∃ σ' H', Inv X pins σ' H' s' ∧ D.nx σ' H'
 | .brk => ∃ σ' H', Inv X pins σ' H' s' ∧ D.bk σ' H'
 | .cont => ∃ σ' H', Inv X pins σ' H' s' ∧ D.ct σ' H'
 | .ret u => ∃ v σ' H', Inv X pins σ' H' s' ∧ RelV v u ∧ D.rt v H'
noncomputable def PE (X : Cx) (e : Expr) (t : TE) : Prop :=
 ∀ (pins : List (Addr × Obj)) (s : Shared) (σ : St) (H : Hp) (Q : VK), Inv X pins σ H s → t σ H Q → wpAny (model X.prog X.w) X.A (eval e X.env) (EP X pins σ Q) X.xe s
noncomputable def PT (X : Cx) (e : Expr) (t : TT) : Prop :=
 ∀ (pins : List (Addr × Obj)) (s : Shared) (σ : St) (H : Hp) (Q : Bool → Hp → Prop), Inv X pins σ H s → t σ H Q → wpAny (model X.prog X.w) X.A (isTrue e X.env (eval e X.env)) (TP X pins σ Q) X.xe s
noncomputable def PW (X : Cx) (e : Expr) (t : TT) : Prop :=
 ∀ (whole : Sem Value) (pins : List (Addr × Obj)) (s : Shared) (σ : St) (H : Hp) (Q : Bool → Hp → Prop), Inv X pins σ H s → t σ H Q → wpAny (model X.prog X.w) X.A (isTrue e X.env whole) (TP X pins σ Q) X.xe s
theorem PW.pt {X : Cx} {e : Expr} {t : TT} (h : PW X e t) : PT X e t := h _
noncomputable def PA (X : Cx) (es : List Expr) (t : TA) : Prop :=
 ∀ (pos : Pos) (pins : List (Addr × Obj)) (s : Shared) (σ : St) (H : Hp) (Q : List V → Hp → Prop), Inv X pins σ H s → t σ H Q → wpAny (model X.prog X.w) X.A (spliced (backTo pos (starEach es X.env))) (AP X pins σ Q) X.xe s
noncomputable def PS (X : Cx) (st : Stmt) (t : TS) : Prop :=
 ∀ (pins : List (Addr × Obj)) (s : Shared) (σ : St) (H : Hp) (D : Ends), Inv X pins σ H s → t D σ H → wpAny (model X.prog X.w) X.A (exec st X.env) (SP X pins D) X.xe s
noncomputable def PSs (X : Cx) (st : List Stmt) (t : TS) : Prop :=
 ∀ (pins : List (Addr × Obj)) (s : Shared) (σ : St) (H : Hp) (D : Ends), Inv X pins σ H s → t D σ H → wpAny (model X.prog X.w) X.A (execs st X.env) (SP X pins D) X.xe s
theorem thn {α : Type} {t : Sem α} {Q Q' : α → Shared → Prop} {M : Model} {A : Around} {E : Value → Shared → Prop} {s : Shared} (h : wpAny M A t Q E s) (hQ : ∀ a s, Q a s → Q' a s) : wpAny M A t Q' E s := wpAny_mono h hQ fun _ _ x => x
end L2
namespace L2
open PySem PySem.Spec PyProof.Rows
section
variable {X : Cx}
noncomputable def tVar (i : Nat) : TE := fun σ H Q => ∃ v, σ[i]? = some (some v) ∧ Q v H
noncomputable def tC (v : V) : TE := fun _ H Q => Q v H
theorem pe_var {i : Nat} {x : Str} {pos : Pos} (hN : X.N[i]? = some x) (hv : Vis X.env.scope x) (hd : (x == ("__debug__" : Str)) = false := by decide) (hcd : (x == ("__classdict__" : Str)) = false := by decide) : PE X (.Name x pos) (tVar i) := by
 intro pins s σ H Q I h
 obtain ⟨v, e, h⟩ := h
 obtain ⟨m, hn, hl⟩ := I.loc
 obtain ⟨u, r, l⟩ := hl i x v hN e hv
 have fin : EP X pins σ Q u s := ⟨v, H, I, r, h⟩
 rcases l with ⟨hk, hm⟩ | ⟨hk, c, hc, hcell⟩
 ·exact wpAny_Name (wpAny_loadName_local I.ok.kind hk hn hm fin) hd
 ·rcases hk with hk | hk
  ·exact wpAny_Name (wpAny_loadName_cell I.ok.kind hk hc hcell fin) hd
  ·exact wpAny_Name (wpAny_loadName_free I.ok.kind hk hc hcell fin hcd) hd
theorem pe_int {i j pos} : PE X (.Constant (.int i) j pos) (tC (.int i)) := fun _ _ _ H _ I h => wpAny_Constant_int ⟨.int i, H, I.tok _, ⟨_, rfl⟩, h⟩
theorem pe_bl {b j pos} : PE X (.Constant (.bool b) j pos) (tC (.bl b)) := fun _ _ _ H _ I h => Constant_bool ⟨.bl b, H, I, rfl, h⟩
theorem pe_non {j pos} : PE X (.Constant .none j pos) (tC .non) := fun _ _ _ H _ I h => Constant_none ⟨.non, H, I, rfl, h⟩
theorem pe_str {x j pos} : PE X (.Constant (.str x) j pos) (tC (.str x)) := fun _ _ _ H _ I h => Calls.Constant_str ⟨.str x, H, I.tok _, ⟨_, rfl⟩, h⟩
noncomputable def Gl (X : Cx) (x : Str) : Prop := X.env.kindOf x = some .globalImplicit
theorem ld_glob {E : Value → Shared → Prop} {pins : List (Addr × Obj)} {s : Shared} {σ : St} {H : Hp} {x : Str} {u : Value} {pos : Pos} {Q : Value → Shared → Prop} (I : Inv X pins σ H s) (hg : Gl X x) (hm : X.mg x = some u) (h : Q u s)
  (hd : (x == ("__debug__" : Str)) = false := by decide) : wpAny (model X.prog X.w) X.A (eval (.Name x pos) X.env) Q E s :=
 Calls.Name_function_global I.ok.kind hg (Calls.loadGlobal_global (by rw [I.ok.glob]; exact I.mod.glob.keeps I.bk) hm h) hd
theorem ld_blt {E : Value → Shared → Prop} {pins : List (Addr × Obj)} {s : Shared} {σ : St} {H : Hp} {x : Str} {u : Value} {pos : Pos} {Q : Value → Shared → Prop} (I : Inv X pins σ H s) (hg : Gl X x) (hm : X.mg x = none) (hv : bootBuiltins x = some u) (h : Q u s)
  (hn : x ≠ "__name__" := by decide) (hd : (x == ("__debug__" : Str)) = false := by decide) : wpAny (model X.prog X.w) X.A (eval (.Name x pos) X.env) Q E s := by
 obtain ⟨mb, h1, h2⟩ := I.mod.blt
 exact Calls.Name_function_global I.ok.kind hg (Calls.loadGlobal_builtin (by rw [I.ok.glob]; exact I.mod.glob.keeps I.bk) hm (by rw [I.ok.blt]; exact h1.keeps I.bk) ((h2 x hn).trans hv) h) hd
theorem pe_glob {x : Str} {v : V} {u : Value} {pos : Pos} (hg : Gl X x) (hm : X.mg x = some u) (r : RelV v u) (hd : (x == ("__debug__" : Str)) = false := by decide) : PE X (.Name x pos) (tC v) :=
 fun _ _ _ H _ I h => ld_glob I hg hm ⟨v, H, I, r, h⟩ hd
theorem pe_bltn {x : Str} {v : V} {u : Value} {pos : Pos} (hg : Gl X x) (hm : X.mg x = none) (hv : bootBuiltins x = some u) (r : RelV v u) (hn : x ≠ "__name__" := by decide) (hd : (x == ("__debug__" : Str)) = false := by decide) : PE X (.Name x pos) (tC v) :=
 fun _ _ _ H _ I h => ld_blt I hg hm hv ⟨v, H, I, r, h⟩ hn hd
variable {a b : Expr} {ta tb : TE} {pos : Pos}
noncomputable def PC (X : Cx) (op : CmpOp) (a b : Expr) (t : TE) : Prop :=
 ∀ (pins : List (Addr × Obj)) (s : Shared) (σ : St) (H : Hp) (Q : VK), Inv X pins σ H s → t σ H Q →
  wpAny (model X.prog X.w) X.A (eval a X.env) (fun v s₁ => wpAny (model X.prog X.w) X.A (eval b X.env) (fun u s₂ => wpAny (model X.prog X.w) X.A (compareOp op v u) (EP X pins σ Q) X.xe s₂) X.xe s₁) X.xe s
noncomputable def tNotN (ta : TE) : TE := fun σ H Q => ta σ H fun x H1 => Q (.bl (!decide (x = .non))) H1
theorem RelV.none_iff {x : V} {v : Value} (r : RelV x v) : (v == Value.none) = decide (x = .non) := by
 cases x with
 | non => cases r; rfl
 | bl _ => cases r; rfl
 | int _ => obtain ⟨t, rfl⟩ := r; rfl
 | str _ => obtain ⟨t, rfl⟩ := r; rfl
 | byt _ => obtain ⟨t, rfl⟩ := r; rfl
 | flt _ => obtain ⟨t, rfl⟩ := r; rfl
 | ref _ => cases r; rfl
 | ty _ => cases r; rfl
theorem pc_notN {j pos'} (ha : PE X a ta) : PC X .IsNot a (.Constant .none j pos') (tNotN ta) := by
 intro pins s σ H Q I h
 refine thn (ha pins s σ H _ I h) fun v s1 ⟨x, H1, I1, r1, q1⟩ => ?_
 exact Constant_none (isnot_none_gen ⟨.bl _, H1, I1, by rw [r1.none_iff]; rfl, q1⟩)
noncomputable def tB (t : TE) : TT := fun σ H Q => t σ H fun x H1 => ∃ c, x = .bl c ∧ Q c H1
theorem pt_cmp {op : CmpOp} {t : TE} (h : PC X op a b t) (h1 : behindInMarks op b = false := by first | exact nobehind _ (by decide) (by decide) | rfl) : PT X (.Compare a [op] [b] pos) (tB t) := by
 intro pins s σ H Q I hw
 refine wpAny_isTrue_Compare1 (thn (h pins s σ H _ I hw) fun v s1 h1 => thn h1 fun u s2 h2 => thn h2 fun c s3 ⟨x, H1, I1, r1, q1⟩ => ?_) h1
 obtain ⟨d, rfl, q⟩ := q1
 cases r1
 exact wpAny_truthy_bool ⟨H1, I1, q⟩
variable {tA tB' : TT} {rest : List Expr}
noncomputable def tAnd (t u : TT) : TT := fun σ H Q => t σ H fun c H1 => if c = true then u σ H1 Q else Q false H1
noncomputable def tOr (t u : TT) : TT := fun σ H Q => t σ H fun c H1 => if c = true then Q true H1 else u σ H1 Q
noncomputable def tNot (t : TT) : TT := fun σ H Q => t σ H fun c H1 => Q (!c) H1
theorem pw_and1 (ha : PT X a tA) : PW X (.BoolOp .And [a] pos) tA := by
 intro wh pins s σ H Q I h
 refine isTrue_and (thn (ha pins s σ H Q I h) fun c s1 e => ?_)
 cases c with
 | true => exact isTrue_and_nil e
 | false => exact e
theorem pw_or1 (ha : PT X a tA) : PW X (.BoolOp .Or [a] pos) tA := by
 intro wh pins s σ H Q I h
 refine isTrue_or (thn (ha pins s σ H Q I h) fun c s1 e => ?_)
 cases c with
 | false => exact isTrue_or_nil e
 | true => exact e
theorem pw_and (ha : PT X a tA) (hb : PW X (.BoolOp .And (b :: rest) pos) tB') : PW X (.BoolOp .And (a :: b :: rest) pos) (tAnd tA tB') := by
 intro wh pins s σ H Q I h
 refine isTrue_and (thn (ha pins s σ H _ I h) fun c s1 ⟨H1, I1, q1⟩ => ?_)
 cases c with
 | true => exact hb wh pins s1 σ H1 Q I1 q1
 | false => exact ⟨H1, I1, q1⟩
theorem pw_or (ha : PT X a tA) (hb : PW X (.BoolOp .Or (b :: rest) pos) tB') : PW X (.BoolOp .Or (a :: b :: rest) pos) (tOr tA tB') := by
 intro wh pins s σ H Q I h
 refine isTrue_or (thn (ha pins s σ H _ I h) fun c s1 ⟨H1, I1, q1⟩ => ?_)
 cases c with
 | true => exact ⟨H1, I1, q1⟩
 | false => exact hb wh pins s1 σ H1 Q I1 q1
theorem pt_not (ha : PT X a tA) : PT X (.UnaryOp .Not a pos) (tNot tA) := by
 intro pins s σ H Q I h
 exact isTrue_not (ha pins s σ H (fun c H1 => Q (!c) H1) I h)
noncomputable def tAndV (ta tb : TE) : TE := fun σ H Q => ta σ H fun x H1 => ∃ c, x = .bl c ∧ if c = true then tb σ H1 Q else Q (.bl false) H1
noncomputable def tNotV (ta : TE) : TE := fun σ H Q => ta σ H fun x H1 => ∃ c, x = .bl c ∧ Q (.bl (!c)) H1
theorem pe_one {op} {t : TE} (h : PE X a t) : PE X (.BoolOp op [a] pos) t := fun pins s σ H Q I hw => BoolOp_one (h pins s σ H Q I hw)
theorem pe_and (ha : PE X a ta) (hb : PE X (.BoolOp .And (b :: rest) pos) tb) : PE X (.BoolOp .And (a :: b :: rest) pos) (tAndV ta tb) := by
 intro pins s σ H Q I h
 refine BoolOp_and (thn (ha pins s σ H _ I h) fun v s1 ⟨x, H1, I1, r1, q1⟩ => ?_)
 obtain ⟨c, rfl, q1⟩ := q1
 cases r1
 refine wpAny_truthy_bool ?_
 cases c with
 | true => exact hb pins s1 σ H1 Q I1 q1
 | false => exact ⟨.bl false, H1, I1, rfl, q1⟩
theorem pe_not (ha : PE X a ta) : PE X (.UnaryOp .Not a pos) (tNotV ta) := by
 intro pins s σ H Q I h
 refine UnaryOp_ (thn (ha pins s σ H _ I h) fun v s1 ⟨x, H1, I1, r1, q1⟩ => ?_)
 obtain ⟨c, rfl, q1⟩ := q1
 cases r1
 exact not_of (wpAny_truthy_bool ⟨.bl (!c), H1, I1, rfl, q1⟩)
end
end L2
namespace L2
open PySem PySem.Spec PyProof.Rows
noncomputable def SqL (K : PySem.W.Frag) (H : Hp) (a : Addr) (xs : List V) : Prop :=
 Rd H a (.lst xs) ∨
  ∃ (o : Obj) (its : Array Value) (n : Nat), K.lookup a = some o ∧ o.cls = .type "list" ∧ o.dict = none ∧ o.data = .seq its n ∧ its.size ≤ sizeLine ∧ Vals xs its.toList
noncomputable def SqT (K : PySem.W.Frag) (H : Hp) (a : Addr) (xs : List V) : Prop :=
 Rd H a (.tup xs) ∨
  ∃ (o : Obj) (its : Array Value) (n : Nat), K.lookup a = some o ∧ o.cls = .type "tuple" ∧ o.data = .seq its n ∧ its.size ≤ sizeLine ∧ Vals xs its.toList
noncomputable def absV : Value → Option V
 | .none => some .non
 | .bool b => some (.bl b)
 | .int i _ => some (.int i)
 | .str x _ => some (.str x)
 | .bytes b _ => some (.byt b)
 | .float b _ => some (.flt b)
 | .ref a => some (.ref a)
 | .type n => some (.ty n)
 | _ => none
theorem RelV.abs {x : V} {u : Value} (r : RelV x u) : absV u = some x := by
 cases x with
 | non => cases r; rfl
 | bl _ => cases r; rfl
 | int _ => obtain ⟨t, rfl⟩ := r; rfl
 | str _ => obtain ⟨t, rfl⟩ := r; rfl
 | byt _ => obtain ⟨t, rfl⟩ := r; rfl
 | flt _ => obtain ⟨t, rfl⟩ := r; rfl
 | ref _ => cases r; rfl
 | ty _ => cases r; rfl
theorem RelV.inj {x y : V} {u : Value} (r : RelV x u) (q : RelV y u) : x = y := Option.some.inj (r.abs.symm.trans q.abs)
theorem Vals.inj : ∀ {xs ys : List V} {us : List Value}, Vals xs us → Vals ys us → xs = ys
 | _, _, _, .nil, .nil => rfl
 | _, _, _, .cons r t, .cons r' t' => by rw [r.inj r', Vals.inj t t']
section
variable {X : Cx} {pins : List (Addr × Obj)} {σ : St} {H : Hp} {s : Shared} {a : Addr} {xs ys : List V}
theorem SqL.of {K : PySem.W.Frag} (h : H a = some (.lst xs)) : SqL K H a xs := .inl (.inl h)
theorem SqT.of {K : PySem.W.Frag} (h : H a = some (.tup xs)) : SqT K H a xs := .inl (.inl h)
theorem Inv.list (I : Inv X pins σ H s) (h : SqL X.K H a xs) : ∃ its : List Value, Vals xs its ∧ PlainL s.heap a its.toArray ∧ xs.length ≤ sizeLine := by
 rcases h with h | ⟨o, its, n, hk, hc, hd, hs, hz, r⟩
 ·obtain ⟨z, its, n, r, e⟩ := h.ok I.hok
  exact ⟨its, r, ⟨_, n, e, rfl, rfl, rfl⟩, z⟩
 ·refine ⟨its.toList, r, ⟨o, n, I.kIn a o hk, hc, hd, by simpa using hs⟩, ?_⟩
  have e := r.length
  simp only [Array.length_toList] at e
  omega
theorem Inv.tuple (I : Inv X pins σ H s) (h : SqT X.K H a xs) : ∃ its : List Value, Vals xs its ∧ IsTup s.heap a its.toArray ∧ xs.length ≤ sizeLine := by
 rcases h with h | ⟨o, its, n, hk, hc, hs, hz, r⟩
 ·obtain ⟨z, its, r, p⟩ := h.ok I.hok
  exact ⟨its, r, p, z⟩
 ·refine ⟨its.toList, r, ⟨o, I.kIn a o hk, hc, n, by simpa using hs⟩, ?_⟩
  have e := r.length
  simp only [Array.length_toList] at e
  omega
theorem Inv.list_inj (I : Inv X pins σ H s) (h : SqL X.K H a xs) (h' : SqL X.K H a ys) : xs = ys := by
 obtain ⟨its, r, ⟨o, n, e, _, _, d⟩, _⟩ := I.list h
 obtain ⟨its', r', ⟨o', n', e', _, _, d'⟩, _⟩ := I.list h'
 rw [e] at e'; cases e'
 rw [d] at d'
 injection d' with d1 _
 have : its = its' := by simpa using congrArg Array.toList d1
 subst this
 exact r.inj r'
theorem Inv.tuple_inj (I : Inv X pins σ H s) (h : SqT X.K H a xs) (h' : SqT X.K H a ys) : xs = ys := by
 obtain ⟨its, r, ⟨o, e, _, n, d⟩, _⟩ := I.tuple h
 obtain ⟨its', r', ⟨o', e', _, n', d'⟩, _⟩ := I.tuple h'
 rw [e] at e'; cases e'
 rw [d] at d'
 injection d' with d1 _
 have : its = its' := by simpa using congrArg Array.toList d1
 subst this
 exact r.inj r'
end
noncomputable abbrev Cx.wish (X : Cx) (E : Value → Shared → Prop) : Cx := { X with xe := E }
noncomputable abbrev Cx.nox (X : Cx) : Cx := X.wish fun _ _ => False
theorem Cx.Ok.wish {X : Cx} (ok : X.Ok) (E : Value → Shared → Prop) : (X.wish E).Ok :=
 ⟨ok.mod, ok.kind, ok.glob, ok.blt, ok.above, ok.inj, ok.has, ok.cab, ok.hd, ok.frames, ok.stk, ok.exf, ok.bs, ok.bsz, ok.noex, ok.exfs, ok.funs, ok.frf⟩
theorem Cx.Ok.unwish {X : Cx} {E : Value → Shared → Prop} (ok : (X.wish E).Ok) : X.Ok :=
 ⟨ok.mod, ok.kind, ok.glob, ok.blt, ok.above, ok.inj, ok.has, ok.cab, ok.hd, ok.frames, ok.stk, ok.exf, ok.bs, ok.bsz, ok.noex, ok.exfs, ok.funs, ok.frf⟩
section
variable {X : Cx} {pins : List (Addr × Obj)} {σ : St} {H : Hp} {s : Shared} {E : Value → Shared → Prop}
theorem Inv.wish (I : Inv X pins σ H s) (E : Value → Shared → Prop) : Inv (X.wish E) pins σ H s := ⟨I.ok.wish E, I.os, I.bare, I.base, I.loc, I.cell, I.free, I.freeC, I.pin, I.hok, I.len⟩
theorem Inv.unwish (I : Inv (X.wish E) pins σ H s) : Inv X pins σ H s := ⟨I.ok.unwish, I.os, I.bare, I.base, I.loc, I.cell, I.free, I.freeC, I.pin, I.hok, I.len⟩
theorem SP.unwish {D : Ends} {f : Flow} {s' : Shared} (h : SP (X.wish E) pins D f s') : SP X pins D f s' := by
 cases f with
 | next => obtain ⟨σ', H', I, q⟩ := h; exact ⟨σ', H', I.unwish, q⟩
 | brk => obtain ⟨σ', H', I, q⟩ := h; exact ⟨σ', H', I.unwish, q⟩
 | cont => obtain ⟨σ', H', I, q⟩ := h; exact ⟨σ', H', I.unwish, q⟩
 | ret u => obtain ⟨v, σ', H', I, r, q⟩ := h; exact ⟨v, σ', H', I.unwish, r, q⟩
theorem PSs.nox {st : List Stmt} {t : TS} (h : PSs X.nox st t) : PSs X st t := fun pins s σ H D I hw =>
 wpAny_mono (h pins s σ H D (I.wish _) hw) (fun _ _ q => q.unwish) fun _ _ z => False.elim z
end
section
variable {X : Cx} {st : Stmt} {rest : List Stmt} {t u : TS} {e : Expr} {te : TE} {pos : Pos}
noncomputable def tNext : TS := fun D σ H => D.nx σ H
noncomputable def tSeq (t u : TS) : TS := fun D σ H => t { D with nx := u D } σ H
theorem pss_nil : PSs X [] tNext := fun _ _ σ H _ I h => wpAny_execs_nil ⟨σ, H, I, h⟩
theorem pss_cons (h1 : PS X st t) (h2 : PSs X rest u) : PSs X (st :: rest) (tSeq t u) := by
 intro pins s σ H D I h
 refine wpAny_execs_cons (thn (h1 pins s σ H { D with nx := u D } I h) fun f s1 q => ?_)
 cases f with
 | next =>
  obtain ⟨σ', H', I', q⟩ := q
  exact h2 pins s1 σ' H' D I' q
 | ret v => exact q
 | brk => exact q
 | cont => exact q
theorem pss_one (h1 : PS X st t) : PSs X [st] t := by
 intro pins s σ H D I h
 refine wpAny_execs_cons (thn (h1 pins s σ H D I h) fun f s1 q => ?_)
 cases f with
 | next => exact wpAny_execs_nil q
 | ret v => exact q
 | brk => exact q
 | cont => exact q
theorem Inv.quiet {pins : List (Addr × Obj)} {σ : St} {H : Hp} {s : Shared} (I : Inv X pins σ H s) : interactive X.env = false := by simp [interactive, I.ok.kind]
noncomputable def tDrop (te : TE) : TS := fun D σ H => te σ H fun _ H1 => D.nx σ H1
theorem ps_expr (he : PE X e te) (hs : swapsWith e none pos.line X.env = pure false := by rfl) : PS X (.Expr e pos) (tDrop te) := by
 intro pins s σ H D I h
 exact wpAny_Expr_any (thn (he pins s σ H _ I h) fun v s1 ⟨x, H1, I1, r1, q1⟩ => ⟨σ, H1, I1, q1⟩) I.quiet hs
noncomputable def tRet (te : TE) : TS := fun D σ H => te σ H D.rt
theorem ps_ret (he : PE X e te) : PS X (.Return (some e) pos) (tRet te) := by
 intro pins s σ H D I h
 exact wpAny_Return_some (thn (he pins s σ H _ I h) fun v s1 ⟨x, H1, I1, r1, q1⟩ => ⟨x, σ, H1, I1, r1, q1⟩)
noncomputable def tIfS (c : TT) (t u : TS) : TS := fun D σ H => c σ H fun b H1 => if b = true then t D σ H1 else u D σ H1
theorem ps_if {c : Expr} {a b : List Stmt} {tc : TT} (hc : PT X c tc) (ha : PSs X a t) (hb : PSs X b u) : PS X (.If c a b pos) (tIfS tc t u) := by
 intro pins s σ H D I h
 refine wpAny_If (thn (hc pins s σ H _ I h) fun d s1 ⟨H1, I1, q1⟩ => ?_)
 cases d with
 | true => exact ha pins s1 σ H1 D I1 q1
 | false => exact hb pins s1 σ H1 D I1 q1
noncomputable def tNever : TS := fun _ _ _ => False
theorem ps_never : PS X st tNever := fun _ _ _ _ _ _ h => h.elim
end
noncomputable abbrev TG := V → St → Hp → (St → Hp → Prop) → Prop
noncomputable abbrev TGs := List V → St → Hp → (St → Hp → Prop) → Prop
noncomputable def PG (X : Cx) (target : Expr) (t : TG) : Prop :=
 ∀ (pins : List (Addr × Obj)) (s : Shared) (σ : St) (H : Hp) (v : V) (u : Value) (Q : St → Hp → Prop), Inv X pins σ H s → RelV v u → t v σ H Q →
  wpAny (model X.prog X.w) X.A (assign target X.env u) (fun _ s' => ∃ σ' H', Inv X pins σ' H' s' ∧ Q σ' H') X.xe s
noncomputable def PGs (X : Cx) (ts : List Expr) (t : TGs) : Prop :=
 ∀ (pins : List (Addr × Obj)) (s : Shared) (σ : St) (H : Hp) (vs : List V) (us : List Value) (Q : St → Hp → Prop), Inv X pins σ H s → Vals vs us → t vs σ H Q →
  wpAny (model X.prog X.w) X.A (assignInOrder ((assignEach ts X.env).map (·.2)) us) (fun _ s' => ∃ σ' H', Inv X pins σ' H' s' ∧ Q σ' H') X.xe s
section
variable {X : Cx} {pos : Pos}
noncomputable def gName (i : Nat) : TG := fun v σ H Q => Q (σ.set i (some v)) H
theorem pg_name {i : Nat} {x : Str} (hN : X.N.Nodup) (hi : X.N[i]? = some x) (hx : Loc X.env.scope x) (hf : X.fn x = true ∨ X.env.scope.names.lookup x = some .local := by first | exact .inl rfl | exact .inr rfl | assumption) : PG X (.Name x pos) (gName i) := by
 intro pins s σ H v u Q I r h
 exact wpAny_assign_Name (store_ok I hN hi hx r (fun s' I' => ⟨_, H, I', h⟩) hf)
noncomputable def gNil : TGs := fun vs σ H Q => vs = [] ∧ Q σ H
noncomputable def gCons (t : TG) (u : TGs) : TGs := fun vs σ H Q => ∃ v r, vs = v :: r ∧ t v σ H fun σ' H' => u r σ' H' Q
theorem pgs_nil : PGs X [] gNil := by
 intro pins s σ H vs us Q I r h
 obtain ⟨e, h⟩ := h
 subst e
 cases r
 exact assignInOrder_nil ⟨σ, H, I, h⟩
theorem pgs_cons {e : Expr} {es : List Expr} {t : TG} {u : TGs} (h1 : PG X e t) (h2 : PGs X es u)
  (hs : (assignEach (e :: es) X.env).map (·.2) = assign e X.env :: (assignEach es X.env).map (·.2) := by rfl) : PGs X (e :: es) (gCons t u) := by
 intro pins s σ H vs us Q I r h
 obtain ⟨v, vr, e1, h⟩ := h
 subst e1
 cases r with
 | cons r rr =>
  rw [hs]
  refine assignInOrder_cons (thn (h1 pins s σ H _ _ _ I r h) fun _ s1 ⟨σ1, H1, I1, q1⟩ => ?_)
  exact h2 pins s1 σ1 H1 _ _ Q I1 rr q1
noncomputable def gTup (K : PySem.W.Frag) (n : Nat) (t : TGs) : TG := fun v σ H Q => ∃ a xs, v = .ref a ∧ SqT K H a xs ∧ xs.length = n ∧ t xs σ H Q
theorem pg_tup {es : List Expr} {k : Nat} {t : TGs} {n : Nat} (hc : X.calm = true) (h : PGs X es t)
  (hn : (assignEach es X.env).length = n := by rfl) (hst : (assignEach es X.env).findIdx? (·.1) = none := by rfl) : PG X (.Tuple es k pos) (gTup X.K n t) := by
 intro pins s σ H v u Q I r hw
 obtain ⟨a, xs, e1, hq, hl, hw⟩ := hw
 subst e1
 cases r
 obtain ⟨its, rv, ht, hz⟩ := I.tuple hq
 refine assign_Tuple_tuple (I.ok.hd hc) ht (by simp [hn, ← hl, rv.length]) hst fun h' hx => ?_
 have I1 : Inv X pins σ H { s with heap := h' } := I.kept (t' := s.toks) fun b o e => hx b o (Nat.ne_of_lt (Heap.lt_size e)) e
 exact h pins _ σ H xs _ Q I1 (by simpa using rv) hw
noncomputable def tAsg (te : TE) (g : TG) : TS := fun D σ H => te σ H fun x H1 => g x σ H1 D.nx
theorem ps_asg {tg e : Expr} {te : TE} {g : TG} (he : PE X e te) (hg : PG X tg g) (hs : swapsWithSole [tg] e pos.line X.env = pure false := by rfl) (hw : swappedStores [tg] e X.env = pure none := by rfl)
  (h1 : (assignEach [tg] X.env).map (·.2) = [assign tg X.env] := by rfl) : PS X (.Assign [tg] e pos) (tAsg te g) := by
 intro pins s σ H D I h
 refine wpAny_Assign_stores (thn (he pins s σ H _ I h) fun v s1 ⟨x, H1, I1, r1, q1⟩ => ?_) hs hw
 rw [h1]
 exact thn (hg pins s1 σ H1 x v _ I1 r1 q1) fun _ s2 q => q
theorem ps_set {i : Nat} {x : Str} {e : Expr} {te : TE} {pos' : Pos} (hN : X.N.Nodup) (hi : X.N[i]? = some x) (hx : Loc X.env.scope x) (he : PE X e te) (hs : swapsWith e (some (.Name x pos')) pos.line X.env = pure false := by rfl) (hf : X.fn x = true ∨ X.env.scope.names.lookup x = some .local := by first | exact .inl rfl | exact .inr rfl | assumption) :
  PS X (.Assign [.Name x pos'] e pos) (tAsg te (gName i)) := by
 intro pins s σ H D I h
 refine wpAny_Assign_Name (thn (he pins s σ H _ I h) fun v s1 ⟨y, H1, I1, r1, q1⟩ => ?_) hs
 exact store_ok I1 hN hi hx r1 (fun s2 I2 => ⟨_, H1, I2, q1⟩) hf
noncomputable def tPar (i j : Nat) (ta : TA) : TS := fun D σ H => ta σ H fun vs H1 => ∃ v w, vs = [v, w] ∧ D.nx ((σ.set i (some v)).set j (some w)) H1
theorem ps_par {i j : Nat} {x y : Str} {a b : Expr} {ta : TA} {px py pt : Pos} {kt k2 pt2} (hc : X.calm = true) (hN : X.N.Nodup) (hi : X.N[i]? = some x) (hj : X.N[j]? = some y) (hij : i ≠ j)
  (hx : X.env.scope.names.lookup x = some .local) (hy : X.env.scope.names.lookup y = some .local) (ha : PA X [a, b] ta)
  (hw : swappedStores [.Tuple [.Name x px, .Name y py] kt pt] (.Tuple [a, b] k2 pt2) X.env = pure (some [x, y]))
  (hs : swapsWithSole [.Tuple [.Name x px, .Name y py] kt pt] (.Tuple [a, b] k2 pt2) pos.line X.env = pure false := by rfl) :
  PS X (.Assign [.Tuple [.Name x px, .Name y py] kt pt] (.Tuple [a, b] k2 pt2) pos) (tPar i j ta) := by
 intro pins s σ H D I h
 rw [exec_Assign_arm]
 refine wpAny_bind (wpAny_standAt ?_)
 rw [hs]
 refine wpAny_bind (wpAny_pure ?_)
 rw [if_neg (by decide)]
 refine wpAny_bind (Tuple_ (thn (ha _ pins s σ H _ I h) fun us s1 ⟨vs, H1, I1, r1, q1⟩ => ?_))
 obtain ⟨v, w, e1, q1⟩ := q1
 subst e1
 obtain ⟨u1, u2, rfl, rv, rw'⟩ : ∃ u1 u2, us = [u1, u2] ∧ RelV v u1 ∧ RelV w u2 := by
  cases r1 with
  | cons p q =>
   cases q with
   | cons p' q' =>
    cases q'
    exact ⟨_, _, rfl, p, p'⟩
 refine wpAny_newObj_type ?_ (by show 2 ≤ sizeLine; decide)
 have I2 : Inv X pins σ H1 { s1 with heap := s1.heap.push { cls := .type "tuple", data := .seq [u1, u2].toArray } } := I1.kept (t' := s1.toks) fun b o e => Heap.get?_push_of_some _ e
 rw [hw]
 refine wpAny_bind (wpAny_pure ?_)
 show wpAny (model X.prog X.w) X.A (do rule "assign.swapped-stores"; let items ← unpackItems (.ref s1.heap.objs.size) 2 none; assignInOrder [fun v => bindName X.env y v, fun v => bindName X.env x v] items.reverse; pure Flow.next) _ _ _
 refine wpAny_bind (wpAny_rule (wpAny_bind (unpackItems_tuple (items := #[u1, u2]) (I.ok.hd hc) (IsTup.new s1.heap _) fun h' hx' => ?_)))
 have I3 := I2.kept (h' := h') (t' := s1.toks) fun b o e => hx' b o (Nat.ne_of_lt (Heap.lt_size e)) e
 show wpAny _ _ (assignInOrder [fun v => bindName X.env y v, fun v => bindName X.env x v] [u2, u1] >>= fun _ => pure Flow.next) _ _ _
 refine wpAny_bind (assignInOrder_cons (wpAny_bindName (store_ok I3 hN hj (.inl hy) rw' (fun s2 I4 => ?_) (.inr hy))))
 refine assignInOrder_cons (wpAny_bindName (store_ok I4 hN hi (.inl hx) rv (fun s3 I5 => assignInOrder_nil (wpAny_pure ?_)) (.inr hx)))
 rw [List.set_comm _ _ (Ne.symm hij)] at I5
 exact ⟨_, H1, I5, q1⟩
end
section
variable {X : Cx} {pos : Pos}
noncomputable def tWhile (c : TT) (tb : TS) : TS := fun D σ H => ∃ W : Nat → St → Hp → Prop, (∃ m, W m σ H) ∧ ∀ m σ H, W m σ H →
 c σ H fun b H1 => if b = true then ∃ N : St → Hp → Prop, (∀ σ' H', N σ' H' → ∃ m', m' < m ∧ W m' σ' H') ∧ tb { D with nx := N, ct := N, bk := D.nx } σ H1 else D.nx σ H1
theorem ps_while {c : Expr} {body : List Stmt} {tc : TT} {tb : TS} (hp : PassesOwn (model X.prog X.w) X.A X.env X.xe) (hc : PT X c tc) (hb : PSs X body tb) : PS X (.While c body [] pos) (tWhile tc tb) := by
 intro pins s σ H D I h
 obtain ⟨W, ⟨m0, w0⟩, turn⟩ := h
 refine wpAny_While (codeAny_whileLoop (fun n s' => ∃ σ' H', Inv X pins σ' H' s' ∧ W n σ' H') ?_ m0 ⟨σ, H, I, w0⟩)
 rintro n s1 ⟨σ1, H1, I1, w1⟩
 refine wpAny_passesOwn hp (thn (hc pins s1 σ1 H1 _ I1 (turn n σ1 H1 w1)) fun b s2 ⟨H2, I2, q2⟩ => ?_)
 cases b with
 | true =>
  obtain ⟨N, hN, q2⟩ := q2
  rw [if_pos rfl]
  refine wpAny_passesOwn hp (thn (hb pins s2 σ1 H2 _ I2 q2) fun f s3 q3 => ?_)
  cases f with
  | next =>
   obtain ⟨σ3, H3, I3, n3⟩ := q3
   obtain ⟨m', hm, w3⟩ := hN σ3 H3 n3
   exact ⟨m', hm, σ3, H3, I3, w3⟩
  | cont =>
   obtain ⟨σ3, H3, I3, n3⟩ := q3
   obtain ⟨m', hm, w3⟩ := hN σ3 H3 n3
   exact ⟨m', hm, σ3, H3, I3, w3⟩
  | brk => exact q3
  | ret v => exact q3
 | false =>
  rw [if_neg Bool.false_ne_true]
  exact wpAny_execs_nil ⟨σ1, H2, I2, q2⟩
end
structure It where
 go : Nat → Hp → Prop
 yld : Nat → Hp → V → Hp → Prop
 stop : Nat → Hp → Prop
noncomputable def FpOk (X : Cx) (pins : List (Addr × Obj)) (H : Hp) (b : Addr) : Prop :=
 H b = none ∧ b ≠ X.env.locals ∧ b ∉ X.fs ∧ (b ∈ X.ex ∨ X.s₀.heap.objs.size ≤ b) ∧ (∀ x c, X.env.cells.lookup x = some c → c ≠ b) ∧ ∀ p ∈ X.pn ++ pins, p.1 ≠ b
theorem Inv.fpOk {X : Cx} {pins : List (Addr × Obj)} {σ : St} {H H' : Hp} {s : Shared} {b : Addr} (I : Inv X pins σ H s) (hb : s.heap.objs.size ≤ b) (hn : H' b = none) : FpOk X pins H' b := by
 refine ⟨hn, Nat.ne_of_gt (Nat.lt_of_lt_of_le I.lt hb), I.nofs hb, .inr (Nat.le_trans I.sz hb), fun x c e z => ?_, fun p hp z => ?_⟩
 ·obtain ⟨v, q⟩ := I.cell x c e
  exact absurd (Nat.lt_of_lt_of_le q.lt (by rw [z]; exact hb)) (Nat.lt_irrefl _)
 ·exact absurd (Nat.lt_of_lt_of_le (Heap.lt_size (I.pin p hp).1) (by rw [z]; exact hb)) (Nat.lt_irrefl _)
structure Turn (P : Program) (w : World) (K : PySem.W.Frag) (tg : Expr) (J : It) (fp : List Addr) (it : Addr) (tn : Nat → Heap → Prop) : Prop where
 mem : it ∈ fp
 obj : ∀ i h, tn i h → ∀ b ∈ fp, ∃ o, h.get? b = some o ∧ ∀ v, o.data ≠ .cell v
 keep : ∀ i h h', tn i h → (∀ b ∈ fp, ∀ o, h.get? b = some o → h'.get? b = some o) → tn i h'
 item : ∀ (X : Cx), X.prog = P → X.w = w → X.K = K → X.calm = true → ∀ (i : Nat) (pins : List (Addr × Obj)) (s : Shared) (σ : St) (H : Hp) (E : Value → Shared → Prop), Inv X pins σ H s → (∀ b ∈ fp, FpOk X pins H b) → tn i s.heap → J.go i H →
  wpAny (model P w) X.A (pyNext (.ref it)) (fun r s1 => ∃ u, r = some u ∧
   wpAny (model P w) X.A (letOwnedTupleGo tg (.ref it) u) (fun _ s2 => ∃ x H', Inv X pins σ H' s2 ∧ RelV x u ∧ J.yld i H x H' ∧ tn (i + 1) s2.heap ∧ ∀ b ∈ fp, H' b = none) E s1) E s
 done : ∀ (X : Cx), X.prog = P → X.w = w → X.K = K → X.calm = true → ∀ (i : Nat) (pins : List (Addr × Obj)) (s : Shared) (σ : St) (H : Hp) (E : Value → Shared → Prop), Inv X pins σ H s → (∀ b ∈ fp, FpOk X pins H b) → tn i s.heap → J.stop i H →
  wpAny (model P w) X.A (pyNext (.ref it)) (fun r s1 => r = none ∧ Inv X pins σ H s1) E s
 self : ∀ (A : Around) (i : Nat) (s : Shared) (Q : Value → Shared → Prop) (E : Value → Shared → Prop), tn i s.heap → Q (.ref it) s → wpAny (model P w) A (pyIter (.ref it)) Q E s
noncomputable abbrev TI := St → Hp → (It → Hp → Prop) → Prop
noncomputable def PIE (X : Cx) (pins : List (Addr × Obj)) (σ : St) (tg : Expr) (R : It → Hp → Prop) (itv : Value) (s2 : Shared) : Prop :=
 ∃ (it : Addr) (fp : List Addr) (tn : Nat → Heap → Prop) (J : It) (H' : Hp), itv = .ref it ∧ Inv X pins σ H' s2 ∧ Turn X.prog X.w X.K tg J fp it tn ∧ tn 0 s2.heap ∧ (∀ b ∈ fp, FpOk X pins H' b) ∧ R J H'
noncomputable def PI (X : Cx) (tg iter : Expr) (wi : TI) : Prop :=
 ∀ (pins : List (Addr × Obj)) (s : Shared) (σ : St) (H : Hp) (R : It → Hp → Prop), Inv X pins σ H s → wi σ H R →
  wpAny (model X.prog X.w) X.A (eval iter X.env) (fun v s1 => wpAny (model X.prog X.w) X.A (pyIter v) (PIE X pins σ tg R) X.xe s1) X.xe s
theorem go_of {M : Model} {A : Around} {E : Value → Shared → Prop} {s : Shared} {tg : Expr} {it : Addr} {u : Value} {o : Obj} {n : String} {vs : Array Value} {Q : Unit → Shared → Prop} (ho : s.heap.get? it = some o) (hc : o.cls = .type n) (hd : o.data = .fields vs)
  (hn : ["enumerate", "zip", "dict_itemiterator", "dict_reverseitemiterator", "odict_iterator", "itertools.zip_longest", "itertools.pairwise"].contains n = false) (hQ : Q () s) : wpAny M A (letOwnedTupleGo tg (.ref it) u) Q E s := by
 unfold letOwnedTupleGo
 cases tg <;> first
  | exact wpAny_pure hQ
  | (cases u <;> first
    | exact wpAny_pure hQ
    | (refine wpAny_bind (wpAny_load ho ?_); rw [hc, hd]; show wpAny M A (if (["enumerate", "zip", "dict_itemiterator", "dict_reverseitemiterator", "odict_iterator", "itertools.zip_longest", "itertools.pairwise"].contains n && vs[0]? == some (rawInt _)) = true then _ else _) Q E s; rw [if_neg (by intro h; rw [hn, Bool.false_and] at h; cases h)]; exact wpAny_pure hQ))
noncomputable def Itl (K : PySem.W.Frag) (a : Addr) : It :=
 ⟨fun i H => ∃ xs x, SqL K H a xs ∧ xs[i]? = some x, fun i H x H' => H' = H ∧ ∀ xs, SqL K H a xs → xs[i]? = some x, fun i H => ∃ xs, SqL K H a xs ∧ xs.length ≤ i⟩
noncomputable def Itt (K : PySem.W.Frag) (a : Addr) : It :=
 ⟨fun i H => ∃ xs x, SqT K H a xs ∧ xs[i]? = some x, fun i H x H' => H' = H ∧ ∀ xs, SqT K H a xs → xs[i]? = some x, fun i H => ∃ xs, SqT K H a xs ∧ xs.length ≤ i⟩
noncomputable def Itr (lo : Int) (n : Nat) : It := ⟨fun i _ => i < n, fun i H x H' => H' = H ∧ x = .int (lo + i), fun i _ => n ≤ i⟩
theorem turn_list {P : Program} {w : World} {K : PySem.W.Frag} {tg : Expr} (a it : Addr) : Turn P w K tg (Itl K a) [it] it (fun i h => h.IsListIter it a i) where
 mem := by simp
 obj := fun i h st b hb => by
  have e : b = it := by simpa using hb
  subst e
  obtain ⟨o, e, c, d⟩ := st
  exact ⟨o, e, fun v z => by rw [d] at z; cases z⟩
 keep := fun i h h' st k => st.at fun o e => k it (by simp) o e
 item := by
  intro X hP hw hK hc i pins s σ H E I hf st hg
  subst hP hw hK
  obtain ⟨xs, x, hq, hx⟩ := hg
  obtain ⟨its, rv, p, hz⟩ := I.list hq
  obtain ⟨u, hu, ru⟩ := rv.get hx
  obtain ⟨f0, f1, f2, f3, f4, f5⟩ := hf it (by simp)
  refine wpAny_pyNext_list_item st p.isList (x := u) (by simpa using hu) fun h' st' sb => ?_
  have I1 : Inv X pins σ H { s with heap := h' } := I.turned (t' := s.toks) (fun b o hb e => (sb.2 b hb).trans e) f0 f1 f3 f4 f5
  obtain ⟨o, e, c, d⟩ := id st'
  exact ⟨u, rfl, go_of (s := { s with heap := h' }) e c d (by decide) ⟨x, H, I1, ru, ⟨rfl, fun ys hy => by rw [I.list_inj hy hq]; exact hx⟩, st', fun b hb => (hf b hb).1⟩⟩
 done := by
  intro X hP hw hK hc i pins s σ H E I hf st hg
  subst hP hw hK
  obtain ⟨xs, hq, hx⟩ := hg
  obtain ⟨its, rv, p, hz⟩ := I.list hq
  obtain ⟨f0, f1, f2, f3, f4, f5⟩ := hf it (by simp)
  have hl := rv.length
  exact wpAny_pyNext_list_end (I.ok.hd hc) st p.isList (by simp; omega) fun h' eb => ⟨rfl, I.turned (t' := s.toks) (fun b o hb e => eb b o hb e) f0 f1 f3 f4 f5⟩
 self := fun _ _ _ _ _ st h => wpAny_pyIter_listiter st h
theorem turn_tuple {P : Program} {w : World} {K : PySem.W.Frag} {tg : Expr} (a it : Addr) : Turn P w K tg (Itt K a) [it] it (fun i h => h.IsTupleIter it a i) where
 mem := by simp
 obj := fun i h st b hb => by
  have e : b = it := by simpa using hb
  subst e
  obtain ⟨o, e, c, d⟩ := st
  exact ⟨o, e, fun v z => by rw [d] at z; cases z⟩
 keep := fun i h h' st k => st.at fun o e => k it (by simp) o e
 item := by
  intro X hP hw hK hc i pins s σ H E I hf st hg
  subst hP hw hK
  obtain ⟨xs, x, hq, hx⟩ := hg
  obtain ⟨its, rv, p, hz⟩ := I.tuple hq
  obtain ⟨u, hu, ru⟩ := rv.get hx
  obtain ⟨f0, f1, f2, f3, f4, f5⟩ := hf it (by simp)
  refine wpAny_pyNext_tuple_item st (show s.heap.IsTuple a its.toArray from p) (x := u) (by simpa using hu) fun h' st' sb => ?_
  have I1 : Inv X pins σ H { s with heap := h' } := I.turned (t' := s.toks) (fun b o hb e => (sb.2 b hb).trans e) f0 f1 f3 f4 f5
  obtain ⟨o, e, c, d⟩ := id st'
  exact ⟨u, rfl, go_of (s := { s with heap := h' }) e c d (by decide) ⟨x, H, I1, ru, ⟨rfl, fun ys hy => by rw [I.tuple_inj hy hq]; exact hx⟩, st', fun b hb => (hf b hb).1⟩⟩
 done := by
  intro X hP hw hK hc i pins s σ H E I hf st hg
  subst hP hw hK
  obtain ⟨xs, hq, hx⟩ := hg
  obtain ⟨its, rv, p, hz⟩ := I.tuple hq
  obtain ⟨f0, f1, f2, f3, f4, f5⟩ := hf it (by simp)
  have hl := rv.length
  exact wpAny_pyNext_tuple_end (I.ok.hd hc) st (show s.heap.IsTuple a its.toArray from p) (by simp; omega) fun h' eb => ⟨rfl, I.turned (t' := s.toks) (fun b o hb e => eb b o hb e) f0 f1 f3 f4 f5⟩
 self := fun _ _ _ _ _ st h => wpAny_pyIter_tupleiter st h
theorem turn_range {P : Program} {w : World} {K : PySem.W.Frag} {tg : Expr} (it : Addr) (lo : Int) (n : Nat) : Turn P w K tg (Itr lo n) [it] it (fun i h => IsRangeIter h it (lo + (i : Nat) * 1) ((n : Int) - (i : Nat)) 1) where
 mem := by simp
 obj := fun i h st b hb => by
  have e : b = it := by simpa using hb
  subst e
  exact ⟨_, st, fun v z => by
   have z' : Data.fields _ = Data.cell v := z
   cases z'⟩
 keep := fun i h h' st k => k it (by simp) _ st
 item := by
  intro X hP hw hK hc i pins s σ H E I hf st hg
  subst hP hw hK
  obtain ⟨f0, f1, f2, f3, f4, f5⟩ := hf it (by simp)
  have W := Walks.range (prog := X.prog) (w := X.w) (I.ok.hd hc) it lo 1 n
  refine W.item i s _ _ hg st fun v h' tk hv st' kk => ?_
  obtain ⟨t, rfl⟩ := hv
  have I1 : Inv X pins σ H { s with heap := h', toks := tk } := I.turned (fun b o hb e => kk b o (by simpa using hb) e) f0 f1 f3 f4 f5
  refine ⟨_, rfl, go_of (s := { s with heap := h', toks := tk }) (n := "range_iterator") st' rfl rfl (by decide) ⟨.int (lo + i), H, I1, ⟨t, ?_⟩, ⟨rfl, rfl⟩, st', fun b hb => (hf b hb).1⟩⟩
  rw [Int.mul_one]
 done := by
  intro X hP hw hK hc i pins s σ H E I hf st hg
  subst hP hw hK
  obtain ⟨f0, f1, f2, f3, f4, f5⟩ := hf it (by simp)
  exact wpAny_pyNext_range_end (I.ok.hd hc) st (by have : n ≤ i := hg; omega) fun h' eb => ⟨rfl, I.turned (t' := s.toks) (fun b o hb e => eb b o hb e) f0 f1 f3 f4 f5⟩
 self := fun _ _ _ _ _ st h => wpAny_pyIter_rangeiter st h
end L2
namespace L2
open PySem PySem.Spec PyProof.Rows
section
variable {X : Cx} {tg : Expr}
noncomputable def iList (K : PySem.W.Frag) (tl : TE) : TI := fun σ H R => tl σ H fun x H1 => ∃ a, x = .ref a ∧ (∃ xs, SqL K H1 a xs) ∧ R (Itl K a) H1
noncomputable def iTup (K : PySem.W.Frag) (tl : TE) : TI := fun σ H R => tl σ H fun x H1 => ∃ a, x = .ref a ∧ (∃ xs, SqT K H1 a xs) ∧ R (Itt K a) H1
theorem pi_list {l : Expr} {tl : TE} (hl : PE X l tl) : PI X tg l (iList X.K tl) := by
 intro pins s σ H R I h
 refine thn (hl pins s σ H _ I h) fun v s1 ⟨x, H1, I1, r1, q1⟩ => ?_
 obtain ⟨a, e, ⟨xs, hq⟩, q⟩ := q1
 subst e
 cases r1
 obtain ⟨its, rv, p, hz⟩ := I1.list hq
 refine wpAny_pyIter_list p.isList ?_
 refine ⟨s1.heap.objs.size, [s1.heap.objs.size], _, _, H1, rfl, I1.kept (t' := s1.toks) fun b o e => Heap.get?_push_of_some _ e, turn_list a _, ⟨_, Heap.get?_push_size _ rfl, rfl, rfl⟩, fun b hb => ?_, q⟩
 have e : b = s1.heap.objs.size := by simpa using hb
 subst e
 exact I1.fpOk (Nat.le_refl _) (I1.hok.fresh (Nat.le_refl _))
theorem pi_tup {l : Expr} {tl : TE} (hl : PE X l tl) : PI X tg l (iTup X.K tl) := by
 intro pins s σ H R I h
 refine thn (hl pins s σ H _ I h) fun v s1 ⟨x, H1, I1, r1, q1⟩ => ?_
 obtain ⟨a, e, ⟨xs, hq⟩, q⟩ := q1
 subst e
 cases r1
 obtain ⟨its, rv, p, hz⟩ := I1.tuple hq
 refine wpAny_pyIter_tuple (show s1.heap.IsTuple a its.toArray from p) ?_
 refine ⟨s1.heap.objs.size, [s1.heap.objs.size], _, _, H1, rfl, I1.kept (t' := s1.toks) fun b o e => Heap.get?_push_of_some _ e, turn_tuple a _, ⟨_, Heap.get?_push_size _ rfl, rfl, rfl⟩, fun b hb => ?_, q⟩
 have e : b = s1.heap.objs.size := by simpa using hb
 subst e
 exact I1.fpOk (Nat.le_refl _) (I1.hok.fresh (Nat.le_refl _))
theorem range_it {pins : List (Addr × Obj)} {σ : St} {H : Hp} {s : Shared} {R : It → Hp → Prop} {E : Value → Shared → Prop} {lo hi : Int} {t u v : Tok} {tk : Nat} (I : Inv X pins σ H s) (h1 : -(2 ^ 62) ≤ lo) (h2 : lo < 2 ^ 62) (h3 : -(2 ^ 62) ≤ hi) (h4 : hi < 2 ^ 62)
  (q : R (Itr lo (hi - lo).toNat) H) : wpAny (model X.prog X.w) X.A (pyIter (.ref s.heap.objs.size)) (PIE X pins σ tg R) E { s with heap := s.heap.push { cls := .type "range", data := .fields #[.int lo t, .int hi u, .int 1 v] }, toks := tk } := by
 refine wpAny_pyIter_range (IsRange.new ..) (small_one h1 h2 h3 h4) ?_
 have I1 : Inv X pins σ H { s with heap := s.heap.push { cls := .type "range", data := .fields #[.int lo t, .int hi u, .int 1 v] }, toks := tk } := I.kept fun b o e => Heap.get?_push_of_some _ e
 refine ⟨(s.heap.push { cls := .type "range", data := .fields #[.int lo t, .int hi u, .int 1 v] }).objs.size, [(s.heap.push { cls := .type "range", data := .fields #[.int lo t, .int hi u, .int 1 v] }).objs.size], _, _, H, rfl,
  I1.kept (t' := tk) fun b o e => Heap.get?_push_of_some _ e, turn_range _ lo (hi - lo).toNat, ?_, fun b hb => ?_, q⟩
 ·have e1 : lo + ((0 : Nat) : Int) * 1 = lo := by simp
  have e2 : (((hi - lo).toNat : Nat) : Int) - ((0 : Nat) : Int) = Builtin.Range.rangeSize lo hi 1 := by rw [rangeSize_one]; split <;> omega
  show IsRangeIter _ _ (lo + ((0 : Nat) : Int) * 1) ((((hi - lo).toNat : Nat) : Int) - ((0 : Nat) : Int)) 1
  rw [e1, e2]
  exact Heap.get?_push_size _ rfl
 ·have e : b = (s.heap.push { cls := .type "range", data := .fields #[.int lo t, .int hi u, .int 1 v] }).objs.size := by simpa using hb
  subst e
  exact I1.fpOk (Nat.le_refl _) (I1.hok.fresh (Nat.le_refl _))
noncomputable def iRng1 (ta : TA) : TI := fun σ H R => ta σ H fun vs H1 => ∃ j : Int, vs = [.int j] ∧ -(2 ^ 62) ≤ j ∧ j < 2 ^ 62 ∧ R (Itr 0 j.toNat) H1
theorem pi_range1 {a : Expr} {ta : TA} {p pos : Pos} (hg : Gl X "range") (hm : X.mg "range" = none) (ha : PA X [a] ta) (hs : starEach [a] X.env = [(false, eval a X.env)] := by rfl) : PI X tg (.Call (.Name "range" p) [a] [] pos) (iRng1 ta) := by
 intro pins s σ H R I h
 refine Call_ (ld_blt I hg hm boot_range (PyProof.Rows.callWith_type1 (thn (ha pos pins s σ H _ I h) fun us s1 ⟨vs, H1, I1, r1, q1⟩ => ?_) hs rfl))
 obtain ⟨j, e, q1, q2, q⟩ := q1
 subst e
 cases r1 with
 | cons r rr =>
  cases rr
  obtain ⟨t, rfl⟩ := r
  exact call_range_1 (range_it I1 (by omega) (by omega) q1 q2 (by simpa using q))
noncomputable def tFor (wi : TI) (g : TG) (tb : TS) : TS := fun D σ H => wi σ H fun J H1 => ∃ W : Nat → Nat → St → Hp → Prop, (∃ m, W 0 m σ H1) ∧ ∀ i m σ H, W i m σ H →
 (J.stop i H ∧ D.nx σ H) ∨ (J.go i H ∧ ∃ N : St → Hp → Prop, (∀ σ' H', N σ' H' → ∃ m', m' < m ∧ W (i + 1) m' σ' H') ∧ ∀ x H', J.yld i H x H' → g x σ H' fun σ2 H2 => tb { D with nx := N, ct := N, bk := D.nx } σ2 H2)
noncomputable def pinsAt (fp : List Addr) (h : Heap) : List (Addr × Obj) := fp.filterMap fun b => (h.get? b).map fun o => (b, o)
theorem mem_pinsAt {fp : List Addr} {h : Heap} {b : Addr} {o : Obj} (hb : b ∈ fp) (e : h.get? b = some o) : (b, o) ∈ pinsAt fp h := List.mem_filterMap.mpr ⟨b, hb, by rw [e]; rfl⟩
theorem of_pinsAt {fp : List Addr} {h : Heap} {p : Addr × Obj} (hp : p ∈ pinsAt fp h) : p.1 ∈ fp ∧ h.get? p.1 = some p.2 := by
 obtain ⟨b, hb, e⟩ := List.mem_filterMap.mp hp
 cases q : h.get? b with
 | none => rw [q] at e; cases e
 | some o =>
  rw [q] at e
  have e' : (b, o) = p := Option.some.inj e
  subst e'
  exact ⟨hb, q⟩
theorem Inv.pinned {pins : List (Addr × Obj)} {σ : St} {H : Hp} {s : Shared} {fp : List Addr} (I : Inv X pins σ H s) (hf : ∀ b ∈ fp, FpOk X pins H b) (ho : ∀ b ∈ fp, ∃ o, s.heap.get? b = some o ∧ ∀ v, o.data ≠ .cell v) : Inv X (pins ++ pinsAt fp s.heap) σ H s :=
 I.pins_of fun p hp => (List.mem_append.mp hp).elim (fun z => I.pin p (List.mem_append_right _ z)) fun z => by
  obtain ⟨hb, e⟩ := of_pinsAt z
  obtain ⟨f0, f1, f2, _⟩ := hf p.1 hb
  obtain ⟨o, e', d⟩ := ho p.1 hb
  rw [e] at e'; cases e'
  exact ⟨e, f0, f1, f2, d⟩
theorem Inv.unpinned {pins pl : List (Addr × Obj)} {σ : St} {H : Hp} {s : Shared} (I : Inv X (pins ++ pl) σ H s) : Inv X pins σ H s := I.pins_of fun p hp => I.pin p (List.mem_append_right _ (List.mem_append_left _ hp))
theorem ps_for {iter : Expr} {body : List Stmt} {wi : TI} {g : TG} {tb : TS} {pos : Pos} (hp : PassesOwn (model X.prog X.w) X.A X.env X.xe) (hc : X.calm = true) (hi : PI X tg iter wi) (hg : PG X tg g) (hb : PSs X body tb)
  (hs : ∀ x, foldedSetIterable iter X.env x = pure x := by intro _; rfl) : PS X (.For tg iter body [] pos) (tFor wi g tb) := by
 intro pins s σ H D I h
 refine wpAny_For (thn (hi pins s σ H _ I h) fun v s1 h1 => thn h1 fun itv s2 h2 => ?_) hs
 obtain ⟨it, fp, tn, J, H2, e, I2, T, st2, f2, W, ⟨m0, w0⟩, turn⟩ := h2
 subst e
 -- what stays true of the iterator's objects through the loop
 have stat : ∀ {H' : Hp}, (∀ b ∈ fp, H' b = none) → ∀ b ∈ fp, FpOk X pins H' b := fun hn b hb => ⟨hn b hb, (f2 b hb).2⟩
 refine codeAny_forLoop_any (fun n s' => ∃ i σ' H', Inv X pins σ' H' s' ∧ tn i s'.heap ∧ (∀ b ∈ fp, H' b = none) ∧ W i n σ' H') ?_ m0 ⟨0, σ, H2, I2, st2, fun b hb => (f2 b hb).1, w0⟩
 rintro n s3 ⟨i, σ3, H3, I3, st3, fr3, w3⟩
 rcases turn i n σ3 H3 w3 with ⟨stop, qn⟩ | ⟨go, N, hN, step⟩
 ·refine wpAny_passesOwn hp (thn (T.done X rfl rfl rfl hc i pins s3 σ3 H3 X.xe I3 (stat fr3) st3 stop) fun r s4 ⟨hr, I4⟩ => ?_)
  subst hr
  exact wpAny_execs_nil ⟨σ3, H3, I4, qn⟩
 ·refine wpAny_passesOwn hp (thn (T.item X rfl rfl rfl hc i pins s3 σ3 H3 X.xe I3 (stat fr3) st3 go) fun r s4 ⟨u, hr, h4⟩ => ?_)
  subst hr
  refine wpAny_passesOwn hp (thn h4 fun _ s5 ⟨x, H5, I5, r5, y5, st5, fr5⟩ => ?_)
  have I5' := I5.pinned (stat fr5) (T.obj _ _ st5)
  refine wpAny_passesOwn hp (thn (hg _ s5 σ3 H5 x u _ I5' r5 (step x H5 y5)) fun _ s6 ⟨σ6, H6, I6, q6⟩ => ?_)
  refine wpAny_passesOwn hp (thn (hb _ s6 σ6 H6 _ I6 q6) fun f s7 q7 => ?_)
  have again : ∀ {σ7 : St} {H7 : Hp}, Inv X (pins ++ pinsAt fp s5.heap) σ7 H7 s7 → N σ7 H7 → ∃ m, m < n ∧ ∃ i σ' H', Inv X pins σ' H' s7 ∧ tn i s7.heap ∧ (∀ b ∈ fp, H' b = none) ∧ W i m σ' H' := fun {σ7 H7} I7 n7 => by
   obtain ⟨m', hm, w7⟩ := hN σ7 H7 n7
   refine ⟨m', hm, i + 1, σ7, H7, I7.unpinned, T.keep _ _ _ st5 fun b hb o e => (I7.pin (b, o) (List.mem_append_right _ (List.mem_append_right _ (mem_pinsAt hb e)))).1, fun b hb => ?_, w7⟩
   obtain ⟨o, e, d⟩ := T.obj _ _ st5 b hb
   exact (I7.pin (b, o) (List.mem_append_right _ (List.mem_append_right _ (mem_pinsAt hb e)))).2.1
  cases f with
  | next => obtain ⟨σ7, H7, I7, n7⟩ := q7; exact again I7 n7
  | cont => obtain ⟨σ7, H7, I7, n7⟩ := q7; exact again I7 n7
  | brk => obtain ⟨σ7, H7, I7, q7⟩ := q7; exact ⟨σ7, H7, I7.unpinned, q7⟩
  | ret v => obtain ⟨x7, σ7, H7, I7, r7, q7⟩ := q7; exact ⟨x7, σ7, H7, I7.unpinned, r7, q7⟩
end
theorem for_list {K : PySem.W.Frag} {a : Addr} {xs : List V} {g : TG} {tb : TS} {D : Ends} {σ : St} {H : Hp} (Pv : Nat → St → Hp → Prop) (h0 : Pv 0 σ H) (hl : ∀ i σ H, i ≤ xs.length → Pv i σ H → SqL K H a xs)
  (hs : ∀ i x σ H, xs[i]? = some x → Pv i σ H → g x σ H fun σ2 H2 => tb { D with nx := Pv (i + 1), ct := Pv (i + 1), bk := D.nx } σ2 H2) (hd : ∀ σ H, Pv xs.length σ H → D.nx σ H) :
  ∃ W : Nat → Nat → St → Hp → Prop, (∃ m, W 0 m σ H) ∧ ∀ i m σ H, W i m σ H →
   ((Itl K a).stop i H ∧ D.nx σ H) ∨ ((Itl K a).go i H ∧ ∃ N : St → Hp → Prop, (∀ σ' H', N σ' H' → ∃ m', m' < m ∧ W (i + 1) m' σ' H') ∧ ∀ x H', (Itl K a).yld i H x H' → g x σ H' fun σ2 H2 => tb { D with nx := N, ct := N, bk := D.nx } σ2 H2) := by
 refine ⟨fun i m σ H => m = xs.length - i ∧ i ≤ xs.length ∧ Pv i σ H, ⟨xs.length, by simp, Nat.zero_le _, h0⟩, ?_⟩
 rintro i m σ H ⟨rfl, hi, p⟩
 have q := hl i σ H hi p
 by_cases hlt : i < xs.length
 ·refine .inr ⟨⟨xs, xs[i], q, by simp [hlt]⟩, Pv (i + 1), fun σ' H' p' => ⟨xs.length - (i + 1), by omega, rfl, hlt, p'⟩, fun x H' y => ?_⟩
  obtain ⟨e, y⟩ := y
  subst e
  exact hs i x σ _ (y xs q) p
 ·have e : i = xs.length := by omega
  subst e
  exact .inl ⟨⟨xs, q, Nat.le_refl _⟩, hd σ H p⟩
theorem for_range {lo : Int} {n : Nat} {g : TG} {tb : TS} {D : Ends} {σ : St} {H : Hp} (Pv : Nat → St → Hp → Prop) (h0 : Pv 0 σ H)
  (hs : ∀ i σ H, i < n → Pv i σ H → g (.int (lo + i)) σ H fun σ2 H2 => tb { D with nx := Pv (i + 1), ct := Pv (i + 1), bk := D.nx } σ2 H2) (hd : ∀ σ H, Pv n σ H → D.nx σ H) :
  ∃ W : Nat → Nat → St → Hp → Prop, (∃ m, W 0 m σ H) ∧ ∀ i m σ H, W i m σ H →
   ((Itr lo n).stop i H ∧ D.nx σ H) ∨ ((Itr lo n).go i H ∧ ∃ N : St → Hp → Prop, (∀ σ' H', N σ' H' → ∃ m', m' < m ∧ W (i + 1) m' σ' H') ∧ ∀ x H', (Itr lo n).yld i H x H' → g x σ H' fun σ2 H2 => tb { D with nx := N, ct := N, bk := D.nx } σ2 H2) := by
 refine ⟨fun i m σ H => m = n - i ∧ i ≤ n ∧ Pv i σ H, ⟨n, by simp, Nat.zero_le _, h0⟩, ?_⟩
 rintro i m σ H ⟨rfl, hi, p⟩
 by_cases hlt : i < n
 ·refine .inr ⟨hlt, Pv (i + 1), fun σ' H' p' => ⟨n - (i + 1), by omega, rfl, hlt, p'⟩, fun x H' y => ?_⟩
  obtain ⟨e, y⟩ := y
  subst e y
  exact hs i σ _ hlt p
 ·have e : i = n := by omega
  subst e
  exact .inl ⟨Nat.le_refl _, hd σ H p⟩
end L2
namespace L2
open PySem PySem.Spec PyProof.Rows
noncomputable abbrev R2 := V → V → Hp → VK → Prop
noncomputable def OpR (X : Cx) (f : Value → Value → Sem Value) (r : R2) : Prop :=
 ∀ (pins : List (Addr × Obj)) (s : Shared) (σ : St) (H : Hp) (x y : V) (v u : Value) (Q : VK), Inv X pins σ H s → RelV x v → RelV y u → r x y H Q →
  wpAny (model X.prog X.w) X.A (f v u) (EP X pins σ Q) X.xe s
noncomputable def UnR (X : Cx) (f : Value → Sem Value) (r : V → Hp → VK → Prop) : Prop :=
 ∀ (pins : List (Addr × Obj)) (s : Shared) (σ : St) (H : Hp) (x : V) (v : Value) (Q : VK), Inv X pins σ H s → RelV x v → r x H Q →
  wpAny (model X.prog X.w) X.A (f v) (EP X pins σ Q) X.xe s
noncomputable def CallR (X : Cx) (f : Value) (r : List V → Hp → VK → Prop) : Prop :=
 ∀ (pins : List (Addr × Obj)) (s : Shared) (σ : St) (H : Hp) (xs : List V) (us : List Value) (Q : VK), Inv X pins σ H s → Vals xs us → r xs H Q →
  wpAny (model X.prog X.w) X.A (call f us) (EP X pins σ Q) X.xe s
noncomputable def tOp (r : R2) (ta tb : TE) : TE := fun σ H Q => ta σ H fun x H1 => tb σ H1 fun y H2 => r x y H2 Q
noncomputable def tUn (r : V → Hp → VK → Prop) (ta : TE) : TE := fun σ H Q => ta σ H fun x H1 => r x H1 Q
noncomputable def rI (C : Int → Int → Prop) (g : Int → Int → V) : R2 := fun x y H Q => ∃ i j, x = .int i ∧ y = .int j ∧ C i j ∧ Q (g i j) H
noncomputable def rI0 (g : Int → Int → V) : R2 := fun x y H Q => ∃ i j, x = .int i ∧ y = .int j ∧ Q (g i j) H
noncomputable def rU (g : Int → V) : V → Hp → VK → Prop := fun x H Q => ∃ i, x = .int i ∧ Q (g i) H
section
variable {X : Cx} {a b c : Expr} {ta tb tc : TE} {pos : Pos}
theorem binT (ha : PE X a ta) (hb : PE X b tb) {pins : List (Addr × Obj)} {s : Shared} {σ : St} {H : Hp} {R : V → V → Hp → Prop} (I : Inv X pins σ H s)
  (h : ta σ H fun x H1 => tb σ H1 fun y H2 => R x y H2) {Q : Value → Shared → Prop} {f : Value → Value → Sem Value}
  (hf : ∀ v u s2 x y H2, Inv X pins σ H2 s2 → RelV x v → RelV y u → R x y H2 → wpAny (model X.prog X.w) X.A (f v u) Q X.xe s2) :
  wpAny (model X.prog X.w) X.A (eval a X.env) (fun v s₁ => wpAny (model X.prog X.w) X.A (eval b X.env) (fun u s₂ => wpAny (model X.prog X.w) X.A (f v u) Q X.xe s₂) X.xe s₁) X.xe s := by
 refine thn (ha pins s σ H _ I h) fun v s1 ⟨x, H1, I1, r1, q1⟩ => ?_
 refine thn (hb pins s1 σ H1 _ I1 q1) fun u s2 ⟨y, H2, I2, r2, q2⟩ => ?_
 exact hf v u s2 x y H2 I2 r1 r2 q2
theorem pe_op {op : Operator} {r : R2} (ho : OpR X (binaryOp op) r) (ha : PE X a ta) (hb : PE X b tb) : PE X (.BinOp a op b pos) (tOp r ta tb) := by
 intro pins s σ H Q I h
 exact wpAny_BinOp (binT ha hb I h fun v u s2 x y H2 I2 rx ry q => ho pins s2 σ H2 x y v u Q I2 rx ry q)
theorem pe_un {op : UnaryOp} {r : V → Hp → VK → Prop} (ho : UnR X (unaryOp op) r) (ha : PE X a ta) : PE X (.UnaryOp op a pos) (tUn r ta) := by
 intro pins s σ H Q I h
 exact UnaryOp_ (thn (ha pins s σ H _ I h) fun v s1 ⟨x, H1, I1, r1, q1⟩ => ho pins s1 σ H1 x v Q I1 r1 q1)
theorem opI {f : Value → Value → Sem Value} {C : Int → Int → Prop} {g : Int → Int → Int}
  (rule : ∀ (i j : Int) (t u : Tok) (s : Shared) (Q : Value → Shared → Prop) (E : Value → Shared → Prop), C i j → Q (.int (g i j) s.toks) { s with toks := s.toks + 1 } → wpAny (model X.prog X.w) X.A (f (.int i t) (.int j u)) Q E s) :
  OpR X f (rI C fun i j => .int (g i j)) := by
 intro pins s σ H x y v u Q I rx ry h
 obtain ⟨i, j, rfl, rfl, hc, q⟩ := h
 obtain ⟨t, rfl⟩ := rx
 obtain ⟨t', rfl⟩ := ry
 exact rule i j t t' s _ _ hc ⟨.int (g i j), H, I.tok _, ⟨_, rfl⟩, q⟩
theorem opI0 {f : Value → Value → Sem Value} {g : Int → Int → Int}
  (rule : ∀ (i j : Int) (t u : Tok) (s : Shared) (Q : Value → Shared → Prop) (E : Value → Shared → Prop), Q (.int (g i j) s.toks) { s with toks := s.toks + 1 } → wpAny (model X.prog X.w) X.A (f (.int i t) (.int j u)) Q E s) :
  OpR X f (rI0 fun i j => .int (g i j)) := by
 intro pins s σ H x y v u Q I rx ry h
 obtain ⟨i, j, rfl, rfl, q⟩ := h
 obtain ⟨t, rfl⟩ := rx
 obtain ⟨t', rfl⟩ := ry
 exact rule i j t t' s _ _ ⟨.int (g i j), H, I.tok _, ⟨_, rfl⟩, q⟩
theorem opB0 {f : Value → Value → Sem Value} {g : Int → Int → Bool}
  (rule : ∀ (i j : Int) (t u : Tok) (s : Shared) (Q : Value → Shared → Prop) (E : Value → Shared → Prop), Q (.bool (g i j)) s → wpAny (model X.prog X.w) X.A (f (.int i t) (.int j u)) Q E s) :
  OpR X f (rI0 fun i j => .bl (g i j)) := by
 intro pins s σ H x y v u Q I rx ry h
 obtain ⟨i, j, rfl, rfl, q⟩ := h
 obtain ⟨t, rfl⟩ := rx
 obtain ⟨t', rfl⟩ := ry
 exact rule i j t t' s _ _ ⟨.bl (g i j), H, I, rfl, q⟩
noncomputable def CMul (i j : Int) : Prop := (-(2 ^ 64) < i ∧ i < 2 ^ 64) ∨ (-(2 ^ 64) < j ∧ j < 2 ^ 64)
theorem CMul.ok {i j : Int} (h : CMul i j) : IntMulOk i j := by
 rcases h with ⟨h1, h2⟩ | ⟨h1, h2⟩
 ·exact .of_left (intBits_le_64 h1 h2)
 ·exact .of_right (intBits_le_64 h1 h2)
theorem op_add : OpR X (binaryOp .Add) (rI0 fun i j => .int (i + j)) := opI0 fun _ _ _ _ _ _ _ q => add_int q
theorem op_sub : OpR X (binaryOp .Sub) (rI0 fun i j => .int (i - j)) := opI0 fun _ _ _ _ _ _ _ q => sub_int q
theorem op_mod : OpR X (binaryOp .Mod) (rI (fun _ j => 0 < j) fun i j => .int (i % j)) := opI fun i j _ _ _ _ _ hc q => by
 have h1 : (0 : Int) < j := hc
 exact mod_int' (by omega) (by rw [Int.fmod_eq_emod_of_nonneg i (by omega)]; exact q)
theorem unI {f : Value → Sem Value} {g : Int → Int}
  (rule : ∀ (i : Int) (t : Tok) (s : Shared) (Q : Value → Shared → Prop) (E : Value → Shared → Prop), Q (.int (g i) s.toks) { s with toks := s.toks + 1 } → wpAny (model X.prog X.w) X.A (f (.int i t)) Q E s) :
  UnR X f (rU fun i => .int (g i)) := by
 intro pins s σ H x v Q I rx h
 obtain ⟨i, rfl, q⟩ := h
 obtain ⟨t, rfl⟩ := rx
 exact rule i t s _ _ ⟨.int (g i), H, I.tok _, ⟨_, rfl⟩, q⟩
theorem un_neg : UnR X (unaryOp .USub) (rU fun i => .int (-i)) := unI fun _ _ _ _ _ q => neg_int q
end
noncomputable def scal : V → V → Bool
 | .non, .non => true | .non, .int _ => true | .int _, .non => true | .non, .bl _ => true | .bl _, .non => true | .non, .str _ => true | .str _, .non => true
 | .int _, .int _ => true | .bl _, .bl _ => true | .str _, .str _ => true | .byt _, .byt _ => true
 | .int _, .str _ => true | .str _, .int _ => true | .bl _, .str _ => true | .str _, .bl _ => true
 | _, _ => false
noncomputable def rEq : R2 := fun x y H Q => scal x y = true ∧ Q (.bl (decide (x = y))) H
section
variable {X : Cx} {a b c : Expr} {ta tb tc : TE} {pos : Pos}
theorem op_lt : OpR X (compareOp .Lt) (rI0 fun i j => .bl (decide (i < j))) := opB0 fun _ _ _ _ _ _ _ q => lt_int q
theorem op_gt : OpR X (compareOp .Gt) (rI0 fun i j => .bl (decide (j < i))) := opB0 fun _ _ _ _ _ _ _ q => gt_int q
theorem op_ge : OpR X (compareOp .GtE) (rI0 fun i j => .bl (decide (j ≤ i))) := opB0 fun _ _ _ _ _ _ _ q => ge_int q
theorem nomark (b : Expr) {op : CmpOp} (h : op ≠ .In := by decide) (h2 : op ≠ .NotIn := by decide) : behindInMarks op b = false := by
 have e1 : (op == CmpOp.In) = false := by cases op <;> first | rfl | exact absurd rfl h
 have e2 : (op == CmpOp.NotIn) = false := by cases op <;> first | rfl | exact absurd rfl h2
 cases b <;> simp [behindInMarks, e1, e2]
theorem pe_cmpR {op : CmpOp} {r : R2} (ho : OpR X (compareOp op) r) (ha : PE X a ta) (hb : PE X b tb) (hm : behindInMarks op b = false) : PE X (.Compare a [op] [b] pos) (tOp r ta tb) := by
 intro pins s σ H Q I h
 exact wpAny_Compare1 (binT ha hb I h fun v u s2 x y H2 I2 rx ry q => ho pins s2 σ H2 x y v u Q I2 rx ry q) hm
theorem line63 : (sizeLine : Nat) < 2 ^ 63 := by rw [sizeLine_eq]; decide
theorem vals1 {x : V} {us : List Value} (r : Vals [x] us) : ∃ u, us = [u] ∧ RelV x u := by
 cases r with
 | cons r1 r2 => cases r2; exact ⟨_, rfl, r1⟩
theorem vals2 {x y : V} {us : List Value} (r : Vals [x, y] us) : ∃ u w', us = [u, w'] ∧ RelV x u ∧ RelV y w' := by
 cases r with
 | cons r1 r2 =>
  cases r2 with
  | cons r3 r4 => cases r4; exact ⟨_, _, rfl, r1, r3⟩
theorem call_abs : CallR X (.builtin "abs") (fun xs H Q => ∃ i, xs = [.int i] ∧ Q (.int (if i < 0 then -i else i)) H) := by
 intro pins s σ H xs us Q I r h
 obtain ⟨i, rfl, q⟩ := h
 obtain ⟨u, rfl, t, rfl⟩ := vals1 r
 exact call_abs_int fun u tk => ⟨.int (if i < 0 then -i else i), H, I.tok _, ⟨_, rfl⟩, q⟩
theorem call_int1 : CallR X (.type "int") (fun xs H Q => (∃ i, xs = [.int i] ∧ Q (.int i) H) ∨ ∃ k, xs = [.bl k] ∧ Q (.int (if k then 1 else 0)) H) := by
 intro pins s σ H xs us Q I r h
 rcases h with ⟨i, rfl, q⟩ | ⟨k, rfl, q⟩
 ·obtain ⟨u, rfl, t, rfl⟩ := vals1 r
  exact call_int_int ⟨.int i, H, I, ⟨_, rfl⟩, q⟩
 ·obtain ⟨u, rfl, r1⟩ := vals1 r
  cases r1
  exact call_int_bool ⟨.int (if k then 1 else 0), H, I.tok _, ⟨_, rfl⟩, q⟩
end
end L2
namespace L2
open PySem PySem.Spec PyProof.Rows
structure ObjM (h : Heap) (x dx C : Addr) (mA : Str → Option Value) : Prop where
 obj : h.get? x = some (PySem.W.instObj C dx)
 ns : h.Ns1 dx mA
 ne : dx ≠ x
theorem lookIn_ns {h : Heap} {dx : Addr} {mA : Str → Option Value} (n : h.Ns1 dx mA) : ∃ od, h.get? dx = some od ∧ ∀ name, PySem.W.lookIn name od = some (mA name) := by
 obtain ⟨o, es, ep, ho, hd, hk, _, hm⟩ := n
 refine ⟨o, ho, fun name => ?_⟩
 have e := hm name
 unfold nsFind findBy at e
 rw [← Array.find?_toList] at e
 unfold PySem.W.lookIn
 rw [hd]
 dsimp only
 split
 ·rename_i y q
  rw [q] at e
  exact congrArg some e
 ·rename_i q
  rw [q] at e
  have a : es.toList.any (·.refKey) = false := by
   rw [List.any_eq_false]
   intro y hy
   obtain ⟨z, t, hkey⟩ := hk y (Array.mem_toList_iff.mp hy)
   simp [DictEntry.refKey, hkey]
  have a' : ¬ es.toList.any (·.refKey) = true := by rw [a]; exact Bool.false_ne_true
  rw [if_neg a']
  exact congrArg some e
theorem ObjM.look {h : Heap} {x dx C : Addr} {mA : Str → Option Value} (I : ObjM h x dx C mA) : ∃ od, PySem.W.InstAt h x (PySem.W.instObj C dx) C (some od) ∧ ∀ name, PySem.W.lookIn name od = some (mA name) :=
 let ⟨od, ho, hl⟩ := lookIn_ns I.ns
 ⟨od, ⟨I.obj, rfl, rfl, ho⟩, hl⟩
theorem RelO.some_of {v : V} {o : Option Value} (r : RelO (some v) o) : ∃ u, o = some u ∧ RelV v u := by
 cases o with
 | none => exact (show False from r).elim
 | some u => exact ⟨u, rfl, r⟩
section
variable {P : Program} {w : World} {H H' : Hp} {h h' : Heap} {a C dx : Addr} {fs fs' : List (Str × V)}
theorem ins_get (hok : HOk P w H h) (e : H a = some (.ins C dx fs)) : ∃ mA, ObjM h a dx C mA ∧ (∀ f, RelO (fs.lookup f) (mA f)) ∧ PySem.Within mA (fs.map (·.1)) ∧ fs.length ≤ 1000 ∧ H dx = some (.own a) := by
 obtain ⟨d, z, ne, ob, mA, n, r, q⟩ := (show ObjOk P w H h a (.ins C dx fs) from hok a _ e)
 exact ⟨mA, ⟨ob, n, ne⟩, r, q, z, d⟩
end
structure Cls (K : PySem.W.Frag) (C : Addr) : Prop where
 pg : PySem.W.plainGet K C Str.empty = true
 hd : PySem.W.hasDictIn K C = true
 po : PySem.W.plainOver K C = true
 sa : PySem.W.findIn K (.ref C) "__setattr__" = some (some (.builtin "object.__setattr__"))
theorem Cls.get {K : PySem.W.Frag} {C : Addr} (c : Cls K C) (f : Str) : PySem.W.plainGet K C f = true := c.pg
section
variable {X : Cx} {pins : List (Addr × Obj)} {σ : St} {H : Hp} {s : Shared} {a C dx : Addr} {fs : List (Str × V)} {f : Str} {v : V} {A : Around} {E : Value → Shared → Prop}
theorem attr_of {prog : Program} {w : World} {env : Env} {e : Expr} {f : Str} {pos : Pos} {s : Shared} {Q : Value → Shared → Prop} (hb : attributeBase e f env (eval e env) = eval e env)
  (h : wpAny (model prog w) A (eval e env) (fun o s₁ => wpAny (model prog w) A (getAttr o f true) Q E s₁) E s) : wpAny (model prog w) A (eval (.Attribute e f pos) env) Q E s :=
 Attribute_any_ h (by rw [arm_eval_Attribute, hb])
end
section
variable {X : Cx} {pins : List (Addr × Obj)} {σ : St} {H : Hp} {s : Shared} {A : Around} {E : Value → Shared → Prop} {Q : Value → Shared → Prop} {c : Value} {b : Bool}
inductive TyOf (K : PySem.W.Frag) (H : Hp) : V → Value → Prop where
 | non : TyOf K H .non (.type "NoneType")
 | bl (x : Bool) : TyOf K H (.bl x) (.type "bool")
 | int (i : Int) : TyOf K H (.int i) (.type "int")
 | str (x : Str) : TyOf K H (.str x) (.type "str")
 | flt (x : UInt64) : TyOf K H (.flt x) (.type "float")
 | lst {a : Addr} {xs : List V} (e : H a = some (.lst xs)) : TyOf K H (.ref a) (.type "list")
 | frz {a : Addr} {o : Obj} {xs : List V} (e : H a = some (.frz o (.lst xs))) : TyOf K H (.ref a) (.type "list")
 | tup {a : Addr} {xs : List V} (e : H a = some (.tup xs)) : TyOf K H (.ref a) (.type "tuple")
 | dK {a : Addr} {kvs : List (Key × V)} (e : H a = some (.dK kvs)) : TyOf K H (.ref a) (.type "dict")
 | dT {a : Addr} {kvs : List (List Key × V)} (e : H a = some (.dT kvs)) : TyOf K H (.ref a) (.type "dict")
 | ins {a C dx : Addr} {fs : List (Str × V)} (e : H a = some (.ins C dx fs)) (cl : Cls K C) (ha : PySem.W.findIn K (.ref C) "__class__" = some (some (.builtin "object.__class__")))
   (hn : PySem.W.specialIn K (.builtin "object.__class__") "__get__" = some (some (.builtin "getset_descriptor.__get__"))) (htk : PySem.W.takesIn K (.builtin "object.__class__") = some true)
   (hm : PySem.W.mroIn K C (.type "object") = some true) : TyOf K H (.ref a) (.ref C)
theorem isinst_ok {x : V} {u t : Value} (I : Inv X pins σ H s) (rx : RelV x u) (ty : TyOf X.K H x t) (e : PySem.W.kitOne X.K t c = some b) (h : ∀ tk, Q (.bool b) { s with toks := tk }) :
  wpAny (model X.prog X.w) A (call (.builtin "isinstance") [u, c]) Q E s := by
 cases ty with
 | non => cases (show u = Value.none from rx); exact PySem.W.kia_one PySem.W.kitx_none I.kIn True.intro e (fun z => nomatch z) h
 | bl y => cases (show u = Value.bool y from rx); exact PySem.W.kia_one PySem.W.kitx_bool I.kIn True.intro e (fun z => nomatch z) h
 | int i => obtain ⟨t, q⟩ := (show ∃ t, u = Value.int i t from rx); cases q; exact PySem.W.kia_one PySem.W.kitx_int I.kIn True.intro e (fun z => nomatch z) h
 | str y => obtain ⟨t, q⟩ := (show ∃ t, u = Value.str y t from rx); cases q; exact PySem.W.kia_one PySem.W.kitx_str I.kIn True.intro e (fun z => nomatch z) h
 | flt y => obtain ⟨t, q⟩ := (show ∃ t, u = Value.float y t from rx); cases q; exact PySem.W.kia_one PySem.W.kitx_float I.kIn True.intro e (fun z => nomatch z) h
 | @lst a xs ea =>
  cases (show u = Value.ref a from rx)
  obtain ⟨_, _, n, _, h1⟩ := (show ObjOk X.prog X.w H s.heap a (.lst xs) from I.hok a _ ea)
  exact PySem.W.kia_one PySem.W.kitx_list I.kIn ⟨_, h1, rfl⟩ e (fun z => nomatch z) h
 | @frz a ob xs ea =>
  cases (show u = Value.ref a from rx)
  obtain ⟨_, _, _, n, _, h1⟩ := (show ObjOk X.prog X.w H s.heap a (.frz ob (.lst xs)) from I.hok a _ ea)
  exact PySem.W.kia_one PySem.W.kitx_list I.kIn ⟨_, h1, rfl⟩ e (fun z => nomatch z) h
 | @tup a xs ea =>
  cases (show u = Value.ref a from rx)
  obtain ⟨_, _, _, p⟩ := (show ObjOk X.prog X.w H s.heap a (.tup xs) from I.hok a _ ea)
  obtain ⟨o, h1, h2, _⟩ := p
  exact PySem.W.kia_one PySem.W.kitx_tuple I.kIn ⟨o, h1, h2⟩ e (fun z => nomatch z) h
 | @dK a kvs ea =>
  cases (show u = Value.ref a from rx)
  obtain ⟨_, _, vs, _, p⟩ := (show ObjOk X.prog X.w H s.heap a (.dK kvs) from I.hok a _ ea)
  obtain ⟨o, es, ep, h1, h2, _⟩ := p
  exact PySem.W.kia_one PySem.W.kitx_dict I.kIn ⟨o, h1, h2.1⟩ e (fun z => nomatch z) h
 | @dT a kvs ea =>
  cases (show u = Value.ref a from rx)
  obtain ⟨_, _, xs, _, o, es, ep, h1, h2, _⟩ := (show ObjOk X.prog X.w H s.heap a (.dT kvs) from I.hok a _ ea)
  exact PySem.W.kia_one PySem.W.kitx_dict I.kIn ⟨o, h1, h2.1⟩ e (fun z => nomatch z) h
 | @ins a C dx fs ea cl ha hn htk hm =>
  cases (show u = Value.ref a from rx)
  obtain ⟨mA, O, _⟩ := ins_get I.hok ea
  obtain ⟨od, J, _⟩ := O.look
  exact PySem.W.kia_one (PySem.W.kitx_own (cl.get _) cl.hd ha hn htk hm) I.kIn J e (fun z => nomatch z) h
end
end L2
namespace L2
open PySem PySem.Spec PyProof.Rows
structure Room (k : Nat) (A : Around) : Prop where
 hd : A.handled = none
 dp : A.depth + 3 * k + 5 < recursionLimit
 un : A.units + 16 * k + 200 < cLine
theorem Room.mono {j k : Nat} {A : Around} (r : Room k A) (h : j ≤ k) : Room j A := ⟨r.hd, by have := r.dp; omega, by have := r.un; omega⟩
theorem Room.deeper {k : Nat} {A : Around} (r : Room (k + 1) A) (env : Env) : Room k (A.deeper env) :=
 ⟨r.hd, by have := r.dp; show A.depth + 1 + 3 * k + 5 < _; omega, by have := r.un; show A.units + 3 + 16 * k + 200 < _; omega⟩
theorem make_depth {A : Around} {C : Addr} {us : List Value} {kw : List (Str × Value)} : (A.under (.builtin "type.__call__" ⟨.ref C :: us, kw⟩)).depth = A.depth + 1 := by
 first | rfl | simp [Around.under, Code.weight, Code.isCreation, Code.isGuard, Code.isCaller, Code.frames, Code.isFrame, guardIds]
theorem Room.depth {k : Nat} {A : Around} (r : Room k A) : A.depth < recursionLimit := by have := r.dp; omega
theorem Room.units {k : Nat} {A : Around} (r : Room k A) : A.units + 64 < cLine := by have := r.un; omega
noncomputable def tNil : TA := fun _ H Q => Q [] H
noncomputable def tCons (ta : TE) (tr : TA) : TA := fun σ H Q => ta σ H fun x H1 => tr σ H1 fun xs H2 => Q (x :: xs) H2
section
variable {X : Cx} {e : Expr} {es : List Expr} {te : TE} {t : TA} {pos : Pos}
theorem pa_nil : PA X [] tNil := fun _ _ _ _ H Q I h => Calls.spliced_nil ⟨[], H, I, .nil, h⟩
theorem pa_cons (ha : PE X e te) (hr : PA X es t) (hs : starEach (e :: es) X.env = (false, eval e X.env) :: starEach es X.env := by rfl) : PA X (e :: es) (tCons te t) := by
 intro pos pins s σ H Q I h
 rw [hs]
 show wpAny _ _ (spliced ((false, eval e X.env) :: backTo pos (starEach es X.env))) _ _ s
 refine Calls.spliced_cons (thn (ha pins s σ H _ I h) fun u s1 ⟨x, H1, I1, r1, q1⟩ => ?_)
 exact thn (hr pos pins s1 σ H1 _ I1 q1) fun us s2 ⟨xs, H2, I2, r2, q2⟩ => ⟨x :: xs, H2, I2, .cons r1 r2, q2⟩
noncomputable def tTup (t : TA) : TE := fun σ H Q => t σ H fun xs H1 => xs.length ≤ sizeLine ∧ ∀ p, H1 p = none → Q (.ref p) (upd H1 p (.tup xs))
noncomputable def tLst (t : TA) : TE := fun σ H Q => t σ H fun xs H1 => xs.length ≤ sizeLine ∧ ∀ p, H1 p = none → Q (.ref p) (upd H1 p (.lst xs))
theorem pe_tup {x1} (h : PA X es t) : PE X (.Tuple es x1 pos) (tTup t) := by
 intro pins s σ H Q I hq
 refine wpAny_Tuple_spliced (thn (h pos pins s σ H _ I hq) fun us s1 ⟨xs, H1, I1, r, z, q⟩ => ⟨by rw [← r.length]; exact z, ?_⟩)
 have hf : H1 s1.heap.objs.size = none := I1.hok.fresh (Nat.le_refl _)
 refine ⟨.ref s1.heap.objs.size, upd H1 s1.heap.objs.size (.tup xs), I1.laid (t' := s1.toks) (fun b u e => Heap.get?_push_of_some _ e) (Nat.le_refl _) ?_, rfl, q _ hf⟩
 exact ⟨z, us, r, ⟨_, Heap.get?_push_size _ rfl, rfl, _, rfl⟩⟩
theorem pe_lst (h : PA X es t) : PE X (.List es pos) (tLst t) := by
 intro pins s σ H Q I hq
 refine wpAny_List_spliced (thn (h pos pins s σ H _ I hq) fun us s1 ⟨xs, H1, I1, r, z, q⟩ => ⟨by rw [← r.length]; exact z, ?_⟩)
 have hf : H1 s1.heap.objs.size = none := I1.hok.fresh (Nat.le_refl _)
 refine ⟨.ref s1.heap.objs.size, upd H1 s1.heap.objs.size (.lst xs), I1.laid (t' := s1.toks) (fun b u e => Heap.get?_push_of_some _ e) (Nat.le_refl _) ?_, rfl, q _ hf⟩
 exact ⟨z, us, 0, r, Heap.get?_push_size _ rfl⟩
end
noncomputable abbrev Sp := List V → Hp → VK → XK → Prop
noncomputable abbrev CXT := List Env → Hp → Shared → XK → Value → Shared → Prop
structure Env0 (P : Program) (w : World) (K : PySem.W.Frag) (mg : Str → Option Value) (base : Heap) (A : Around) (outer : List Env) (s : Shared) (H : Hp) : Prop where
 frames : A.frames = some outer
 mod : Mod K mg base
 bs : ∀ b o, base.get? b = some o → s.heap.get? b = some o ∧ H b = none
 bsz : base.objs.size ≤ s.heap.objs.size
 funs : s.heap.FunFrames base outer
 frf : ∀ b ∈ frs outer, H b = none
 hok : HOk P w H s.heap
 bare : AllBare s.gens
noncomputable def CE (outer : List Env) (P : Program) (w : World) (H : Hp) (s : Shared) (Q : VK) (u : Value) (s' : Shared) : Prop :=
 ∃ v H', s'.os = s.os ∧ AllBare s'.gens ∧ Un (frs outer) [] H H' s.heap s'.heap ∧ HOk P w H' s'.heap ∧ RelV v u ∧ Q v H'
noncomputable def CR (CX : CXT) (outer : List Env) (P : Program) (w : World) (H : Hp) (s : Shared) (Q : VK) (E : XK) (r : Result) (s' : Shared) : Prop :=
 match r with
 | .ok (.ret u) => CE outer P w H s Q u s'
 | .ok _ => False
 | .error e => CX outer H s E e s'
structure FnOk (P : Program) (w : World) (K : PySem.W.Frag) (mg : Str → Option Value) (base : Heap) (CX : CXT) (k : Nat) (f : Addr) (fd : FuncData) (ps : List Str) (sp : Sp) : Prop where
 len : ∀ vs H Q E, sp vs H Q E → vs.length = ps.length
 run : ∀ (A : Around) (outer : List Env) (s : Shared) (H : Hp) (args : Args) (us : List Value) (vs : List V) (Q : VK) (E : XK), Room k A → Env0 P w K mg base A outer s H → BindsTo s fd args (ps.zip us) → Vals vs us → sp vs H Q E →
  codeAny (model P w) A (.call (.ref f) args) (CR CX outer P w H s Q E) s
theorem FnOk.imp {P : Program} {w : World} {K : PySem.W.Frag} {mg : Str → Option Value} {base : Heap} {CX : CXT} {k : Nat} {f : Addr} {fd : FuncData} {ps : List Str} {sp sp' : Sp} (F : FnOk P w K mg base CX k f fd ps sp)
  (h : ∀ vs H Q E, sp' vs H Q E → sp vs H Q E) : FnOk P w K mg base CX k f fd ps sp' :=
 ⟨fun vs H Q E q => F.len vs H Q E (h _ _ _ _ q), fun A outer s H args us vs Q E hr he hb hv hs => F.run A outer s H args us vs Q E hr he hb hv (h _ _ _ _ hs)⟩
section
variable {X : Cx} {pins : List (Addr × Obj)} {σ : St} {H : Hp} {s s' : Shared}
theorem Inv.env0 (I : Inv X pins σ H s) : Env0 X.prog X.w X.K X.mg X.base X.A X.stack s H :=
 ⟨I.ok.frames, I.ok.mod, I.bs, Nat.le_trans I.ok.bsz I.sz, I.stack, I.stkFree, I.hok, I.bare⟩
theorem Inv.after {Q : VK} {u : Value} (I : Inv X pins σ H s) (h : CE X.stack X.prog X.w H s Q u s') : EP X pins σ Q u s' := by
 obtain ⟨v, H', os, bare, un, hok, r, q⟩ := h
 obtain ⟨hh, g, d, t, os'⟩ := s'
 obtain rfl : os' = s.os := os
 exact ⟨v, H', I.call (h' := hh) (g' := g) (d' := d) (t' := t) (ch := []) un hok bare (fun b z => absurd z (by simp)), r, q⟩
end
noncomputable def tCall (sp : Sp) (dvs : List V) (E : XK) (t : TA) : TE := fun σ H Q => t σ H fun vs H1 => sp (vs ++ dvs) H1 Q E
noncomputable def Binds (K : PySem.W.Frag) (fd : FuncData) (ps : List Str) (ds : List Value) : Prop :=
 ∀ (s : Shared) (us : List Value), K.In s.heap → (us ++ ds).length = ps.length → BindsTo s fd ⟨us, []⟩ (ps.zip (us ++ ds))
theorem Binds.all {K : PySem.W.Frag} {fd : FuncData} {ps : List Str} (h : ∀ us : List Value, us.length = ps.length → bindArgs fd ⟨us, []⟩ = pure (ps.zip us)) : Binds K fd ps [] := fun s us _ hl => by
 rw [List.append_nil] at hl ⊢
 exact .of_eq (h us hl)
noncomputable def Passes (CX : CXT) (X : Cx) (E : XK) : Prop := ∀ (pins : List (Addr × Obj)) (σ : St) (H : Hp) (s : Shared) (e : Value) (s' : Shared), Inv X pins σ H s → CX X.stack H s E e s' → X.xe e s'
section
variable {X : Cx} {CX : CXT} {k : Nat} {f C : Addr} {fd : FuncData} {ps : List Str} {sp : Sp} {dvs : List V} {ds : List Value} {E : XK} {x m : Str} {p pos apos : Pos} {e o : Expr} {es : List Expr} {ta : TE} {t : TA}
theorem run_fn {pins : List (Addr × Obj)} {σ : St} {H : Hp} {s : Shared} {Q : VK} {us : List Value} {vs : List V} (F : FnOk X.prog X.w X.K X.mg X.base CX k f fd ps sp) (hr : Room k X.A) (hb : Binds X.K fd ps ds) (hd : Vals dvs ds) (hx : Passes CX X E)
  (I : Inv X pins σ H s) (r : Vals vs us) (h : sp (vs ++ dvs) H Q E) : wpAny (model X.prog X.w) X.A (call (.ref f) us) (EP X pins σ Q) X.xe s := by
 have r2 : Vals (vs ++ dvs) (us ++ ds) := r.append hd
 have hl : (us ++ ds).length = ps.length := by rw [← r2.length]; exact F.len _ _ _ _ h
 refine wpAny_call (codeAny_mono (F.run X.A X.stack s H ⟨us, []⟩ (us ++ ds) (vs ++ dvs) Q E hr I.env0 (hb s us I.kIn hl) r2 h) fun r s' hq => ?_)
 cases r with
 | error e => exact hx pins σ H s e s' I hq
 | ok fl =>
  cases fl with
  | ret u => exact I.after hq
  | next => exact False.elim hq
  | brk => exact False.elim hq
  | cont => exact False.elim hq
theorem pe_call (F : FnOk X.prog X.w X.K X.mg X.base CX k f fd ps sp) (hr : Room k X.A) (hg : Gl X x) (hm : X.mg x = some (.ref f)) (hk : PySem.W.keepIn X.K (.ref f) = true) (hb : Binds X.K fd ps ds) (hd : Vals dvs ds) (hx : Passes CX X E)
  (ha : PA X (e :: es) t) (hdb : (x == ("__debug__" : Str)) = false := by decide) (he : starEach (e :: es) X.env = (false, eval e X.env) :: starEach es X.env := by rfl) (hpl : (backTo pos (starEach es X.env)).any (·.1) = false := by rfl) :
  PE X (.Call (.Name x p) (e :: es) [] pos) (tCall sp dvs E t) := by
 intro pins s σ H Q I h
 refine wpAny_Call_Name_kw (ld_glob I hg hm ?_ hdb)
 refine PySem.W.callWith_K (h₀ := X.base) I.ok.mod.kin hk (thn (ha pos pins s σ H _ I h) fun us s1 ⟨vs, H1, I1, r, q⟩ => ⟨I1.kIn, ?_⟩) he hpl
 exact run_fn F hr hb hd hx I1 r q
end
structure FnScope (N P : List Str) (sc : Scope) : Prop where
 kind : sc.kind = .function
 co : sc.isCoroutine = false
 gen : sc.isGenerator = false
 nd : N.Nodup
 pre : N.take P.length = P
 par : ∀ x ∈ P, sc.names.lookup x = some .local ∨ sc.names.lookup x = some .cell
 nofree : ∀ y ∈ sc.names, y.2 ≠ .free
theorem bindL_out {kindOf : Str → Option NameKind} {x : Str} : ∀ {binds : List (Str × Value)} {m : Str → Option Value}, (∀ v, (x, v) ∉ binds) → bindL kindOf binds m x = m x
 | [], _, _ => rfl
 | (n, v) :: r, m, h => by
  unfold bindL
  rw [bindL_out fun w hw => h w (List.mem_cons_of_mem _ hw)]
  split
  ·have : x ≠ n := by rintro rfl; exact h v List.mem_cons_self
   simp [this]
  ·rfl
theorem bindC_out {kindOf : Str → Option NameKind} {x : Str} : ∀ {binds : List (Str × Value)} {m : Str → Option Value}, (∀ v, (x, v) ∉ binds) → bindC kindOf binds m x = m x
 | [], _, _ => rfl
 | (n, v) :: r, m, h => by
  unfold bindC
  rw [bindC_out fun w hw => h w (List.mem_cons_of_mem _ hw)]
  split
  ·rfl
  ·have : x ≠ n := by rintro rfl; exact h v List.mem_cons_self
   simp [this]
theorem bindL_get {kindOf : Str → Option NameKind} {x : Str} {v : Value} : ∀ {P : List Str} {vs : List Value} {i : Nat} {m : Str → Option Value}, P.Nodup → P[i]? = some x → vs[i]? = some v → kindOf x = some .local →
  bindL kindOf (P.zip vs) m x = some v
 | [], _, _, _, _, h, _, _ => by simp at h
 | _ :: _, [], _, _, _, _, h, _ => by simp at h
 | p :: P, w :: vs, 0, m, nd, h1, h2, hk => by
  simp at h1 h2; subst h1; subst h2
  show bindL kindOf ((p, w) :: P.zip vs) m p = _
  unfold bindL
  rw [bindL_out fun v hv => (List.nodup_cons.mp nd).1 (List.of_mem_zip hv).1, if_pos hk]
  simp
 | p :: P, w :: vs, i + 1, m, nd, h1, h2, hk => by
  show bindL kindOf ((p, w) :: P.zip vs) m x = _
  unfold bindL
  exact bindL_get (i := i) (List.nodup_cons.mp nd).2 (by simpa using h1) (by simpa using h2) hk
theorem bindC_get {kindOf : Str → Option NameKind} {x : Str} {v : Value} : ∀ {P : List Str} {vs : List Value} {i : Nat} {m : Str → Option Value}, P.Nodup → P[i]? = some x → vs[i]? = some v → kindOf x ≠ some .local →
  bindC kindOf (P.zip vs) m x = some v
 | [], _, _, _, _, h, _, _ => by simp at h
 | _ :: _, [], _, _, _, _, h, _ => by simp at h
 | p :: P, w :: vs, 0, m, nd, h1, h2, hk => by
  simp at h1 h2; subst h1; subst h2
  show bindC kindOf ((p, w) :: P.zip vs) m p = _
  unfold bindC
  rw [bindC_out fun v hv => (List.nodup_cons.mp nd).1 (List.of_mem_zip hv).1, if_neg hk]
  simp
 | p :: P, w :: vs, i + 1, m, nd, h1, h2, hk => by
  show bindC kindOf ((p, w) :: P.zip vs) m x = _
  unfold bindC
  exact bindC_get (i := i) (List.nodup_cons.mp nd).2 (by simpa using h1) (by simpa using h2) hk
noncomputable def start (N : List Str) (vs : List V) : St := vs.map some ++ List.replicate (N.length - vs.length) none
noncomputable def cxOf (CX : CXT) (P : Program) (w : World) (K : PySem.W.Frag) (mg : Str → Option Value) (base : Heap) (N : List Str) (qual : Str) (scope : Scope) (f : Addr) (cd : Value) (A : Around) (outer : List Env) (s : Shared) (H : Hp) (E : XK) : Cx where
 prog := P
 w := w
 K := K
 mg := mg
 base := base
 A := A.deeper (envOfC qual scope s.heap.objs.size f cd)
 N := N
 s₀ := s
 H₀ := H
 env := envOfC qual scope s.heap.objs.size f cd
 outer := outer
 stack := envOfC qual scope s.heap.objs.size f cd :: outer
 ex := []
 calm := true
 fn := fun _ => true
 pn := []
 xe := fun e s' => wpAny (model P w) (A.deeper (envOfC qual scope s.heap.objs.size f cd)) (leaving (envOfC qual scope s.heap.objs.size f cd) e) (fun _ s'' => CX outer H s E e s'') (fun e' s'' => CX outer H s E e' s'') s'
theorem cell_has {sc : Scope} {n : Nat} {x : Str} (h : sc.names.lookup x = some .cell) : ∃ c, (cellsFrom n sc.names []).lookup x = some c := by
 have q := PySem.W.cellsFrom_some sc.names n [] (.inl h)
 exact Option.isSome_iff_exists.mp q
theorem inv_start {CX : CXT} {P : Program} {w : World} {K : PySem.W.Frag} {mg : Str → Option Value} {base : Heap} {N ps : List Str} {qual : Str} {scope : Scope} {f : Addr} {cd : Value} {A : Around} {outer : List Env} {s s1 : Shared} {H : Hp} {E : XK} {us : List Value} {vs : List V}
  (S : FnScope N ps scope) (hd : A.handled = none) (e0 : Env0 P w K mg base A outer s H) (hl : vs.length = ps.length) (r : Vals vs us)
  (x : InCallC s s.heap.objs.size (bindL (envOfC qual scope s.heap.objs.size f cd).kindOf (ps.zip us) fun _ => none) (cellsFrom (s.heap.objs.size + 1) scope.names []) (bindC (envOfC qual scope s.heap.objs.size f cd).kindOf (ps.zip us) fun _ => none) s1) :
  Inv (cxOf CX P w K mg base N qual scope f cd A outer s H E) [] (start N vs) H s1 := by
 have hpl : ps.length ≤ N.length := by have := congrArg List.length S.pre; rw [List.length_take] at this; omega
 obtain ⟨h1, tk, rfl, hk⟩ := x.done
 have noA : ∀ b : Addr, b ∉ (cxOf CX P w K mg base N qual scope f cd A outer s H E).ex := fun b z => absurd (show b ∈ ([] : List Addr) from z) (by simp)
 refine ⟨⟨e0.mod, S.kind, rfl, rfl, Nat.le_refl _, fun y z c h1 h2 => ?_, fun y hy => ?_, fun y c _ h => ?_, fun _ => hd, Around.frames_deeper e0.frames, .inr ⟨rfl, rfl⟩, fun b z => absurd z (noA b), e0.bs, e0.bsz, fun b _ _ => noA b, fun b z => absurd z (noA b), e0.funs, e0.frf⟩,
  rfl, e0.bare, Un.kept hk, ⟨_, x.toInCall.ns, fun i y v h1 h2 h3 => ?_⟩, fun y c h => ⟨_, x.cell y c h⟩, e0.hok.fresh (Nat.le_refl _), fun y c h => ?_, fun p hp => absurd (show p ∈ ([] : List (Addr × Obj)) from hp) (by simp), e0.hok.kept hk, ?_⟩
 ·exact name_of_addr x.apart (PySem.mem_of_lookup h1) (PySem.mem_of_lookup h2)
 ·have hy : scope.names.lookup y = some .cell ∨ scope.names.lookup y = some .free := hy
  rcases hy with hy | hy
  ·exact cell_has hy
  ·exact absurd rfl (S.nofree _ (PySem.mem_of_lookup hy))
 ·exact Nat.le_of_lt (x.above y c (PySem.mem_of_lookup h))
 ·have hi : i < vs.length := by
   unfold start at h2
   by_cases hi : i < vs.length
   ·exact hi
   ·rw [List.getElem?_append_right (by simpa using hi)] at h2
    rw [List.getElem?_replicate] at h2
    split at h2 <;> cases h2
  have ha : vs[i]? = some v := by
   unfold start at h2
   rw [List.getElem?_append_left (by simpa using hi), List.getElem?_map] at h2
   cases e : vs[i]? with
   | none => rw [e] at h2; cases h2
   | some a => rw [e] at h2; cases h2; rfl
  obtain ⟨u, hu, rv⟩ := r.get ha
  have hp : ps[i]? = some y := by
   rw [← S.pre, List.getElem?_take_of_lt (by omega)]; exact h1
  have ndP : ps.Nodup := by rw [← S.pre]; exact S.nd.sublist (List.take_sublist _ _)
  refine ⟨u, rv, ?_⟩
  rcases S.par y (List.mem_of_getElem? hp) with k | k
  ·exact .inl ⟨k, bindL_get ndP hp hu k⟩
  ·obtain ⟨c, e⟩ := cell_has (n := s.heap.objs.size + 1) k
   refine .inr ⟨.inl k, c, e, ?_⟩
   have q := x.cell y c e
   rw [bindC_get ndP hp hu (by show scope.names.lookup y ≠ _; rw [k]; decide)] at q
   exact q
 ·exact e0.hok.fresh (Nat.le_of_lt (x.above y c (PySem.mem_of_lookup h)))
 ·unfold start
  show _ = N.length
  rw [List.length_append, List.length_map, List.length_replicate]
  omega
theorem fn_of {CX : CXT} {P : Program} {w : World} {K : PySem.W.Frag} {mg : Str → Option Value} {base : Heap} {k : Nat} {f : Addr} {name qual : Str} {params : Arguments} {body : List Stmt} {scope : Scope} {dV kV doc pm cdv ct oc : Value} {an od : Option Addr}
  {osl : Array (Option Value)} {N ps : List Str} {sp : Sp} (lk : K.lookup f = some ⟨oc, od, .func (PySem.W.fnOf name qual params body scope dV kV doc pm an cdv ct), osl⟩) (hcd : PySem.W.codeIn K cdv qual = true) (S : FnScope N ps scope)
  (len : ∀ vs H Q E, sp vs H Q E → vs.length = ps.length)
  (hbody : ∀ (A : Around) (outer : List Env) (s : Shared) (H : Hp) (vs : List V) (Q : VK) (E : XK), Room k (A.deeper (envOfC qual scope s.heap.objs.size f cdv)) → sp vs H Q E →
   ∃ t, PSs (cxOf CX P w K mg base N qual scope f cdv A outer s H E) body t ∧ t { nx := fun _ H' => Q .non H', rt := Q } (start N vs) H) :
  FnOk P w K mg base CX (k + 1) f (PySem.W.fnOf name qual params body scope dV kV doc pm an cdv ct) ps sp := by
 refine ⟨len, fun A outer s H args us vs Q E hr e0 hb r hsp => ?_⟩
 have hl := len _ _ _ _ hsp
 have KX : K.In s.heap := e0.mod.kin.keeps fun b o e => (e0.bs b o e).1
 have lim : s.heap.NoLimit := e0.mod.nolimit.keeps fun b o e => (e0.bs b o e).1
 have hkind : ∀ y ∈ ps.zip us, scope.names.lookup y.1 = some .local ∨ (scope.names.lookup y.1 = some .cell ∧ ((cellsFrom (s.heap.objs.size + 1) scope.names []).lookup y.1).isSome = true) := fun ⟨n, v⟩ hy => by
  rcases S.par n (List.of_mem_zip hy).1 with q | q
  ·exact .inl q
  ·exact .inr ⟨q, PySem.W.cellsFrom_some _ _ _ (.inl q)⟩
 refine codeAny_call_function hr.depth (KX _ _ lk) rfl S.co S.gen rfl (PySem.W.codeRec_of KX hcd) (hb _ _ _ _ ?_)
 refine wpAny_newFunctionEnv_cells S.kind hkind fun env he s1 x => ?_
 subst he
 refine ⟨lim.keeps x.toInCall.keep, codeAny_func ?_⟩
 obtain ⟨t, ht, hq⟩ := hbody A outer s H vs Q E (hr.deeper _) hsp
 have I : Inv (cxOf CX P w K mg base N qual scope f cdv A outer s H E) [] (start N vs) H s1 := inv_start S hr.hd e0 hl r x
 refine wpAny_mono (ht [] s1 (start N vs) H _ I hq) (fun fl s' hs => ?_) fun e s' hs => hs
 have fin : ∀ {σ' : St} {H' : Hp} {v : V} {u : Value}, Inv (cxOf CX P w K mg base N qual scope f cdv A outer s H E) [] σ' H' s' → RelV v u → Q v H' → CE outer P w H s Q u s' :=
  fun {σ' H' v u} J rv q => ⟨v, H', J.os, J.bare, J.base, J.hok, rv, q⟩
 cases fl with
 | ret u =>
  obtain ⟨v, σ', H', J, rv, q⟩ := hs
  exact fin J rv q
 | next =>
  obtain ⟨σ', H', J, q⟩ := hs
  exact fin (v := V.non) (u := Value.none) J rfl q
 | brk =>
  obtain ⟨_, _, _, q⟩ := hs
  exact False.elim q
 | cont =>
  obtain ⟨_, _, _, q⟩ := hs
  exact False.elim q
end L2
namespace L2
open PySem PySem.Spec PyProof.Rows
section
variable {X : Cx} {x : Str} {p pos : Pos} {e : Expr} {es : List Expr} {t : TA} {id T : String} {r : List V → Hp → VK → Prop}
noncomputable def tCB (r : List V → Hp → VK → Prop) (t : TA) : TE := fun σ H Q => t σ H fun vs H1 => r vs H1 Q
theorem pe_callB (hc : CallR X (.builtin id) r) (hg : Gl X x) (hm : X.mg x = none) (hv : bootBuiltins x = some (.builtin id)) (ha : PA X (e :: es) t) (hn : x ≠ "__name__" := by decide) (hdb : (x == ("__debug__" : Str)) = false := by decide)
  (he : starEach (e :: es) X.env = (false, eval e X.env) :: starEach es X.env := by rfl) (hpl : (backTo pos (starEach es X.env)).any (·.1) = false := by rfl) : PE X (.Call (.Name x p) (e :: es) [] pos) (tCB r t) := by
 intro pins s σ H Q I h
 refine wpAny_Call_Name_kw (ld_blt I hg hm hv ?_ hn hdb)
 exact PyProof.Rows.callWith_builtin1 (thn (ha pos pins s σ H _ I h) fun us s1 ⟨vs, H1, I1, r1, q1⟩ => hc pins s1 σ H1 vs us Q I1 r1 q1) he hpl
theorem pe_callTy (hc : CallR X (.type T) r) (hg : Gl X x) (hm : X.mg x = none) (hv : bootBuiltins x = some (.type T)) (ha : PA X (e :: es) t) (hn : x ≠ "__name__" := by decide) (hdb : (x == ("__debug__" : Str)) = false := by decide)
  (he : starEach (e :: es) X.env = (false, eval e X.env) :: starEach es X.env := by rfl) (hpl : (backTo pos (starEach es X.env)).any (·.1) = false := by rfl) : PE X (.Call (.Name x p) (e :: es) [] pos) (tCB r t) := by
 intro pins s σ H Q I h
 refine wpAny_Call_Name_kw (ld_blt I hg hm hv ?_ hn hdb)
 exact PyProof.Rows.callWith_type1 (thn (ha pos pins s σ H _ I h) fun us s1 ⟨vs, H1, I1, r1, q1⟩ => hc pins s1 σ H1 vs us Q I1 r1 q1) he hpl
end
end L2
namespace HT
open PySem PyProof.Rows
section
variable {prog : Program} {w : World} {A : Around} {E : Value → Shared → Prop} {s : Shared}
noncomputable def sIx (n d : Nat) : Option Int → Nat
 | none => d
 | some v => if v < 0 then (v + (n : Int)).toNat else min v.toNat n
theorem sIx_none (n d : Nat) : sIx n d none = d := rfl
theorem sIx_nat (n d k : Nat) : sIx n d (some (k : Int)) = min k n := by
 show (if (k : Int) < 0 then ((k : Int) + (n : Int)).toNat else min (k : Int).toNat n) = min k n
 rw [if_neg (by omega), Int.toNat_natCast]
end
end HT
namespace L2
open PySem PySem.Spec PyProof.Rows
noncomputable abbrev TO := St → Hp → (Option Int → Hp → Prop) → Prop
noncomputable def PO (X : Cx) (e : Option Expr) (t : TO) : Prop :=
 ∀ (pins : List (Addr × Obj)) (s : Shared) (σ : St) (H : Hp) (Q : Option Int → Hp → Prop), Inv X pins σ H s → t σ H Q →
  wpAny (model X.prog X.w) X.A (evalPart e X.env) (fun u s' => ∃ o H', Inv X pins σ H' s' ∧ IsPart u o ∧ Q o H') X.xe s
noncomputable def tNoPart : TO := fun _ H Q => Q none H
noncomputable def tPart (t : TE) : TO := fun σ H Q => t σ H fun x H1 => ∃ i, x = .int i ∧ Q (some i) H1
section
variable {X : Cx} {e : Expr} {te : TE} {lo hi : Option Expr} {tl th : TO} {pos p2 : Pos}
theorem po_none : PO X none tNoPart := by
 intro pins s σ H Q I h
 rw [evalPart_none]
 exact wpAny_pure ⟨none, H, I, .none, h⟩
theorem po_some (h : PE X e te) : PO X (some e) (tPart te) := by
 intro pins s σ H Q I hw
 rw [evalPart_some]
 refine thn (h pins s σ H _ I hw) fun u s1 ⟨x, H1, I1, r1, q1⟩ => ?_
 obtain ⟨i, rfl, q⟩ := q1
 obtain ⟨t, rfl⟩ := r1
 exact ⟨some i, H1, I1, .int i t, q⟩
noncomputable def SlR (X : Cx) (r : V → Option Int → Option Int → Hp → VK → Prop) : Prop :=
 ∀ (pins : List (Addr × Obj)) (s : Shared) (σ : St) (H : Hp) (x : V) (v vl vu : Value) (lo hi : Option Int) (sl : Addr) (Q : VK), Inv X pins σ H s → RelV x v → s.heap.IsSliceOf sl vl vu .none → IsPart vl lo → IsPart vu hi → r x lo hi H Q →
  ∃ T id, typeLookup (.type T) "__getitem__" = pure (some (.builtin id)) ∧ s.TypeIs v T ∧ wpAny (model X.prog X.w) X.A (getItem v (.ref sl)) (EP X pins σ Q) X.xe s
noncomputable def tSl (r : V → Option Int → Option Int → Hp → VK → Prop) (te : TE) (tl th : TO) : TE := fun σ H Q => te σ H fun x H1 => tl σ H1 fun l H2 => th σ H2 fun u H3 => r x l u H3 Q
theorem pe_slice {r : V → Option Int → Option Int → Hp → VK → Prop} (hr : SlR X r) (he : PE X e te) (hl : PO X lo tl) (hu : PO X hi th) : PE X (.Subscript e (.Slice lo hi none p2) pos) (tSl r te tl th) := by
 intro pins s σ H Q I h
 refine Subscript_ (thn (he pins s σ H _ I h) fun v s1 ⟨x, H1, I1, r1, q1⟩ => ?_)
 refine wpAny_Slice (thn (hl pins s1 σ H1 _ I1 q1) fun vl s2 ⟨l, H2, I2, pl, q2⟩ => thn (hu pins s2 σ H2 _ I2 q2) fun vu s3 ⟨u, H3, I3, pu, q3⟩ => ?_)
 rw [evalPart_none]
 refine wpAny_pure ?_
 have I4 : Inv X pins σ H3 { s3 with heap := s3.heap.push { cls := .type "slice", data := .fields #[vl, vu, .none] } } := I3.kept (t' := s3.toks) fun b ob q => Heap.get?_push_of_some _ q
 obtain ⟨T, id, hT, ht, hg⟩ := hr pins { s3 with heap := s3.heap.push { cls := .type "slice", data := .fields #[vl, vu, .none] } } σ H3 x v vl vu l u s3.heap.objs.size Q I4 r1 (Heap.IsSliceOf.new ..) pl pu q3
 show wpAny (model X.prog X.w) X.A (subscriptTail e (.Slice lo hi none p2) v (.ref s3.heap.objs.size)) (EP X pins σ Q) X.xe { s3 with heap := s3.heap.push { cls := .type "slice", data := .fields #[vl, vu, .none] } }
 exact tail_any (ops := [.ref s3.heap.objs.size, v]) ht hT hg (by with_unfolding_all rfl)
noncomputable def cutV (xs : List V) (lo hi : Option Int) : List V := (xs.drop (HT.sIx xs.length 0 lo)).take (HT.sIx xs.length xs.length hi - HT.sIx xs.length 0 lo)
theorem cutV_length (xs : List V) (lo hi : Option Int) : (cutV xs lo hi).length ≤ xs.length := by
 unfold cutV
 rw [List.length_take, List.length_drop]
 omega
end
end L2
namespace L2
open PySem PySem.Spec PyProof.Rows
noncomputable def ixN (n : Nat) (i : Int) : Option Nat := if 0 ≤ i then (if i < n then some i.toNat else none) else if -(n : Int) ≤ i then some (i + n).toNat else none
noncomputable def atI {α : Type} (xs : List α) (i : Int) : Option α := (ixN xs.length i).bind fun j => xs[j]?
theorem ixN_seq {n : Nat} {i : Int} {j : Nat} (h : ixN n i = some j) : seqIndex? i n = some j ∧ j < n ∧ -(n : Int) ≤ i ∧ i < n := by
 unfold ixN at h
 by_cases h0 : 0 ≤ i
 ·rw [if_pos h0] at h
  by_cases h1 : i < n
  ·rw [if_pos h1] at h
   have e : i.toNat = j := Option.some.inj h
   exact ⟨by rw [seqIndex_of h0 h1, e], by omega, by omega, h1⟩
  ·rw [if_neg h1] at h; cases h
 ·rw [if_neg h0] at h
  by_cases h1 : -(n : Int) ≤ i
  ·rw [if_pos h1] at h
   have e : (i + n).toNat = j := Option.some.inj h
   exact ⟨by rw [seqIndex_neg (by omega) h1, e], by omega, h1, by omega⟩
  ·rw [if_neg h1] at h; cases h
theorem atI_get {α : Type} {xs : List α} {i : Int} {v : α} (h : atI xs i = some v) : ∃ j, seqIndex? i xs.length = some j ∧ xs[j]? = some v ∧ j < xs.length ∧ -(xs.length : Int) ≤ i ∧ i < xs.length := by
 unfold atI at h
 cases e : ixN xs.length i with
 | none => rw [e] at h; cases h
 | some j =>
  rw [e] at h
  obtain ⟨h1, h2, h3, h4⟩ := ixN_seq e
  exact ⟨j, h1, h, h2, h3, h4⟩
theorem atI_nat {α : Type} {xs : List α} {j : Nat} {v : α} (h : xs[j]? = some v) : atI xs (j : Int) = some v := by
 have hj : j < xs.length := (List.getElem?_eq_some_iff.mp h).1
 have e : ixN xs.length (j : Int) = some j := by
  unfold ixN
  rw [if_pos (by omega), if_pos (by omega)]; simp
 unfold atI; rw [e]; exact h
noncomputable def PlainIx (b : Expr) : Prop := ∀ o i, subscripted b false o i = operate [o, i] (getItem o i)
noncomputable def IxR (X : Cx) (r : R2) : Prop :=
 ∀ (value slice : Expr) (pins : List (Addr × Obj)) (s : Shared) (σ : St) (H : Hp) (x y : V) (v u : Value) (Q : VK), Inv X pins σ H s → RelV x v → RelV y u → r x y H Q →
  subscripted slice false v u = operate [v, u] (getItem v u) → wpAny (model X.prog X.w) X.A (subscriptTail value slice v u) (EP X pins σ Q) X.xe s
noncomputable def MtR (X : Cx) (id : String) (r : V → List V → Hp → VK → Prop) : Prop :=
 ∀ (pins : List (Addr × Obj)) (s : Shared) (σ : St) (H : Hp) (x : V) (xs : List V) (v : Value) (us : List Value) (Q : VK), Inv X pins σ H s → RelV x v → Vals xs us → r x xs H Q →
  wpAny (model X.prog X.w) X.A (call (.builtin id) (v :: us)) (EP X pins σ Q) X.xe s
section
variable {X : Cx} {a b : Expr} {ta tb : TE} {pos : Pos}
theorem pe_ix {r : R2} (hr : IxR X r) (ha : PE X a ta) (hb : PE X b tb) (hs : PlainIx b) : PE X (.Subscript a b pos) (tOp r ta tb) := by
 intro pins s σ H Q I h
 exact Subscript_ (binT ha hb I h fun v u s2 x y H2 I2 rx ry q => hr a b pins s2 σ H2 x y v u Q I2 rx ry q (hs _ _))
noncomputable def rIxL (K : PySem.W.Frag) : R2 := fun x y H Q => ∃ p xs i v, x = .ref p ∧ y = .int i ∧ SqL K H p xs ∧ atI xs i = some v ∧ Q v H
noncomputable def rIxT (K : PySem.W.Frag) : R2 := fun x y H Q => ∃ p xs i v, x = .ref p ∧ y = .int i ∧ SqT K H p xs ∧ atI xs i = some v ∧ Q v H
theorem ix_list : IxR X (rIxL X.K) := by
 intro value slice pins s σ H x y v u Q I rx ry h hs
 obtain ⟨p, xs, i, z, rfl, rfl, hq, he, q⟩ := h
 cases rx
 obtain ⟨t, rfl⟩ := ry
 obtain ⟨its, r, pl, hz⟩ := I.list hq
 obtain ⟨j, h1, h2, h3, h4, h5⟩ := atI_get he
 obtain ⟨w, ew, rw'⟩ := r.get h2
 have hl := r.length
 have hn := line63
 have fin : EP X pins σ Q w s := ⟨z, H, I, rw', q⟩
 by_cases h0 : 0 ≤ i
 ·have hj : i.toNat = j := by
   rw [seqIndex_of h0 h5] at h1
   exact Option.some.inj h1
  exact item_listR pl.isList h0 (by omega) (by rw [hj]; simpa using ew) fin hs
 ·have hj : (i + (its.toArray.size : Int)).toNat = j := by
   rw [seqIndex_neg (by omega) h4] at h1
   rw [List.size_toArray, ← hl]
   exact Option.some.inj h1
  exact subscriptTail_builtinR (x := w) pl.isList.typeIs slot_list_getitem.lookup
   (wpAny_getItem_list_neg (Q := fun r s' => r = w ∧ EP X pins σ Q r s') pl.isList (by omega) (by rw [List.size_toArray] <;> omega) (by omega) (by rw [hj]; simpa using ew) ⟨rfl, fin⟩) hs
theorem ix_tup : IxR X (rIxT X.K) := by
 intro value slice pins s σ H x y v u Q I rx ry h hs
 obtain ⟨p, xs, i, z, rfl, rfl, hq, he, q⟩ := h
 cases rx
 obtain ⟨t, rfl⟩ := ry
 obtain ⟨its, r, pl, hz⟩ := I.tuple hq
 obtain ⟨j, h1, h2, h3, h4, h5⟩ := atI_get he
 obtain ⟨w, ew, rw'⟩ := r.get h2
 have hl := r.length
 have hn := line63
 have fin : EP X pins σ Q w s := ⟨z, H, I, rw', q⟩
 exact subscriptTail_builtinR (x := w) pl.typeIs slot_tuple_getitem.lookup
  (getItem_tuple (j := j) (Q := fun r s' => r = w ∧ EP X pins σ Q r s') pl (by omega) (by omega) (by rw [List.size_toArray, ← hl]; exact h1) (by simpa using ew) ⟨rfl, fin⟩) hs
theorem slice_bounds (lo hi : Option Int) (n : Nat) : (sliceBounds lo hi none n).1 = ((HT.sIx n 0 lo : Nat) : Int) ∧ (sliceBounds lo hi none n).2.1 = ((HT.sIx n n hi : Nat) : Int) ∧ (sliceBounds lo hi none n).2.2 = 1 := by
 refine ⟨?_, ?_, rfl⟩
 ·cases lo with
  | none => simp [sliceBounds, HT.sIx]
  | some i =>
   simp only [sliceBounds, HT.sIx, Option.getD_none, show (1 : Int) > 0 by decide, if_true]
   by_cases h : i < 0
   ·simp only [h, if_true] <;> omega
   ·simp only [h, if_false] <;> omega
 ·cases hi with
  | none => simp [sliceBounds, HT.sIx]
  | some i =>
   simp only [sliceBounds, HT.sIx, Option.getD_none, show (1 : Int) > 0 by decide, if_true]
   by_cases h : i < 0
   ·simp only [h, if_true] <;> omega
   ·simp only [h, if_false] <;> omega
theorem slicePick_cut (its : List Value) (lo hi : Option Int) : slicePick its.toArray lo hi none = ((its.drop (HT.sIx its.length 0 lo)).take (HT.sIx its.length its.length hi - HT.sIx its.length 0 lo)).toArray := by
 obtain ⟨h1, h2, h3⟩ := slice_bounds lo hi its.toArray.size
 unfold slicePick
 rw [h1, h2, h3]
 simp only [sliceRange_one, pick_run, List.size_toArray] <;> rfl
noncomputable def rSlL (K : PySem.W.Frag) : V → Option Int → Option Int → Hp → VK → Prop := fun x lo hi H Q => ∃ a xs, x = .ref a ∧ SqL K H a xs ∧ ∀ p, H p = none → Q (.ref p) (upd H p (.lst (cutV xs lo hi)))
theorem sl_list : SlR X (rSlL X.K) := by
 intro pins s σ H x v vl vu lo hi sl Q I rx hs pl pu h
 obtain ⟨a, xs, rfl, hx, q⟩ := h
 cases rx
 obtain ⟨its, r, ht, hz⟩ := I.list hx
 have hlen := r.length
 refine ⟨"list", _, slot_list_getitem.lookup, ht.isList.typeIs, ?_⟩
 refine wpAny_getItem_list_slice ht.isList hs pl pu .none (by simp) ?_ (by rw [List.size_toArray] <;> omega)
 rw [slicePick_cut, ← hlen]
 refine ⟨.ref s.heap.objs.size, _, I.laid (t' := s.toks) (o := .lst (cutV xs lo hi)) (fun b ob q => Heap.get?_push_of_some _ q) (Nat.le_refl _) ?_, rfl, q _ (I.hok.fresh (Nat.le_refl _))⟩
 exact ⟨Nat.le_trans (cutV_length xs lo hi) hz, _, 0, (r.drop (HT.sIx xs.length 0 lo)).take (HT.sIx xs.length xs.length hi - HT.sIx xs.length 0 lo), Heap.get?_push_size _ rfl⟩
theorem call_len_seq : CallR X (.builtin "len") (fun xs H Q => ∃ p ys, xs = [.ref p] ∧ (SqL X.K H p ys ∨ SqT X.K H p ys) ∧ Q (.int ys.length) H) := by
 intro pins s σ H xs us Q I r h
 obtain ⟨p, ys, rfl, hq, q⟩ := h
 obtain ⟨u, rfl, rx⟩ := vals1 r
 cases rx
 have hn := line63
 rcases hq with hq | hq
 ·obtain ⟨its, r', pl, hz⟩ := I.list hq
  have hlen := r'.length
  exact Calls.call_len_list pl.isList (by simp only [List.size_toArray] <;> omega) ⟨.int ys.length, H, I.tok _, ⟨s.toks + 1, by rw [List.size_toArray, hlen]⟩, q⟩
 ·obtain ⟨its, r', pl, hz⟩ := I.tuple hq
  have hlen := r'.length
  exact len_tuple pl (by simp only [List.size_toArray] <;> omega) ⟨.int ys.length, H, I.tok _, ⟨s.toks + 1, by rw [List.size_toArray, hlen]⟩, q⟩
theorem call_list_of : CallR X (.type "list") (fun xs H Q => ∃ p ys, xs = [.ref p] ∧ (SqL X.K H p ys ∨ SqT X.K H p ys) ∧ ∀ l, H l = none → Q (.ref l) (upd H l (.lst ys))) := by
 intro pins s σ H xs us Q I r h
 obtain ⟨p, ys, rfl, hq, q⟩ := h
 obtain ⟨u, rfl, rx⟩ := vals1 r
 cases rx
 have fin : ∀ (its : List Value), Vals ys its → ys.length ≤ sizeLine → ∀ (h' : Heap) (c' : Nat), (∀ b o', s.heap.get? b = some o' → h'.get? b = some o') →
   h'.get? s.heap.objs.size = some { cls := .type "list", dict := none, data := .seq its.toArray c', slots := #[] } → EP X pins σ Q (.ref s.heap.objs.size) { s with heap := h' } := fun its r' hz h' c' kp e =>
  ⟨.ref s.heap.objs.size, _, I.laid (t' := s.toks) kp (Nat.le_refl _) (show ObjOk X.prog X.w _ h' _ (.lst ys) from ⟨hz, its, c', r', e⟩), rfl, q _ (I.hok.fresh (Nat.le_refl _))⟩
 rcases hq with hq | hq
 ·obtain ⟨its, r', pl, hz⟩ := I.list hq
  have hlen := r'.length
  obtain ⟨o, ho, hc, n, hd⟩ := pl.isList
  exact call_list_seq p (.inl rfl) ho hc hd (fun h' c' kp e => fin its r' hz h' c' kp e) (by simp only [List.size_toArray] <;> omega)
 ·obtain ⟨its, r', pl, hz⟩ := I.tuple hq
  have hlen := r'.length
  obtain ⟨o, ho, hc, n, hd⟩ := pl
  exact call_list_seq p (.inr rfl) ho hc hd (fun h' c' kp e => fin its r' hz h' c' kp e) (by simp only [List.size_toArray] <;> omega)
noncomputable def tyV (K : PySem.W.Frag) (T : String) (x : V) (H : Hp) : Prop := match x with
 | .str _ => T = "str"
 | .int _ => T = "int"
 | .ref p => (T = "list" ∧ ∃ xs, SqL K H p xs) ∨ (T = "tuple" ∧ ∃ o, K.lookup p = some o ∧ o.cls = .type "tuple" ∧ o.dict = none) ∨
   (T = "dict" ∧ ((∃ kvs, H p = some (.dK kvs)) ∨ ∃ kvs, H p = some (.dT kvs))) ∨ (T = "set" ∧ ∃ S n, H p = some (.set S n))
 | _ => False
theorem tyV_is {pins : List (Addr × Obj)} {σ : St} {H : Hp} {s : Shared} {T : String} {x : V} {v : Value} (I : Inv X pins σ H s) (r : RelV x v) (ty : tyV X.K T x H) :
  s.TypeIs v T ∧ ∀ a, v = .ref a → ∃ ob, s.heap.get? a = some ob ∧ ob.dict = none := by
 cases x with
 | str z =>
  obtain ⟨t, rfl⟩ := r
  cases (show T = "str" from ty)
  exact ⟨typeIs_str s z t, fun _ e => nomatch e⟩
 | int i =>
  obtain ⟨t, rfl⟩ := r
  cases (show T = "int" from ty)
  exact ⟨typeIs_int s i t, fun _ e => nomatch e⟩
 | ref p =>
  cases r
  rcases ty with ⟨rfl, xs, hq⟩ | ⟨rfl, o, hk, hc, hd⟩ | ⟨rfl, hk⟩ | ⟨rfl, S, n, hk⟩
  ·obtain ⟨its, _, pl, _⟩ := I.list hq
   refine ⟨pl.isList.typeIs, fun a e => ?_⟩
   cases e
   obtain ⟨o, n, e, c, hd, _⟩ := pl
   exact ⟨o, e, hd⟩
  ·refine ⟨⟨o, I.kIn p o hk, hc⟩, fun a e => ?_⟩
   cases e
   exact ⟨o, I.kIn _ o hk, hd⟩
  ·have z : ∃ o, s.heap.get? p = some o ∧ o.ExactDict := by
    rcases hk with ⟨kvs, hk⟩ | ⟨kvs, hk⟩
    ·obtain ⟨_, _, _, _, o, _, _, e, ex, _⟩ := I.hok p _ hk
     exact ⟨o, e, ex⟩
    ·obtain ⟨_, _, _, _, o, _, _, e, ex, _⟩ := I.hok p _ hk
     exact ⟨o, e, ex⟩
   obtain ⟨o, e, ex⟩ := z
   refine ⟨⟨o, e, ex.1⟩, fun a e2 => ?_⟩
   cases e2
   exact ⟨o, e, ex.2.1⟩
  ·obtain ⟨o, _, _, _, e, ex, _⟩ := I.hok p _ hk
   refine ⟨⟨o, e, ex.1⟩, fun a e2 => ?_⟩
   cases e2
   exact ⟨o, e, ex.2.1⟩
 | _ => exact False.elim ty
noncomputable def tBM0 (K : PySem.W.Frag) (T : String) (r : V → List V → Hp → VK → Prop) (to : TE) : TE := fun σ H Q => to σ H fun x H1 => tyV K T x H1 ∧ r x [] H1 Q
noncomputable def tBM (K : PySem.W.Frag) (T : String) (r : V → List V → Hp → VK → Prop) (to : TE) (t : TA) : TE := fun σ H Q => to σ H fun x H1 => tyV K T x H1 ∧ t σ H1 fun xs H2 => r x xs H2 Q
variable {o e : Expr} {es : List Expr} {to : TE} {t : TA} {name : Str} {apos cpos : Pos} {T id : String} {r : V → List V → Hp → VK → Prop}
theorem pe_bm0 (pa : PlainAttrs T) (slot : Slot T name id) (hty : typeOf (.builtin id) = pure (.type "method_descriptor")) (hm : MtR X id r) (ho : PE X o to)
  (hbase : attributeBase o name X.env (eval o X.env) = eval o X.env := by rfl) (hline : (apos.endLine == cpos.line) = true := by rfl) : PE X (.Call (.Attribute o name apos) [] [] cpos) (tBM0 X.K T r to) := by
 intro pins s σ H Q I h
 refine wpAny_Call_method0_late hbase hline (thn (ho pins s σ H _ I h) fun v s1 ⟨x, H1, I1, r1, ty, q1⟩ => ?_)
 obtain ⟨h1, h2⟩ := tyV_is I1 r1 ty
 exact ⟨T, id, pa, slot, hty, h1, h2, Calls.callWith_builtin rfl (PySem.evalArgs_none (hm pins s1 σ H1 x [] v [] Q I1 r1 .nil q1))⟩
theorem pe_bm (pa : PlainAttrs T) (slot : Slot T name id) (hty : typeOf (.builtin id) = pure (.type "method_descriptor")) (hm : MtR X id r) (ho : PE X o to) (ha : PA X (e :: es) t)
  (hbase : attributeBase o name X.env (eval o X.env) = eval o X.env := by rfl)
  (hfew : ((backTo cpos (starEach (e :: es) X.env)).all (fun x => !x.1) && (backToKw cpos (keywordEach [] X.env)).all (fun x => x.1.isSome)
   && decide ((e :: es).length + ([] : List Keyword).length + (if ([] : List Keyword).isEmpty then 0 else 1) < 30)) = true := by rfl)
  (hline : (apos.endLine == cpos.line) = true := by rfl) (hs : starEach (e :: es) X.env = (false, eval e X.env) :: starEach es X.env := by rfl) (hplain : (backTo cpos (starEach es X.env)).any (·.1) = false := by rfl) :
  PE X (.Call (.Attribute o name apos) (e :: es) [] cpos) (tBM X.K T r to t) := by
 intro pins s σ H Q I h
 refine wpAny_Call_method_late hbase hfew hline rfl (thn (ho pins s σ H _ I h) fun v s1 ⟨x, H1, I1, r1, ty, q1⟩ => ?_)
 obtain ⟨h1, h2⟩ := tyV_is I1 r1 ty
 refine ⟨T, id, pa, slot, hty, h1, h2, ?_⟩
 have hA := ha cpos pins s1 σ H1 _ I1 q1
 rw [hs] at hA ⊢
 refine Calls.callWith_builtin (by show (false || (backTo cpos (starEach es X.env)).any (·.1)) = false; rw [hplain] <;> rfl) (Calls.evalArgs_plain ?_)
 exact thn hA fun us s2 ⟨vs, H2, I2, r2, q2⟩ => hm pins s2 σ H2 x vs v us Q I2 r1 r2 q2
end
end L2
namespace L2
open PySem PySem.Spec PyProof.Rows
noncomputable def MtM (X : Cx) (id : String) (r : V → List V → Hp → VK → Prop) : Prop :=
 ∀ (pins : List (Addr × Obj)) (s : Shared) (σ : St) (H : Hp) (x : V) (xs : List V) (v : Value) (us : List Value) (Q : VK), Inv X pins σ H s → RelV x v → Vals xs us → r x xs H Q →
  wpAny (model X.prog X.w) X.A (call (.builtin id) (v :: us)) (EP X pins σ Q) X.xe s
theorem Vals.one : ∀ {x : V} {us : List Value}, Vals [x] us → ∃ u, us = [u] ∧ RelV x u
 | _, _, .cons r .nil => ⟨_, rfl, r⟩
theorem Vals.two : ∀ {x y : V} {us : List Value}, Vals [x, y] us → ∃ u v, us = [u, v] ∧ RelV x u ∧ RelV y v
 | _, _, _, .cons r (.cons q .nil) => ⟨_, _, rfl, r, q⟩
theorem Vals.zero : ∀ {us : List Value}, Vals [] us → us = []
 | _, .nil => rfl
theorem Vals.dropLast {xs : List V} {us : List Value} (h : Vals xs us) : Vals xs.dropLast us.dropLast := by
 induction h with
 | nil => exact .nil
 | cons r t ih =>
  cases t with
  | nil => exact .nil
  | cons q t' => exact .cons r ih
section
variable {X : Cx} {pins : List (Addr × Obj)} {σ : St} {H : Hp} {s : Shared} {l b : Addr} {xs ys zs : List V}
theorem Inv.lset {its its' : List Value} {n : Nat} {f : Array Value → Array Value} {t' : Nat} (I : Inv X pins σ H s) (hH : H l = some (.lst xs))
  (e : s.heap.get? l = some { cls := .type "list", data := .seq its.toArray n }) (hf : f its.toArray = its'.toArray) (hv : Vals ys its') (hz : ys.length ≤ sizeLine) :
  Inv X pins σ (upd H l (.lst ys)) { s with heap := s.heap.update l (Obj.mapSeq f), toks := t' } := by
 have q := PySem.IsL.update e f
 rw [hf] at q
 refine I.write (x := l) (e := l) (by rw [hH]; exact trivial) (.inl rfl) (fun b' u hb hu => (Heap.get?_update_other s.heap (Obj.mapSeq f) (Ne.symm hb)).trans hu) ⟨_, q⟩ ?_
 exact ⟨hz, its', _, hv, q⟩
theorem Inv.lnew {its : List Value} {t' : Nat} (I : Inv X pins σ H s) (hv : Vals ys its) (hz : ys.length ≤ sizeLine) :
  Inv X pins σ (upd H s.heap.objs.size (.lst ys)) { s with heap := s.heap.push { cls := .type "list", data := .seq its.toArray }, toks := t' } :=
 I.laid (fun _ _ q => Heap.get?_push_of_some _ q) (Nat.le_refl _) ⟨hz, its, 0, hv, Heap.get?_push_size _ rfl⟩
theorem Inv.fresh (I : Inv X pins σ H s) : H s.heap.objs.size = none := I.hok.fresh (Nat.le_refl _)
theorem Inv.lstM (I : Inv X pins σ H s) (hH : H l = some (.lst xs)) : xs.length ≤ sizeLine ∧ ∃ (its : List Value) (n : Nat), Vals xs its ∧ xs.length = its.length ∧ s.heap.get? l = some { cls := .type "list", data := .seq its.toArray n } := by
 obtain ⟨z, its, n, r, e⟩ := I.hok l _ hH
 exact ⟨z, its, n, r, r.length, e⟩
end
section
variable {X : Cx}
noncomputable def rAppend : V → List V → Hp → VK → Prop := fun x vs H Q => ∃ l xs y, x = .ref l ∧ vs = [y] ∧ H l = some (.lst xs) ∧ xs.length < sizeLine ∧ Q .non (upd H l (.lst (xs ++ [y])))
theorem mt_append : MtM X "list.append" rAppend := by
 intro pins s σ H x vs v us Q I rx rv h
 obtain ⟨l, xs, y, rfl, rfl, hH, hz, q⟩ := h
 cases rx
 obtain ⟨u, rfl, ru⟩ := rv.one
 obtain ⟨z, its, n, r, hl, e⟩ := I.lstM hH
 refine call_meets F.slot_list_append ⟨_, e, rfl⟩ F.entry_list_append (F.args_list_append_2 _ _) (PySem.list_append l its.toArray n u (by rw [List.size_toArray]; omega)) ⟨e, ?_⟩
 refine ⟨.non, _, I.lset (its' := its ++ [u]) hH e (by simp) (r.append (.cons ru .nil)) ?_, rfl, q⟩
 rw [List.length_append, List.length_singleton]
 omega
noncomputable def rClear : V → List V → Hp → VK → Prop := fun x vs H Q => ∃ l xs, x = .ref l ∧ vs = [] ∧ H l = some (.lst xs) ∧ Q .non (upd H l (.lst []))
theorem mt_clear : MtM X "list.clear" rClear := by
 intro pins s σ H x vs v us Q I rx rv h
 obtain ⟨l, xs, rfl, rfl, hH, q⟩ := h
 cases rx
 have hus := rv.zero
 subst hus
 obtain ⟨z, its, n, r, hl, e⟩ := I.lstM hH
 refine call_meets F.slot_list_clear ⟨_, e, rfl⟩ F.entry_list_clear (F.args_list_clear_1 _) (AutoSeq1.list_clear_list_0 l its.toArray n (by rw [List.size_toArray]; omega)) ⟨e, ?_⟩
 exact ⟨.non, _, I.lset (its' := []) (ys := []) hH e rfl .nil (Nat.zero_le _), rfl, q⟩
noncomputable def rCat : R2 := fun x y H Q => ∃ l b xs zs, x = .ref l ∧ y = .ref b ∧ H l = some (.lst xs) ∧ H b = some (.lst zs) ∧ xs.length + zs.length ≤ sizeLine ∧ ∀ p, H p = none → Q (.ref p) (upd H p (.lst (xs ++ zs)))
theorem op_cat : OpR X (binaryOp .Add) rCat := by
 intro pins s σ H x y v u Q I rx ry h
 obtain ⟨l, b, xs, zs, rfl, rfl, hH, hB, hz, q⟩ := h
 cases rx
 cases ry
 obtain ⟨z, its, n, r, hl, e⟩ := I.lstM hH
 obtain ⟨z2, its2, n2, r2, hl2, e2⟩ := I.lstM hB
 refine PySem.P.add_list e e2 ?_ (by rw [List.size_toArray, List.size_toArray]; omega)
 have ea : its.toArray ++ its2.toArray = (its ++ its2).toArray := by simp
 rw [ea]
 exact ⟨.ref _, _, I.lnew (t' := s.toks) (r.append r2) (by rw [List.length_append]; omega), rfl, q _ I.fresh⟩
end
end L2
namespace Att
open PySem PySem.W PySem.Calls PyProof.Rows
theorem ints_of_wellAll {P : Params} {h : Heap} : ∀ (ns : List Int) (vs : List Value), WellAll P h vs (ns.map WData.int) → IntsAre vs ns := by
 intro ns
 induction ns with
 | nil =>
  intro vs w
  rw [List.map_nil] at w
  cases w
  exact .nil
 | cons n ns ih =>
  intro vs w
  rw [List.map_cons] at w
  cases w with
  | cons a b =>
   cases a
   exact .cons _ _ (ih _ b)
theorem script_of {l : OpenLaw} {n : Nat} (hn : l.most = some n) {P : Params} {h : Heap} {args : List WData} {vals : List Value}
  (hpre : l.row.toRowW.claim.pre args = true) (hwl : WellAll P h vals args) :
  ∃ a vs ns, vals = [Value.ref a] ∧ args = [WData.list (ns.map WData.int)] ∧ h.get? a = some { cls := .type "list", data := .seq vs.toArray } ∧ IntsAre vs ns ∧ ns.length ≤ n := by
 have hsh : WShape.hasAll [] args [.list .int] = true := (pre_splitW hpre).1
 have hc : l.pre.holds [] { args := args } = true := (pre_splitW hpre).2
 obtain ⟨d, r, rfl, h1, h2⟩ := hasAllW_cons hsh
 obtain rfl := hasAllW_nil h2
 obtain ⟨xs, rfl, h3⟩ := hasW_list h1
 obtain ⟨ns, rfl⟩ := items_int h3
 have hlen : ns.length ≤ n := by
  unfold OpenLaw.pre at hc
  have h4 : (WTm.not (.lt (.lit (.int (n : Int))) (.len (.arg 0)))).holds [] { args := [.list (ns.map .int)] } = true := by
   have h4 := (holds_andW hc).1
   rw [hn] at h4
   exact h4
  have h5 := condW_of h4 (w_not (w_lt w_lit (w_len_list (w_arg rfl))))
  rw [List.length_map] at h5
  refine Nat.le_of_not_lt fun q => ?_
  have q' : (n : Int) < ((ns.length : Nat) : Int) := by omega
  first
   | (rw [decide_eq_true q'] at h5; exact absurd h5 (by decide))
   | (simp at h5; omega)
 cases hwl with
 | cons w1 w2 =>
  cases w2
  cases w1 with
  | list ho hall => exact ⟨_, _, ns, rfl, rfl, ho, ints_of_wellAll ns _ hall, hlen⟩
theorem post_true (l : OpenLaw) (args : List WData) : l.row.toRowW.claim.post args (.bool true) args = true :=
 postW_of (r := l.row.toRowW) (X := (true == true))
  (show WShape.has [] (.bool true) .bool = true by first | rfl | decide | simp [WShape.has, WShape.arms, WShape.armsAll])
  (show (WTm.eq .res (.lit (.bool true))).value [] { args := args, res := some (.bool true), after := args } = some (.bool (true == true)) from w_eq_bool (w_res rfl) w_lit) rfl
theorem attach_call {l : OpenLaw} {n : Nat} {q : Program} {loose : List Str} {XP : (Str → Option Value) → Heap → Prop} {YP : World → Heap → Prop} {d : DefRec}
  (hn : l.most = some n) (hdf : d.params.defaults = [])
  (call : ∀ (w : World) (s₀ s₁ : Shared) (mg mb : Str → Option Value) (fa : Addr) (o : Obj) (pm cd doc : Value) (a : Addr) (vs : List Value) (ns : List Int),
   Ground q loose [] XP w s₀ mg mb s₁.heap → YP w s₁.heap →
   s₁.heap.get? fa = some o → o.data = .func (docDef d.name d.params d.body d.scope pm cd doc) → s₁.heap.CodeRec cd d.name → mg d.name = some (.ref fa) →
   s₁.heap.get? a = some { cls := .type "list", data := .seq vs.toArray } → IntsAre vs ns → ns.length ≤ n → s₁.gens = #[] →
   codeAny (model l.prog w) callerA (.call (.ref fa) ⟨[.ref a], []⟩) (fun r s' => r = .ok (.ret (.bool true)) ∧ OldK s₁.heap s'.heap ∧ s'.os = s₁.os ∧ AllBare s'.gens) s₁) :
  WalkO q loose XP YP l.row.toRowW d [] (fun f vs => PySem.call f vs) := by
 intro w s₀ s₁ mg mb G Y fa o pm cd doc dV kV ho hd hcd hD hmg hg args vals as hpre hlay hrd hwl hlo
 obtain rfl : dV = .none := Dflts.none hD hdf
 obtain rfl : kV = .none := Dflts.noKw hD
 obtain ⟨a, vs, ns, rfl, rfl, hobj, hints, hlen⟩ := script_of hn hpre hwl
 refine enter_call (codeAny_mono (call w s₀ s₁ mg mb fa o pm cd doc a vs ns G Y ho (fd_plain hd) hcd hmg hobj hints hlen hg) fun r s' hq => ?_)
 obtain ⟨rfl, h2, h3, h4⟩ := hq
 exact ⟨.inl ⟨.bool true, .bool true, [], rfl, fun _ => rfl, .bool true, post_true l _, fun _ => ⟨List.Pairwise.nil, fun _ hm => (nomatch hm)⟩⟩, h2, h3, h4⟩
end Att
namespace L2
open PySem PySem.Spec PyProof.Rows
theorem vals_ints : ∀ {vs : List Value} {ns : List Int}, IntsAre vs ns → Vals (ns.map V.int) vs
 | _, _, .nil => .nil
 | _, _, .cons n t h => .cons ⟨t, rfl⟩ (vals_ints h)
noncomputable def Only (H : Hp) : Prop := ∀ b, H b = none ∨ ∃ o xs, H b = some (.frz o (.lst xs))
theorem law_call {P : Program} {w : World} {K : PySem.W.Frag} {mg mb : Str → Option Value} {CX : CXT} {k : Nat} {fa a : Addr} {fd : FuncData} {x : Str} {sp : Sp} {s₁ : Shared} {vs : List Value} {ns : List Int}
  (KX : K.In s₁.heap) (hns : s₁.heap.Ns mainGlobals mg) (hb : s₁.heap.Ns builtinsNs mb) (hbb : ∀ x : Str, x ≠ "__name__" → mb x = bootBuiltins x) (hlim : s₁.heap.NoLimit) (hg : s₁.gens = #[])
  (ha : s₁.heap.get? a = some { cls := .type "list", data := .seq vs.toArray }) (hi : IntsAre vs ns) (hl : ns.length ≤ sizeLine) (hr : Room k callerA)
  (F : ∀ base : Heap, K.In base → base.Ns mainGlobals mg → FnOk P w K mg base CX k fa fd [x] sp) (hbind : ∀ (s : Shared) (u : Value), BindsTo s fd ⟨[u], []⟩ [(x, u)])
  (hsp : ∀ H : Hp, Only H → SqL K H a (ns.map V.int) → sp [.ref a] H (fun v _ => v = .bl true) fun _ _ _ => False)
  (hCX : ∀ H e s', CX [] H s₁ (fun _ _ _ => False) e s' → False) :
  codeAny (model P w) callerA (.call (.ref fa) ⟨[.ref a], []⟩) (fun r s' => r = .ok (.ret (.bool true)) ∧ OldK s₁.heap s'.heap ∧ s'.os = s₁.os ∧ AllBare s'.gens) s₁ := by
 have rv := vals_ints hi
 have lenV := hi.length
 -- from an abstract heap in which nothing but the script may be tracked
 have core : ∀ H : Hp, Only H → SqL K H a (ns.map V.int) → HOk P w H s₁.heap → (∀ b, H b ≠ none → b = a) → (H a ≠ none → K.lookup a = none) →
   codeAny (model P w) callerA (.call (.ref fa) ⟨[.ref a], []⟩) (fun r s' => r = .ok (.ret (.bool true)) ∧ OldK s₁.heap s'.heap ∧ s'.os = s₁.os ∧ AllBare s'.gens) s₁ := by
  intro H hO hS hok hA hK
  have base_of : ∀ {b : Addr} {o : Obj}, s₁.heap.get? b = some o → H b = none → (hidT s₁.heap H).get? b = some o := fun e n => hidT_get e n
  have noA : ∀ {b : Addr} {o : Obj} {es : Array DictEntry} {ep : Nat}, s₁.heap.get? b = some o → o.data = .dict es ep → H b = none := fun {b o es ep} e d => by
   cases q : H b with
   | none => rfl
   | some u =>
    have e' : b = a := hA b (by rw [q]; simp)
    subst e'
    rw [ha] at e; cases e
    have d' : Data.seq vs.toArray _ = Data.dict es ep := d
    cases d'
  have nsK : ∀ {b : Addr} {m : Str → Option Value}, s₁.heap.Ns b m → (hidT s₁.heap H).Ns b m := fun {b m} ⟨o, es, ep, e, d, r⟩ => ⟨o, es, ep, base_of e (noA e d), d, r⟩
  have hKb : K.In (hidT s₁.heap H) := fun b o e => base_of (KX b o e) (by
   cases q : H b with
   | none => rfl
   | some u =>
    have e' : b = a := hA b (by rw [q]; simp)
    subst e'
    rw [hK (by rw [q]; simp)] at e; cases e)
  have hM : Mod K mg (hidT s₁.heap H) := ⟨hKb, nsK hns, ⟨mb, nsK hb, hbb⟩, let ⟨mc, h1, h2⟩ := hlim; ⟨mc, nsK h1, h2⟩⟩
  have e0 : Env0 P w K mg (hidT s₁.heap H) callerA [] s₁ H := ⟨rfl, hM, fun b o e => of_hidT e, Nat.le_of_eq (hidT_size _ _), trivial, fun b hb => absurd (show b ∈ ([] : List Addr) from hb) (by simp), hok, .of_eq hg⟩
  refine codeAny_mono ((F _ hKb (nsK hns)).run callerA [] s₁ H ⟨[.ref a], []⟩ [.ref a] [.ref a] _ _ hr e0 (hbind s₁ (.ref a)) (.cons rfl .nil) (hsp H hO hS)) fun r s' h => ?_
  cases r with
  | error e => exact (hCX H e s' h).elim
  | ok fl =>
   cases fl with
   | next => exact False.elim h
   | brk => exact False.elim h
   | cont => exact False.elim h
   | ret u =>
    obtain ⟨v, H', os, bare, un, hok', r', q⟩ := h
    have q' : v = .bl true := q
    subst q'
    obtain rfl : u = Value.bool true := r'
    refine ⟨rfl, OldK.of_keep fun b o e => ?_, os, bare⟩
    cases q : H b with
    | none => exact un.keep b o e q (by intro z; exact absurd (show b ∈ ([] : List Addr) from z) (by simp)) (by simp)
    | some u =>
     rcases hO b with z | ⟨ob, xs, z⟩
     ·rw [q] at z; cases z
     ·have z2 := un.frzs b ob _ z
      obtain ⟨e1, _⟩ := hok b _ z
      obtain ⟨e2, _⟩ := hok' b _ z2
      rw [e] at e1; cases e1
      exact e2
 cases hk : K.lookup a with
 | some o =>
  -- the script is one of the module's own objects
  have e := KX a o hk
  rw [ha] at e
  cases e
  refine core (fun _ => none) (fun _ => .inl rfl) (.inr ⟨_, vs.toArray, _, hk, rfl, rfl, rfl, by rw [List.size_toArray, lenV]; exact hl, by simpa using rv⟩) (fun b u z => by have z' : (none : Option HO) = some u := z; cases z') (fun b z => absurd rfl z) fun z => absurd rfl z
 | none =>
  refine core (fun b => if b = a then some (.frz { cls := .type "list", data := .seq vs.toArray } (.lst (ns.map V.int))) else none) (fun b => ?_) (.inl (.inr ⟨{ cls := .type "list", data := .seq vs.toArray }, if_pos rfl⟩)) (fun b u z => ?_) (fun b z => ?_) fun _ => hk
  ·by_cases hb : b = a
   ·exact .inr ⟨_, _, if_pos hb⟩
   ·exact .inl (if_neg hb)
  ·by_cases hb : b = a
   ·have z' := (if_pos hb).symm.trans z
    cases z'
    subst hb
    exact ⟨ha, by rw [List.length_map]; exact hl, vs, _, rv, ha⟩
   ·have z' := (if_neg hb).symm.trans z
    cases z'
  ·by_cases hb : b = a
   ·exact hb
   ·exact absurd (if_neg hb) z
end L2
namespace L2
open PySem PySem.Spec PyProof.Rows
theorem walk_of {l : PySem.W.OpenLaw} {n k : Nat} {q : Program} {loose : List Str} {XP : (Str → Option Value) → Heap → Prop} {YP : World → Heap → Prop} {d : DefRec} {K : Params → PySem.W.Frag} {CX : World → CXT} {sp : World → Sp} {x : Str}
  (hn : l.most = some n) (hn2 : n ≤ sizeLine) (hdf : d.params.defaults = []) (hr : Room k callerA)
  (hY : ∀ (w : World) (h : Heap), YP w h → (K w.params).In h)
  (F : ∀ (w : World) (mg : Str → Option Value) (fa : Addr) (h : Heap), (K w.params).In h → h.Ns mainGlobals mg → mg d.name = some (.ref fa) →
   ∃ fd : FuncData, (∀ (s : Shared) (u : Value), BindsTo s fd ⟨[u], []⟩ [(x, u)]) ∧
    ∀ base : Heap, (K w.params).In base → base.Ns mainGlobals mg → FnOk l.prog w (K w.params) mg base (CX w) k fa fd [x] (sp w))
  (hsp : ∀ (w : World) (H : Hp) (a : Addr) (ns : List Int), ns.length ≤ n → Only H → SqL (K w.params) H a (ns.map V.int) → sp w [.ref a] H (fun v _ => v = .bl true) fun _ _ _ => False)
  (hCX : ∀ (w : World) (H : Hp) (s : Shared) (e : Value) (s' : Shared), CX w [] H s (fun _ _ _ => False) e s' → False) :
  PySem.W.WalkO q loose XP YP l.row.toRowW d [] (fun f vs => PySem.call f vs) := by
 refine Att.attach_call hn hdf fun w s₀ s₁ mg mb fa o pm cd doc a vs ns G Y ho hd hcd hmg hobj hints hlen hg => ?_
 have KX := hY w _ Y
 obtain ⟨fd, hb, hF⟩ := F w mg fa _ KX G.T.g hmg
 exact law_call KX G.T.g G.T.b G.T.builtins G.T.nolimit hg hobj hints (Nat.le_trans hlen hn2) hr hF hb (fun H hO hS => hsp w H a ns hlen hO hS) fun H e s' => hCX w H s₁ e s'
end L2
namespace L2
open PySem PySem.Spec PyProof.Rows
noncomputable def defArgs (s : Stmt) : Arguments := match s with
 | .FunctionDef _ a _ _ _ _ _ _ _ _ => a
 | _ => { posonlyargs := [], args := [], vararg := none, kwonlyargs := [], kw_defaults := [], kwarg := none, defaults := [] }
noncomputable def defBody (s : Stmt) : List Stmt := match s with
 | .FunctionDef _ _ b _ _ _ _ _ _ _ => b
 | _ => []
noncomputable def defScope (s : Stmt) : Scope := match s with
 | .FunctionDef _ _ _ _ _ _ sc _ _ _ => sc
 | _ => { kind := .function, names := [], isGenerator := false, isCoroutine := false }
noncomputable abbrev E0 : XK := fun _ _ _ => False
structure Fun (K : PySem.W.Frag) (x qual : Str) (st : Stmt) (f : Addr) (fd : FuncData) : Prop where
 ex : ∃ (oc : Value) (od : Option Addr) (kV doc pm : Value) (an : Option Addr) (cdv ct : Value) (osl : Array (Option Value)),
  fd = PySem.W.fnOf x qual (defArgs st) (defBody st) (defScope st) .none kV doc pm an cdv ct ∧ K.lookup f = some ⟨oc, od, .func fd, osl⟩ ∧ PySem.W.codeIn K cdv qual = true
 kp : PySem.W.keepIn K (.ref f) = true
section
variable {P : Program} {w : World} {K : PySem.W.Frag} {mg : Str → Option Value} {base : Heap}
theorem Fun.binds {x qual : Str} {st : Stmt} {f : Addr} {fd : FuncData} {ps : List Str} (F : Fun K x qual st f fd)
  (h : ∀ (kV doc pm : Value) (an : Option Addr) (cdv ct : Value) (us : List Value), us.length = ps.length → bindArgs (PySem.W.fnOf x qual (defArgs st) (defBody st) (defScope st) .none kV doc pm an cdv ct) ⟨us, []⟩ = pure (ps.zip us)) : Binds K fd ps [] := by
 obtain ⟨oc, od, kV, doc, pm, an, cdv, ct, osl, rfl, lk, hcd⟩ := F.ex
 exact .all (h kV doc pm an cdv ct)
theorem fun_mk {x qual : Str} {st : Stmt} {f : Addr} {oc : Value} {od an : Option Addr} {osl : Array (Option Value)} {kV doc pm cdv ct : Value} (l : K.lookup f = some ⟨oc, od, .func (PySem.W.fnOf x qual (defArgs st) (defBody st) (defScope st) .none kV doc pm an cdv ct), osl⟩)
  (c : PySem.W.codeIn K cdv qual = true) (k : PySem.W.keepIn K (.ref f) = true) : Fun K x qual st f (PySem.W.fnOf x qual (defArgs st) (defBody st) (defScope st) .none kV doc pm an cdv ct) := ⟨⟨oc, od, kV, doc, pm, an, cdv, ct, osl, rfl, l, c⟩, k⟩
end
theorem hu_of {A : Around} {k : Nat} (hr : Room k A) : A.units + 1 < cLine := Nat.lt_of_le_of_lt (Nat.add_le_add_left (by decide : 1 ≤ 64) _) hr.units
section
variable {X : Cx}
theorem pv (i : Nat) {x : Str} {pos : Pos} (hN : X.N[i]? = some x := by rfl) (hv : Vis X.env.scope x := by first | exact Or.inl rfl | exact Or.inr (Or.inl rfl) | exact Or.inr (Or.inr rfl)) (hd : (x == ("__debug__" : Str)) = false := by decide)
  (hcd : (x == ("__classdict__" : Str)) = false := by decide) : PE X (.Name x pos) (tVar i) := pe_var hN hv hd hcd
end
end L2
set_option Elab.async false
set_option linter.all false
set_option maxRecDepth 100000
namespace L2
open PySem PySem.Spec PyProof.Rows
section
variable {κ : Type} [DecidableEq κ]
noncomputable def valV (kvs : List (κ × V)) (k : κ) : Option V := (kvs.find? fun kv => decide (kv.1 = k)).map (·.2)
noncomputable def putK (kvs : List (κ × V)) (k : κ) (v : V) : List (κ × V) :=
 if (kvs.any fun kv => decide (kv.1 = k)) = true then kvs.map (fun kv => if kv.1 = k then (kv.1, v) else kv) else kvs ++ [(k, v)]
theorem valV_pos {p : κ × V} {r : List (κ × V)} {k : κ} (e : p.1 = k) : valV (p :: r) k = some p.2 := by simp [valV, List.find?_cons, e]
theorem valV_neg {p : κ × V} {r : List (κ × V)} {k : κ} (e : ¬ p.1 = k) : valV (p :: r) k = valV r k := by simp [valV, List.find?_cons, e]
theorem valV_any (k : κ) : ∀ kvs : List (κ × V), (kvs.any fun kv => decide (kv.1 = k)) = (valV kvs k).isSome
 | [] => rfl
 | p :: r => by
  rw [List.any_cons]
  by_cases e : p.1 = k
  ·simp only [valV_pos e, decide_eq_true e, Bool.true_or, Option.isSome_some]
  ·rw [valV_neg e, decide_eq_false e, Bool.false_or]; exact valV_any k r
theorem length_putK (kvs : List (κ × V)) (k : κ) (v : V) : (putK kvs k v).length ≤ kvs.length + 1 := by
 unfold putK
 split
 ·rw [List.length_map]; omega
 ·rw [List.length_append, List.length_cons, List.length_nil]; omega
theorem RelO.isSome_eq {o : Option V} {u : Option Value} (r : RelO o u) : o.isSome = u.isSome := by
 cases o with
 | none => cases u with
  | none => rfl
  | some _ => exact (show False from r).elim
 | some _ => cases u with
  | none => exact (show False from r).elim
  | some _ => rfl
theorem KV.val {kvs : List (κ × V)} {vs : List (κ × Value)} (r : KV kvs vs) (k : κ) : RelO (valV kvs k) (valueAt vs k) := by
 unfold KV at r
 induction r with
 | nil => exact True.intro
 | @cons p q ps qs h t ih =>
  obtain ⟨h1, h2⟩ := h
  by_cases e : p.1 = k
  ·have e' : q.1 = k := h1.symm.trans e
   have b : valueAt (q :: qs) k = some q.2 := by simp [valueAt, List.find?_cons, e']
   rw [valV_pos e, b]; exact h2
  ·have e' : ¬ q.1 = k := fun z => e (h1.trans z)
   have b : valueAt (q :: qs) k = valueAt qs k := by simp [valueAt, List.find?_cons, e']
   rw [valV_neg e, b]; exact ih
theorem KV.any {kvs : List (κ × V)} {vs : List (κ × Value)} (r : KV kvs vs) (k : κ) : (kvs.any fun kv => decide (kv.1 = k)) = vs.any fun kv => decide (kv.1 = k) := by
 unfold KV at r
 induction r with
 | nil => rfl
 | cons h t ih => rw [List.any_cons, List.any_cons, ih, h.1]
theorem KV.repl {kvs : List (κ × V)} {vs : List (κ × Value)} (r : KV kvs vs) (k : κ) {y : V} {u : Value} (ry : RelV y u) :
  KV (kvs.map fun kv => if kv.1 = k then (kv.1, y) else kv) (vs.map fun kv => if kv.1 = k then (kv.1, u) else kv) := by
 unfold KV at r ⊢
 induction r with
 | nil => exact .nil
 | @cons p q ps qs h t ih =>
  rw [List.map_cons, List.map_cons]
  refine .cons ?_ ih
  obtain ⟨h1, h2⟩ := h
  by_cases e : p.1 = k
  ·rw [if_pos e, if_pos (h1.symm.trans e)]; exact ⟨h1, ry⟩
  ·rw [if_neg e, if_neg (fun z => e (h1.trans z))]; exact ⟨h1, h2⟩
theorem KV.put {kvs : List (κ × V)} {vs : List (κ × Value)} (r : KV kvs vs) (k : κ) {y : V} {u : Value} (ry : RelV y u) : KV (putK kvs k y) (stored vs k u) := by
 unfold putK stored
 rw [r.any k]
 by_cases e : (vs.any fun kv => decide (kv.1 = k)) = true
 ·rw [if_pos e, if_pos e]; exact r.repl k ry
 ·rw [if_neg e, if_neg e]; exact Paired.snoc r ⟨rfl, ry⟩
theorem KV.length {kvs : List (κ × V)} {vs : List (κ × Value)} (r : KV kvs vs) : kvs.length = vs.length := Paired.length r
end
theorem kV_is {P : Program} {w : World} {k : Key} {u : Value} (r : RelV (kV k) u) : (mixKind P w).is k u = true := by
 cases k with
 | inl i => obtain ⟨t, e⟩ := (show ∃ t, u = Value.int i t from r); subst e; exact mixKind_int P w i t
 | inr x => obtain ⟨t, e⟩ := (show ∃ t, u = Value.str x t from r); subst e; exact mixKind_str P w x t
theorem items_are {P : Program} {w : World} : ∀ {ks : List Key} {us : List Value}, Vals (ks.map kV) us → ItemsAre (mixKind P w) ks us
 | [], _, r => by rw [List.map_nil] at r; cases r; exact .nil
 | k :: ks, _, r => by
  rw [List.map_cons] at r
  cases r with
  | cons h t => exact .cons (kV_is h) (items_are t)
noncomputable abbrev KT (H : Hp) : List (List Key × V) → List (List Key × Addr × Value) → Prop := Paired fun p q => p.1 = q.1 ∧ H q.2.1 = some (.tup (p.1.map kV)) ∧ RelV p.2 q.2.2
theorem KT.val {H : Hp} {kvs : List (List Key × V)} {xs : List (List Key × Addr × Value)} (r : KT H kvs xs) (k : List Key) : RelO (valV kvs k) ((atKey xs k).map (·.2)) := by
 induction r with
 | nil => exact True.intro
 | @cons p q ps qs h t ih =>
  obtain ⟨h1, _, h2⟩ := h
  by_cases e : p.1 = k
  ·have e' : q.1 = k := h1.symm.trans e
   have b : atKey (q :: qs) k = some q.2 := by simp [atKey, List.find?_cons, e']
   rw [valV_pos e, b]; exact h2
  ·have e' : ¬ q.1 = k := fun z => e (h1.trans z)
   have b : atKey (q :: qs) k = atKey qs k := by simp [atKey, List.find?_cons, e']
   rw [valV_neg e, b]; exact ih
theorem KT.repl {H : Hp} {kvs : List (List Key × V)} {xs : List (List Key × Addr × Value)} (r : KT H kvs xs) (k : List Key) {y : V} {u : Value} (ry : RelV y u) :
  KT H (kvs.map fun kv => if kv.1 = k then (kv.1, y) else kv) (xs.map (putAt k u)) := by
 induction r with
 | nil => exact .nil
 | @cons p q ps qs h t ih =>
  rw [List.map_cons, List.map_cons]
  refine .cons ?_ ih
  obtain ⟨h1, h2, h3⟩ := h
  unfold putAt
  by_cases e : p.1 = k
  ·rw [if_pos e, if_pos (h1.symm.trans e)]; exact ⟨h1, h2, ry⟩
  ·rw [if_neg e, if_neg (fun z => e (h1.trans z))]; exact ⟨h1, h2, h3⟩
theorem KT.put {H : Hp} {kvs : List (List Key × V)} {xs : List (List Key × Addr × Value)} (r : KT H kvs xs) (k : List Key) {b : Addr} {y : V} {u : Value} (hb : H b = some (.tup (k.map kV))) (ry : RelV y u) :
  KT H (putK kvs k y) (storedH xs k b u) := by
 have e : (kvs.any fun kv => decide (kv.1 = k)) = (atKey xs k).isSome := by
  rw [valV_any, (r.val k).isSome_eq, Option.isSome_map]
 unfold putK storedH
 rw [e]
 by_cases q : (atKey xs k).isSome = true
 ·rw [if_pos q, if_pos q]; exact r.repl k ry
 ·rw [if_neg q, if_neg q]; exact Paired.snoc r ⟨rfl, hb, ry⟩
theorem KT.keeps {H H' : Hp} {kvs : List (List Key × V)} {xs : List (List Key × Addr × Value)} (r : KT H kvs xs) (ht : ∀ b ys, H b = some (.tup ys) → H' b = some (.tup ys)) : KT H' kvs xs :=
 Paired.mapP r fun _ _ z => ⟨z.1, ht _ _ z.2.1, z.2.2⟩
section
variable {P : Program} {w : World} {H : Hp} {h : Heap} {a : Addr}
theorem rd_of {u : HO} (ok : HOk P w H h) (e : Rd H a u) : ObjOk P w H h a u := e.ok ok
theorem dk_rd {kvs : List (Key × V)} (ok : HOk P w H h) (e : Rd H a (.dK kvs)) : kvs.length ≤ sizeLine ∧ (a == sysModules) = false ∧ ∃ vs, KV kvs vs ∧ h.DictOf (mixKind P w) a vs :=
 show ObjOk P w H h a (.dK kvs) from rd_of ok e
theorem dk_of {kvs : List (Key × V)} (ok : HOk P w H h) (e : H a = some (.dK kvs)) : kvs.length ≤ sizeLine ∧ (a == sysModules) = false ∧ ∃ vs, KV kvs vs ∧ h.DictOf (mixKind P w) a vs := dk_rd ok (.inl e)
theorem key_of {ks : List Key} (ok : HOk P w H h) (e : H a = some (.tup (ks.map kV))) : (tupleKind (mixKind P w)).is h ks a := by
 obtain ⟨_, its, r, o, h1, h2, n, h3⟩ := (show ObjOk P w H h a (.tup (ks.map kV)) from ok a _ e)
 exact ⟨o, its.toArray, n, h1, h2, h3, by simpa using items_are r⟩
theorem dt_rd {kvs : List (List Key × V)} (ok : HOk P w H h) (e : Rd H a (.dT kvs)) : kvs.length ≤ sizeLine ∧ (a == sysModules) = false ∧
  ∃ xs, KT H kvs xs ∧ h.DictOfH (tupleKind (mixKind P w)) a xs := by
 obtain ⟨z, y, xs, r, o, es, ep, h1, h2, h3, h4, h5⟩ := (show ObjOk P w H h a (.dT kvs) from rd_of ok e)
 refine ⟨z, y, xs, r, o, es, ep, h1, h2, h3, h4, fun x hx => ?_, h5⟩
 have all : ∀ {l : List (List Key × V)} {m : List (List Key × Addr × Value)}, KT H l m → ∀ x ∈ m, (tupleKind (mixKind P w)).is h x.1 x.2.1 := by
  intro l m q
  induction q with
  | nil => intro x hx; exact nomatch hx
  | @cons p q ps qs hq t ih =>
   intro x hx
   rcases List.mem_cons.mp hx with e | hx
   ·subst e
    exact key_of ok (by rw [← hq.1]; exact hq.2.1)
   ·exact ih x hx
 exact all r x hx
theorem dt_of {kvs : List (List Key × V)} (ok : HOk P w H h) (e : H a = some (.dT kvs)) : kvs.length ≤ sizeLine ∧ (a == sysModules) = false ∧
  ∃ xs, KT H kvs xs ∧ h.DictOfH (tupleKind (mixKind P w)) a xs := dt_rd ok (.inl e)
end
noncomputable def DGet (H : Hp) (a : Addr) (y : V) (r : Option V) : Prop :=
 (∃ kvs k, Rd H a (.dK kvs) ∧ y = kV k ∧ r = valV kvs k) ∨ ∃ kvs k b, Rd H a (.dT kvs) ∧ y = .ref b ∧ H b = some (.tup (k.map kV)) ∧ r = valV kvs k
noncomputable def DPut (H : Hp) (a : Addr) (y v : V) (H' : Hp) : Prop :=
 (∃ kvs k, H a = some (.dK kvs) ∧ y = kV k ∧ kvs.length < sizeLine ∧ H' = upd H a (.dK (putK kvs k v))) ∨
 ∃ kvs k b, H a = some (.dT kvs) ∧ y = .ref b ∧ H b = some (.tup (k.map kV)) ∧ kvs.length < sizeLine ∧ H' = upd H a (.dT (putK kvs k v))
theorem DGet.k {H : Hp} {a : Addr} {kvs : List (Key × V)} {k : Key} (e : H a = some (.dK kvs)) : DGet H a (kV k) (valV kvs k) := .inl ⟨kvs, k, .inl e, rfl, rfl⟩
theorem DPut.k {H : Hp} {a : Addr} {kvs : List (Key × V)} {k : Key} {v : V} (e : H a = some (.dK kvs)) (hl : kvs.length < sizeLine) : DPut H a (kV k) v (upd H a (.dK (putK kvs k v))) := .inl ⟨kvs, k, e, rfl, hl, rfl⟩
section
variable {X : Cx} {pins : List (Addr × Obj)} {σ : St} {H : Hp} {s : Shared} {a : Addr} {y v : V} {u r : Value} {o : Option V} {A : Around} {E : Value → Shared → Prop}
theorem Inv.big (I : Inv X pins σ H s) : sysModules < s.heap.objs.size := by
 have h : mainGlobals < s.heap.objs.size := (I.mod.glob.keeps I.bk).lt
 exact Nat.lt_trans (by decide) h
theorem d_getItem {Q : Value → Shared → Prop} (hu : A.units + 1 < cLine) (I : Inv X pins σ H s) (g : DGet H a y (some v)) (ry : RelV y u) (h : ∀ w' s', Inv X pins σ H s' → RelV v w' → Q w' s') :
  wpAny (model X.prog X.w) A (getItem (.ref a) u) Q E s := by
 rcases g with ⟨kvs, k, e, ey, l⟩ | ⟨kvs, k, b, e, ey, eb, l⟩
 ·subst ey
  obtain ⟨z, hd, vs, rel, dd⟩ := dk_rd I.hok e
  obtain ⟨w', hw, rw'⟩ := RelO.some_of (v := v) (o := valueAt vs k) (by rw [l]; exact rel.val k)
  exact wpAny_getItem_of (kV_is ry) dd.mapOf hw (h w' _ (I.tok _) rw')
 ·subst ey
  cases (show u = Value.ref b from ry)
  obtain ⟨z, hd, xs, rel, dd⟩ := dt_rd I.hok e
  obtain ⟨w', hw, rw'⟩ := RelO.some_of (v := v) (o := (atKey xs k).map (·.2)) (by rw [l]; exact rel.val k)
  obtain ⟨p, hp, hp2⟩ := Option.map_eq_some_iff.mp hw
  refine wpAny_getItem_heap (tupleKind_room_in1 hu) (key_of I.hok eb) dd hp ?_
  rw [hp2]
  exact h w' _ (I.tok _) rw'
theorem d_write {h' : Heap} {t' : Nat} {ob : HO} (I : Inv X pins σ H s) (mu : Mut (H a)) (hs : Heap.SameBut a s.heap h') (he : ∃ q, h'.get? a = some q) (new : ObjOk X.prog X.w (upd H a ob) h' a ob) :
  Inv X pins σ (upd H a ob) { s with heap := h', toks := t' } :=
 I.write (x := a) (e := a) mu (.inl rfl) (fun b q hb z => (hs.2 b hb).trans z) he new
theorem dk_new {P : Program} {w : World} {H' : Hp} {h' : Heap} {kvs : List (Key × V)} {vs : List (Key × Value)} (z : kvs.length ≤ sizeLine) (hd : (a == sysModules) = false) (rel : KV kvs vs) (dd : h'.DictOf (mixKind P w) a vs) :
  ObjOk P w H' h' a (.dK kvs) := ⟨z, hd, vs, rel, dd⟩
theorem d_setItem {H' : Hp} {Q : Unit → Shared → Prop} (hu : A.units + 1 < cLine) (I : Inv X pins σ H s) (g : DPut H a y v H') (ry : RelV y u) (rv : RelV v r) (h : ∀ s', Inv X pins σ H' s' → Q () s') :
  wpAny (model X.prog X.w) A (setItem (.ref a) u r) Q E s := by
 rcases g with ⟨kvs, k, e, ey, l, eH⟩ | ⟨kvs, k, b, e, ey, eb, l, eH⟩
 ·subst ey eH
  obtain ⟨z, hd, vs, rel, dd⟩ := dk_of I.hok e
  have hz : vs.length ≤ sizeLine := by rw [← rel.length]; exact z
  have hl : (putK kvs k v).length ≤ sizeLine := by have := length_putK kvs k v; omega
  refine wpAny_setItem_pairs (hsz := hz) (kV_is ry) dd fun h' dd' hs => h _ ?_
  have he : ∃ q, h'.get? a = some q := let ⟨q, _, _, hq, _⟩ := dd'; ⟨q, hq⟩
  exact d_write I (by rw [e]; exact True.intro) hs he (dk_new hl hd (rel.put k rv) dd')
 ·subst ey eH
  cases (show u = Value.ref b from ry)
  obtain ⟨z, hd, xs, rel, dd⟩ := dt_of I.hok e
  have hz : xs.length ≤ sizeLine := by rw [← Paired.length rel]; exact z
  have hl : (putK kvs k v).length ≤ sizeLine := by have := length_putK kvs k v; omega
  refine wpAny_setItem_heap (hsz := hz) (tupleKind_room_in1 hu) (key_of I.hok eb) dd fun h' dd' hs => h _ ?_
  obtain ⟨q, es, ep, hq, h2, h3, h4, _, h5⟩ := dd'
  refine d_write I (by rw [e]; exact True.intro) hs ⟨q, hq⟩ ⟨hl, hd, _, (rel.put k eb rv).keeps fun c ys ec => ?_, q, es, ep, hq, h2, h3, h4, h5⟩
  rw [upd_ne (ne_of ec e (fun z => nomatch z))]
  exact ec
end
noncomputable def NoSl (i : Expr) : Prop := ∀ ov iv, subscripted i false ov iv = operate [ov, iv] (getItem ov iv)
theorem subD_of {prog : Program} {w : World} {A : Around} {E : Value → Shared → Prop} {s : Shared} {env : Env} {value slice : Expr} {pos : Pos} {T id : String} {Q : Value → Shared → Prop}
  (hl : typeLookup (.type T) "__getitem__" = pure (some (.builtin id))) (hs : NoSl slice)
  (h : wpAny (model prog w) A (eval value env) (fun o s₁ => wpAny (model prog w) A (eval slice env) (fun i s₂ => s₂.TypeIs o T ∧ wpAny (model prog w) A (getItem o i) Q E s₂) E s₁) E s) :
  wpAny (model prog w) A (eval (.Subscript value slice pos) env) Q E s := by
 refine Subscript_ (wpAny_mono h (fun o s₁ h₁ => wpAny_mono h₁ (fun i s₂ h₂ => ?_) fun _ _ x => x) fun _ _ x => x)
 obtain ⟨hT, h₂⟩ := h₂
 unfold subscriptTail
 refine wpAny_bind ?_
 rw [getitemInPython_of_ne hT.not_modules]
 refine wpAny_bind (wpAny_specialOf hT hl ?_)
 have fin : wpAny (model prog w) A (subscripted slice false o i) (fun r s₃ => wpAny (model prog w) A (letTemporaryGo value o r >>= fun _ => pure r) Q E s₃) E s₂ := by
  rw [hs o i]
  exact wpAny_operating (wpAny_mono h₂ (fun r s₃ h₃ => wpAny_bind (wpAny_letTemporaryGo (wpAny_pure h₃))) fun _ _ x => x)
 first
  | exact wpAny_pure (wpAny_bind fin)
  | exact wpAny_bind (wpAny_pure (wpAny_bind fin))
  | exact wpAny_bind fin
theorem dict_typeIs {X : Cx} {pins : List (Addr × Obj)} {σ : St} {H : Hp} {s : Shared} {a : Addr} {y : V} {o : Option V} (I : Inv X pins σ H s) (g : DGet H a y o) : s.TypeIs (.ref a) "dict" := by
 rcases g with ⟨kvs, k, e, _, _⟩ | ⟨kvs, k, b, e, _, _, _⟩
 ·obtain ⟨_, _, vs, _, dd⟩ := dk_rd I.hok e
  exact dd.typeIs
 ·obtain ⟨_, _, xs, _, dd⟩ := dt_rd I.hok e
  exact dd.typeIs
theorem dk_empty {P : Program} {w : World} {H : Hp} (h : Heap) (hb : sysModules < h.objs.size) : ObjOk P w H (h.push { cls := .type "dict", data := .dict #[] }) h.objs.size (.dK []) :=
 ⟨Nat.zero_le _, beq_eq_false_iff_ne.mpr (Ne.symm (Nat.ne_of_lt hb)), [], .nil, Heap.DictOf.new h⟩
noncomputable def tPairs : List (TE × TE) → St → Hp → (List (V × V) → Hp → Prop) → Prop
 | [], _, H, Q => Q [] H
 | (tk, tv) :: r, σ, H, Q => tk σ H fun x H1 => tv σ H1 fun y H2 => tPairs r σ H2 fun ps H3 => Q ((x, y) :: ps) H3
noncomputable abbrev VV : List (V × V) → List (Value × Value) → Prop := Paired fun p q => RelV p.1 q.1 ∧ RelV p.2 q.2
noncomputable def PPs (X : Cx) (pos : Pos) (keys : List (Option Expr)) (values : List Expr) (trs : List (TE × TE)) : Prop :=
 ∀ (pins : List (Addr × Obj)) (s : Shared) (σ : St) (H : Hp) (Q : List (V × V) → Hp → Prop), Inv X pins σ H s → tPairs trs σ H Q →
  wpAny (model X.prog X.w) X.A (evalPairs (pairTrees keys values X.env pos)) (fun vs s' => ∃ ps H', Inv X pins σ H' s' ∧ VV ps vs ∧ Q ps H') X.xe s
theorem pps_nil {X : Cx} {pos : Pos} : PPs X pos [] [] [] := fun pins s σ H Q I h => pairTrees_nil_walk ⟨[], H, I, .nil, h⟩
theorem pps_cons {X : Cx} {pos : Pos} {k v : Expr} {ks : List (Option Expr)} {vs : List Expr} {tk tv : TE} {trs : List (TE × TE)} (hk : PE X k tk) (hv : PE X v tv) (hr : PPs X pos ks vs trs) :
  PPs X pos (some k :: ks) (v :: vs) ((tk, tv) :: trs) := fun pins s σ H Q I h =>
 pairTrees_cons_walk (thn (hk pins s σ H _ I h) fun u s1 ⟨x, H1, I1, rx, q1⟩ => thn (hv pins s1 σ H1 _ I1 q1) fun w2 s2 ⟨y, H2, I2, ry, q2⟩ =>
  thn (hr pins s2 σ H2 _ I2 q2) fun ws s3 ⟨ps, H3, I3, rel, q3⟩ => ⟨(x, y) :: ps, H3, I3, .cons ⟨rx, ry⟩ rel, q3⟩)
noncomputable def mergeK (kvs more : List (Key × V)) : List (Key × V) := more.foldl (fun acc kv => putK acc kv.1 kv.2) kvs
theorem KV.merge : ∀ {more : List (Key × V)} {rs : List (Key × Value)} {kvs : List (Key × V)} {vs : List (Key × Value)}, KV more rs → KV kvs vs → KV (mergeK kvs more) (merged vs rs) := by
 intro more rs kvs vs r
 unfold KV at r
 induction r generalizing kvs vs with
 | nil => intro q; exact q
 | @cons p q ps qs h t ih =>
  intro r0
  have e : KV (putK kvs p.1 p.2) (stored vs q.1 q.2) := by
   have := r0.put p.1 h.2
   rw [← h.1]; exact this
  exact ih e
theorem length_mergeK : ∀ (more kvs : List (Key × V)), (mergeK kvs more).length ≤ kvs.length + more.length
 | [], kvs => by show kvs.length ≤ kvs.length + 0; omega
 | p :: r, kvs => by
  have h1 := length_mergeK r (putK kvs p.1 p.2)
  have h2 := length_putK kvs p.1 p.2
  show (mergeK (putK kvs p.1 p.2) r).length ≤ _
  rw [List.length_cons]; omega
theorem carries_of {P : Program} {w : World} : ∀ {kvs : List (Key × V)} {ws : List (Value × Value)}, VV (kvs.map fun kv => (kV kv.1, kv.2)) ws → ∃ rs, Carries (mixKind P w) ws rs ∧ KV kvs rs
 | [], _, r => by rw [List.map_nil] at r; cases r; exact ⟨[], True.intro, .nil⟩
 | p :: kvs, _, r => by
  rw [List.map_cons] at r
  cases r with
  | @cons a b as bs h t =>
   obtain ⟨rs, c, q⟩ := carries_of (P := P) (w := w) t
   obtain ⟨b1, b2⟩ := b
   exact ⟨(p.1, b2) :: rs, ⟨kV_is h.1, rfl, c⟩, .cons ⟨rfl, h.2⟩ q⟩
noncomputable def tDisp (trs : List (TE × TE)) : TE := fun σ H Q => ∀ p, H p = none → tPairs trs σ (upd H p (.dK [])) fun ps H2 => H2 p = some (.dK []) ∧ ∃ kvs : List (Key × V), ps = kvs.map (fun kv => (kV kv.1, kv.2)) ∧ kvs.length ≤ 15 ∧ Q (.ref p) (upd H2 p (.dK (mergeK [] kvs)))
theorem pe_disp {X : Cx} {pos : Pos} {keys : List (Option Expr)} {values : List Expr} {trs : List (TE × TE)} (h : PPs X pos keys values trs) (hall : keys.all (·.isSome) = true) (hl : keys.length = values.length) (h0 : keys ≠ [])
  (h15 : keys.length ≤ 15) : PE X (.Dict keys values pos) (tDisp trs) := by
 intro pins s σ H Q I q
 have hn := I.hok.fresh (Nat.le_refl s.heap.objs.size)
 have I1 := I.laid (a := s.heap.objs.size) (o := .dK []) (h' := s.heap.push { cls := .type "dict", data := .dict #[] }) (t' := s.toks) (fun _ _ q => Heap.get?_push_of_some _ q) (Nat.le_refl _) (dk_empty s.heap I.big)
 refine wpAny_Dict_walk (knd := mixKind X.prog X.w) hall hl h0 h15 (thn (h pins _ σ _ _ I1 (q _ hn)) fun ws s2 ⟨ps, H2, I2, rel, e, kvs, ep, lk, q2⟩ => ?_)
 subst ep
 obtain ⟨rs, c, rk⟩ := carries_of (P := X.prog) (w := X.w) rel
 obtain ⟨z, hd, vs0, r0, dd⟩ := dk_of I2.hok e
 cases r0
 refine ⟨rs, c, dd, fun h' dd' hs => ⟨.ref s.heap.objs.size, _, ?_, rfl, q2⟩⟩
 have hz : (mergeK [] kvs).length ≤ sizeLine := by
  have h1 := length_mergeK kvs []
  rw [List.length_nil] at h1
  rw [sizeLine_eq]; omega
 have he : ∃ q, h'.get? s.heap.objs.size = some q := let ⟨q, _, _, hq, _⟩ := dd'; ⟨q, hq⟩
 exact d_write I2 (by rw [e]; exact True.intro) hs he (dk_new hz hd (rk.merge .nil) dd')
end L2
set_option Elab.async false
set_option linter.all false
set_option maxRecDepth 100000
namespace L2
open PySem PySem.Spec PyProof.Rows
noncomputable def Bd (n : Nat) (i : Int) : Prop := i.natAbs < 2 ^ n
theorem Bd.mono {m n : Nat} {i : Int} (h : Bd m i) (hm : m ≤ n) : Bd n i := Nat.lt_of_lt_of_le h (Nat.pow_le_pow_right (by decide) hm)
theorem Bd.mul {m n : Nat} {i j : Int} (h : Bd m i) (k : Bd n j) : Bd (m + n) (i * j) := by
 unfold Bd at *
 rw [Int.natAbs_mul, Nat.pow_add]
 exact Nat.mul_lt_mul'' h k
theorem pow_add_le (m n : Nat) : 2 ^ m + 2 ^ n ≤ 2 ^ (m + n + 1) := by
 have h1 : 2 ^ m ≤ 2 ^ (m + n) := Nat.pow_le_pow_right (by decide) (Nat.le_add_right _ _)
 have h2 : 2 ^ n ≤ 2 ^ (m + n) := Nat.pow_le_pow_right (by decide) (Nat.le_add_left _ _)
 have h3 : 2 ^ (m + n + 1) = 2 ^ (m + n) * 2 := Nat.pow_succ _ _
 omega
theorem Bd.add {m n : Nat} {i j : Int} (h : Bd m i) (k : Bd n j) : Bd (m + n + 1) (i + j) := by
 have e := pow_add_le m n
 unfold Bd at *
 omega
theorem Bd.sub {m n : Nat} {i j : Int} (h : Bd m i) (k : Bd n j) : Bd (m + n + 1) (i - j) := by
 have e := pow_add_le m n
 unfold Bd at *
 omega
theorem Bd.neg {m : Nat} {i : Int} (h : Bd m i) : Bd m (-i) := by
 unfold Bd at *
 omega
theorem Bd.of_le {n : Nat} {i : Int} (b : Int) (h1 : -b ≤ i) (h2 : i ≤ b) (hb : b.natAbs < 2 ^ n) : Bd n i := by
 unfold Bd
 omega
theorem Bd.bits {n : Nat} {i : Int} (h : Bd n i) : Builtin.Int.intBits i ≤ n := by
 unfold Bd at h
 unfold Builtin.Int.intBits
 split
 ·exact Nat.zero_le _
 ·rename_i z
  have : i.natAbs ≠ 0 := by
   intro e
   apply z
   have : i = 0 := by omega
   subst this
   rfl
  have := (Nat.log2_lt this).mpr h
  omega
theorem Bd.log {n : Nat} {i : Int} (h : Bd n i) (h0 : 0 < n) : i.natAbs.log2 < n := by
 by_cases e : i.natAbs = 0
 ·rw [e]
  exact Nat.lt_of_le_of_lt (by decide) h0
 ·exact (Nat.log2_lt e).mpr h
theorem Bd.sq {m : Nat} {i : Int} (h : Bd m i) : Bd (m + m) (i ^ 2) := by
 have e : i ^ 2 = i * i := by grind
 rw [e]
 exact h.mul h
section
variable {X : Cx}
noncomputable def CMulA (i j : Int) : Prop := CMul i j ∨ (Bd 100000 i ∧ Bd 100000 j)
theorem CMulA.ok {i j : Int} (h : CMulA i j) : IntMulOk i j := by
 rcases h with h | ⟨h1, h2⟩
 ·exact h.ok
 ·exact .of_bits (Nat.le_trans h1.bits (by decide)) (Nat.le_trans h2.bits (by decide))
theorem op_mulA : OpR X (binaryOp .Mult) (rI CMulA fun i j => .int (i * j)) := opI fun _ _ _ _ _ _ _ hc q => mul_int q hc.ok
theorem op_fdivB : OpR X (binaryOp .FloorDiv) (rI (fun _ j => j ≠ 0 ∧ Bd 9000 j) fun i j => .int (i.fdiv j)) := opI fun _ _ _ _ _ _ _ hc q => floordiv_int hc.1 q (.inl (PyProof.noPylong_of_log2 (hc.2.log (by decide))))
theorem op_powB : OpR X (binaryOp .Pow) (rI (fun i j => 0 ≤ j ∧ j ≤ 100 ∧ Bd 100000 i) fun i j => .int (i ^ j.toNat)) := opI fun i j _ _ _ _ _ hc q => by
 obtain ⟨h1, h2, h3⟩ := hc
 refine pow_int h1 ?_ q
 have hb : Builtin.Int.intBits i ≤ 100000 := h3.bits
 have e : ((Builtin.Int.intBits i : Nat) : Int) * j ≤ 100000 * 100 := Int.mul_le_mul (by omega) h2 h1 (by decide)
 exact Int.le_trans e (by decide)
end
end L2
set_option Elab.async false
set_option linter.all false
set_option maxRecDepth 100000
namespace L2
open PySem PySem.Spec PyProof.Rows
section
variable {prog : Program} {w : World} {A : Around} {E : Value → Shared → Prop} {s : Shared}
theorem draw_listL {it l : Addr} {items : Array Value} (hne : l ≠ it) : ∀ (n i : Nat) (s : Shared) (Q : List Value → Shared → Prop), s.heap.IsListIter it l i → s.heap.IsList l items → i + n ≤ items.size →
  (∀ h', h'.IsListIter it l (i + n) → Heap.SameBut it s.heap h' → Q ((items.toList.drop i).take n) { s with heap := h' }) → wpAny (model prog w) A (draw (.ref it) n) Q E s
 | 0, i, s, Q, hit, _, _, hQ => by
  show wpAny _ _ (pure []) Q E s
  exact wpAny_pure (by simpa using hQ s.heap hit (Heap.SameBut.refl ..))
 | n + 1, i, s, Q, hit, ht, hle, hQ => by
  have hlt : i < items.size := by omega
  show wpAny _ _ (pyNext (.ref it) >>= _) Q E s
  refine wpAny_bind (wpAny_pyNext_list_item hit ht (x := items[i]) (by simp [hlt]) fun h₁ hit₁ hs₁ => ?_)
  refine wpAny_bind (wpAny_holding (draw_listL hne n (i + 1) _ _ hit₁ (ht.extBut hs₁.extBut hne) (by omega) fun h₂ hit₂ hs₂ => wpAny_pure ?_))
  have hd : items.toList.drop i = items[i] :: items.toList.drop (i + 1) := by simp [List.drop_eq_getElem_cons, hlt]
  have := hQ h₂ (by rw [show i + (n + 1) = i + 1 + n by omega]; exact hit₂) (hs₁.trans hs₂)
  rw [hd, List.take_succ_cons] at this
  exact this
theorem unpackItems_listL {t : Addr} {items : Array Value} {Q : List Value → Shared → Prop} (hh : A.handled = none) (ht : s.heap.IsList t items)
  (hQ : ∀ h', Heap.ExtBut s.heap.objs.size s.heap h' → Q items.toList { s with heap := h' }) : wpAny (model prog w) A (unpackItems (.ref t) items.size none) Q E s := by
 have hlt : t ≠ s.heap.objs.size := by obtain ⟨o, ho, _⟩ := ht; exact Nat.ne_of_lt (Heap.lt_size ho)
 unfold unpackItems
 refine wpAny_bind ?_
 ·unfold notIterableAtAll
  refine wpAny_bind (wpAny_specialOf ht.typeIs slot_list_iter.lookup ?_)
  refine wpAny_pure ?_
  simp only [Bool.false_eq_true, if_false]
  refine wpAny_bind (wpAny_holding (wpAny_pyIter_list ht ?_))
  have ht0 : (s.heap.push { cls := .type "list_iterator", data := .fields #[.ref t, .int 0 0] }).IsList t items := ht.at fun o e => Heap.get?_push_of_some _ e
  refine wpAny_bind (wpAny_holding (draw_listL hlt items.size 0 _ _ ⟨_, Heap.get?_push_size _ rfl, rfl, rfl⟩ ht0 (by omega) fun h₁ hit₁ hs₁ => ?_))
  have hall : List.take items.size (List.drop 0 items.toList) = items.toList := by
   rw [List.drop_zero]; exact List.take_of_length_le (by simp)
  rw [hall]
  rw [if_neg (by simp)]
  have ht₁ : h₁.IsList t items := ht0.extBut hs₁.extBut hlt
  refine wpAny_bind (wpAny_holding (wpAny_pyNext_list_end hh hit₁ ht₁ (by simp) fun h₂ he₂ => ?_))
  simp only [Option.isSome_none, Bool.false_eq_true, if_false]
  refine wpAny_pure (hQ h₂ fun b o hb e => he₂ b o hb (hs₁.extBut b o hb (Heap.get?_push_of_some _ e)))
theorem assign_Tuple_listL {env : Env} {elts : List Expr} {x1} {pos : Pos} {t : Addr} {items : Array Value} {Q : Unit → Shared → Prop} (hh : A.handled = none) (ht : s.heap.IsList t items)
  (hn : (assignEach elts env).length = items.size) (hstar : (assignEach elts env).findIdx? (·.1) = none)
  (h : ∀ h', Heap.ExtBut s.heap.objs.size s.heap h' → wpAny (model prog w) A (assignInOrder ((assignEach elts env).map (·.2)) items.toList) Q E { s with heap := h' }) :
  wpAny (model prog w) A (assign (.Tuple elts x1 pos) env (.ref t)) Q E s := by
 rw [assign_Tuple]
 refine wpAny_bind (wpAny_standAt ?_)
 unfold unpack
 rw [hn, hstar]
 exact wpAny_bind (wpAny_holding (unpackItems_listL hh ht h))
end
section
variable {X : Cx} {pos : Pos}
noncomputable def gLst (K : PySem.W.Frag) (n : Nat) (t : TGs) : TG := fun v σ H Q => ∃ a xs, v = .ref a ∧ SqL K H a xs ∧ xs.length = n ∧ t xs σ H Q
theorem pg_lst {es : List Expr} {k : Nat} {t : TGs} {n : Nat} (hc : X.calm = true) (h : PGs X es t)
  (hn : (assignEach es X.env).length = n := by rfl) (hst : (assignEach es X.env).findIdx? (·.1) = none := by rfl) : PG X (.Tuple es k pos) (gLst X.K n t) := by
 intro pins s σ H v u Q I r hw
 obtain ⟨a, xs, e1, hq, hl, hw⟩ := hw
 subst e1
 cases r
 obtain ⟨its, rv, ht, hz⟩ := I.list hq
 refine assign_Tuple_listL (I.ok.hd hc) ht.isList (by simp [hn, ← hl, rv.length]) hst fun h' hx => ?_
 have I1 : Inv X pins σ H { s with heap := h' } := I.kept (t' := s.toks) fun b o e => hx b o (Nat.ne_of_lt (Heap.lt_size e)) e
 exact h pins _ σ H xs _ Q I1 (by simpa using rv) hw
noncomputable def gSeq (K : PySem.W.Frag) (n : Nat) (t : TGs) : TG := fun v σ H Q => gTup K n t v σ H Q ∨ gLst K n t v σ H Q
theorem pg_seq {es : List Expr} {k : Nat} {t : TGs} {n : Nat} (hc : X.calm = true) (h : PGs X es t)
  (hn : (assignEach es X.env).length = n := by rfl) (hst : (assignEach es X.env).findIdx? (·.1) = none := by rfl) : PG X (.Tuple es k pos) (gSeq X.K n t) := by
 intro pins s σ H v u Q I r hw
 rcases hw with hw | hw
 ·exact pg_tup hc h hn hst pins s σ H v u Q I r hw
 ·exact pg_lst hc h hn hst pins s σ H v u Q I r hw
end
theorem closureFor_go {env : Env} : ∀ (names : List (Str × NameKind)) (acc : List (Str × Addr)), (∀ y ∈ names, y.2 = .free → ∃ c, env.cells.lookup y.1 = some c) → (∀ x c, acc.lookup x = some c → env.cells.lookup x = some c) →
  ∃ cl, (forIn (m := Sem) names acc fun y cs => (match y with | (name, kind) => do
    let mut cs := cs
    if kind == .free then cs := (name, ← cellOf env name) :: cs
    pure (ForInStep.yield cs) : Sem (ForInStep (List (Str × Addr))))) = pure cl ∧ (∀ x c, cl.lookup x = some c → env.cells.lookup x = some c) ∧ (∀ y ∈ names, y.2 = .free → ∃ c, cl.lookup y.1 = some c) ∧ (∀ x c, acc.lookup x = some c → ∃ c', cl.lookup x = some c')
 | [], acc, _, ha => ⟨acc, rfl, ha, fun _ z => absurd z List.not_mem_nil, fun x c h => ⟨c, h⟩⟩
 | (n, k) :: r, acc, hf, ha => by
  by_cases hk : k = .free
  ·subst hk
   obtain ⟨c, hc⟩ := hf (n, .free) List.mem_cons_self rfl
   obtain ⟨cl, e, h1, h2, h3⟩ := closureFor_go r ((n, c) :: acc) (fun y hy => hf y (List.mem_cons_of_mem _ hy)) (fun x d hx => by
    rw [List.lookup_cons] at hx
    split at hx
    ·rename_i z
     have : x = n := by simpa using z
     subst this
     cases hx
     exact hc
    ·exact ha x d hx)
   refine ⟨cl, ?_, h1, fun y hy hyf => ?_, fun x d hx => ?_⟩
   ·rw [List.forIn_cons]
    simp only [beq_self_eq_true, if_true, cellOf, hc, pure_bind, bind_pure_comp, map_pure]
    simp only [cellOf] at e
    simpa using e
   ·rcases List.mem_cons.mp hy with z | z
    ·subst z
     exact h3 n c (by simp)
    ·exact h2 y z hyf
   ·by_cases z : x = n
    ·subst z
     exact h3 x c (by simp)
    ·refine h3 x d ?_
     rw [List.lookup_cons]
     have : (x == n) = false := by simpa using z
     rw [this]
     exact hx
  ·obtain ⟨cl, e, h1, h2, h3⟩ := closureFor_go r acc (fun y hy => hf y (List.mem_cons_of_mem _ hy)) ha
   have hb : (k == NameKind.free) = false := by simpa using hk
   refine ⟨cl, ?_, h1, fun y hy hyf => ?_, h3⟩
   ·rw [List.forIn_cons]
    simp only [hb, Bool.false_eq_true, if_false, pure_bind]
    simpa using e
   ·rcases List.mem_cons.mp hy with z | z
    ·subst z
     exact absurd hyf hk
    ·exact h2 y z hyf
theorem closureFor_ok {scope : Scope} {env : Env} (hf : ∀ y ∈ scope.names, y.2 = .free → ∃ c, env.cells.lookup y.1 = some c) :
  ∃ cl, closureFor scope env = pure cl ∧ (∀ x c, cl.lookup x = some c → env.cells.lookup x = some c) ∧ (∀ y ∈ scope.names, y.2 = .free → ∃ c, cl.lookup y.1 = some c) := by
 obtain ⟨cl, e, h1, h2, _⟩ := closureFor_go (env := env) scope.names [] hf (fun x c h => by simp at h)
 refine ⟨cl, ?_, h1, h2⟩
 unfold closureFor
 have e' := e
 simp only [bind_pure] at *
 first | exact e | (rw [e]; rfl) | simpa using e
end L2
set_option Elab.async false
set_option linter.all false
set_option maxRecDepth 100000
namespace L2
open PySem PySem.Spec PyProof.Rows
noncomputable def cxLC (X : Cx) (scope : Scope) (cl : List (Str × Addr)) (N : List Str) (C : Addr) (s : Shared) (H : Hp) (ex : List Addr) (pn : List (Addr × Obj)) : Cx where
 prog := X.prog
 w := X.w
 K := X.K
 mg := X.mg
 base := X.base
 A := X.A
 N := N
 s₀ := s
 H₀ := H
 env := compEnvC scope cl C X.env
 outer := X.stack
 stack := X.stack
 ex := ex
 fn := fun _ => false
 calm := X.calm
 pn := pn
 xe := fun _ _ => False
structure CScope (X : Cx) (scope : Scope) (N : List Str) (k : Nat) (js : List Nat) : Prop where
 kind : scope.kind = .function
 nocell : ∀ y ∈ scope.names, y.2 ≠ .cell
 names : ∀ y ∈ scope.names, y.2 = .local → scope.names.lookup y.1 = some .local
 frees : ∀ y ∈ scope.names, y.2 = .free → X.env.kindOf y.1 = some .cell ∨ X.env.kindOf y.1 = some .free
 len : N.length = k + js.length
 look : ∀ i j, js[i]? = some j → ∃ x, N[k + i]? = some x ∧ X.N[j]? = some x ∧ scope.names.lookup x = some .free
theorem relabel_lookup {scope : Scope} {env : Env} (x : Str) : (relabel scope env).names.lookup x = (scope.names.lookup x).map fun k => if (k == .free && env.scope.kind == .function && env.kindOf x == some .cell) then .cell else k := by
 unfold relabel
 dsimp only
 generalize scope.names = l
 induction l with
 | nil => rfl
 | cons y r ih =>
  obtain ⟨n, k⟩ := y
  rw [List.map_cons, List.lookup_cons]
  by_cases hx : x = n
  ·subst hx
   dsimp only
   by_cases hc : (k == NameKind.free && env.scope.kind == ScopeKind.function && env.kindOf x == some NameKind.cell) = true
   ·rw [if_pos hc]
    simp only [List.lookup_cons, beq_self_eq_true, Option.map_some]
    rw [if_pos hc]
   ·rw [if_neg hc]
    simp only [List.lookup_cons, beq_self_eq_true, Option.map_some]
    rw [if_neg hc]
  ·have hb : (x == n) = false := by simpa using hx
   dsimp only
   by_cases hc : (k == NameKind.free && env.scope.kind == ScopeKind.function && env.kindOf n == some NameKind.cell) = true
   ·rw [if_pos hc]
    simp only [List.lookup_cons, hb]
    exact ih
   ·rw [if_neg hc]
    simp only [List.lookup_cons, hb]
    exact ih
theorem lookup_mem {α : Type} : ∀ {l : List (Str × α)} {x : Str} {v : α}, l.lookup x = some v → (x, v) ∈ l
 | [], _, _, h => by simp at h
 | (n, k) :: r, x, v, h => by
  rw [List.lookup_cons] at h
  split at h
  ·rename_i z
   have : x = n := by simpa using z
   subst this
   cases h
   exact List.mem_cons_self
  ·exact List.mem_cons_of_mem _ (lookup_mem h)
noncomputable def frV (σ : St) (js : List Nat) : St := js.map fun j => (σ[j]?).join
noncomputable def stLC (σ : St) (k : Nat) (js : List Nat) : St := List.replicate k none ++ frV σ js
section
variable {X : Cx} {pins : List (Addr × Obj)} {σ : St} {H : Hp} {s : Shared} {scope : Scope} {N : List Str} {k : Nat} {js : List Nat} {cl : List (Str × Addr)} {fp : List Addr}
theorem Inv.block {h1 : Heap} {tk : Nat} (I : Inv X pins σ H s) (S : CScope X scope N k js)
  (hcl1 : ∀ x c, cl.lookup x = some c → X.env.cells.lookup x = some c) (hcl2 : ∀ y ∈ scope.names, y.2 = .free → ∃ c, cl.lookup y.1 = some c)
  (hns : h1.Ns s.heap.objs.size (fun _ => none)) (hk : ∀ b o, s.heap.get? b = some o → h1.get? b = some o)
  (hf : ∀ b ∈ fp, FpOk X pins H b) (hfp : ∀ b ∈ fp, ∃ o, s.heap.get? b = some o ∧ ∀ v, o.data ≠ .cell v) :
  Inv (cxLC X scope cl N s.heap.objs.size s H fp (X.pn ++ pins)) [] (stLC σ k js) H { s with heap := h1, toks := tk } := by
 have hxc : ∀ x c, cl.lookup x = some c → c < s.heap.objs.size := fun x c h => by
  obtain ⟨v, q⟩ := I.cell x c (hcl1 x c h)
  exact q.lt
 have lkL : ∀ x, (compEnvC scope cl s.heap.objs.size X.env).kindOf x = (scope.names.lookup x).map fun k => if (k == .free && X.env.scope.kind == .function && X.env.kindOf x == some .cell) then .cell else k := fun x => relabel_lookup x
 refine ⟨⟨I.ok.mod, S.kind, I.ok.glob, I.ok.blt, Nat.le_refl _, fun x y c h1 h2 => I.ok.inj x y c (hcl1 x c h1) (hcl1 y c h2), fun x hx => ?_, fun x c h _ => absurd (show false = true from h) (by decide), I.ok.hd, I.ok.frames, .inl rfl, fun b hb => ?_, I.bs,
  Nat.le_trans I.ok.bsz I.sz, fun b o e z => ?_, fun b hb z => ?_, I.stack, I.stkFree⟩, rfl, I.bare, Un.kept hk, ⟨_, hns, fun i x v e1 e2 e3 => ?_⟩, fun x c h => ?_, ?_, fun x c h => I.freeC x c (hcl1 x c h), fun p hp => ?_, I.hok.kept hk, ?_⟩
 ·-- has
  have hx : ((scope.names.lookup x).map fun k => if (k == .free && X.env.scope.kind == .function && X.env.kindOf x == some .cell) then NameKind.cell else k) = some .cell ∨ ((scope.names.lookup x).map fun k => if (k == .free && X.env.scope.kind == .function && X.env.kindOf x == some .cell) then NameKind.cell else k) = some .free := by
   rcases hx with hx | hx
   ·exact .inl ((lkL x).symm.trans hx)
   ·exact .inr ((lkL x).symm.trans hx)
  have : scope.names.lookup x = some .free := by
   cases e : scope.names.lookup x with
   | none => rw [e] at hx; rcases hx with hx | hx <;> cases hx
   | some q =>
    rw [e] at hx
    by_cases hq : q = .free
    ·rw [hq]
    ·have hb : (q == NameKind.free) = false := by simpa using hq
     simp only [Option.map_some, hb, Bool.false_and, Bool.false_eq_true, if_false, Option.some.injEq] at hx
     rcases hx with hx | hx
     ·exact absurd hx (S.nocell _ (lookup_mem e))
     ·exact absurd hx hq
  obtain ⟨c, hc⟩ := hcl2 _ (lookup_mem this) rfl
  exact ⟨c, hc⟩
 ·obtain ⟨f0, f1, f2, f3, f4, f5⟩ := hf b hb
  obtain ⟨o, ho, _⟩ := hfp b hb
  exact ⟨Nat.ne_of_lt (Heap.lt_size ho), fun x c h => f4 x c (hcl1 x c h)⟩
 ·obtain ⟨f0, f1, f2, f3, f4, f5⟩ := hf b z
  rcases f3 with f3 | f3
  ·exact I.ok.noex b o e f3
  ·exact absurd (Nat.lt_of_lt_of_le (Heap.lt_size (I.ok.bs b o e).1) f3) (Nat.lt_irrefl _)
 ·obtain ⟨f0, f1, f2, f3, f4, f5⟩ := hf b hb
  rcases List.mem_cons.mp (I.stkSub b z) with q | q
  ·exact f1 q
  ·exact f2 q
 ·-- the values
  by_cases hi : i < k
  ·have : (stLC σ k js)[i]? = some none := by
    unfold stLC
    rw [List.getElem?_append_left (by simpa using hi), List.getElem?_replicate, if_pos hi]
   rw [this] at e2
   cases e2
  ·obtain ⟨d, rfl⟩ : ∃ d, i = k + d := ⟨i - k, by omega⟩
   have e2' : (frV σ js)[d]? = some (some v) := by
    unfold stLC at e2
    rw [List.getElem?_append_right (by simp)] at e2
    simpa using e2
   unfold frV at e2'
   rw [List.getElem?_map] at e2'
   cases ej : js[d]? with
   | none => rw [ej] at e2'; cases e2'
   | some j =>
    rw [ej] at e2'
    have ev : (σ[j]?).join = some v := Option.some.inj e2'
    have ev' : σ[j]? = some (some v) := by
     cases q : σ[j]? with
     | none => rw [q] at ev; cases ev
     | some z => rw [q] at ev; rw [show z = some v from ev]
    obtain ⟨x', n1, n2, n3⟩ := S.look d j ej
    have : x' = x := Option.some.inj (n1.symm.trans e1)
    subst this
    obtain ⟨m, hn, hl⟩ := I.loc
    have hkx := S.frees _ (lookup_mem n3) rfl
    have hvis : Vis X.env.scope x' := by
     rcases hkx with q | q
     ·exact .inr (.inl q)
     ·exact .inr (.inr q)
    obtain ⟨u, r, l⟩ := hl j x' v n2 ev' hvis
    refine ⟨u, r, ?_⟩
    obtain ⟨c, hc⟩ := hcl2 _ (lookup_mem n3) rfl
    rcases l with ⟨l1, _⟩ | ⟨l1, c', l2, l3⟩
    ·rcases hkx with q | q
     ·exact absurd (l1.symm.trans q) (by decide)
     ·exact absurd (l1.symm.trans q) (by decide)
    ·have : c' = c := Option.some.inj (l2.symm.trans (hcl1 _ c hc))
     subst this
     refine .inr ⟨?_, c', hc, ?_⟩
     ·have q := lkL x'
      rw [n3] at q
      by_cases hb : ((NameKind.free == NameKind.free && X.env.scope.kind == .function && X.env.kindOf x' == some .cell)) = true
      ·left
       show (compEnvC scope cl s.heap.objs.size X.env).kindOf x' = _
       rw [q]
       simp only [Option.map_some]
       rw [if_pos hb]
      ·right
       show (compEnvC scope cl s.heap.objs.size X.env).kindOf x' = _
       rw [q]
       simp only [Option.map_some]
       rw [if_neg hb]
     ·obtain ⟨o, ho, hd⟩ := l3
      exact ⟨o, hk _ o ho, hd⟩
 ·obtain ⟨v, o, ho, hd⟩ := I.cell x c (hcl1 x c h)
  exact ⟨v, o, hk _ o ho, hd⟩
 ·exact I.hok.fresh (Nat.le_refl _)
 ·have hp' : p ∈ X.pn ++ pins := by simpa [cxLC] using hp
  obtain ⟨e, n, ne, nf, d⟩ := I.pin p hp'
  exact ⟨hk _ _ e, n, Nat.ne_of_lt (Heap.lt_size e), fun z => (List.mem_cons.mp (I.stkSub _ z)).elim ne nf, d⟩
 ·show (stLC σ k js).length = N.length
  unfold stLC frV
  rw [S.len]
  simp
end
end L2
set_option Elab.async false
set_option linter.all false
set_option maxRecDepth 100000
namespace L2
open PySem PySem.Spec PyProof.Rows
noncomputable def PIfs (X : Cx) (ifs : List Expr) (t : TT) : Prop :=
 ∀ (pins : List (Addr × Obj)) (s : Shared) (σ : St) (H : Hp) (Q : Bool → Hp → Prop), Inv X pins σ H s → t σ H Q →
  wpAny (model X.prog X.w) X.A (forIn ifs true fun c r => if r = true then do let ok ← isTrue c X.env (eval c X.env); pure (ForInStep.yield ok) else pure (ForInStep.yield r)) (TP X pins σ Q) X.xe s
noncomputable def tYes : TT := fun _ H Q => Q true H
theorem pifs_nil {X : Cx} : PIfs X [] tYes := fun _ _ _ H _ I h => wpAny_tests_nil ⟨H, I, h⟩
theorem pifs_one {X : Cx} {c : Expr} {t : TT} (h : PT X c t) : PIfs X [c] t := fun pins s σ H Q I hw => wpAny_tests_one (h pins s σ H Q I hw)
noncomputable def tLC (wi : TI) (k : Nat) (js : List Nat) (g : TG) (tt : TT) (te : TE) : TE := fun σ H Q => wi σ H fun J H1 => ∀ D, H1 D = none →
 ∃ W : Nat → Nat → List V → Hp → Prop, (∃ m, W 0 m [] (upd H1 D (.lst []))) ∧ ∀ i m ys H, W i m ys H → H D = some (.lst ys) ∧
  ((J.stop i H ∧ Q (.ref D) H) ∨ (J.go i H ∧ ys.length < sizeLine ∧ ∃ N : List V → Hp → Prop, (∀ ys' H', N ys' H' → ∃ m', m' < m ∧ W (i + 1) m' ys' H') ∧
   ∀ x H', J.yld i H x H' → g x (stLC σ k js) H' fun σ2 H2 => (σ2.drop k = frV σ js ∧ σ2.length = k + js.length) ∧ tt σ2 H2 fun b H3 => if b = true then te σ2 H3 fun y H4 => H4 D = some (.lst ys) ∧ N (ys ++ [y]) (upd H4 D (.lst (ys ++ [y]))) else N ys H3))
section
variable {X : Cx} {scope : Scope} {N : List Str} {k : Nat} {js : List Nat} {elt iter tg : Expr} {ifs : List Expr} {pos : Pos} {wi : TI} {g : TG} {tt : TT} {te : TE}
theorem lc_keep {σ σ2 : St} (h1 : σ2.drop k = frV σ js) (h2 : σ2.length = k + js.length) (i : Nat) (v : V) (h : (stLC σ k js)[i]? = some (some v)) : σ2[i]? = some (some v) := by
 unfold stLC at h
 by_cases hi : i < k
 ·rw [List.getElem?_append_left (by simpa using hi), List.getElem?_replicate, if_pos hi] at h
  cases h
 ·rw [List.getElem?_append_right (by simpa using hi), ← h1, List.getElem?_drop] at h
  simp only [List.length_replicate] at h
  rw [show k + (i - k) = i by omega] at h
  exact h
theorem lc_block {pins : List (Addr × Obj)} {σ : St} {H : Hp} {s : Shared} {cl : List (Str × Addr)} {Q : VK} {it : Addr} {fp : List Addr} {tn : Nat → Heap → Prop} {J : It} {RR : Value → Addr → Result → Shared → Prop}
  (S : CScope X scope N k js) (hc : X.calm = true)
  (hg : ∀ cl C s H ex pn, PG (cxLC X scope cl N C s H ex pn) tg g) (ht : ∀ cl C s H ex pn, PIfs (cxLC X scope cl N C s H ex pn) ifs tt) (he : ∀ cl C s H ex pn, PE (cxLC X scope cl N C s H ex pn) elt te)
  (hcl1 : ∀ x c, cl.lookup x = some c → X.env.cells.lookup x = some c) (hcl2 : ∀ y ∈ scope.names, y.2 = .free → ∃ c, cl.lookup y.1 = some c)
  (I : Inv X pins σ H s) (T : Turn X.prog X.w X.K tg J fp it tn) (hst : tn 0 s.heap) (hf : ∀ b ∈ fp, FpOk X pins H b)
  (hr : ∀ D, H D = none →
   ∃ W : Nat → Nat → List V → Hp → Prop, (∃ m, W 0 m [] (upd H D (.lst []))) ∧ ∀ i m ys H, W i m ys H → H D = some (.lst ys) ∧
    ((J.stop i H ∧ Q (.ref D) H) ∨ (J.go i H ∧ ys.length < sizeLine ∧ ∃ N : List V → Hp → Prop, (∀ ys' H', N ys' H' → ∃ m', m' < m ∧ W (i + 1) m' ys' H') ∧
     ∀ x H', J.yld i H x H' → g x (stLC σ k js) H' fun σ2 H2 => (σ2.drop k = frV σ js ∧ σ2.length = k + js.length) ∧ tt σ2 H2 fun b H3 => if b = true then te σ2 H3 fun y H4 => H4 D = some (.lst ys) ∧ N (ys ++ [y]) (upd H4 D (.lst (ys ++ [y]))) else N ys H3)))
  (hend : ∀ D C H' s' m, Inv X pins σ H' s' → s'.heap.Ns C m → H' C = none → C ≠ X.env.locals → C ∉ frs X.stack → X.s₀.heap.objs.size ≤ C → (∀ x c, X.env.cells.lookup x = some c → c ≠ C) → (∀ p ∈ X.pn ++ pins, p.1 ≠ C) → D ≠ C → Q (.ref D) H' → RR (.ref D) C (.ok .next) s')
  {E : Value → Shared → Prop} :
  wpAny (model X.prog X.w) X.A (newList []) (fun acc s₃ => wpAny (model X.prog X.w) X.A (newFunctionEnv scope X.env.globals cl [] X.env.qual none .none (some X.env)) (fun cenv s₄ =>
   codeAny (model X.prog X.w) X.A (.compStart (.ListComp elt [⟨tg, iter, ifs, 0⟩] scope pos) 0 (.ref it) acc { cenv with scope := relabel scope X.env }) (RR acc cenv.locals) s₄) E s₃) E s := by
 refine wpAny_newObj_type (wpAny_newFunctionEnv S.nocell (by intro y hy; simp at hy) (fun h₁ hns₁ hsb₁ => ?_) S.kind)
 dsimp only at hns₁ hsb₁ ⊢
 have hD : H s.heap.objs.size = none := I.fresh
 obtain ⟨W, ⟨m0, w0⟩, turn⟩ := hr s.heap.objs.size hD
 have I2 : Inv X pins σ (upd H s.heap.objs.size (.lst [])) { s with heap := s.heap.push { cls := .type "list", dict := none, data := .seq ([] : List Value).toArray }, toks := s.toks } := I.lnew (its := []) .nil (Nat.zero_le _)
 generalize hH2 : s.heap.push { cls := .type "list", dict := none, data := .seq ([] : List Value).toArray } = H2 at hns₁ hsb₁ I2 ⊢
 have hsz : H2.objs.size = s.heap.objs.size + 1 := by rw [← hH2, Heap.size_push]
 generalize hs3 : ({ s with heap := H2, toks := s.toks } : Shared) = s3 at I2
 have hs3h : s3.heap = H2 := by rw [← hs3]
 have old : ∀ b o, s.heap.get? b = some o → H2.get? b = some o := fun b o e => by rw [← hH2]; exact Heap.get?_push_of_some _ e
 have old1 : ∀ b o, H2.get? b = some o → h₁.get? b = some o := fun b o e => hsb₁.extBut b o (Nat.ne_of_lt (Heap.lt_size e)) (Heap.get?_push_of_some _ e)
 have hfH : ∀ b ∈ fp, ∃ o, s.heap.get? b = some o ∧ ∀ v, o.data ≠ .cell v := T.obj 0 _ hst
 have ff : ∀ b ∈ fp, FpOk X pins (upd H s.heap.objs.size (.lst [])) b := fun b hb => by
  obtain ⟨f0, fr⟩ := hf b hb
  obtain ⟨o, ho, _⟩ := hfH b hb
  exact ⟨by rw [upd_ne (Nat.ne_of_lt (Heap.lt_size ho))]; exact f0, fr⟩
 have hns' : h₁.Ns s3.heap.objs.size (fun _ => none) := by
  rw [hs3h]
  simpa using hns₁
 have J0 : Inv (cxLC X scope cl N s3.heap.objs.size s3 (upd H s.heap.objs.size (.lst [])) fp (X.pn ++ pins)) [] (stLC σ k js) (upd H s.heap.objs.size (.lst [])) { s3 with heap := h₁, toks := s.toks + ([] : List (Str × Value)).length } :=
  I2.block (fp := fp) (tk := s.toks + ([] : List (Str × Value)).length) S hcl1 hcl2 hns' (fun b o e => old1 b o (by rw [← hs3h]; exact e)) ff (fun b hb => by
   obtain ⟨o, ho, hd⟩ := hfH b hb
   exact ⟨o, by rw [hs3h]; exact old b o ho, hd⟩)
 have es3 : ({ s3 with heap := h₁, toks := s.toks + ([] : List (Str × Value)).length } : Shared) = { s with heap := h₁, toks := s.toks + ([] : List (Str × Value)).length } := by rw [← hs3]
 rw [es3] at J0
 have hst1 : tn 0 h₁ := T.keep 0 _ _ hst fun b hb o e => old1 b o (old b o e)
 generalize hY : cxLC X scope cl N s3.heap.objs.size s3 (upd H s.heap.objs.size (.lst [])) fp (X.pn ++ pins) = Y at J0
 have eA : Y.A = X.A := by rw [← hY]; rfl
 have eP : Y.prog = X.prog := by rw [← hY]; rfl
 have eW : Y.w = X.w := by rw [← hY]; rfl
 have eK : Y.K = X.K := by rw [← hY]; rfl
 have eE : Y.env = compEnvC scope cl H2.objs.size X.env := by rw [← hY, ← hs3h]; rfl
 have eX : Y.xe = fun _ _ => False := by rw [← hY]; rfl
 have eC : Y.calm = true := by rw [← hY]; exact hc
 have stat : ∀ {H' : Hp}, (∀ b ∈ fp, H' b = none) → ∀ b ∈ fp, FpOk Y [] H' b := fun hn b hb => by
  obtain ⟨f0, f1, f2, f3, f4, f5⟩ := hf b hb
  obtain ⟨o, ho, _⟩ := hfH b hb
  refine ⟨hn b hb, ?_, ?_, .inl (by rw [← hY]; exact hb), fun x c h => ?_, fun p hp => ?_⟩
  ·rw [eE]
   exact Nat.ne_of_lt (Nat.lt_of_lt_of_le (Heap.lt_size ho) (by rw [hsz]; exact Nat.le_succ _))
  ·rw [← hY]
   intro z
   rcases List.mem_cons.mp (I.stkSub b z) with q | q
   ·exact f1 q
   ·exact f2 q
  ·rw [eE] at h
   exact f4 x c (hcl1 x c h)
  ·rw [← hY] at hp
   exact f5 p (by simpa [cxLC] using hp)
 have loop : ∀ s₂ : Shared, s₂ = { s with heap := h₁, toks := s.toks + ([] : List (Str × Value)).length } →
   codeAny (model X.prog X.w) X.A (.compLoop (.ListComp elt [⟨tg, iter, ifs, 0⟩] scope pos) 0 (.ref it) (.ref s.heap.objs.size) (compEnvC scope cl H2.objs.size X.env)) (RR (.ref s.heap.objs.size) H2.objs.size) s₂ := by
  rintro s₂ rfl
  have noE : ∀ (e : Value) (s' : Shared), False → notedBy (model X.prog X.w) X.A (compEnvC scope cl H2.objs.size X.env) (fun e s' => RR (.ref s.heap.objs.size) H2.objs.size (.error e) s') e s' := fun _ _ z => z.elim
  -- one turn, by hand: the step ahead of the store is the iterator's
  refine codeAny_loop rfl (fun n s' => ∃ i H' ys, Inv Y [] (stLC σ k js) H' s' ∧ tn i s'.heap ∧ (∀ b ∈ fp, H' b = none) ∧ W i n ys H') (fun n s5 hI => ?_) m0 ⟨0, _, [], J0, hst1, fun b hb => (ff b hb).1, w0⟩
  obtain ⟨i, H5, ys, I5, st5, fr5, w5⟩ := hI
  show wpAny _ X.A ((compTurn (.ListComp elt [⟨tg, iter, ifs, 0⟩] scope pos) 0 (.ref it) (.ref s.heap.objs.size) (compEnvC scope cl H2.objs.size X.env)).onRaise (fun x => do noteFrame x (compEnvC scope cl H2.objs.size X.env); theTreesLotGoes x)) _ _ s5
  refine wpAny_noted ?_
  rw [compTurn_list]
  refine wpAny_bind (wpAny_standAt (wpAny_bind ?_))
  obtain ⟨hDy, tr⟩ := turn i n ys H5 w5
  rcases tr with ⟨stop, q⟩ | ⟨go, hlen, NN, hN, step⟩
  ·have h6 := T.done Y eP eW eK eC i [] s5 _ H5 (fun _ _ => False) I5 (stat fr5) st5 stop
   rw [eA] at h6
   refine wpAny_mono h6 (fun r s6 h => ?_) noE
   obtain ⟨rfl, I6⟩ := h
   refine wpAny_pure ?_
   obtain ⟨m6, hn6, _⟩ := I6.loc
   rw [eE] at hn6
   have hu : Un (frs X.stack) fp (upd H s.heap.objs.size (.lst [])) H5 s3.heap s6.heap := by
    have := I6.base
    rw [← hY] at this
    exact this
   have hok6 : HOk X.prog X.w H5 s6.heap := by
    have := I6.hok
    rw [eP, eW] at this
    exact this
   have I7 : Inv X pins σ H5 s6 := I2.call' (ch := fp) (by have := I6.os; rw [← hY] at this; exact this) hu hok6 I6.bare fun b hb => by
    obtain ⟨f0, f1, f2, f3, f4, f5⟩ := hf b hb
    exact ⟨f3, f1, f4, f5⟩
   have hfree : H5 H2.objs.size = none := by
    have := I6.free
    rw [eE] at this
    exact this
   refine hend _ _ H5 s6 m6 I7 hn6 hfree ?_ ?_ ?_ ?_ ?_ ?_ q
   ·rw [← hs3h]; exact Nat.ne_of_gt I2.lt
   ·rw [← hs3h]
    intro z
    rcases List.mem_cons.mp (I2.stkSub _ z) with q | q
    ·exact absurd q (Nat.ne_of_gt I2.lt)
    ·exact I2.nofs (Nat.le_refl _) q
   ·rw [← hs3h]; exact I2.sz
   ·intro x c h z
    obtain ⟨v, hv⟩ := I2.cell x c h
    have := hv.lt
    rw [hs3h, z] at this
    exact absurd this (Nat.lt_irrefl _)
   ·intro p hp z
    have := Heap.lt_size (I2.pin p hp).1
    rw [hs3h, z] at this
    exact absurd this (Nat.lt_irrefl _)
   ·rw [hsz]; exact Nat.ne_of_lt (Nat.lt_succ_self _)
  ·have h6 := T.item Y eP eW eK eC i [] s5 _ H5 (fun _ _ => False) I5 (stat fr5) st5 go
   rw [eA] at h6
   refine wpAny_mono h6 (fun r s6 h => ?_) noE
   obtain ⟨u, rfl, h7⟩ := h
   refine wpAny_bind (wpAny_mono h7 (fun _ s7 h => ?_) noE)
   obtain ⟨x, H7, I7, rx, y7, st7, fr7⟩ := h
   have I7' := I7.pinned (stat fr7) (T.obj _ _ st7)
   have h8 := hg cl s3.heap.objs.size s3 (upd H s.heap.objs.size (.lst [])) fp (X.pn ++ pins)
   rw [hY] at h8
   have h8 := h8 _ s7 _ H7 x u _ I7' rx (step x H7 y7)
   rw [eP, eW, eA, eE, eX] at h8
   refine wpAny_bind (wpAny_mono h8 (fun _ s8 h => ?_) noE)
   obtain ⟨σ8, H8, I8, ⟨k1, k2⟩, q8⟩ := h
   have h9 := ht cl s3.heap.objs.size s3 (upd H s.heap.objs.size (.lst [])) fp (X.pn ++ pins)
   rw [hY] at h9
   have h9 := h9 _ s8 σ8 H8 _ I8 q8
   rw [eP, eW, eA, eE, eX] at h9
   refine wpAny_bind (wpAny_mono h9 (fun ok s9 h => ?_) noE)
   obtain ⟨H9, I9, q9⟩ := h
   have again : ∀ {H' : Hp} {ys' : List V} {s' : Shared}, Inv Y ([] ++ pinsAt fp s7.heap) σ8 H' s' → NN ys' H' → ∃ m, m < n ∧ ∃ i H' ys, Inv Y [] (stLC σ k js) H' s' ∧ tn i s'.heap ∧ (∀ b ∈ fp, H' b = none) ∧ W i m ys H' := fun {H' ys' s'} I' n' => by
    obtain ⟨m', hm, w'⟩ := hN ys' H' n'
    refine ⟨m', hm, i + 1, H', ys', (I'.unpinned).weak (by unfold stLC frV; rw [k2]; simp) (fun j v h => lc_keep k1 k2 j v h), T.keep _ _ _ st7 fun b hb o e => (I'.pin (b, o) (List.mem_append_right _ (List.mem_append_right _ (mem_pinsAt hb e)))).1, fun b hb => ?_, w'⟩
    obtain ⟨o, e, d⟩ := T.obj _ _ st7 b hb
    exact (I'.pin (b, o) (List.mem_append_right _ (List.mem_append_right _ (mem_pinsAt hb e)))).2.1
   cases ok with
   | false =>
    rw [if_neg Bool.false_ne_true] at q9
    exact wpAny_pure ⟨rfl, again I9 q9⟩
   | true =>
    rw [if_pos rfl] at q9
    have h10 := he cl s3.heap.objs.size s3 (upd H s.heap.objs.size (.lst [])) fp (X.pn ++ pins)
    rw [hY] at h10
    have h10 := h10 _ s9 σ8 H9 _ I9 q9
    rw [eP, eW, eA, eE, eX] at h10
    refine wpAny_bind (wpAny_bind (wpAny_mono h10 (fun y s10 h => ?_) noE))
    obtain ⟨yv, H10, I10, ry, e10, n10⟩ := h
    have h11 := mt_append (X := Y) _ s10 σ8 H10 (.ref s.heap.objs.size) [yv] (.ref s.heap.objs.size) [y] (fun _ H' => NN (ys ++ [yv]) H') I10 rfl (.cons ry .nil) ⟨_, ys, yv, rfl, rfl, e10, hlen, n10⟩
    rw [eP, eW, eA, eX] at h11
    refine wpAny_bind (wpAny_mono h11 (fun _ s11 h => ?_) noE)
    obtain ⟨_, H11, I11, _, n11⟩ := h
    exact wpAny_pure (wpAny_pure ⟨rfl, again I11 n11⟩)
 exact codeAny_compStart_list (loop _ rfl) (T.self X.A 0 _ _ _ hst1 (loop _ rfl))
end
end L2
namespace L2
open PySem PySem.Spec PyProof.Rows
section
variable {X : Cx} {scope : Scope} {N : List Str} {k : Nat} {js : List Nat} {elt iter tg : Expr} {ifs : List Expr} {pos : Pos} {wi : TI} {g : TG} {tt : TT} {te : TE}
theorem CScope.closure {pins : List (Addr × Obj)} {σ : St} {H : Hp} {s : Shared} (S : CScope X scope N k js) (I : Inv X pins σ H s) :
  ∃ cl, closureFor scope X.env = pure cl ∧ (∀ x c, cl.lookup x = some c → X.env.cells.lookup x = some c) ∧ (∀ y ∈ scope.names, y.2 = .free → ∃ c, cl.lookup y.1 = some c) :=
 closureFor_ok fun y hy hf => I.ok.has y.1 (S.frees y hy hf)
theorem pe_lc (S : CScope X scope N k js) (hc : X.calm = true) (hi : PI X tg iter wi)
  (hg : ∀ cl C s H ex pn, PG (cxLC X scope cl N C s H ex pn) tg g) (ht : ∀ cl C s H ex pn, PIfs (cxLC X scope cl N C s H ex pn) ifs tt) (he : ∀ cl C s H ex pn, PE (cxLC X scope cl N C s H ex pn) elt te)
  (hs : ∀ x, foldedSetIterable iter X.env x = pure x := by intro _; rfl) : PE X (.ListComp elt [⟨tg, iter, ifs, 0⟩] scope pos) (tLC wi k js g tt te) := by
 intro pins s σ H Q I h
 obtain ⟨cl, hclos, hcl1, hcl2⟩ := S.closure I
 rw [eval_ListComp]
 refine wpAny_comprehension_free (use := none) rfl hs hclos S.kind S.names (thn (hi pins s σ H _ I h) fun v s1 h1 => thn h1 fun itv s2 h2 => ?_)
 obtain ⟨it, fp, tn, J, H2, rfl, I2, T, st2, f2, hr⟩ := h2
 refine lc_block (Q := Q) (RR := fun acc C => compPost (model X.prog X.w) X.A X.xe none (EP X pins σ Q) acc C) S hc hg ht he hcl1 hcl2 I2 T st2 f2 hr ?_
 intro D C H' s' m I' hn h0 hL hF hz hcell hpin hDC q
 refine ⟨m, hn, fun h' sb => ⟨.ref D, H', ?_, rfl, q⟩⟩
 exact I'.turned (t' := s'.toks) (fun b o hb e => (sb.2 b hb).trans e) h0 hL (.inr hz) hcell hpin
end
end L2
namespace L2
open PySem PySem.Spec PyProof.Rows
section
variable {X : Cx} {scope : Scope} {N : List Str} {k : Nat} {js : List Nat} {elt iter tg : Expr} {ifs : List Expr} {pos : Pos} {wi : TI} {g : TG} {tt : TT} {te : TE}
theorem ps_lc {i : Nat} {y : Str} {py spos : Pos} (S : CScope X scope N k js) (hc : X.calm = true) (hi : PI X tg iter wi)
  (hg : ∀ cl C s H ex pn, PG (cxLC X scope cl N C s H ex pn) tg g) (ht : ∀ cl C s H ex pn, PIfs (cxLC X scope cl N C s H ex pn) ifs tt) (he : ∀ cl C s H ex pn, PE (cxLC X scope cl N C s H ex pn) elt te)
  (hN : X.N.Nodup) (hix : X.N[i]? = some y) (hy : X.env.scope.names.lookup y = some .local)
  (hsw : swapsWith (.ListComp elt [⟨tg, iter, ifs, 0⟩] scope pos) (some (.Name y py)) spos.line X.env = pure true := by rfl)
  (hs : ∀ x, foldedSetIterable iter X.env x = pure x := by intro _; rfl) : PS X (.Assign [.Name y py] (.ListComp elt [⟨tg, iter, ifs, 0⟩] scope pos) spos) (tAsg (tLC wi k js g tt te) (gName i)) := by
 intro pins s σ H D0 I h
 obtain ⟨cl, hclos, hcl1, hcl2⟩ := S.closure I
 rw [exec_Assign_Name_used _ _ _ _ hsw]
 refine wpAny_bind (wpAny_standAt (wpAny_bind ?_))
 show wpAny _ X.A (do let _ ← comprehension (.ListComp elt [⟨tg, iter, ifs, 0⟩] scope pos) scope X.env _ (newList []) false (eval iter X.env) (some (assign (.Name y py) X.env))) _ _ s
 refine wpAny_bind (wpAny_mono (wpAny_comprehension_free (use := some (assign (.Name y py) X.env)) (Q := fun _ s' => SP X pins D0 .next s') rfl hs hclos S.kind S.names
  (thn (hi pins s σ H _ I h) fun v s1 h1 => thn h1 fun itv s2 h2 => ?_)) (fun _ s' hq => wpAny_pure (wpAny_pure hq)) fun _ _ e => e)
 obtain ⟨it, fp, tn, J, H2, rfl, I2, T, st2, f2, hr⟩ := h2
 refine lc_block (Q := fun v H' => D0.nx (σ.set i (some v)) H') (RR := fun acc C => compPost (model X.prog X.w) X.A X.xe (some (assign (.Name y py) X.env)) (fun _ s' => SP X pins D0 .next s') acc C) S hc hg ht he hcl1 hcl2 I2 T st2 f2 hr ?_
 intro D C H' s' m I' hn h0 hL hF hz hcell hpin hDC q
 show wpAny _ X.A (assign (.Name y py) X.env (.ref D)) _ _ _
 refine wpAny_assign_Name (store_ok2 I' hN hix (.inl hy) (v := .ref D) rfl (fun s'' I'' hsb => ?_) (.inr hy))
 obtain ⟨a, sb, ha⟩ := hsb
 have haC : C ≠ a := by
  rcases ha with rfl | ha
  ·exact hL
  ·exact fun z => hcell y a ha z.symm
 refine ⟨m, hn.sameBut sb haC, fun h' sb' => ⟨σ.set i (some (.ref D)), H', ?_, q⟩⟩
 exact I''.turned (t' := s''.toks) (fun b o hb e => (sb'.2 b hb).trans e) h0 hL (.inr hz) hcell hpin
end
end L2
set_option Elab.async false
set_option linter.all false
set_option maxRecDepth 100000
namespace L2
open PySem PySem.Spec PyProof.Rows
section
variable {X : Cx}
noncomputable def rIsi (K : PySem.W.Frag) : List V → Hp → VK → Prop := fun xs H Q => ∃ x T t b, xs = [x, .ty T] ∧ TyOf K H x t ∧ PySem.W.kitOne K t (.type T) = some b ∧ Q (.bl b) H
theorem call_isi : CallR X (.builtin "isinstance") (rIsi X.K) := by
 intro pins s σ H xs us Q I r h
 obtain ⟨x, T, t, b, rfl, ty, e, q⟩ := h
 obtain ⟨u, v, rfl, ru, rv⟩ := r.two
 obtain rfl : v = Value.type T := rv
 exact isinst_ok I ru ty e fun tk => ⟨.bl b, H, I.tok tk, rfl, q⟩
theorem isi_int_int (K : PySem.W.Frag) : PySem.W.kitOne K (.type "int") (.type "int") = some true := rfl
theorem isi_int_bool (K : PySem.W.Frag) : PySem.W.kitOne K (.type "int") (.type "bool") = some false := by
 kernel_rfl
theorem isi_bool_int (K : PySem.W.Frag) : PySem.W.kitOne K (.type "bool") (.type "int") = some true := by
 kernel_rfl
theorem isi_bool_bool (K : PySem.W.Frag) : PySem.W.kitOne K (.type "bool") (.type "bool") = some true := rfl
theorem isi_tup_tup (K : PySem.W.Frag) : PySem.W.kitOne K (.type "tuple") (.type "tuple") = some true := rfl
theorem isi_lst_lst (K : PySem.W.Frag) : PySem.W.kitOne K (.type "list") (.type "list") = some true := rfl
theorem isi_lst_tup (K : PySem.W.Frag) : PySem.W.kitOne K (.type "list") (.type "tuple") = some false := by
 kernel_rfl
theorem vals_bl : ∀ {bs : List Bool} {us : List Value}, Vals (bs.map V.bl) us → us = bs.map Value.bool
 | [], _, .nil => rfl
 | b :: r, _, .cons h t => by
  rw [show _ = Value.bool b from h, vals_bl t]
  rfl
theorem truth_bl {prog : Program} {w : World} {A : Around} (bs : List Bool) : TruthOf prog w A (fun i v => (bs.map Value.bool).toArray[i]? = some v) (fun i => bs.getD i false) := by
 intro i v s Q E hP hQ
 have hP' : (bs.map Value.bool)[i]? = some v := by simpa using hP
 rw [List.getElem?_map] at hP'
 cases e : bs[i]? with
 | none => rw [e] at hP'; cases hP'
 | some b =>
  rw [e] at hP'
  have : v = Value.bool b := (Option.some.inj hP').symm
  subst this
  refine wpAny_truthy_bool ?_
  have hb : bs.getD i false = b := by simp [List.getD, e]
  have hQ' : Q (bs.getD i false) s := hQ
  rw [hb] at hQ'
  exact hQ'
theorem all_range (bs : List Bool) : (List.range bs.length).all (fun i => bs.getD i false) = bs.all id := by
 rw [Bool.eq_iff_iff, List.all_eq_true, List.all_eq_true]
 constructor
 ·intro h x hx
  obtain ⟨i, hi, rfl⟩ := List.mem_iff_getElem.mp hx
  have := h i (by simpa using hi)
  simpa [List.getD, hi] using this
 ·intro h i hi
  have hi' : i < bs.length := by simpa using hi
  have := h bs[i] (List.getElem_mem hi')
  simpa [List.getD, hi'] using this
noncomputable def rAllB (K : PySem.W.Frag) (f : List Bool → Bool) : List V → Hp → VK → Prop := fun xs H Q => ∃ p bs, xs = [.ref p] ∧ SqL K H p (bs.map V.bl) ∧ Q (.bl (f bs)) H
theorem call_all (hc : X.calm = true) : CallR X (.builtin "all") (rAllB X.K fun bs => bs.all id) := by
 intro pins s σ H xs us Q I r h
 obtain ⟨p, bs, rfl, hq, q⟩ := h
 obtain ⟨u, rfl, ru⟩ := r.one
 obtain rfl : u = Value.ref p := ru
 obtain ⟨its, rv, hl, hz⟩ := I.list hq
 have e := vals_bl rv
 subst e
 obtain ⟨o, ho, _⟩ := id hl.isList
 refine call_all_walk (wpAny_pyIter_list hl.isList ?_)
 refine ⟨_, _, _, _, _, _, _, rfl, Walks.list (A := X.A.in1) (I.ok.hd hc) _ p (Nat.ne_of_lt (Heap.lt_size ho)) _, ⟨⟨_, Heap.get?_push_size _ rfl, rfl, rfl⟩, hl.isList.at fun o e => Heap.get?_push_of_some _ e⟩, truth_bl bs, fun h' tk hk => ?_⟩
 have ea : (List.range (bs.map Value.bool).toArray.size).all (fun i => bs.getD i false) = bs.all id := by
  rw [List.size_toArray, List.length_map]
  exact all_range bs
 rw [ea]
 exact ⟨.bl _, H, I.kept (t' := tk) fun b o e => hk b o (fun z => by
  have z' : b = s.heap.objs.size := by simpa using z
  exact absurd (Heap.lt_size e) (by rw [z']; exact Nat.lt_irrefl _)) (Heap.get?_push_of_some _ e), rfl, q⟩
end
mutual
inductive Rdy (K : PySem.W.Frag) (H : Hp) : V → PyData → Prop
 | non : Rdy K H .non .none
 | bl (b : Bool) : Rdy K H (.bl b) (.bool b)
 | int (i : Int) : Rdy K H (.int i) (.int i)
 | str (x : Str) : Rdy K H (.str x) (.str x)
 | tup {a : Addr} {xs : List V} {ds : List PyData} : SqT K H a xs → RdyAll K H xs ds → Rdy K H (.ref a) (.tuple ds)
 | lst {a : Addr} {xs : List V} {ds : List PyData} : SqL K H a xs → RdyAll K H xs ds → Rdy K H (.ref a) (.list ds)
inductive RdyAll (K : PySem.W.Frag) (H : Hp) : List V → List PyData → Prop
 | nil : RdyAll K H [] []
 | cons {x : V} {xs : List V} {d : PyData} {ds : List PyData} : Rdy K H x d → RdyAll K H xs ds → RdyAll K H (x :: xs) (d :: ds)
end
section
variable {X : Cx} {pins : List (Addr × Obj)} {σ : St} {H : Hp} {s : Shared}
mutual
theorem Rdy.reads (I : Inv X pins σ H s) : ∀ {x : V} {d : PyData}, Rdy X.K H x d → ∀ {u : Value}, RelV x u → ∃ as, Reads s.heap u d as
 | _, _, .non, u, r => by cases (show u = Value.none from r); exact ⟨_, .none⟩
 | _, _, .bl b, u, r => by cases (show u = Value.bool b from r); exact ⟨_, .bool b⟩
 | _, _, .int i, u, r => by obtain ⟨t, rfl⟩ := (show ∃ t, u = Value.int i t from r); exact ⟨_, .int i t⟩
 | _, _, .str x, u, r => by obtain ⟨t, rfl⟩ := (show ∃ t, u = Value.str x t from r); exact ⟨_, .str x t⟩
 | _, _, @Rdy.tup _ _ a xs ds hq ha, u, r => by
  cases (show u = Value.ref a from r)
  obtain ⟨its, rv, ⟨o, ho, hc, n, hd⟩, hz⟩ := I.tuple hq
  obtain ⟨as, ra⟩ := RdyAll.reads I ha rv
  exact ⟨_, .tuple ho hc hd (by simpa using ra)⟩
 | _, _, @Rdy.lst _ _ a xs ds hq ha, u, r => by
  cases (show u = Value.ref a from r)
  obtain ⟨its, rv, ⟨o, n, ho, hc, _, hd⟩, hz⟩ := I.list hq
  obtain ⟨as, ra⟩ := RdyAll.reads I ha rv
  exact ⟨_, .list ho hc hd (by simpa using ra)⟩
theorem RdyAll.reads (I : Inv X pins σ H s) : ∀ {xs : List V} {ds : List PyData}, RdyAll X.K H xs ds → ∀ {us : List Value}, Vals xs us → ∃ as, ReadsAll s.heap us ds as
 | _, _, .nil, _, .nil => ⟨_, .nil⟩
 | _, _, .cons h t, _, .cons r rs => by
  obtain ⟨as, h1⟩ := Rdy.reads I h r
  obtain ⟨bs, h2⟩ := RdyAll.reads I t rs
  exact ⟨_, .cons h1 h2⟩
end
end
section
variable {X : Cx}
open PySem.SeqAt in
noncomputable def rEqD (K : PySem.W.Frag) (f : Bool → Bool) : R2 := fun x y H Q => ∃ d e, Rdy K H x d ∧ Rdy K H y e ∧ shaped d = true ∧ shaped e = true ∧ Q (.bl (f (PyData.eqv d e))) H
theorem op_eqD (hu : X.A.units + 64 < cLine) : OpR X (compareOp .Eq) (rEqD X.K id) := by
 intro pins s σ H x y v u Q I rx ry h
 obtain ⟨d, e, hd, he, sd, se, q⟩ := h
 obtain ⟨as, ra⟩ := hd.reads I rx
 obtain ⟨bs, rb⟩ := he.reads I ry
 exact eq_dataH ra rb sd se hu ⟨.bl _, H, I, rfl, q⟩
theorem op_neD (hu : X.A.units + 64 < cLine) : OpR X (compareOp .NotEq) (rEqD X.K not) := by
 intro pins s σ H x y v u Q I rx ry h
 obtain ⟨d, e, hd, he, sd, se, q⟩ := h
 obtain ⟨as, ra⟩ := hd.reads I rx
 obtain ⟨bs, rb⟩ := he.reads I ry
 exact ne_dataH ra rb sd se hu ⟨.bl _, H, I, rfl, q⟩
end
noncomputable def Ext (H H' : Hp) : Prop := ∀ b o, H b = some o → H' b = some o
theorem Ext.refl (H : Hp) : Ext H H := fun _ _ h => h
theorem Ext.trans {H H1 H2 : Hp} (a : Ext H H1) (b : Ext H1 H2) : Ext H H2 := fun c o h => b c o (a c o h)
theorem Ext.upd {H : Hp} {p : Addr} {o : HO} (h : H p = none) : Ext H (upd H p o) := fun b u e => by rw [upd_ne (ne_of_none e h)]; exact e
theorem Ext.then {H H1 : Hp} {p : Addr} {o : HO} (a : Ext H H1) (h : H1 p = none) : Ext H (L2.upd H1 p o) := a.trans (Ext.upd h)
theorem Ext.none {H H' : Hp} (e : Ext H H') {l : Addr} (h : H' l = .none) : H l = .none := by
 cases q : H l with
 | none => rfl
 | some o => rw [e l o q] at h; cases h
theorem Ext.sqT {K : PySem.W.Frag} {H H' : Hp} {a : Addr} {xs : List V} (e : Ext H H') (h : SqT K H a xs) : SqT K H' a xs := by
 rcases h with (h | ⟨o, h⟩) | h
 ·exact .inl (.inl (e _ _ h))
 ·exact .inl (.inr ⟨o, e _ _ h⟩)
 ·exact .inr h
theorem Ext.sqL {K : PySem.W.Frag} {H H' : Hp} {a : Addr} {xs : List V} (e : Ext H H') (h : SqL K H a xs) : SqL K H' a xs := by
 rcases h with (h | ⟨o, h⟩) | h
 ·exact .inl (.inl (e _ _ h))
 ·exact .inl (.inr ⟨o, e _ _ h⟩)
 ·exact .inr h
end L2
set_option Elab.async false
set_option linter.all false
set_option maxRecDepth 100000
namespace L2
open PySem PySem.Spec PyProof.Rows
structure FnB (P : Program) (w : World) (K : PySem.W.Frag) (mg : Str → Option Value) (base : Heap) (CX : CXT) (k : Nat) (x : Str) (ps : List Str) (sp : Sp) : Prop where
 ex : ∃ f fd, FnOk P w K mg base CX k f fd ps sp ∧ mg x = some (.ref f) ∧ PySem.W.keepIn K (.ref f) = true ∧ Binds K fd ps []
section
variable {X : Cx} {CX : CXT} {k : Nat} {ps : List Str} {sp : Sp} {E : XK} {x : Str} {p pos : Pos} {e : Expr} {es : List Expr} {t : TA}
theorem pe_fn (F : FnB X.prog X.w X.K X.mg X.base CX k x ps sp) (hr : Room k X.A) (hg : Gl X x) (hx : Passes CX X E)
  (ha : PA X (e :: es) t) (hdb : (x == ("__debug__" : Str)) = false := by decide) (he : starEach (e :: es) X.env = (false, eval e X.env) :: starEach es X.env := by rfl) (hpl : (backTo pos (starEach es X.env)).any (·.1) = false := by rfl) :
  PE X (.Call (.Name x p) (e :: es) [] pos) (tCall sp [] E t) := by
 obtain ⟨f, fd, h1, h2, h3, h4⟩ := F.ex
 exact pe_call h1 hr hg h2 h3 h4 .nil hx ha hdb he hpl
end
theorem FnB.of {P : Program} {w : World} {K : PySem.W.Frag} {mg : Str → Option Value} {base : Heap} {CX : CXT} {k : Nat} {x : Str} {ps : List Str} {sp : Sp} {f : Addr} {fd : FuncData} (h : FnOk P w K mg base CX k f fd ps sp) (m : mg x = some (.ref f)) (kp : PySem.W.keepIn K (.ref f) = true) (b : Binds K fd ps []) : FnB P w K mg base CX k x ps sp := ⟨f, fd, h, m, kp, b⟩
noncomputable def optK {α : Type} (o : Option α) (k : α → Prop) : Prop := match o with | some v => k v | none => False
noncomputable def seqOf (o : Option HO) : Option (List V) := match o with
 | some (.lst xs) => some xs
 | some (.tup xs) => some xs
 | _ => none
theorem seqOf_l (xs : List V) : seqOf (some (.lst xs)) = some xs := rfl
theorem seqOf_t (xs : List V) : seqOf (some (.tup xs)) = some xs := rfl
noncomputable def ixF : R2 := fun x y H Q => match x, y with
 | .ref p, .int i => optK (seqOf (H p)) fun xs => optK (atI xs i) fun v => Q v H
 | _, _ => False
theorem ix_F {X : Cx} : IxR X ixF := by
 intro value slice pins s σ H x y v u Q I rx ry q hs
 unfold ixF at q
 split at q
 ·rename_i p i
  cases e : H p with
  | none => rw [e] at q; exact q.elim
  | some o =>
   rw [e] at q
   cases o with
   | lst xs =>
    have q : optK (atI xs i) fun v => Q v H := q
    unfold optK at q
    split at q
    ·rename_i w hw
     exact ix_list value slice pins s σ H _ _ v u Q I rx ry ⟨p, xs, i, w, rfl, rfl, SqL.of e, hw, q⟩ hs
    ·exact q.elim
   | tup xs =>
    have q : optK (atI xs i) fun v => Q v H := q
    unfold optK at q
    split at q
    ·rename_i w hw
     exact ix_tup value slice pins s σ H _ _ v u Q I rx ry ⟨p, xs, i, w, rfl, rfl, SqT.of e, hw, q⟩ hs
    ·exact q.elim
   | _ => exact q.elim
 ·exact q.elim
theorem atI_0 {α : Type} (a : α) (l : List α) : atI (a :: l) 0 = some a := atI_nat (j := 0) rfl
theorem atI_1 {α : Type} (a b : α) (l : List α) : atI (a :: b :: l) 1 = some b := atI_nat (j := 1) rfl
theorem atI_2 {α : Type} (a b c : α) (l : List α) : atI (a :: b :: c :: l) 2 = some c := atI_nat (j := 2) rfl
theorem atI_3 {α : Type} (a b c d : α) (l : List α) : atI (a :: b :: c :: d :: l) 3 = some d := atI_nat (j := 3) rfl
theorem optK_some {α : Type} (a : α) (k : α → Prop) : optK (some a) k = k a := rfl
noncomputable def cscOk (dsc scope : Scope) (N0 N : List Str) (k : Nat) (js : List Nat) : Bool :=
 scope.kind == .function && scope.names.all (fun y => y.2 != .cell) && scope.names.all (fun y => y.2 != .local || scope.names.lookup y.1 == some .local) &&
 scope.names.all (fun y => y.2 != .free || dsc.names.lookup y.1 == some .cell || dsc.names.lookup y.1 == some .free) && N.length == k + js.length &&
 (List.range js.length).all (fun i => match js[i]? with | some j => (match N[k + i]? with | some x => N0[j]? == some x && scope.names.lookup x == some .free | none => false) | none => false)
theorem CScope.of_ok {X : Cx} {dsc scope : Scope} {N0 N : List Str} {k : Nat} {js : List Nat} (e : X.env.scope = dsc) (n : X.N = N0) (h : cscOk dsc scope N0 N k js = true) : CScope X scope N k js := by
 subst e n
 unfold cscOk at h
 simp only [Bool.and_eq_true, List.all_eq_true] at h
 obtain ⟨⟨⟨⟨⟨h1, h2⟩, h3⟩, h4⟩, h5⟩, h6⟩ := h
 refine ⟨by simpa using h1, fun y hy => by simpa using h2 y hy, fun y hy hl => ?_, fun y hy hl => ?_, by simpa using h5, fun i j hj => ?_⟩
 ·have := h3 y hy
  simpa [hl] using this
 ·have := h4 y hy
  simp only [hl, bne_self_eq_false, Bool.false_or, Bool.or_eq_true, beq_iff_eq] at this
  exact this
 ·have hi : i < js.length := (List.getElem?_eq_some_iff.mp hj).1
  have := h6 i (by simpa using hi)
  rw [hj] at this
  dsimp only at this
  cases q : N[k + i]? with
  | none => rw [q] at this; cases this
  | some x =>
   rw [q] at this
   simp only [Bool.and_eq_true, beq_iff_eq] at this
   exact ⟨x, rfl, this.1, this.2⟩
theorem lc_range {lo : Int} {n : Nat} {g : TG} {tt : TT} {te : TE} {k : Nat} {js : List Nat} {σ : St} {D : Addr} {Q : VK} {H : Hp} (Pv : Nat → List V → Hp → Prop) (h0 : Pv 0 [] (upd H D (.lst [])))
  (hn : n < sizeLine) (hl : ∀ i ys H, i ≤ n → Pv i ys H → H D = some (.lst ys) ∧ ys.length ≤ i)
  (hs : ∀ i ys H, i < n → Pv i ys H → g (.int (lo + i)) (stLC σ k js) H fun σ2 H2 => (σ2.drop k = frV σ js ∧ σ2.length = k + js.length) ∧ tt σ2 H2 fun b H3 => if b = true then te σ2 H3 fun y H4 => H4 D = some (.lst ys) ∧ Pv (i + 1) (ys ++ [y]) (upd H4 D (.lst (ys ++ [y]))) else Pv (i + 1) ys H3)
  (hd : ∀ ys H, Pv n ys H → Q (.ref D) H) :
  ∃ W : Nat → Nat → List V → Hp → Prop, (∃ m, W 0 m [] (upd H D (.lst []))) ∧ ∀ i m ys H, W i m ys H → H D = some (.lst ys) ∧
  (((Itr lo n).stop i H ∧ Q (.ref D) H) ∨ ((Itr lo n).go i H ∧ ys.length < sizeLine ∧ ∃ N : List V → Hp → Prop, (∀ ys' H', N ys' H' → ∃ m', m' < m ∧ W (i + 1) m' ys' H') ∧
   ∀ x H', (Itr lo n).yld i H x H' → g x (stLC σ k js) H' fun σ2 H2 => (σ2.drop k = frV σ js ∧ σ2.length = k + js.length) ∧ tt σ2 H2 fun b H3 => if b = true then te σ2 H3 fun y H4 => H4 D = some (.lst ys) ∧ N (ys ++ [y]) (upd H4 D (.lst (ys ++ [y]))) else N ys H3)) := by
 refine ⟨fun i m ys H => m = n - i ∧ i ≤ n ∧ Pv i ys H, ⟨n, by simp, Nat.zero_le _, h0⟩, ?_⟩
 rintro i m ys H ⟨rfl, hi, p⟩
 obtain ⟨e1, e2⟩ := hl i ys H hi p
 refine ⟨e1, ?_⟩
 by_cases hlt : i < n
 ·refine .inr ⟨hlt, by omega, Pv (i + 1), fun ys' H' p' => ⟨n - (i + 1), by omega, rfl, hlt, p'⟩, fun x H' y => ?_⟩
  obtain ⟨e, y⟩ := y
  subst e y
  exact hs i ys _ hlt p
 ·have e : i = n := by omega
  subst e
  exact .inl ⟨Nat.le_refl _, hd ys H p⟩
theorem lc_list {K : PySem.W.Frag} {a : Addr} {xs : List V} {g : TG} {tt : TT} {te : TE} {k : Nat} {js : List Nat} {σ : St} {D : Addr} {Q : VK} {H : Hp} (Pv : Nat → List V → Hp → Prop) (h0 : Pv 0 [] (upd H D (.lst [])))
  (hn : xs.length < sizeLine) (hl : ∀ i ys H, i ≤ xs.length → Pv i ys H → H D = some (.lst ys) ∧ ys.length ≤ i ∧ SqL K H a xs)
  (hs : ∀ i x ys H, xs[i]? = some x → Pv i ys H → g x (stLC σ k js) H fun σ2 H2 => (σ2.drop k = frV σ js ∧ σ2.length = k + js.length) ∧ tt σ2 H2 fun b H3 => if b = true then te σ2 H3 fun y H4 => H4 D = some (.lst ys) ∧ Pv (i + 1) (ys ++ [y]) (upd H4 D (.lst (ys ++ [y]))) else Pv (i + 1) ys H3)
  (hd : ∀ ys H, Pv xs.length ys H → Q (.ref D) H) :
  ∃ W : Nat → Nat → List V → Hp → Prop, (∃ m, W 0 m [] (upd H D (.lst []))) ∧ ∀ i m ys H, W i m ys H → H D = some (.lst ys) ∧
  (((Itl K a).stop i H ∧ Q (.ref D) H) ∨ ((Itl K a).go i H ∧ ys.length < sizeLine ∧ ∃ N : List V → Hp → Prop, (∀ ys' H', N ys' H' → ∃ m', m' < m ∧ W (i + 1) m' ys' H') ∧
   ∀ x H', (Itl K a).yld i H x H' → g x (stLC σ k js) H' fun σ2 H2 => (σ2.drop k = frV σ js ∧ σ2.length = k + js.length) ∧ tt σ2 H2 fun b H3 => if b = true then te σ2 H3 fun y H4 => H4 D = some (.lst ys) ∧ N (ys ++ [y]) (upd H4 D (.lst (ys ++ [y]))) else N ys H3)) := by
 refine ⟨fun i m ys H => m = xs.length - i ∧ i ≤ xs.length ∧ Pv i ys H, ⟨xs.length, by simp, Nat.zero_le _, h0⟩, ?_⟩
 rintro i m ys H ⟨rfl, hi, p⟩
 obtain ⟨e1, e2, q⟩ := hl i ys H hi p
 refine ⟨e1, ?_⟩
 by_cases hlt : i < xs.length
 ·refine .inr ⟨⟨xs, xs[i], q, by simp [hlt]⟩, by omega, Pv (i + 1), fun ys' H' p' => ⟨xs.length - (i + 1), by omega, rfl, hlt, p'⟩, fun x H' y => ?_⟩
  obtain ⟨e, y⟩ := y
  subst e
  exact hs i x ys _ (y xs q) p
 ·have e : i = xs.length := by omega
  subst e
  exact .inl ⟨⟨xs, q, Nat.le_refl _⟩, hd ys H p⟩
theorem lc_tup {K : PySem.W.Frag} {a : Addr} {xs : List V} {g : TG} {tt : TT} {te : TE} {k : Nat} {js : List Nat} {σ : St} {D : Addr} {Q : VK} {H : Hp} (Pv : Nat → List V → Hp → Prop) (h0 : Pv 0 [] (upd H D (.lst [])))
  (hn : xs.length < sizeLine) (hl : ∀ i ys H, i ≤ xs.length → Pv i ys H → H D = some (.lst ys) ∧ ys.length ≤ i ∧ SqT K H a xs)
  (hs : ∀ i x ys H, xs[i]? = some x → Pv i ys H → g x (stLC σ k js) H fun σ2 H2 => (σ2.drop k = frV σ js ∧ σ2.length = k + js.length) ∧ tt σ2 H2 fun b H3 => if b = true then te σ2 H3 fun y H4 => H4 D = some (.lst ys) ∧ Pv (i + 1) (ys ++ [y]) (upd H4 D (.lst (ys ++ [y]))) else Pv (i + 1) ys H3)
  (hd : ∀ ys H, Pv xs.length ys H → Q (.ref D) H) :
  ∃ W : Nat → Nat → List V → Hp → Prop, (∃ m, W 0 m [] (upd H D (.lst []))) ∧ ∀ i m ys H, W i m ys H → H D = some (.lst ys) ∧
  (((Itt K a).stop i H ∧ Q (.ref D) H) ∨ ((Itt K a).go i H ∧ ys.length < sizeLine ∧ ∃ N : List V → Hp → Prop, (∀ ys' H', N ys' H' → ∃ m', m' < m ∧ W (i + 1) m' ys' H') ∧
   ∀ x H', (Itt K a).yld i H x H' → g x (stLC σ k js) H' fun σ2 H2 => (σ2.drop k = frV σ js ∧ σ2.length = k + js.length) ∧ tt σ2 H2 fun b H3 => if b = true then te σ2 H3 fun y H4 => H4 D = some (.lst ys) ∧ N (ys ++ [y]) (upd H4 D (.lst (ys ++ [y]))) else N ys H3)) := by
 refine ⟨fun i m ys H => m = xs.length - i ∧ i ≤ xs.length ∧ Pv i ys H, ⟨xs.length, by simp, Nat.zero_le _, h0⟩, ?_⟩
 rintro i m ys H ⟨rfl, hi, p⟩
 obtain ⟨e1, e2, q⟩ := hl i ys H hi p
 refine ⟨e1, ?_⟩
 by_cases hlt : i < xs.length
 ·refine .inr ⟨⟨xs, xs[i], q, by simp [hlt]⟩, by omega, Pv (i + 1), fun ys' H' p' => ⟨xs.length - (i + 1), by omega, rfl, hlt, p'⟩, fun x H' y => ?_⟩
  obtain ⟨e, y⟩ := y
  subst e
  exact hs i x ys _ (y xs q) p
 ·have e : i = xs.length := by omega
  subst e
  exact .inl ⟨⟨xs, q, Nat.le_refl _⟩, hd ys H p⟩
end L2
namespace L2
open PySem PySem.Spec PyProof.Rows
section
variable {X : Cx} {st : Stmt} {rest : List Stmt} {t u : TS}
noncomputable def tCut (t u : TS) : TS := fun D σ H => ∃ Pv : St → Hp → Prop, t { D with nx := Pv } σ H ∧ ∀ σ H, Pv σ H → u D σ H
theorem pss_cut (h1 : PS X st t) (h2 : PSs X rest u) : PSs X (st :: rest) (tCut t u) := by
 intro pins s σ H D I h
 obtain ⟨Pv, ha, hb⟩ := h
 refine wpAny_execs_cons (thn (h1 pins s σ H { D with nx := Pv } I ha) fun f s1 q => ?_)
 cases f with
 | next =>
  obtain ⟨σ', H', I', q⟩ := q
  exact h2 pins s1 σ' H' D I' (hb σ' H' q)
 | ret v => exact q
 | brk => exact q
 | cont => exact q
end
theorem CMulA.of {m n : Nat} {i j : Int} (h : Bd m i) (k : Bd n j) (hm : m ≤ 100000) (hn : n ≤ 100000) : CMulA i j := .inr ⟨h.mono hm, k.mono hn⟩
theorem CMulA.left {i j : Int} (h1 : -(2 ^ 64) < i) (h2 : i < 2 ^ 64) : CMulA i j := .inl (.inl ⟨h1, h2⟩)
theorem CMulA.right {i j : Int} (h1 : -(2 ^ 64) < j) (h2 : j < 2 ^ 64) : CMulA i j := .inl (.inr ⟨h1, h2⟩)
theorem atI_four {a b c d r : Int} (Pr : Int → Prop) (ha : Pr a) (hb : Pr b) (hc : Pr c) (hd : Pr d) (h0 : 0 ≤ r) (h4 : r < 4) : ∃ x, atI [V.int a, V.int b, V.int c, V.int d] r = some (.int x) ∧ Pr x := by
 have : r = 0 ∨ r = 1 ∨ r = 2 ∨ r = 3 := by omega
 rcases this with rfl | rfl | rfl | rfl
 ·exact ⟨a, rfl, ha⟩
 ·exact ⟨b, rfl, hb⟩
 ·exact ⟨c, rfl, hc⟩
 ·exact ⟨d, rfl, hd⟩
theorem upd_f {H : Hp} {q b : Addr} {o u : HO} (h : H q = none) (e : H b = some u) : upd H q o b = some u := by rw [upd_ne (ne_of_none e h)]; exact e
end L2
namespace L2
open PySem PySem.Spec PyProof.Rows
theorem Bd.lit {n : Nat} {i : Int} (h : i.natAbs < 2 ^ 64) (hn : 64 ≤ n) : Bd n i := Bd.mono (m := 64) h hn
theorem bd10 : Bd 100000 10 = True := eq_true (Bd.lit (by decide) (by decide))
theorem bd64 : Bd 9000 64 = True := eq_true (Bd.lit (by decide) (by decide))
theorem bd2 : Bd 9000 2 = True := eq_true (Bd.lit (by decide) (by decide))
theorem bd4 : Bd 9000 4 = True := eq_true (Bd.lit (by decide) (by decide))
theorem bd3 : Bd 9000 3 = True := eq_true (Bd.lit (by decide) (by decide))
theorem ixN_3_0 : ixN 3 0 = some 0 := rfl
theorem ixN_3_1 : ixN 3 1 = some 1 := rfl
theorem ixN_3_2 : ixN 3 2 = some 2 := rfl
theorem ixN_2_0 : ixN 2 0 = some 0 := rfl
theorem ixN_2_1 : ixN 2 1 = some 1 := rfl
theorem ixN_4_0 : ixN 4 0 = some 0 := rfl
theorem ixN_4_1 : ixN 4 1 = some 1 := rfl
theorem ixN_4_2 : ixN 4 2 = some 2 := rfl
theorem ixN_4_3 : ixN 4 3 = some 3 := rfl
theorem atI_mod {xs : List Int} {k : Int} (h : 0 < xs.length) : ∃ x, atI (xs.map V.int) (k % (xs.length : Int)) = some (.int x) ∧ x ∈ xs := by
 have h1 := Int.emod_nonneg k (by omega : (xs.length : Int) ≠ 0)
 have h2 := Int.emod_lt_of_pos k (by omega : 0 < (xs.length : Int))
 obtain ⟨j, hj⟩ : ∃ j : Nat, k % (xs.length : Int) = (j : Int) := ⟨(k % (xs.length : Int)).toNat, by omega⟩
 rw [hj] at h2 ⊢
 have hjl : j < xs.length := by omega
 exact ⟨xs[j], atI_nat (by rw [List.getElem?_map]; simp [hjl]), List.getElem_mem hjl⟩
end L2
namespace L2
open PySem PySem.Spec PyProof.Rows
theorem lc_list_map {K : PySem.W.Frag} {a : Addr} {xs : List V} {g : TG} {tt : TT} {te : TE} {k : Nat} {js : List Nat} {σ : St} {D : Addr} {Q : VK} {H : Hp} (vals : V → V) (hD : H D = none) (hq : SqL K H a xs) (hn : xs.length < sizeLine)
  (hs : ∀ x ys (R : VK) (R' : Hp → Prop), x ∈ xs → R (vals x) (upd H D (.lst ys)) → g x (stLC σ k js) (upd H D (.lst ys)) fun σ2 H2 => (σ2.drop k = frV σ js ∧ σ2.length = k + js.length) ∧ tt σ2 H2 fun b H3 => if b = true then te σ2 H3 R else R' H3)
  (hd : Q (.ref D) (upd H D (.lst (xs.map vals)))) :
  ∃ W : Nat → Nat → List V → Hp → Prop, (∃ m, W 0 m [] (upd H D (.lst []))) ∧ ∀ i m ys H, W i m ys H → H D = some (.lst ys) ∧
  (((Itl K a).stop i H ∧ Q (.ref D) H) ∨ ((Itl K a).go i H ∧ ys.length < sizeLine ∧ ∃ N : List V → Hp → Prop, (∀ ys' H', N ys' H' → ∃ m', m' < m ∧ W (i + 1) m' ys' H') ∧
   ∀ x H', (Itl K a).yld i H x H' → g x (stLC σ k js) H' fun σ2 H2 => (σ2.drop k = frV σ js ∧ σ2.length = k + js.length) ∧ tt σ2 H2 fun b H3 => if b = true then te σ2 H3 fun y H4 => H4 D = some (.lst ys) ∧ N (ys ++ [y]) (upd H4 D (.lst (ys ++ [y]))) else N ys H3)) := by
 refine lc_list (xs := xs) (fun i ys H' => ys = (xs.take i).map vals ∧ H' = upd H D (.lst ys)) ⟨rfl, rfl⟩ hn (fun i ys H' hi p => ?_) (fun i x ys H' hx p => ?_) (fun ys H' p => ?_)
 ·obtain ⟨e, rfl⟩ := p
  exact ⟨upd_same, by rw [e]; simp; omega, (Ext.upd hD).sqL hq⟩
 ·obtain ⟨e, rfl⟩ := p
  refine hs x ys _ _ (List.mem_of_getElem? hx) ⟨upd_same, ?_, by rw [upd_upd]⟩
  rw [e, List.take_add_one, hx, List.map_append]
  rfl
 ·obtain ⟨rfl, rfl⟩ := p
  rw [List.take_length]
  exact hd
theorem lc_tup_map {K : PySem.W.Frag} {a : Addr} {xs : List V} {g : TG} {tt : TT} {te : TE} {k : Nat} {js : List Nat} {σ : St} {D : Addr} {Q : VK} {H : Hp} (vals : V → V) (hD : H D = none) (hq : SqT K H a xs) (hn : xs.length < sizeLine)
  (hs : ∀ x ys (R : VK) (R' : Hp → Prop), x ∈ xs → R (vals x) (upd H D (.lst ys)) → g x (stLC σ k js) (upd H D (.lst ys)) fun σ2 H2 => (σ2.drop k = frV σ js ∧ σ2.length = k + js.length) ∧ tt σ2 H2 fun b H3 => if b = true then te σ2 H3 R else R' H3)
  (hd : Q (.ref D) (upd H D (.lst (xs.map vals)))) :
  ∃ W : Nat → Nat → List V → Hp → Prop, (∃ m, W 0 m [] (upd H D (.lst []))) ∧ ∀ i m ys H, W i m ys H → H D = some (.lst ys) ∧
  (((Itt K a).stop i H ∧ Q (.ref D) H) ∨ ((Itt K a).go i H ∧ ys.length < sizeLine ∧ ∃ N : List V → Hp → Prop, (∀ ys' H', N ys' H' → ∃ m', m' < m ∧ W (i + 1) m' ys' H') ∧
   ∀ x H', (Itt K a).yld i H x H' → g x (stLC σ k js) H' fun σ2 H2 => (σ2.drop k = frV σ js ∧ σ2.length = k + js.length) ∧ tt σ2 H2 fun b H3 => if b = true then te σ2 H3 fun y H4 => H4 D = some (.lst ys) ∧ N (ys ++ [y]) (upd H4 D (.lst (ys ++ [y]))) else N ys H3)) := by
 refine lc_tup (xs := xs) (fun i ys H' => ys = (xs.take i).map vals ∧ H' = upd H D (.lst ys)) ⟨rfl, rfl⟩ hn (fun i ys H' hi p => ?_) (fun i x ys H' hx p => ?_) (fun ys H' p => ?_)
 ·obtain ⟨e, rfl⟩ := p
  exact ⟨upd_same, by rw [e]; simp; omega, (Ext.upd hD).sqT hq⟩
 ·obtain ⟨e, rfl⟩ := p
  refine hs x ys _ _ (List.mem_of_getElem? hx) ⟨upd_same, ?_, by rw [upd_upd]⟩
  rw [e, List.take_add_one, hx, List.map_append]
  rfl
 ·obtain ⟨rfl, rfl⟩ := p
  rw [List.take_length]
  exact hd
end L2
namespace L2
open PySem PySem.Spec PyProof.Rows
section
variable {g : TG} {tt : TT} {te tl : TE} {ta : TA} {k : Nat} {js : List Nat} {σ : St} {Q : VK} {H : Hp} {tb : TS} {Dn : Ends} {K : PySem.W.Frag} {a : Addr} {xs : List V}
theorem tlc_list_map (ha : ∀ R : VK, R (.ref a) H → tl σ H R) (hq : SqL K H a xs) (hn : xs.length < 1000000) (vals : V → V)
  (hs : ∀ D x ys (R : VK) (R' : Hp → Prop), H D = none → x ∈ xs → R (vals x) (upd H D (.lst ys)) → g x (L2.stLC σ k js) (upd H D (.lst ys)) fun σ2 H2 => (σ2.drop k = frV σ js ∧ σ2.length = k + js.length) ∧ tt σ2 H2 fun b H3 => if b = true then te σ2 H3 R else R' H3)
  (hd : ∀ D, H D = none → Q (.ref D) (upd H D (.lst (xs.map vals)))) : tLC (iList K tl) k js g tt te σ H Q :=
 ha _ ⟨a, rfl, ⟨xs, hq⟩, fun D hD => lc_list_map vals hD hq (Nat.lt_trans hn (by decide)) (fun x ys R R' hi h => hs D x ys R R' hD hi h) (hd D hD)⟩
theorem tlc_tup_map (ha : ∀ R : VK, R (.ref a) H → tl σ H R) (hq : SqT K H a xs) (hn : xs.length < 1000000) (vals : V → V)
  (hs : ∀ D x ys (R : VK) (R' : Hp → Prop), H D = none → x ∈ xs → R (vals x) (upd H D (.lst ys)) → g x (L2.stLC σ k js) (upd H D (.lst ys)) fun σ2 H2 => (σ2.drop k = frV σ js ∧ σ2.length = k + js.length) ∧ tt σ2 H2 fun b H3 => if b = true then te σ2 H3 R else R' H3)
  (hd : ∀ D, H D = none → Q (.ref D) (upd H D (.lst (xs.map vals)))) : tLC (iTup K tl) k js g tt te σ H Q :=
 ha _ ⟨a, rfl, ⟨xs, hq⟩, fun D hD => lc_tup_map vals hD hq (Nat.lt_trans hn (by decide)) (fun x ys R R' hi h => hs D x ys R R' hD hi h) (hd D hD)⟩
theorem tlc_range (n : Nat) (ha : ∀ R : List V → Hp → Prop, R [.int n] H → ta σ H R) (hn : n < 1000000) (Pv : Addr → Nat → List V → Hp → Prop) (h0 : ∀ D, H D = none → Pv D 0 [] (upd H D (.lst [])))
  (hl : ∀ D i ys H, i ≤ n → Pv D i ys H → H D = some (.lst ys) ∧ ys.length ≤ i)
  (hs : ∀ D i ys H1, H D = none → i < n → Pv D i ys H1 → g (.int (0 + (i : Int))) (L2.stLC σ k js) H1 fun σ2 H2 => (σ2.drop k = frV σ js ∧ σ2.length = k + js.length) ∧ tt σ2 H2 fun b H3 => if b = true then te σ2 H3 fun y H4 => H4 D = some (.lst ys) ∧ Pv D (i + 1) (ys ++ [y]) (upd H4 D (.lst (ys ++ [y]))) else Pv D (i + 1) ys H3)
  (hd : ∀ D ys H1, H D = none → Pv D n ys H1 → Q (.ref D) H1) : tLC (iRng1 ta) k js g tt te σ H Q :=
 ha _ ⟨n, rfl, by omega, by omega, fun D hD => lc_range (lo := 0) (n := (n : Int).toNat) (Pv D) (h0 D hD) (Nat.lt_trans (by simpa using hn) (by decide)) (fun i ys H hi p => hl D i ys H (by simpa using hi) p) (fun i ys H hi p => hs D i ys H hD (by simpa using hi) p) (fun ys H p => hd D ys H hD (by simpa using p))⟩
theorem tlc_list (ha : ∀ R : VK, R (.ref a) H → tl σ H R) (hq : SqL K H a xs) (hn : xs.length < 1000000) (Pv : Addr → Nat → List V → Hp → Prop) (h0 : ∀ D, H D = none → Pv D 0 [] (upd H D (.lst [])))
  (hl : ∀ D i ys H, i ≤ xs.length → Pv D i ys H → H D = some (.lst ys) ∧ ys.length ≤ i ∧ SqL K H a xs)
  (hs : ∀ D i x ys H1, H D = none → xs[i]? = some x → Pv D i ys H1 → g x (L2.stLC σ k js) H1 fun σ2 H2 => (σ2.drop k = frV σ js ∧ σ2.length = k + js.length) ∧ tt σ2 H2 fun b H3 => if b = true then te σ2 H3 fun y H4 => H4 D = some (.lst ys) ∧ Pv D (i + 1) (ys ++ [y]) (upd H4 D (.lst (ys ++ [y]))) else Pv D (i + 1) ys H3)
  (hd : ∀ D ys H1, H D = none → Pv D xs.length ys H1 → Q (.ref D) H1) : tLC (iList K tl) k js g tt te σ H Q :=
 ha _ ⟨a, rfl, ⟨xs, hq⟩, fun D hD => lc_list (Pv D) (h0 D hD) (Nat.lt_trans hn (by decide)) (fun i ys H hi p => hl D i ys H hi p) (fun i x ys H hi p => hs D i x ys H hD hi p) (fun ys H p => hd D ys H hD p)⟩
theorem tfor_range (n : Nat) (ha : ∀ R : List V → Hp → Prop, R [.int n] H → ta σ H R) (hn : n < 1000000) (Pv : Nat → St → Hp → Prop) (h0 : Pv 0 σ H)
  (hs : ∀ i σ H, i < n → Pv i σ H → g (.int (0 + (i : Int))) σ H fun σ2 H2 => tb { Dn with nx := Pv (i + 1), ct := Pv (i + 1), bk := Dn.nx } σ2 H2) (hd : ∀ σ H, Pv n σ H → Dn.nx σ H) : tFor (iRng1 ta) g tb Dn σ H :=
 ha _ ⟨n, rfl, by omega, by omega, for_range (lo := 0) (n := (n : Int).toNat) Pv h0 (fun i σ H hi p => hs i σ H (by simpa using hi) p) (fun σ H p => hd σ H (by simpa using p))⟩
theorem tfor_list (ha : ∀ R : VK, R (.ref a) H → tl σ H R) (Pv : Nat → St → Hp → Prop) (h0 : Pv 0 σ H) (hl : ∀ i σ H, i ≤ xs.length → Pv i σ H → SqL K H a xs)
  (hs : ∀ i x σ H, xs[i]? = some x → Pv i σ H → g x σ H fun σ2 H2 => tb { Dn with nx := Pv (i + 1), ct := Pv (i + 1), bk := Dn.nx } σ2 H2) (hd : ∀ σ H, Pv xs.length σ H → Dn.nx σ H) : tFor (iList K tl) g tb Dn σ H :=
 ha _ ⟨a, rfl, ⟨xs, hl 0 σ H (Nat.zero_le _) h0⟩, for_list (xs := xs) Pv h0 hl hs hd⟩
end
end L2
namespace L2
open PySem PySem.Spec PyProof.Rows
section
variable {X : Cx} {K : PySem.W.Frag}
theorem sl_listK (hK : X.K = K) : SlR X (rSlL K) := by subst hK; exact sl_list
theorem call_allK (hK : X.K = K) (hc : X.calm = true) : CallR X (.builtin "all") (rAllB K fun bs => bs.all id) := by subst hK; exact call_all hc
theorem op_eqDK (hK : X.K = K) (hu : X.A.units + 64 < cLine) : OpR X (compareOp .Eq) (rEqD K id) := by subst hK; exact op_eqD hu
theorem op_neDK (hK : X.K = K) (hu : X.A.units + 64 < cLine) : OpR X (compareOp .NotEq) (rEqD K not) := by subst hK; exact op_neD hu
theorem pi_listK {tg l : Expr} {tl : TE} (hK : X.K = K) (hl : PE X l tl) : PI X tg l (iList K tl) := by subst hK; exact pi_list hl
theorem pi_tupK {tg l : Expr} {tl : TE} (hK : X.K = K) (hl : PE X l tl) : PI X tg l (iTup K tl) := by subst hK; exact pi_tup hl
end
end L2
set_option Elab.async false
set_option linter.all false
set_option maxRecDepth 100000
namespace L2
open PySem PySem.Spec PyProof.Rows
noncomputable def lstOf (o : Option HO) : Option (List V) := match o with
 | some (.lst xs) => some xs
 | _ => none
theorem lstOf_l (xs : List V) : lstOf (some (.lst xs)) = some xs := rfl
theorem lstOf_eq {o : Option HO} {xs : List V} (h : lstOf o = some xs) : o = some (.lst xs) := by
 cases o with
 | none => cases h
 | some o =>
  cases o with
  | lst ys => rw [show ys = xs from Option.some.inj h]
  | _ => cases h
theorem optK_elim {α : Type} {o : Option α} {k : α → Prop} (h : optK o k) : ∃ v, o = some v ∧ k v := by
 unfold optK at h
 split at h
 ·exact ⟨_, rfl, h⟩
 ·exact h.elim
theorem seqOf_sq {K : PySem.W.Frag} {H : Hp} {p : Addr} {xs : List V} (h : seqOf (H p) = some xs) : SqL K H p xs ∨ SqT K H p xs := by
 cases e : H p with
 | none => rw [e] at h; cases h
 | some o =>
  rw [e] at h
  cases o with
  | lst ys => rw [show ys = xs from Option.some.inj h] at e; exact .inl (SqL.of e)
  | tup ys => rw [show ys = xs from Option.some.inj h] at e; exact .inr (SqT.of e)
  | _ => cases h
section
variable {X : Cx} {e : Expr}
noncomputable def tUp (t : TE) : TE := fun σ H Q => ∃ R : VK, t σ H R ∧ ∀ x H1, R x H1 → Q x H1
theorem PE.up {t : TE} (h : PE X e t) : PE X e (tUp t) := fun pins s σ H Q I ⟨R, hw, hq⟩ => thn (h pins s σ H R I hw) fun v s1 ⟨x, H1, I1, r1, q1⟩ => ⟨x, H1, I1, r1, hq x H1 q1⟩
end
theorem small6 {n : Nat} (h : n < 1000000) : n < sizeLine := Nat.lt_trans h (by decide)
noncomputable def appR : V → List V → Hp → VK → Prop := fun x vs H Q => match x, vs with
 | .ref l, [y] => optK (lstOf (H l)) fun xs => xs.length < 1000000 ∧ Q .non (upd H l (.lst (xs ++ [y])))
 | _, _ => False
section
variable {X : Cx}
theorem mt_app : MtM X "list.append" appR := by
 intro pins s σ H x vs v us Q I rx rv h
 unfold appR at h
 split at h
 ·rename_i l y
  obtain ⟨xs, e, hz, q⟩ := optK_elim h
  exact mt_append pins s σ H _ _ v us Q I rx rv ⟨l, xs, y, rfl, rfl, lstOf_eq e, small6 hz, q⟩
 ·exact h.elim
noncomputable def tML (r : V → List V → Hp → VK → Prop) (to : TE) (t : TA) : TE := fun σ H Q => to σ H fun x H1 => match x with
 | .ref l => (lstOf (H1 l)).isSome = true ∧ t σ H1 fun vs H2 => r x vs H2 Q
 | _ => False
end
section
variable {X : Cx} {K : PySem.W.Frag} {a b : Expr} {ta tb : TE} {pos : Pos}
noncomputable def catF : R2 := fun x y H Q => match x, y with
 | .ref a, .ref b => optK (lstOf (H a)) fun xs => optK (lstOf (H b)) fun ys => xs.length + ys.length < 1000000 ∧ ∀ p, H p = none → Q (.ref p) (upd H p (.lst (xs ++ ys)))
 | _, _ => False
theorem op_catF : OpR X (binaryOp .Add) catF := by
 intro pins s σ H x y v u Q I rx ry h
 unfold catF at h
 split at h
 ·rename_i p q
  obtain ⟨xs, e, h⟩ := optK_elim h
  obtain ⟨ys, e', hz, k⟩ := optK_elim h
  exact op_cat pins s σ H _ _ v u Q I rx ry ⟨p, q, xs, ys, rfl, rfl, lstOf_eq e, lstOf_eq e', Nat.le_of_lt (small6 hz), k⟩
 ·exact h.elim
noncomputable def listF : List V → Hp → VK → Prop := fun vs H Q => match vs with
 | [.ref p] => optK (seqOf (H p)) fun ys => ∀ l, H l = none → Q (.ref l) (upd H l (.lst ys))
 | _ => False
theorem call_listF : CallR X (.type "list") listF := by
 intro pins s σ H xs us Q I r h
 unfold listF at h
 split at h
 ·rename_i p
  obtain ⟨ys, e, h⟩ := optK_elim h
  exact call_list_of pins s σ H _ us Q I r ⟨p, ys, rfl, seqOf_sq e, h⟩
 ·exact h.elim
noncomputable def lenF : List V → Hp → VK → Prop := fun vs H Q => match vs with
 | [.ref p] => optK (seqOf (H p)) fun ys => Q (.int ys.length) H
 | _ => False
theorem call_lenF : CallR X (.builtin "len") lenF := by
 intro pins s σ H xs us Q I r h
 unfold lenF at h
 split at h
 ·rename_i p
  obtain ⟨ys, e, h⟩ := optK_elim h
  exact call_len_seq pins s σ H _ us Q I r ⟨p, ys, rfl, seqOf_sq e, h⟩
 ·exact h.elim
noncomputable def slF : V → Option Int → Option Int → Hp → VK → Prop := fun x lo hi H Q => match x with
 | .ref a => optK (lstOf (H a)) fun xs => ∀ p, H p = none → Q (.ref p) (upd H p (.lst (cutV xs lo hi)))
 | _ => False
theorem sl_F : SlR X slF := by
 intro pins s σ H x v vl vu lo hi sl Q I rx hs pl pu h
 unfold slF at h
 split at h
 ·rename_i p
  obtain ⟨ys, e, h⟩ := optK_elim h
  exact sl_list pins s σ H _ v vl vu lo hi sl Q I rx hs pl pu ⟨p, ys, rfl, SqL.of (lstOf_eq e), h⟩
 ·exact h.elim
noncomputable def tyN (H : Hp) : V → Option String
 | .non => some "NoneType"
 | .bl _ => some "bool"
 | .int _ => some "int"
 | .str _ => some "str"
 | .ref a => (match H a with
  | some (.lst _) => some "list"
  | some (.tup _) => some "tuple"
  | _ => none)
 | _ => none
theorem tyN_of {H : Hp} {x : V} {n : String} (h : tyN H x = some n) : TyOf K H x (.type n) := by
 cases x with
 | non => cases h; exact .non
 | bl b => cases h; exact .bl b
 | int i => cases h; exact .int i
 | str y => cases h; exact .str y
 | ref a =>
  cases e : H a with
  | none => simp only [tyN, e] at h; cases h
  | some o =>
   cases o with
   | lst xs => simp only [tyN, e] at h; cases h; exact .lst e
   | tup xs => simp only [tyN, e] at h; cases h; exact .tup e
   | _ => simp only [tyN, e] at h; cases h
 | _ => cases h
noncomputable def isiT : String → String → Option Bool
 | "int", "int" => some true | "int", "bool" => some false | "bool", "int" => some true | "bool", "bool" => some true
 | "tuple", "tuple" => some true | "list", "list" => some true | "list", "tuple" => some false | "tuple", "list" => some false | _, _ => none
theorem isi_tup_lst (K : PySem.W.Frag) : PySem.W.kitOne K (.type "tuple") (.type "list") = some false := by kernel_rfl
theorem isiT_ok {n T : String} {b : Bool} (h : isiT n T = some b) : PySem.W.kitOne K (.type n) (.type T) = some b := by
 unfold isiT at h
 split at h
 ·rw [← h]; exact isi_int_int K
 ·rw [← h]; exact isi_int_bool K
 ·rw [← h]; exact isi_bool_int K
 ·rw [← h]; exact isi_bool_bool K
 ·rw [← h]; exact isi_tup_tup K
 ·rw [← h]; exact isi_lst_lst K
 ·rw [← h]; exact isi_lst_tup K
 ·rw [← h]; exact isi_tup_lst K
 ·cases h
noncomputable def isiF : List V → Hp → VK → Prop := fun vs H Q => match vs with
 | [x, .ty T] => optK (tyN H x) fun n => optK (isiT n T) fun b => Q (.bl b) H
 | _ => False
theorem call_isiF : CallR X (.builtin "isinstance") isiF := by
 intro pins s σ H xs us Q I r h
 unfold isiF at h
 split at h
 ·rename_i x T
  obtain ⟨n, e, h⟩ := optK_elim h
  obtain ⟨b, e', q⟩ := optK_elim h
  exact call_isi pins s σ H _ us Q I r ⟨x, T, _, b, rfl, tyN_of e, isiT_ok e', q⟩
 ·exact h.elim
end
section
variable {X : Cx} {o e : Expr} {to : TE} {t : TA} {apos cpos : Pos}
theorem pe_app (ho : PE X o to) (ha : PA X [e] t)
  (hbase : attributeBase o "append" X.env (eval o X.env) = eval o X.env := by rfl)
  (hfew : ((backTo cpos (starEach [e] X.env)).all (fun x => !x.1) && (backToKw cpos (keywordEach [] X.env)).all (fun x => x.1.isSome)
   && decide ([e].length + ([] : List Keyword).length + (if ([] : List Keyword).isEmpty then 0 else 1) < 30)) = true := by rfl)
  (hline : (apos.endLine == cpos.line) = true := by rfl) (hs : starEach [e] X.env = (false, eval e X.env) :: starEach [] X.env := by rfl) (hplain : (backTo cpos (starEach [] X.env)).any (·.1) = false := by rfl) :
  PE X (.Call (.Attribute o "append" apos) [e] [] cpos) (tML appR to t) := by
 intro pins s σ H Q I h
 refine pe_bm PySem.F.plainAttrs_list PySem.F.slot_list_append PySem.F.type_list_append mt_app ho.up ha hbase hfew hline hs hplain pins s σ H Q I ⟨_, h, fun x H1 q => ?_⟩
 cases x with
 | ref l =>
  obtain ⟨h1, h2⟩ := q
  obtain ⟨xs, e⟩ := Option.isSome_iff_exists.mp h1
  exact ⟨.inl ⟨rfl, xs, SqL.of (lstOf_eq e)⟩, h2⟩
 | _ => exact q.elim
noncomputable def tML0 (r : V → List V → Hp → VK → Prop) (to : TE) : TE := fun σ H Q => to σ H fun x H1 => match x with
 | .ref l => (lstOf (H1 l)).isSome = true ∧ r x [] H1 Q
 | _ => False
end
theorem isiT_1 : isiT "int" "int" = some true := rfl
theorem isiT_2 : isiT "int" "bool" = some false := rfl
theorem isiT_3 : isiT "bool" "int" = some true := rfl
theorem isiT_4 : isiT "bool" "bool" = some true := rfl
theorem isiT_5 : isiT "tuple" "tuple" = some true := rfl
theorem isiT_6 : isiT "list" "list" = some true := rfl
theorem isiT_7 : isiT "list" "tuple" = some false := rfl
end L2
namespace L2
open PySem
theorem Ext.set {H H2 : Hp} {D : Addr} {o : HO} (x : Ext H H2) (hD : H D = .none) : Ext H (L2.upd H2 D o) := fun b u e => by rw [upd_ne (ne_of_none e hD)]; exact x b u e
end L2
namespace L2
open PySem
noncomputable def tup3 (o : Option HO) : Option (Int × Int × Int) := match o with
 | some (.tup [.int a, .int b, .int c]) => some (a, b, c)
 | _ => none
theorem tup3_some (a b c : Int) : tup3 (some (.tup [.int a, .int b, .int c])) = some (a, b, c) := rfl
theorem tup3_eq {o : Option HO} {x : Int × Int × Int} (h : tup3 o = some x) : o = some (.tup [.int x.1, .int x.2.1, .int x.2.2]) := by
 unfold tup3 at h
 split at h
 ·cases h
  rfl
 ·cases h
noncomputable def tup2 (o : Option HO) : Option (Int × Int) := match o with
 | some (.tup [.int a, .int b]) => some (a, b)
 | _ => none
theorem tup2_some (a b : Int) : tup2 (some (.tup [.int a, .int b])) = some (a, b) := rfl
theorem tup2_eq {o : Option HO} {x : Int × Int} (h : tup2 o = some x) : o = some (.tup [.int x.1, .int x.2]) := by
 unfold tup2 at h
 split at h
 ·cases h
  rfl
 ·cases h
noncomputable def B3 (n : Nat) (x : Int × Int × Int) : Prop := Bd n x.1 ∧ Bd n x.2.1 ∧ Bd n x.2.2
noncomputable def B2 (n : Nat) (x : Int × Int) : Prop := Bd n x.1 ∧ Bd n x.2
end L2
namespace L2
open PySem
section
variable {X : Cx} {pos : Pos}
noncomputable def gSeqF (n : Nat) (t : TGs) : TG := fun v σ H Q => match v with
 | .ref a => optK (seqOf (H a)) fun xs => xs.length = n ∧ t xs σ H Q
 | _ => False
theorem pg_F {es : List Expr} {k : Nat} {t : TGs} {n : Nat} (hc : X.calm = true) (h : PGs X es t)
  (hn : (assignEach es X.env).length = n := by rfl) (hst : (assignEach es X.env).findIdx? (·.1) = none := by rfl) : PG X (.Tuple es k pos) (gSeqF n t) := by
 intro pins s σ H v u Q I r hw
 unfold gSeqF at hw
 split at hw
 ·rename_i a
  obtain ⟨xs, e, hl, q⟩ := optK_elim hw
  rcases seqOf_sq (K := X.K) e with e | e
  ·exact pg_seq hc h hn hst pins s σ H _ u Q I r (.inr ⟨a, xs, rfl, e, hl, q⟩)
  ·exact pg_seq hc h hn hst pins s σ H _ u Q I r (.inl ⟨a, xs, rfl, e, hl, q⟩)
 ·exact hw.elim
end
end L2
namespace L2
open PySem
theorem eqv_t2 (a b c d : Int) : PyData.eqv (.tuple [.int a, .int b]) (.tuple [.int c, .int d]) = decide (a = c ∧ b = d) := by
 rw [Bool.eq_iff_iff]
 simp [PyData.eqv, PyData.eqvAll]
theorem rdy_t2 {K : PySem.W.Frag} {H : Hp} {q : Addr} {a b : Int} (e : H q = some (.tup [.int a, .int b])) : Rdy K H (.ref q) (.tuple [.int a, .int b]) := .tup (SqT.of e) (.cons (.int a) (.cons (.int b) .nil))
end L2
set_option Elab.async false
set_option linter.all false
set_option maxRecDepth 100000
namespace L2
open PySem PySem.Spec PyProof.Rows
structure ExcC (K : PySem.W.Frag) (C : Addr) : Prop where
 exc : PySem.W.excIn K C [.type "ValueError", .type "Exception", .type "BaseException", .type "object"] "ValueError.__new__" = true
 ga : PySem.W.findIn K (.ref C) "__getattribute__" = some (some (.builtin "BaseException.__getattribute__"))
 nog : PySem.W.findIn K (.ref C) "__getattr__" = some none
 cl : PySem.W.findIn K (.ref C) "__class__" = some (some (.builtin "object.__class__"))
 hn : PySem.W.specialIn K (.builtin "object.__class__") "__get__" = some (some (.builtin "getset_descriptor.__get__"))
 htk : PySem.W.takesIn K (.builtin "object.__class__") = some true
 isc : (PySem.W.clsIn K C).isSome = true
 sube : PySem.W.mroIn K C (.type "BaseException") = some true
 subo : PySem.W.mroIn K C (.type "object") = some true
noncomputable def ExcB (K : PySem.W.Frag) (C : Addr) : Prop :=
 PySem.W.findIn K (.ref C) "__getattribute__" = some (some (.builtin "BaseException.__getattribute__")) ∧ PySem.W.findIn K (.ref C) "__getattr__" = some none ∧
 PySem.W.findIn K (.ref C) "__class__" = some (some (.builtin "object.__class__")) ∧ PySem.W.specialIn K (.builtin "object.__class__") "__get__" = some (some (.builtin "getset_descriptor.__get__")) ∧
 PySem.W.takesIn K (.builtin "object.__class__") = some true ∧ (PySem.W.clsIn K C).isSome = true ∧ PySem.W.mroIn K C (.type "BaseException") = some true ∧ PySem.W.mroIn K C (.type "object") = some true
noncomputable def IsExc (a C : Addr) (h : Heap) : Prop := ∃ (o : Obj) (vs : Array Value), h.get? a = some o ∧ o.cls = .ref C ∧ o.data = .fields vs
section
open PySem.W PySem.Builtin PySem.Builtin.ObjectAttr PySem.Builtin.Getset_descriptor
variable {prog : Program} {w : World} {A : Around} {E : Value → Shared → Prop} {h : Heap} {g : Array GenState} {d : Drawn} {t : Nat} {os : OsState} {a : Addr} {o : Obj} {vs : Array Value} {C : Addr} {K : PySem.W.Frag}
theorem IsExc.type {M : Model} (I : IsExc a C h) : Looks M h (typeOf (.ref a)) (.ref C) := by
 obtain ⟨o, vs, h1, h2, h3⟩ := I
 exact h2 ▸ (Looks.ld h1).andThen .now
theorem looks_findD {M : Model} {x : Addr} {name : Str} {a' g' : Value} (X : K.In h) (ha : findIn K (.ref C) name = some (some a')) (hg : specialIn K a' "__get__" = some (some g')) (ht : takesIn K a' = some true) : Looks M h (find (.ref x) (.ref C) name) (.bind g' a') :=
 (looks_findIn X ha).andThen ((show Looks M h (getOf (some a')) (some g') from looks_specialIn X hg).andThen ((show Looks M h (dataDescriptor? (some a') (some g')) (some (g', a')) from (looks_takesIn X ht).andThen .now).andThen (Looks.tag .now)))
theorem class_getD {R : Result → Shared → Prop} {tp : Value} (X : K.In h) (hm : mroIn K C (.type "object") = some true) (I : IsExc a C h) (q : R (.ok (.ret (.ref C))) ⟨h, g, d, t, os⟩) :
  codeAny (model prog w) A (.call (.builtin "getset_descriptor.__get__") ⟨[.builtin "object.__class__", .ref a, tp], []⟩) R ⟨h, g, d, t, os⟩ := by
 have e0 := IsExc.type (M := model prog w) I
 have e1 := looks_mroIn (M := model prog w) X hm
 refine codeAny_call_builtin KF.slot_gs.plain KF.entry_gs ?_
 refine KF.slot_gs.check _ _ _ _ _ _ _ _ KF.type_class (KF.args_gs _ _ _) ?_
 unfold Builtin.«getset_descriptor.__get__»
 unfold descrGet
 rw [dga_obj]
 refine wpAny_bind ?_
 refine wpAny_pure ?_
 unfold descrGetter descrCheckInstance
 unfold descrNameAndClass isInstance
 simp only [KF.owner_class]
 repeat lk
 refine ⟨Code.quiet_builtin _ (by decide +kernel), ?_⟩
 refine codeAny_builtin KF.entry_class ?_
 unfold Builtin.«object.__class__»
 unfold shownTypeOf
 repeat lk
 exact q
theorem class_entry_exc {tk : Tok} {Q : Fin → Shared → Prop} (X : K.In h) (T : ExcB K C) (I : IsExc a C h) (hq : Q (.done (.ret (.ref C))) ⟨h, g, d, t, os⟩) :
  wpAny (model prog w) A (Builtin.«object.__getattribute__» ⟨[.ref a, .str "__class__" tk], []⟩) Q E ⟨h, g, d, t, os⟩ := by
 have L0 := IsExc.type (M := model prog w) I
 have L1 := looks_findD (M := model prog w) (x := a) X T.2.2.1 T.2.2.2.1 T.2.2.2.2.1
 unfold Builtin.«object.__getattribute__»
 repeat lk
 refine wpAny_run (codeAny_mono (class_getD (R := fun r s' => r = .ok (.ret (.ref C)) ∧ s' = ⟨h, g, d, t, os⟩) X T.2.2.2.2.2.2.2 I ⟨rfl, rfl⟩) fun r s' hr => ?_)
 obtain ⟨rfl, rfl⟩ := hr
 exact wpAny_pure (wpAny_pure hq)
theorem check_ga_exc {M : Model} {nameV : Value} {Q : Unit → Shared → Prop} (X : K.In h) (T : ExcB K C) (I : IsExc a C h) (hq : Q () ⟨h, g, d, t, os⟩) : wpAny M A (checkBuiltinCall "BaseException.__getattribute__" ⟨[.ref a, nameV], []⟩) Q E ⟨h, g, d, t, os⟩ := by
 have hk : builtinKind "BaseException.__getattribute__" = some .slot := by decide +kernel
 have hsplit : splitId "BaseException.__getattribute__" = some ("BaseException", "__getattribute__") := by decide +kernel
 have L0 := IsExc.type (M := M) I
 have L1 := PySem.W.looks_mroIn (M := M) X T.2.2.2.2.2.2.1
 have ha := F.args_bexc_ga (.ref a) nameV
 simp only [checkBuiltinCall, hk, hsplit]
 refine wpAny_bind ?_
 ·unfold isInstance
  repeat lk
  exact hq
theorem class_call_exc {tk : Tok} {R : Result → Shared → Prop} (X : K.In h) (T : ExcB K C) (I : IsExc a C h) (hq : R (.ok (.ret (.ref C))) ⟨h, g, d, t, os⟩) :
  codeAny (model prog w) A (.call (.builtin "BaseException.__getattribute__") ⟨[.ref a, .str "__class__" tk], []⟩) R ⟨h, g, d, t, os⟩ :=
 codeAny_call_builtin F.excAttr_ValueError.ga.plain F.entry_bexc_ga (check_ga_exc X T I (class_entry_exc X T I hq))
theorem class_by_exc {tk : Tok} {Q : Value → Shared → Prop} (X : K.In h) (T : ExcB K C) (I : IsExc a C h) (hq : Q (.ref C) ⟨h, g, d, t, os⟩) :
  wpAny (model prog w) A (getAttrBy (.ref a) (.str "__class__" tk) false) Q E ⟨h, g, d, t, os⟩ := by
 have L0 := IsExc.type (M := model prog w) I
 have L1 := PySem.W.looks_findIn (M := model prog w) X T.1
 have L2 := PySem.W.looks_findIn (M := model prog w) X T.2.1
 have hx2 : (Value.builtin "BaseException.__getattribute__" == Value.builtin "object.__getattribute__") = false := by decide +kernel
 unfold getAttrBy
 refine wpAny_holding (wpAny_bind (L0.at (wpAny_bind (L1.at ?_))))
 dsimp only
 rw [hx2, Bool.and_false, if_neg Bool.false_ne_true]
 unfold getAttrByItsOwn hookBefore
 rw [show onTheHeap (Value.ref C) = true from rfl, if_pos rfl]
 refine wpAny_bind (L2.at (wpAny_bind (wpAny_attempt (wpAny_holding ?_))))
 unfold callGetattribute
 rw [Bool.false_and, if_neg Bool.false_ne_true]
 have f3 := F.excAttr_ValueError.ga.bind (.ref a)
 unfold boundAndCalled
 repeat lk
 refine wpAny_run (codeAny_mono (class_call_exc (R := fun r s' => r = .ok (.ret (.ref C)) ∧ s' = ⟨h, g, d, t, os⟩) X T I ⟨rfl, rfl⟩) fun r s' hr => ?_)
 obtain ⟨rfl, rfl⟩ := hr
 exact wpAny_pure (wpAny_pure hq)
theorem kitx_exc (T : ExcB K C) : PySem.W.KitX K (.ref a) (.ref C) (IsExc a C) where
 ty := fun _ _ _ I => I.type
 it := fun _ _ X _ => by
  obtain ⟨cdD, hcD⟩ := Option.isSome_iff_exists.mp T.2.2.2.2.2.1
  unfold clsIn at hcD
  split at hcD
  ·rename_i c' d' cd' sl' ho
   intro A' Q' E' s' k q
   unfold isType loadHead
   exact wpAny_bind (wpAny_loadPart (k _ _ (X _ _ ho)) (wpAny_pure q))
  ·cases hcD
 ne := fun h tp dd its n sl X htp => by
  obtain ⟨cdD, hcD⟩ := Option.isSome_iff_exists.mp T.2.2.2.2.2.1
  refine Bool.eq_false_iff.mpr fun q => ?_
  have e : C = tp := Value.ref.inj (beq_iff_eq.mp q)
  subst e
  unfold clsIn at hcD
  split at hcD
  ·rename_i c' d' cd' sl' ho
   have z := (X _ _ ho).symm.trans htp
   cases z
  ·cases hcD
 ca := fun {_ _ _ _ _ s} X I k => by
  obtain ⟨h0, g0, d0, t0, os0⟩ := s
  unfold getAttr? getAttrBy?
  exact wpAny_bind (wpAny_mkText (wpAny_bind (wpAny_attempt (class_by_exc X T I (wpAny_pure k)))))
end
theorem ExcC.b {K : PySem.W.Frag} {C : Addr} (T : ExcC K C) : ExcB K C := ⟨T.ga, T.nog, T.cl, T.hn, T.htk, T.isc, T.sube, T.subo⟩
noncomputable def IsExcD (a C : Addr) (od : Option Addr) (h : Heap) : Prop := ∃ (o : Obj) (vs : Array Value), h.get? a = some o ∧ o.cls = .ref C ∧ o.data = .fields vs ∧ ∀ dx, od = some dx → o.dict = some dx
theorem IsExcD.e {a C : Addr} {od : Option Addr} {h : Heap} (x : IsExcD a C od h) : IsExc a C h := by
 obtain ⟨o, vs, h1, h2, h3, _⟩ := x
 exact ⟨o, vs, h1, h2, h3⟩
noncomputable def excD (a C : Addr) (od : Option Addr) : HO := .ext (IsExcD a C od)
section
variable {X : Cx}
noncomputable def rIsiX (K : PySem.W.Frag) : List V → Hp → VK → Prop := fun xs H Q => ∃ a C od, xs[0]? = some (.ref a) ∧ H a = some (excD a C od) ∧ ExcB K C ∧
 ((∃ D b, xs = [.ref a, .ref D] ∧ PySem.W.kitOne K (.ref C) (.ref D) = some b ∧ Q (.bl b) H) ∨ (∃ T b, xs = [.ref a, .ty T] ∧ PySem.W.kitOne K (.ref C) (.type T) = some b ∧ Q (.bl b) H))
theorem call_isiX {K : PySem.W.Frag} (hK : X.K = K) : CallR X (.builtin "isinstance") (rIsiX K) := by
 subst hK
 intro pins s σ H xs us Q I r h
 obtain ⟨a, C, od, _, ha, T, h⟩ := h
 obtain ⟨hx, _, _⟩ := I.hok a _ ha
 have hx := IsExcD.e hx
 rcases h with ⟨D, b, rfl, e, q⟩ | ⟨D, b, rfl, e, q⟩
 ·obtain ⟨u, v, rfl, ru, rv⟩ := r.two
  obtain rfl : u = Value.ref a := ru
  obtain rfl : v = Value.ref D := rv
  exact PySem.W.kia_one (kitx_exc T) I.kIn hx e (fun z => nomatch z) fun tk => ⟨.bl b, H, I.tok tk, rfl, q⟩
 ·obtain ⟨u, v, rfl, ru, rv⟩ := r.two
  obtain rfl : u = Value.ref a := ru
  obtain rfl : v = Value.type D := rv
  exact PySem.W.kia_one (kitx_exc T) I.kIn hx e (fun z => nomatch z) fun tk => ⟨.bl b, H, I.tok tk, rfl, q⟩
end
end L2
set_option Elab.async false
set_option linter.all false
set_option maxRecDepth 100000
namespace L2
open PySem PySem.Spec PyProof.Rows
noncomputable def DKept (h h' : Heap) : Prop := ∀ a o, h.get? a = some o → ∃ o', h'.get? a = some o' ∧ o'.dict = o.dict
theorem DKept.refl {h : Heap} : DKept h h := fun a o e => ⟨o, e, rfl⟩
theorem DKept.trans {h1 h2 h3 : Heap} (x : DKept h1 h2) (y : DKept h2 h3) : DKept h1 h3 := fun a o e => by
 obtain ⟨o1, e1, d1⟩ := x a o e
 obtain ⟨o2, e2, d2⟩ := y a o1 e1
 exact ⟨o2, e2, d2.trans d1⟩
inductive KD {α : Type} : Sem α → Prop
 | pure (a : α) : KD (.pure a)
 | raise (e : Value) : KD (.raise e)
 | uns (x : String) : KD (.unsupported x)
 | rule {t : String} {k : Unit → Sem α} : KD (k ()) → KD (.rule t k)
 | at {p : Pos} {k : Unit → Sem α} : KD (k ()) → KD (.at p k)
 | load {a : Addr} {p : Option Value} {k : Obj → Sem α} : (∀ o, KD (k o)) → KD (.load a p k)
 | upd {a : Addr} {p : Option Value} {f : Obj → Obj} {k : Unit → Sem α} : (∀ o, (f o).dict = o.dict ∧ (o.isFreed = false → (f o).isFreed = false)) → KD (k ()) → KD (.update a p f k)
 | alloc {o : Obj} {k : Addr → Sem α} : (∀ a, KD (k a)) → KD (.alloc o k)
 | stack {k : List (Code × Pos) → Sem α} : (∀ l, KD (k l)) → KD (.stack k)
 | ask {k : Setting → Sem α} : (∀ l, KD (k l)) → KD (.ask k)
 | fresh {k : Tok → Sem α} : (∀ l, KD (k l)) → KD (.fresh k)
theorem KD.bind {α β : Type} {t : Sem α} {f : α → Sem β} (h : KD t) (g : ∀ a, KD (f a)) : KD (t >>= f) := by
 induction h with
 | pure a => exact g a
 | raise e => exact .raise e
 | uns x => exact .uns x
 | rule _ ih => exact .rule ih
 | «at» _ ih => exact .at ih
 | load _ ih => exact .load ih
 | upd c _ ih => exact .upd c ih
 | alloc _ ih => exact .alloc ih
 | stack _ ih => exact .stack ih
 | ask _ ih => exact .ask ih
 | fresh _ ih => exact .fresh ih
theorem dk_upd {h : Heap} {a : Addr} {f : Obj → Obj} (c : ∀ o, (f o).dict = o.dict ∧ (o.isFreed = false → (f o).isFreed = false)) : DKept h (h.update a f) := by
 intro b o e
 by_cases hb : b = a
 ·subst hb
  obtain ⟨e1, e2⟩ := Heap.get?_some_iff.mp e
  refine ⟨f o, Heap.get?_some_iff.mpr ⟨?_, (c o).2 e2⟩, (c o).1⟩
  cases h with
  | mk objs l =>
   show (objs.modify b f)[b]? = _
   rw [Array.getElem?_modify, if_pos rfl]
   show Option.map f objs[b]? = _
   rw [show objs[b]? = some o from e1]
   rfl
 ·exact ⟨o, Heap.get?_update_of_ne f (Ne.symm hb) e, rfl⟩
theorem KD.wp {α : Type} {M : Model} {Γ : PySem.Ctx} {t : Sem α} (h : KD t) {h0 : Heap} : ∀ {Q : α → Pos → Shared → Prop} {E : Value → Pos → Shared → Prop} {p : Pos} {s : Shared}, DKept h0 s.heap → Sem.wp M Γ t Q E p s →
  Sem.wp M Γ t (fun a p' s' => Q a p' s' ∧ DKept h0 s'.heap) (fun e p' s' => E e p' s' ∧ DKept h0 s'.heap) p s := by
 induction h with
 | pure a => intro Q E p s d q; exact ⟨q, d⟩
 | raise e => intro Q E p s d q; exact ⟨q, d⟩
 | uns x => intro Q E p s d q; exact q
 | rule _ ih => intro Q E p s d q; exact ih d q
 | «at» _ ih => intro Q E p s d q; exact ih d q
 | load _ ih => intro Q E p s d q; obtain ⟨o, e, q⟩ := q; exact ⟨o, e, ih o d q⟩
 | upd c _ ih => intro Q E p s d q; obtain ⟨e, q⟩ := q; exact ⟨e, ih (d.trans (dk_upd c)) q⟩
 | alloc _ ih => intro Q E p s d q; exact ih _ (d.trans fun b o e => ⟨o, Heap.get?_push_of_some _ e, rfl⟩) q
 | stack _ ih => intro Q E p s d q; exact ih _ d q
 | ask _ ih => intro Q E p s d q; exact ih _ d q
 | fresh _ ih => intro Q E p s d q; exact ih _ d q
theorem KD.any {α : Type} {M : Model} {A : Around} {t : Sem α} (h : KD t) {Q : α → Shared → Prop} {E : Value → Shared → Prop} {s : Shared} (q : wpAny M A t Q E s) :
  wpAny M A t (fun a s' => Q a s' ∧ DKept s.heap s'.heap) (fun e s' => E e s' ∧ DKept s.heap s'.heap) s := fun Γ p hΓ => h.wp .refl (q Γ p hΓ)
theorem kd_load {a : Addr} : KD (load a) := .load fun o => .pure o
theorem kd_uns {α : Type} {x : String} : KD (unsupported x : Sem α) := .uns x
theorem kd_fields {v : Value} : KD (fieldsOf v) := by
 unfold fieldsOf
 split
 ·refine kd_load.bind fun o => ?_
  split
  ·exact .pure _
  ·exact kd_uns
 ·exact kd_uns
theorem kd_field {v : Value} {i : Nat} : KD (field v i) := by
 unfold field
 refine kd_fields.bind fun vs => ?_
 split
 ·exact .pure _
 ·exact kd_uns
theorem kd_mapFields {g : Array Value → Array Value} (o : Obj) : (Obj.mapFields g o).dict = o.dict ∧ (o.isFreed = false → (Obj.mapFields g o).isFreed = false) := by
 unfold Obj.mapFields
 split
 ·exact ⟨rfl, fun _ => rfl⟩
 ·exact ⟨rfl, id⟩
theorem kd_setField {v x : Value} {i : Nat} : KD (setField v i x) := by
 unfold setField
 split
 ·unfold updateField
  refine kd_load.bind fun o => ?_
  split
  ·split
   ·exact .upd kd_mapFields (.pure _)
   ·exact kd_uns
  ·exact kd_uns
 ·exact kd_uns
theorem kd_newFields {ty : String} {vs : List Value} : KD (newFields ty vs) := by
 unfold newFields newObj
 dsimp only
 split
 ·exact kd_uns.bind fun _ => .alloc fun a => .pure _
 ·exact .alloc fun a => .pure _
theorem kd_ready : ∀ (l : List Env), KD (readyFrames l)
 | [] => .pure _
 | env :: outer => by
  rw [readyFrames.eq_2]
  split
  ·refine kd_load.bind fun o => ?_
   split
   ·exact .pure _
   ·have h1 : KD (behindIsImport env outer) := by
     unfold behindIsImport
     split
     ·exact .pure _
     ·split
      ·exact .pure _
      ·exact kd_field.bind fun _ => .pure _
    refine h1.bind fun b => ?_
    have h2 : KD (keptBack env b outer) := by
     unfold keptBack
     split
     ·split
      ·exact .pure _
      ·refine KD.bind ?_ fun _ => .pure _
       unfold underTheClaimsCaller
       exact .stack fun l => .pure _
     ·exact .pure _
    refine h2.bind fun v => ?_
    exact .upd (fun o => ⟨rfl, fun h => by obtain ⟨c, d, dt, sl⟩ := o; cases dt <;> first | rfl | exact h⟩) (kd_ready outer)
  ·exact kd_uns
theorem kd_note {e : Value} {env : Env} : KD (noteFrame e env) := by
 unfold noteFrame
 split
 ·rename_i f0 _
  have hj : ∀ (head : Value), KD (do
    let a ← PySem.frameOf env
    let b ← entryPlaceOf f0 (head != Value.none)
    let c ← EntryCells.newEntry head a Value.none (rawInt f0) Value.none b
    setField e 1 c) := fun head => by
   refine KD.bind ?_ fun a => KD.bind ?_ fun b => KD.bind ?_ fun c => kd_setField
   ·unfold PySem.frameOf
    refine KD.bind ?_ fun l => KD.bind ?_ fun o => ?_
    ·exact .stack fun l => .pure _
    ·unfold frameObject
     split
     ·exact .pure _
     ·exact (kd_ready _).bind fun _ => .pure _
    ·split
     ·exact .pure _
     ·exact kd_uns
   ·unfold entryPlaceOf
    refine KD.bind (.stack fun l => .pure _) fun acts => ?_
    split
    ·exact .pure _
    ·exact .pure _
   ·exact kd_newFields
  refine kd_field.bind fun head => ?_
  dsimp only
  split
  ·refine kd_field.bind fun x => ?_
   split
   ·exact .pure _
   ·exact kd_setField.bind fun _ => hj head
  ·exact hj head
 ·exact kd_uns
theorem kd_flight {e : Value} {fr : Option Addr} : KD (setFlight e fr) := by
 unfold setFlight
 refine kd_field.bind fun tb => ?_
 split
 ·exact kd_setField
 ·exact .pure _
theorem kd_leaving {e : Value} {env : Env} : KD (leaving env e) := kd_note.bind fun _ => kd_flight
end L2
set_option Elab.async false
set_option linter.all false
set_option maxRecDepth 100000
namespace L2
open PySem PySem.Spec PyProof.Rows
theorem ObjOk.there {P : Program} {w : World} {H : Hp} {h : Heap} {a : Addr} {o : HO} (x : ObjOk P w H h a o) : ∃ u, h.get? a = some u := by
 cases o with
 | lst xs => obtain ⟨_, _, _, _, e⟩ := x; exact ⟨_, e⟩
 | tup xs => obtain ⟨_, _, _, ob, e, _⟩ := x; exact ⟨_, e⟩
 | dK kvs => obtain ⟨_, _, _, _, ob, _, _, e, _⟩ := x; exact ⟨_, e⟩
 | dT kvs => obtain ⟨_, _, _, _, ob, _, _, e, _⟩ := x; exact ⟨_, e⟩
 | set S n => obtain ⟨ob, _, _, _, e, _⟩ := x; exact ⟨_, e⟩
 | ins C dx fs => obtain ⟨_, _, _, e, _⟩ := x; exact ⟨_, e⟩
 | own y => exact x
 | xd fs => obtain ⟨_, ⟨ob, _, _, e, _⟩, _⟩ := x; exact ⟨_, e⟩
 | rng lo hi => obtain ⟨_, _, _, e⟩ := x; exact ⟨_, e⟩
 | frz ob u => exact ⟨_, x.1⟩
 | tbl ps => exact ⟨_, (show h.get? a = some _ from x)⟩
 | met f y => exact ⟨_, (show h.get? a = some _ from x)⟩
 | ext φ => exact x.2.1
noncomputable def CXE (P : Program) (w : World) : CXT := fun outer H s E ev s' => ∃ (e C : Addr) (a0 : Value) (B : Heap) (H' : Hp) (od : Option Addr), ev = .ref e ∧ s'.os = s.os ∧ AllBare s'.gens ∧ Un (frs outer) [] H H' s.heap s'.heap ∧
 HOk P w H' s'.heap ∧ Heap.FlyingW B outer e (.ref C) a0 s'.heap ∧ (∀ b u, H' b = some u → ∃ o, B.get? b = some o) ∧ (∀ b o, s.heap.get? b = some o → b ∉ frs outer → ∃ o', B.get? b = some o') ∧ (∃ oe, s'.heap.get? e = some oe ∧ ∀ dx, od = some dx → oe.dict = some dx) ∧ E (.ref C) od H'
section
variable {P : Program} {w : World} {H H1 H' : Hp} {h0 h1 h2 B : Heap} {fs : List Addr} {L : Addr}
theorem fly_hok (ok : HOk P w H' h1) (b1 : B.StaysIn h1) (b2 : B.StaysIn h2) (c1 : ∀ b u, H' b = some u → ∃ o, B.get? b = some o) : HOk P w H' h2 := fun a o e =>
 (ok a o e).stay (fun b u hb q => by
  have hB : ∃ o', B.get? b = some o' := by
   rcases hb with rfl | hb
   ·exact c1 _ _ e
   ·exact c1 _ _ hb
  obtain ⟨o', hB⟩ := hB
  have z := b1 b o' hB
  rw [q] at z
  cases z
  exact b2 b _ hB) (fun _ q => q) fun _ _ q => q
theorem fly_un (u : Un fs [] H H' h0 h1) (b1 : B.StaysIn h1) (b2 : B.StaysIn h2) (up : h1.UpToSlots h2) (c2 : ∀ b o, h0.get? b = some o → b ∉ fs → ∃ o', B.get? b = some o')
  (hfs : ∀ b ∈ fs, H b = none ∧ ∃ o, h0.get? b = some o ∧ ∀ vs, o.data ≠ .fields vs) : Un fs [] H H' h0 h2 where
 keep := fun b o q n hb hx => by
  have e := u.keep b o q n hb hx
  obtain ⟨o', hB⟩ := c2 b o q hb
  have z := b1 b o' hB
  rw [e] at z
  cases z
  exact b2 b _ hB
 slot := fun b o q n hb hx => by
  obtain ⟨sl, e⟩ := u.slot b o q n hb hx
  obtain ⟨_, o2, ho2, nf⟩ := hfs b hb
  rw [q] at ho2
  cases ho2
  obtain ⟨sl', e'⟩ := up b _ e nf
  exact ⟨sl', e'⟩
 free := u.free
 there := fun b o q hx => by
  by_cases hb : b ∈ fs
  ·obtain ⟨n, o2, ho2, nf⟩ := hfs b hb
   rw [q] at ho2
   cases ho2
   obtain ⟨sl, e⟩ := u.slot b o q n hb hx
   obtain ⟨sl', e'⟩ := up b _ e nf
   exact ⟨_, e'⟩
  ·obtain ⟨o', hB⟩ := c2 b o q hb
   exact ⟨_, b2 b _ hB⟩
 tups := u.tups
 frzs := u.frzs
 tbls := u.tbls
theorem Un.under (a : Un fs [] H H1 h0 h1) (b : Un (L :: fs) [] H1 H' h1 h2) (hL : ∀ c o, h0.get? c = some o → c ≠ L) : Un fs [] H H' h0 h2 where
 keep := fun c o q n hc hx => b.keep c o (a.keep c o q n hc hx) (a.free c o q n hx) (fun z => (List.mem_cons.mp z).elim (hL c o q) hc) hx
 slot := fun c o q n hc hx => by
  obtain ⟨sl, e1⟩ := a.slot c o q n hc hx
  obtain ⟨sl', e2⟩ := b.slot c _ e1 (a.free c o q n hx) (List.mem_cons_of_mem _ hc) hx
  exact ⟨sl', e2⟩
 free := fun c o q n hx => by
  obtain ⟨o', e1⟩ := a.there c o q hx
  exact b.free c o' e1 (a.free c o q n hx) hx
 there := fun c o q hx => by
  obtain ⟨o', e1⟩ := a.there c o q hx
  exact b.there c o' e1 hx
 tups := fun c xs q => b.tups c xs (a.tups c xs q)
 frzs := fun c o xs q => b.frzs c o xs (a.frzs c o xs q)
 tbls := fun c ps q => by
  obtain ⟨m1, e1⟩ := a.tbls c ps q
  obtain ⟨m2, e2⟩ := b.tbls c _ e1
  exact ⟨m1 ++ m2, by rw [e2, Array.append_assoc]⟩
end
section
variable {X : Cx} {pins : List (Addr × Obj)} {σ : St} {H : Hp} {s : Shared}
theorem Inv.hfs (I : Inv X pins σ H s) : ∀ b ∈ frs X.stack, H b = none ∧ ∃ o, s.heap.get? b = some o ∧ ∀ vs, o.data ≠ .fields vs := fun b hb => by
 obtain ⟨_, o, ho, nf⟩ := I.stack.mem hb
 exact ⟨I.stkFree b hb, o, ho, nf⟩
end
section
variable {P : Program} {w : World} {K : PySem.W.Frag} {mg : Str → Option Value} {base : Heap} {N : List Str} {qual : Str} {scope : Scope} {f : Addr} {cd : Value} {A : Around} {outer : List Env} {s : Shared} {H : Hp} {E : XK}
theorem cxe_on {pins : List (Addr × Obj)} {σ : St} {H1 : Hp} {s1 s' : Shared} {ev : Value} (I : Inv (cxOf (CXE P w) P w K mg base N qual scope f cd A outer s H E) pins σ H1 s1)
  (h : CXE P w (cxOf (CXE P w) P w K mg base N qual scope f cd A outer s H E).stack H1 s1 E ev s') : (cxOf (CXE P w) P w K mg base N qual scope f cd A outer s H E).xe ev s' := by
 obtain ⟨e, C, a0, B, H', od, rfl, os, bare, un, hok, fl, c1, c2, hd, hE⟩ := h
 have hab := I.ok.above
 have neL : ∀ b o, s.heap.get? b = some o → b ≠ s.heap.objs.size := fun b o q => Nat.ne_of_lt (Heap.lt_size q)
 refine wpAny_mono (kd_leaving.any (wpAny_leaves_onW (Q := fun _ s2 => ∃ h2, s2 = { s' with heap := h2 } ∧ Heap.FlyingW B outer e (.ref C) a0 h2 ∧ s'.heap.UpToSlots h2) (E := fun _ _ => False) I.ok.frames rfl fl fun h' fl' up => ⟨h', rfl, fl', up⟩)) (fun _ s2 hq => ?_) fun _ _ z => z.1.elim
 obtain ⟨⟨h', rfl, fl', up⟩, dk⟩ := hq
 refine ⟨e, C, a0, B, H', od, rfl, os.trans I.os, bare, ?_, fly_hok hok fl.1 fl'.1 c1, fl', c1, fun b o q hb => ?_, ?_, hE⟩
 ·exact Un.under (L := s.heap.objs.size) I.base (fly_un un fl.1 fl'.1 up c2 I.hfs) neL
 ·obtain ⟨o1, q1⟩ := I.base.there b o q (fun z => nomatch z)
  exact c2 b o1 q1 fun z => (List.mem_cons.mp z).elim (neL b o q) hb
 ·obtain ⟨oe, h1, h2⟩ := hd
  obtain ⟨o', h3, h4⟩ := dk e oe h1
  exact ⟨o', h3, fun dx z => h4.trans (h2 dx z)⟩
theorem passE : Passes (CXE P w) (cxOf (CXE P w) P w K mg base N qual scope f cd A outer s H E) E := fun _ _ _ _ _ _ I h => cxe_on I h
end
theorem passE0 {X : Cx} {P : Program} {w : World} : Passes (CXE P w) X E0 := fun _ _ _ _ _ _ _ h => by
 obtain ⟨_, _, _, _, _, _, _, _, _, _, _, _, _, _, _, hE⟩ := h
 exact hE.elim
noncomputable def MadeOk (X : Cx) (E : XK) : Prop := ∀ (pins : List (Addr × Obj)) (σ : St) (H : Hp) (s : Shared) (e C : Addr) (args : List Value) (h' : Heap), Inv X pins σ H s → Heap.MadeExcOf s.heap h' e (.ref C) args → E (.ref C) none H → X.xe (.ref e) { s with heap := h' }
section
variable {P : Program} {w : World} {K : PySem.W.Frag} {mg : Str → Option Value} {base : Heap} {N : List Str} {qual : Str} {scope : Scope} {f : Addr} {cd : Value} {A : Around} {outer : List Env} {s : Shared} {H : Hp} {E : XK}
theorem madeE : MadeOk (cxOf (CXE P w) P w K mg base N qual scope f cd A outer s H E) E := by
 intro pins σ H1 s1 e C args h' I hm hE
 have neL : ∀ b o, s.heap.get? b = some o → b ≠ s.heap.objs.size := fun b o q => Nat.ne_of_lt (Heap.lt_size q)
 have hB : ∀ b o, s1.heap.get? b = some o → b ∉ frs (cxOf (CXE P w) P w K mg base N qual scope f cd A outer s H E).stack → (PySem.W.hideAll s1.heap (frs (cxOf (CXE P w) P w K mg base N qual scope f cd A outer s H E).stack)).get? b = some o := fun b o q hb => PySem.W.hideAll_get _ q hb
 have bs : (PySem.W.hideAll s1.heap (frs (cxOf (CXE P w) P w K mg base N qual scope f cd A outer s H E).stack)).StaysIn s1.heap := fun b o q => PySem.W.of_hideAll _ q
 refine wpAny_leaves_madeW (base := PySem.W.hideAll s1.heap (frs (cxOf (CXE P w) P w K mg base N qual scope f cd A outer s H E).stack)) (h := s1.heap) I.ok.frames rfl bs (PySem.W.funFrames_hide I.stack fun env he a ha => List.mem_filterMap.mpr ⟨env, he, ha⟩) hm fun h2 t fl _ _ up => ?_
 have c1 : ∀ b u, H1 b = some u → ∃ o, (PySem.W.hideAll s1.heap (frs (cxOf (CXE P w) P w K mg base N qual scope f cd A outer s H E).stack)).get? b = some o := fun b u q => by
  obtain ⟨o, ho⟩ := (I.hok b u q).there
  refine ⟨o, hB b o ho fun z => ?_⟩
  rw [I.stkFree b z] at q
  cases q
 have c2 : ∀ b o, s1.heap.get? b = some o → b ∉ frs (cxOf (CXE P w) P w K mg base N qual scope f cd A outer s H E).stack → ∃ o', (PySem.W.hideAll s1.heap (frs (cxOf (CXE P w) P w K mg base N qual scope f cd A outer s H E).stack)).get? b = some o' := fun b o q hb => ⟨o, hB b o q hb⟩
 have up2 : s1.heap.UpToSlots h2 := (Heap.UpToSlots.of_keeps hm.keeps).trans up
 refine ⟨e, C, .ref t, _, H1, none, rfl, I.os, I.bare, ?_, fly_hok I.hok bs fl.1 c1, fl, c1, fun b o q hb => ?_, ?_, hE⟩
 ·exact Un.under (L := s.heap.objs.size) I.base (fly_un Un.refl bs fl.1 up2 c2 I.hfs) neL
 ·obtain ⟨o1, q1⟩ := I.base.there b o q (fun z => nomatch z)
  exact c2 b o1 q1 fun z => (List.mem_cons.mp z).elim (neL b o q) hb
 ·obtain ⟨ob, h1, _⟩ := fl.there
  exact ⟨ob, h1, fun dx z => nomatch z⟩
end
theorem exc_obj {K : PySem.W.Frag} {h : Heap} {C : Addr} {bmB : List Value} {newId : String} (X : K.In h) (q : PySem.W.excIn K C bmB newId = true) :
  ∃ (bm : List Value) (N : Addr) (nm qn : Str) (bs : List Value) (hd : Bool) (sn : List Str) (sub : List Value) (ab : Bool) (col : Option Bool) (dd : Option Addr) (k0 k1 k2 k3 k5 : Option Value) (mN : Str → Option Value),
   h.get? C = some (excClassObj nm qn C N bs bm hd sn sub ab col dd k0 k1 k2 k3 k5 newId) ∧ h.Ns N mN ∧ mN "__init__" = none ∧ OwnTail h bmB bm := by
 unfold PySem.W.excIn at q
 split at q
 ·rename_i dd cd sl ho
  split at q
  ·rename_i C' bm k0 k1 k2 k3 n k5 hm hs
   simp only [Bool.and_eq_true, beq_iff_eq, Bool.not_eq_true'] at q
   have q1 := q.1.1.1.1.1
   have q2 := q.1.1.1.1.2
   have q3 := q.1.1.1.2
   have q4 := q.1.1.2
   have q5 := q.1.2
   have q6 := q.2
   subst q1 q2
   cases cd with
   | mk nm bs mro ns qn hd sn sub ab col del =>
    dsimp only at hm q3 q5 q6
    subst hm q3
    have hsl : sl = #[k0, k1, k2, k3, some (.builtin n), k5] := by
     cases sl with
     | mk l => simp only at hs; rw [hs]
    subst hsl
    have nn := PySem.W.nsMap_none_of_in X q5 q6
    exact ⟨bm, ns, nm, qn, bs, hd, sn, sub, ab, col, dd, k0, k1, k2, k3, k5, _, X _ _ ho, .of_isNs (PySem.W.isNs_of_in X q5), nn, PySem.W.tail_of_in X q4⟩
  ·cases q
 ·cases q
noncomputable def tRaise (C : Addr) (E : XK) (t : TA) : TS := fun _ σ H => t σ H fun vs H1 => vs.length ≤ 3 ∧ E (.ref C) none H1
section
variable {X : Cx} {E : XK} {C : Addr} {x : Str} {np cpos pos : Pos} {e : Expr} {es : List Expr} {t : TA}
theorem Vals.len3 {vs : List V} {us : List Value} (r : Vals vs us) (h : vs.length ≤ 3) : us.length ≤ sizeLine := by
 rw [← r.length]
 exact Nat.le_trans h (by decide)
theorem ps_raise {K : PySem.W.Frag} (hK : X.K = K) (hM : MadeOk X E) (T : ExcC K C) (hg : Gl X x) (hm : X.mg x = some (.ref C)) (ha : PA X (e :: es) t) (hc : X.calm = true := by rfl) (hdb : (x == ("__debug__" : Str)) = false := by decide)
  (he : starEach (e :: es) X.env = (false, eval e X.env) :: starEach es X.env := by rfl) (hpl : (backTo cpos (starEach es X.env)).any (·.1) = false := by rfl) :
  PS X (.Raise (some (.Call (.Name x np) (e :: es) [] cpos)) none pos) (tRaise C E t) := by
 subst hK
 intro pins s σ H D I h
 obtain ⟨bm, N, nm, qn, bs, hd, sn, sub, ab, col, dd, k0, k1, k2, k3, k5, mN, hC, hn, hni, OT⟩ := exc_obj I.ok.mod.kin T.exc
 refine wpAny_Raise_call_subT (C := C) (N := N) (nm := nm) (q := qn) (bs := bs) (bm := bm) (hdct := hd) (sn := sn) (sub := sub) (ab := ab) (col := col) (dd := dd) (k0 := k0) (k1 := k1) (k2 := k2) (k3 := k3) (k5 := k5) (mN := mN) F.excBase_ValueError (OT.hasType (by decide +kernel)) (I.ok.hd hc) ?_ hni ?_
 ·rw [he]
  show (false || (backTo cpos (starEach es X.env)).any (·.1)) = false
  rw [hpl]
  rfl
 ·refine ld_glob I hg hm ⟨rfl, ?_⟩ hdb
  have h2 := ha cpos pins s σ H _ I h
  rw [he] at h2 ⊢
  refine Calls.evalArgs_plain (wpAny_mono h2 (fun us s2 q => ?_) fun _ _ y => y)
  obtain ⟨vs, H1, I1, r, q1, q2⟩ := q
  refine ⟨rfl, r.len3 q1, I1.bk _ _ hC, hn.keeps I1.bk, OT.keeps I1.bk, fun h' e' hm' => ?_⟩
  exact hM pins σ H1 s2 e' C us h' I1 hm' q2
end
end L2
set_option Elab.async false
set_option linter.all false
set_option maxRecDepth 100000
namespace L2
open PySem PySem.Spec PyProof.Rows
noncomputable def PassesS (CX : CXT) (X : Cx) (σ0 : St) (E : XK) : Prop := ∀ (pins : List (Addr × Obj)) (H : Hp) (s : Shared) (e : Value) (s' : Shared), Inv X pins σ0 H s → CX X.stack H s E e s' → X.xe e s'
noncomputable def tCallS (σ0 : St) (sp : Sp) (E : XK) (t : TA) : TE := fun σ H Q => t σ H fun vs H1 => σ = σ0 ∧ sp vs H1 Q E
section
variable {X : Cx} {CX : CXT} {k : Nat} {ps : List Str} {sp : Sp} {E : XK} {x : Str} {p pos : Pos} {e : Expr} {es : List Expr} {t : TA} {σ0 : St}
theorem pe_fnS (F : FnB X.prog X.w X.K X.mg X.base CX k x ps sp) (hr : Room k X.A) (hg : Gl X x) (hx : PassesS CX X σ0 E)
  (ha : PA X (e :: es) t) (hdb : (x == ("__debug__" : Str)) = false := by decide) (he : starEach (e :: es) X.env = (false, eval e X.env) :: starEach es X.env := by rfl) (hpl : (backTo pos (starEach es X.env)).any (·.1) = false := by rfl) :
  PE X (.Call (.Name x p) (e :: es) [] pos) (tCallS σ0 sp E t) := by
 obtain ⟨f, fd, F1, hm, hk, hb⟩ := F.ex
 intro pins s σ H Q I h
 refine wpAny_Call_Name_kw (ld_glob I hg hm ?_ hdb)
 have ha2 := ha pos pins s σ H _ I h
 refine PySem.W.callWith_K (h₀ := X.base) I.ok.mod.kin hk (thn ha2 fun us s1 z => ?_) he hpl
 obtain ⟨vs, H1, I1, r, e0, q⟩ := z
 subst e0
 refine ⟨I1.kIn, ?_⟩
 have hl : us.length = ps.length := by
  rw [← r.length]
  exact F1.len _ _ _ _ q
 have hb2 := hb s1 us I1.kIn (by rw [List.append_nil]; exact hl)
 rw [List.append_nil] at hb2
 have run := F1.run X.A X.stack s1 H1 ⟨us, []⟩ us vs Q E hr I1.env0 hb2 r q
 refine wpAny_call (codeAny_mono run fun r' s' hq => ?_)
 match r', hq with
 | .error ev, hq => exact hx pins H1 s1 ev s' I1 hq
 | .ok (.ret u), hq => exact I1.after hq
 | .ok .next, hq => exact False.elim hq
 | .ok .brk, hq => exact False.elim hq
 | .ok .cont, hq => exact False.elim hq
end
noncomputable abbrev Cx.tryIn (X : Cx) (pn : List (Addr × Obj)) (W : Value → Shared → Prop) : Cx := { X with pn := pn, xe := W }
noncomputable abbrev Cx.suite (X : Cx) (ev : Value) : Cx := { X with A := X.A.mark (some ev), calm := false, xe := fun _ _ => False }
section
variable {X : Cx} {pins pins' pn : List (Addr × Obj)} {σ : St} {H : Hp} {s : Shared} {W : Value → Shared → Prop} {ev : Value} {D : Ends} {f : Flow}
theorem Cx.Ok.tryIn (ok : X.Ok) : (X.tryIn pn W).Ok :=
 ⟨ok.mod, ok.kind, ok.glob, ok.blt, ok.above, ok.inj, ok.has, ok.cab, ok.hd, ok.frames, ok.stk, ok.exf, ok.bs, ok.bsz, ok.noex, ok.exfs, ok.funs, ok.frf⟩
theorem Cx.Ok.tryOut (ok : (X.tryIn pn W).Ok) : X.Ok :=
 ⟨ok.mod, ok.kind, ok.glob, ok.blt, ok.above, ok.inj, ok.has, ok.cab, ok.hd, ok.frames, ok.stk, ok.exf, ok.bs, ok.bsz, ok.noex, ok.exfs, ok.funs, ok.frf⟩
theorem Inv.tryIn (I : Inv X pins σ H s) : Inv (X.tryIn (X.pn ++ pins) W) [] σ H s :=
 ⟨I.ok.tryIn, I.os, I.bare, I.base, I.loc, I.cell, I.free, I.freeC, fun p hp => I.pin p (by simpa using hp), I.hok, I.len⟩
theorem Inv.tryOut (I : Inv (X.tryIn (X.pn ++ pins) W) pins' σ H s) : Inv X pins σ H s :=
 ⟨I.ok.tryOut, I.os, I.bare, I.base, I.loc, I.cell, I.free, I.freeC, fun p hp => I.pin p (List.mem_append_left _ hp), I.hok, I.len⟩
theorem SP.tryOut (h : SP (X.tryIn (X.pn ++ pins) W) pins' D f s) : SP X pins D f s := by
 match f, h with
 | .next, ⟨σ', H', I, q⟩ => exact ⟨σ', H', I.tryOut, q⟩
 | .brk, ⟨σ', H', I, q⟩ => exact ⟨σ', H', I.tryOut, q⟩
 | .cont, ⟨σ', H', I, q⟩ => exact ⟨σ', H', I.tryOut, q⟩
 | .ret u, ⟨v, σ', H', I, r, q⟩ => exact ⟨v, σ', H', I.tryOut, r, q⟩
theorem Cx.Ok.suite (ok : X.Ok) : (X.suite ev).Ok :=
 ⟨ok.mod, ok.kind, ok.glob, ok.blt, ok.above, ok.inj, ok.has, ok.cab, (fun z => nomatch z), ok.frames, ok.stk, ok.exf, ok.bs, ok.bsz, ok.noex, ok.exfs, ok.funs, ok.frf⟩
theorem Inv.suite (I : Inv X pins σ H s) : Inv (X.suite ev) pins σ H s := ⟨I.ok.suite, I.os, I.bare, I.base, I.loc, I.cell, I.free, I.freeC, I.pin, I.hok, I.len⟩
theorem Inv.unsuite (ok : X.Ok) (I : Inv (X.suite ev) pins σ H s) : Inv X pins σ H s := ⟨ok, I.os, I.bare, I.base, I.loc, I.cell, I.free, I.freeC, I.pin, I.hok, I.len⟩
theorem Inv.track {a : Addr} {o : HO} (I : Inv X pins σ H s) (hn : H a = none) (h0 : ∀ b u, X.s₀.heap.get? b = some u → b ∉ X.ex → b ≠ a) (hl : X.env.locals ≠ a) (hc : ∀ x c, X.env.cells.lookup x = some c → c ≠ a)
  (hp : ∀ p ∈ X.pn ++ pins, p.1 ≠ a) (new : ObjOk X.prog X.w (upd H a o) s.heap a o) : Inv X pins σ (upd H a o) s := by
 refine ⟨I.ok, I.os, I.bare, ⟨I.base.keep, I.base.slot, fun b u q n hx => ?_, I.base.there, fun b xs q => ?_, fun b u xs q => ?_, fun b ps q => ?_⟩, I.loc, I.cell, ?_, fun x c e => ?_, fun p hq => ?_, fun b u q => ?_, I.len⟩
 ·rw [upd_ne (h0 b u q hx)]
  exact I.base.free b u q n hx
 ·have z := I.base.tups b xs q
  rw [upd_ne (ne_of_none z hn)]
  exact z
 ·have z := I.base.frzs b u xs q
  rw [upd_ne (ne_of_none z hn)]
  exact z
 ·obtain ⟨more, z⟩ := I.base.tbls b ps q
  exact ⟨more, by rw [upd_ne (ne_of_none z hn)]; exact z⟩
 ·rw [upd_ne hl]
  exact I.free
 ·rw [upd_ne (hc x c e)]
  exact I.freeC x c e
 ·obtain ⟨e1, e2, e3, e4, e5⟩ := I.pin p hq
  exact ⟨e1, by rw [upd_ne (hp p hq)]; exact e2, e3, e4, e5⟩
 ·by_cases hb : b = a
  ·subst hb
   rw [upd_same] at q
   cases q
   exact new
  ·rw [upd_ne hb] at q
   exact (I.hok b u q).stay (fun c v _ z => z) (fun c z => by rw [upd_ne (ne_of_none z hn)]; exact z) fun c xs z => by rw [upd_ne (ne_of_none z hn)]; exact z
theorem gone_ok {M : Model} {A : Around} {E : Value → Shared → Prop} {i : Nat} {n : Str} {pos : Pos} {Q : Unit → Shared → Prop} (I : Inv X pins σ H s) (hN : X.N.Nodup) (hi : X.N[i]? = some n) (hk : X.env.scope.names.lookup n = some .local)
  (h : ∀ s', Inv X pins (σ.set i none) H s' → Q () s') : wpAny M A (do bindName X.env n .none; unbindBehindTheSuite X.env n pos) Q E s := by
 obtain ⟨m, hn, hl⟩ := id I.loc
 have hcls : (X.env.scope.kind == .class || (X.env.scope.kind == .module && X.env.locals != X.env.globals)) = false := by rw [I.ok.kind]; rfl
 have hiσ : i < σ.length := by rw [I.len]; exact (List.getElem?_eq_some_iff.mp hi).1
 refine wpAny_nameGoes_keeps hk hn hcls fun h' v hn' hs => ?_
 obtain ⟨oL, _, _, hoL, _⟩ := id hn
 have other : ∀ b, b ≠ X.env.locals → h'.get? b = s.heap.get? b := fun b hb => hs.2 b hb
 have old : ∀ b o, X.s₀.heap.get? b = some o → b ≠ X.env.locals := fun b o q => Nat.ne_of_lt (Nat.lt_of_lt_of_le (Heap.lt_size q) I.ok.above)
 have ntr : ∀ b u, H b = some u → b ≠ X.env.locals := fun b u q z => by
  rw [z, I.free] at q
  cases q
 refine h _ ⟨I.ok, I.os, I.bare, ⟨fun b o e n hb hx => ?_, fun b o e n hb hx => ?_, I.base.free, fun b o e hx => ?_, I.base.tups, I.base.frzs, I.base.tbls⟩, ⟨_, hn', fun j y v' e1 e2 e3 => ?_⟩, fun y c e => ?_, I.free, I.freeC, fun p hp => ?_, fun b ob e => ?_, by simpa using I.len⟩
 ·exact (other b (old b o e)).trans (I.base.keep b o e n hb hx)
 ·obtain ⟨sl, e1⟩ := I.base.slot b o e n hb hx
  exact ⟨sl, (other b (old b o e)).trans e1⟩
 ·obtain ⟨o', e1⟩ := I.base.there b o e hx
  exact ⟨o', (other b (old b o e)).trans e1⟩
 ·by_cases hj : j = i
  ·subst hj
   rw [List.getElem?_set_self hiσ] at e2
   cases e2
  ·rw [List.getElem?_set_ne (Ne.symm hj)] at e2
   obtain ⟨u', r', q⟩ := hl j y v' e1 e2 e3
   refine ⟨u', r', ?_⟩
   rcases q with ⟨k, e⟩ | ⟨k, c, e, z⟩
   ·refine .inl ⟨k, ?_⟩
    have ne : y ≠ n := fun e => hj (nodup_ix hN e1 (e ▸ hi))
    simp [ne, e]
   ·exact .inr ⟨k, c, e, z.sameBut hs (I.cne y c e)⟩
 ·obtain ⟨w', z⟩ := I.cell y c e
  exact ⟨w', z.sameBut hs (I.cne y c e)⟩
 ·obtain ⟨e, n, ne, nf, d⟩ := I.pin p hp
  exact ⟨(other p.1 ne).trans e, n, ne, nf, d⟩
 ·refine (I.hok b ob e).stay (fun c w' hc q => (other c ?_).trans q) (fun _ q => q) fun _ _ q => q
  rcases hc with z | z
  ·rw [z]; exact ntr b ob e
  ·exact ntr c _ z
end
noncomputable def goneEnds (D : Ends) (i : Nat) : Ends := { nx := fun σ H => D.nx (σ.set i none) H, rt := D.rt, bk := fun σ H => D.bk (σ.set i none) H, ct := fun σ H => D.ct (σ.set i none) H }
section
variable {X : Cx} {body suite : List Stmt} {b₀ : Stmt} {x n : Str} {np hpos pos : Pos} {i : Nat} {cD : Addr} {tb : XK → St → TS} {th : TS} {K : PySem.W.Frag}
theorem excD_ok {P : Program} {w : World} {H : Hp} {h : Heap} {e C : Addr} {od : Option Addr} (x : IsExcD e C od h) : ObjOk P w H h e (excD e C od) := by
 refine ⟨x, ?_, fun h1 h2 y k => ?_⟩
 ·obtain ⟨o, vs, q, _⟩ := x
  exact ⟨o, q⟩
 ·obtain ⟨o, vs, q, r⟩ := y
  exact ⟨o, vs, k o q, r⟩
end
end L2
namespace L2
open PySem PySem.Spec PyProof.Rows
theorem FnB.imp {P : Program} {w : World} {K : PySem.W.Frag} {mg : Str → Option Value} {base : Heap} {CX : CXT} {k : Nat} {x : Str} {ps : List Str} {sp sp' : Sp} (F : FnB P w K mg base CX k x ps sp) (h : ∀ vs H Q E, sp' vs H Q E → sp vs H Q E) : FnB P w K mg base CX k x ps sp' := by
 obtain ⟨f, fd, h1, h2, h3, h4⟩ := F.ex
 exact ⟨f, fd, h1.imp h, h2, h3, h4⟩
section
variable {P : Program} {w : World} {K : PySem.W.Frag} {mg : Str → Option Value} {base : Heap} {x qual : Str} {st : Stmt} {f : Addr} {fd : FuncData} {N ps : List Str} {k : Nat} {sp : Sp}
theorem okE (F : Fun K x qual st f fd) (S : FnScope N ps (defScope st)) (len : ∀ vs H Q E, sp vs H Q E → vs.length = ps.length)
  (hb : ∀ (cdv : Value) (A : Around) (outer : List Env) (s : Shared) (H : Hp) (vs : List V) (Q : VK) (E : XK), Room k (A.deeper (envOfC qual (defScope st) s.heap.objs.size f cdv)) → sp vs H Q E →
   ∃ t, PSs (cxOf (CXE P w) P w K mg base N qual (defScope st) f cdv A outer s H E) (defBody st) t ∧ t { nx := fun _ H' => Q .non H', rt := Q } (start N vs) H) : FnOk P w K mg base (CXE P w) (k + 1) f fd ps sp := by
 have e := F.ex
 obtain ⟨oc, od, kV, doc, pm, an, cdv, ct, osl, e, lk, hcd⟩ := e
 subst e
 exact fn_of lk hcd S len (hb cdv)
theorem okN (F : Fun K x qual st f fd) (S : FnScope N ps (defScope st)) (len : ∀ vs H Q E, sp vs H Q E → vs.length = ps.length)
  (hb : ∀ (cdv : Value) (A : Around) (outer : List Env) (s : Shared) (H : Hp) (vs : List V) (Q : VK) (E : XK), Room k (A.deeper (envOfC qual (defScope st) s.heap.objs.size f cdv)) → sp vs H Q E →
   ∃ t, PSs (cxOf (CXE P w) P w K mg base N qual (defScope st) f cdv A outer s H E).nox (defBody st) t ∧ t { nx := fun _ H' => Q .non H', rt := Q } (start N vs) H) : FnOk P w K mg base (CXE P w) (k + 1) f fd ps sp :=
 okE F S len fun cdv A outer s H vs Q E hr h => by
  obtain ⟨t, h1, h2⟩ := hb cdv A outer s H vs Q E hr h
  exact ⟨t, h1.nox, h2⟩
end
theorem rIsiX_c {K : PySem.W.Frag} {a C D : Addr} {od : Option Addr} {b : Bool} {H : Hp} {Q : VK} (h1 : H a = some (excD a C od)) (h2 : ExcB K C) (h3 : PySem.W.kitOne K (.ref C) (.ref D) = some b) (h4 : Q (.bl b) H) : rIsiX K [.ref a, .ref D] H Q := ⟨a, C, od, rfl, h1, h2, .inl ⟨D, b, rfl, h3, h4⟩⟩
end L2
set_option Elab.async false
set_option linter.all false
set_option maxRecDepth 100000
set_option Elab.async false
set_option linter.all false
set_option maxRecDepth 100000
namespace L2
open PySem PySem.Spec PyProof.Rows
section
variable {X : Cx}
theorem zip_inv {X : Cx} {pins : List (Addr × Obj)} {σ : St} {H : Hp} {s : Shared} {h' : Heap} {tk : Nat} {wr : List Addr} {T : Addr} {x y : V} {u v : Value} (I : Inv X pins σ H s) (hf : ∀ b ∈ wr, FpOk X pins H b) (hT : s.heap.objs.size ≤ T)
  (ht : h'.IsTuple T #[u, v]) (rx : RelV x u) (ry : RelV y v) (k : ∀ b o, b ∉ wr → s.heap.get? b = some o → h'.get? b = some o) : Inv X pins σ (upd H T (.tup [x, y])) { s with heap := h', toks := tk } := by
 have hn : H T = none := I.hok.fresh hT
 have tr : ∀ b w, H b = some w → b ∉ wr := fun b w e z => by rw [(hf b z).1] at e; cases e
 refine I.step (g' := s.gens) (d' := s.drawn) (ch := wr) (fun b hb => ?_) (fun b o _ _ hc e _ => k b o hc e) (fun b o _ _ hc e _ => ⟨o.slots, k b o hc e⟩) (fun b o hc e n => ?_) (fun b o hc e => ⟨o, k b o hc e⟩) (fun b xs e => ?_) (fun b o w e => ?_) (fun b ps e => ?_) (fun m hm => ?_) (fun b w e => ?_) I.bare
 ·obtain ⟨f0, f1, f2, f3, f4, f5⟩ := hf b hb
  exact ⟨f3, f1, f4, f5⟩
 ·rw [upd_ne (Nat.ne_of_lt (Nat.lt_of_lt_of_le (Heap.lt_size e) hT))]
  exact n
 ·rw [upd_ne (ne_of_none e hn)]
  exact e
 ·rw [upd_ne (ne_of_none e hn)]
  exact e
 ·exact ⟨#[], by rw [upd_ne (ne_of_none e hn), e]; simp⟩
 ·obtain ⟨o, es, ep, ho, r⟩ := hm
  exact ⟨o, es, ep, k _ o (fun z => (hf _ z).2.1 rfl) ho, r⟩
 ·by_cases hb : b = T
  ·subst hb
   rw [upd_same] at e
   cases e
   exact ⟨show 2 ≤ sizeLine by decide, [u, v], .cons rx (.cons ry .nil), ht⟩
  ·rw [upd_ne hb] at e
   refine (I.hok b w e).stay (fun c z hc q => k c z ?_ q) (fun c q => by rw [upd_ne (ne_of_none q hn)]; exact q) fun c xs q => by rw [upd_ne (ne_of_none q hn)]; exact q
   rcases hc with rfl | hc
   ·exact tr _ _ e
   ·exact tr _ _ hc
end
end L2
set_option Elab.async false
set_option linter.all false
set_option maxRecDepth 100000
set_option Elab.async false
set_option linter.all false
set_option maxRecDepth 100000
open PySem PySem.Spec PyProof.Rows
namespace L2
noncomputable abbrev veB : List Value := [.type "ValueError", .type "Exception", .type "BaseException", .type "object"]
theorem made_two {h : Heap} {C : Addr} {rest : List Value} : h.MadeExcOf ((h.push { cls := .type "tuple", data := .seq rest.toArray }).push
   { cls := .ref C, data := .fields #[.ref h.objs.size, .none, .none, .none, .bool false, .none] }) (h.objs.size + 1) (.ref C) rest := by
 have e1 : (h.push { cls := .type "tuple", data := .seq rest.toArray }).objs.size = h.objs.size + 1 := Heap.size_push _ _
 refine ⟨fun b o e => Heap.get?_push_of_some _ (Heap.get?_push_of_some _ e), Heap.get?_none_of_le (Nat.le_succ _), h.objs.size, ?_, Heap.get?_none_of_le (Nat.le_refl _), ?_⟩
 ·rw [← e1]
  exact Heap.get?_push_size _ rfl
 ·exact Heap.get?_push_of_some _ (Heap.get?_push_size _ rfl)
theorem type_call_init {prog : Program} {w : World} {A : Around} {E : Value → Shared → Prop} {h : Heap} {g : Array GenState} {d : Drawn} {t : Nat} {os : OsState} {nm q : Str} {C N : Addr} {bs bm : List Value} {hdct : Bool} {sn : List Str} {sub : List Value} {ab : Bool} {col : Option Bool}
  {dd : Option Addr} {k0 k1 k2 k3 k5 : Option Value} (OT : OwnTail h veB bm) {mN : Str → Option Value} {rest : List Value} {fI : Addr} {oI : Obj} {Q : PySem.Fin → Shared → Prop}
  (hC : h.get? C = some (excClassObj nm q C N bs bm hdct sn sub ab col dd k0 k1 k2 k3 k5 "ValueError.__new__")) (hN : h.Ns N mN) (hi : mN "__init__" = some (.ref fI)) (hf : h.get? fI = some oI) (hcf : oI.cls = .type "function")
  (hq : ∀ (h' : Heap) (e : Addr), h.MadeExcOf h' e (.ref C) rest → wpAny (model prog w) A (call (.ref fI) (.ref e :: rest)) (fun r s' => r = .none ∧ Q (.done (.ret (.ref e))) s') E ⟨h', g, d, t, os⟩)
  (hl : rest.length ≤ sizeLine) : wpAny (model prog w) A (Builtin.«type.__call__» ⟨.ref C :: rest, []⟩) Q E ⟨h, g, d, t, os⟩ := by
 have hne : (Value.ref C == Value.type "type") = false := by rfl
 have FB := F.excBase_ValueError
 unfold Builtin.«type.__call__»
 dsimp only
 rw [hne, if_neg Bool.false_ne_true]
 refine wpAny_bind (wpAny_mroOf_exc hC ?_)
 rw [if_neg (by simp)]
 refine wpAny_bind (wpAny_madeBy_exc hC ?_)
 refine wpAny_bind (wpAny_pure ?_)
 refine wpAny_bind (wpAny_holding ?_)
 refine wpAny_call (codeAny_call_builtin_code (Code.quiet_builtin _ (by decide +kernel)) ?_)
 refine wpAny_check_new_subT FB OT hC ?_
 refine codeAny_exc_new_subT FB OT hC ?_ hl
 have M := made_two (h := h) (C := C) (rest := rest)
 have hC2 := M.keeps _ _ hC
 have OT2 := OT.keeps M.keeps
 have hN2 := hN.keeps M.keeps
 obtain ⟨t0, he, ht0, htt⟩ := M.there
 dsimp only
 refine wpAny_bind ?_
 unfold isInstance
 refine wpAny_bind ?_
 have L0 : PySem.W.Looks (model prog w) _ (typeOf (.ref (h.objs.size + 1))) (.ref C) := (PySem.W.Looks.ld he).andThen .now
 refine L0.at ?_
 refine wpAny_isSubtype_exc hC2 ?_
 rw [show (Value.ref C :: bm).contains (Value.ref C) = true by simp, if_neg (by decide)]
 refine wpAny_bind (wpAny_holding ?_)
 unfold callSpecial? specialOf
 refine wpAny_bind (wpAny_bind (L0.at ?_))
 refine wpAny_typeLookup_tail hC2 hN2 OT2 FB.mroIs FB.init.lookup ?_
 rw [hi]
 dsimp only
 refine wpAny_holding ?_
 unfold bindSpecial
 have L1 : PySem.W.Looks (model prog w) _ (typeOf (.ref fI)) oI.cls := (PySem.W.Looks.ld (M.keeps _ _ hf)).andThen .now
 refine wpAny_bind (wpAny_bind (L1.at ?_))
 rw [hcf]
 refine wpAny_pure ?_
 refine wpAny_bind ?_
 refine wpAny_mono (hq _ _ M) (fun r s' hr => ?_) fun _ _ z => z
 obtain ⟨rfl, hr⟩ := hr
 exact wpAny_pure (wpAny_pure hr)
end L2
namespace L2
variable {prog : Program} {w : World} {A : Around} {E : Value → Shared → Prop} {h : Heap} {g : Array GenState} {d : Drawn} {t : Nat} {os : OsState} {nm q : Str} {C N : Addr} {bs bm : List Value} {hdct : Bool} {sn : List Str} {sub : List Value} {ab : Bool} {col : Option Bool}
  {dd : Option Addr} {k0 k1 k2 k3 k5 : Option Value}
theorem call_init (OT : OwnTail h veB bm) {mN : Str → Option Value} {rest : List Value} {fI : Addr} {oI : Obj} {Q : Value → Shared → Prop}
  (hC : h.get? C = some (excClassObj nm q C N bs bm hdct sn sub ab col dd k0 k1 k2 k3 k5 "ValueError.__new__")) (hN : h.Ns N mN) (hi : mN "__init__" = some (.ref fI)) (hf : h.get? fI = some oI) (hcf : oI.cls = .type "function")
  (hq : ∀ (h' : Heap) (e : Addr), h.MadeExcOf h' e (.ref C) rest → wpAny (model prog w) (A.under (.builtin "type.__call__" ⟨.ref C :: rest, []⟩)) (call (.ref fI) (.ref e :: rest)) (fun r s' => r = .none ∧ Q (.ref e) s') E ⟨h', g, d, t, os⟩)
  (hl : rest.length ≤ sizeLine) : wpAny (model prog w) A (call (.ref C) rest) Q E ⟨h, g, d, t, os⟩ := by
 refine wpAny_call (codeAny_of_tree ?_)
 show wpAny _ _ (callAny (.ref C) ⟨rest, []⟩) _ _ _
 unfold callAny
 dsimp only
 refine wpAny_bind (wpAny_load hC ?_)
 dsimp only
 unfold callAny.viaDunder
 have L0 : PySem.W.Looks (model prog w) h (typeOf (.ref C)) (.type "type") := (PySem.W.Looks.ld hC).andThen .now
 refine wpAny_bind ?_
 unfold specialOf
 refine wpAny_bind (L0.at ?_)
 rw [tc_lookup]
 refine wpAny_pure ?_
 dsimp only
 rw [tc_bind]
 refine wpAny_bind (wpAny_pure ?_)
 dsimp only
 have hp : callAny.plainCallee (.builtin "type.__call__") = pure true := by rfl
 rw [hp]
 refine wpAny_bind (wpAny_pure ?_)
 rw [if_pos rfl]
 refine wpAny_pure ⟨rfl, ?_⟩
 refine codeAny_call_builtin_code (Code.quiet_builtin _ (by decide +kernel)) ?_
 refine wpAny_check_type_call_sub hC ?_
 refine codeAny_builtin entry_typeCall ?_
 refine type_call_init OT hC hN hi hf hcf (fun h' e M => ?_) hl
 exact wpAny_mono (hq h' e M) (fun r s' hr => ⟨hr.1, hr.2⟩) fun _ _ z => z
end L2
set_option Elab.async false
set_option linter.all false
set_option maxRecDepth 100000
open PySem PySem.Spec PyProof.Rows
namespace L2
noncomputable abbrev veInit : Value := .builtin "ValueError.__init__"
theorem wd_type : typeOf veInit = pure (.type "wrapper_descriptor") := by
 show builtinType "ValueError.__init__" = _
 unfold builtinType
 have h1 : withoutEnding? "ValueError.__init__" "#opaque" = none := by decide +kernel
 have h2 : withoutEnding? "ValueError.__init__" "#data" = none := by decide +kernel
 have h3 : builtinKind "ValueError.__init__" = some .slot := by decide +kernel
 rw [h1, h2, h3]
 rfl
theorem wd_find : fastLookup "wrapper_descriptor" "__get__" = some (some (.builtin "wrapper_descriptor.__get__")) := by decide +kernel
theorem wd_entry : entryFor table "wrapper_descriptor.__get__" = some Builtin.«wrapper_descriptor.__get__» := entryFor_of_tree (by kernel_rfl)
theorem wd_plain : plainId "wrapper_descriptor.__get__" = true := by decide +kernel
theorem wd_args (a b c : Value) : argsOk "wrapper_descriptor.__get__" { pos := [a, b, c] } := by kernel_rfl
theorem wd_kind : builtinKind "wrapper_descriptor.__get__" = some .slot := by decide +kernel
theorem wd_split : splitId "wrapper_descriptor.__get__" = some ("wrapper_descriptor", "__get__") := by decide +kernel
theorem wd_self : isInstance veInit (.type "wrapper_descriptor") = pure true := by
 unfold isInstance
 rw [wd_type]
 kernel_rfl
section
variable {prog : Program} {w : World} {A : Around} {E : Value → Shared → Prop} {h : Heap} {g : Array GenState} {d : Drawn} {t : Nat} {os : OsState} {e C : Addr} {oe : Obj}
theorem wpAny_eq_pure {α : Type} {M : Model} {x : Sem α} {a : α} {Q : α → Shared → Prop} {s : Shared} (h : x = pure a) (q : Q a s) : wpAny M A x Q E s := h ▸ wpAny_pure q
theorem wd_run {Q : Value → Shared → Prop} (hoe : h.get? e = some oe) (hce : oe.cls = .ref C) (hs : PySem.W.Looks (model prog w) h (isSubtype (.ref C) (.type "ValueError")) true)
  (hq : Q (.ref h.objs.size) ⟨h.push { cls := .type "method-wrapper", data := .fields #[veInit, .ref e] }, g, d, t, os⟩) :
  wpAny (model prog w) A (call (.builtin "wrapper_descriptor.__get__") [veInit, .ref e, .ref C]) Q E ⟨h, g, d, t, os⟩ := by
 refine wpAny_call (codeAny_call_builtin wd_plain wd_entry ?_)
 simp only [checkBuiltinCall, wd_kind, wd_split]
 refine wpAny_bind ?_
 rw [wd_self]
 refine wpAny_pure ?_
 rw [if_neg (by decide)]
 refine wpAny_eq_pure (wd_args veInit (.ref e) (.ref C)) ?_
 unfold Builtin.«wrapper_descriptor.__get__»
 refine wpAny_bind (wpAny_pure ?_)
 dsimp only
 have hcut : ".".intercalate ("ValueError.__init__".cutAt '.').dropLast = "ValueError" := by decide +kernel
 have hs' : PySem.W.Looks (model prog w) h (isSubtype oe.cls (Value.type (".".intercalate ("ValueError.__init__".cutAt '.').dropLast))) true := by
  rw [hcut, hce]
  exact hs
 refine fun Γ p hΓ => ⟨oe, hoe, ?_⟩
 refine (wpAny_bind (wpAny_bind (hs'.at ?_)) : wpAny (model prog w) A.in1 ((isSubtype oe.cls (Value.type (".".intercalate ("ValueError.__init__".cutAt '.').dropLast)) >>= _) >>= _) _ _ ⟨h, g, d, t, os⟩) Γ p hΓ
 rw [if_neg (by decide)]
 refine wpAny_pure ?_
 refine wpAny_bind ?_
 show wpAny (model prog w) A.in1 (newObj (.type "method-wrapper") (.fields #[veInit, .ref e])) _ _ _
 refine wpAny_newObj_type ?_ (by show 2 ≤ _; decide)
 exact wpAny_pure hq
end
end L2
namespace L2
section
variable {prog : Program} {w : World} {A : Around} {E : Value → Shared → Prop} {h : Heap} {g : Array GenState} {d : Drawn} {t : Nat} {os : OsState} {e C so : Addr} {oe : Obj} {K : PySem.W.Frag}
 {nm q : Str} {N : Addr} {bs bm : List Value} {hdct : Bool} {sn : List Str} {sub : List Value} {ab : Bool} {col : Option Bool} {dd : Option Addr} {k0 k1 k2 k3 k5 : Option Value} {nid : String}
theorem super_ga {tk : Tok} {Q : PySem.Fin → Shared → Prop} (X : K.In h) (hso : h.get? so = some { cls := .type "super", data := .fields #[.ref C, .ref e, .ref C] }) (hC : h.get? C = some (excClassObj nm q C N bs bm hdct sn sub ab col dd k0 k1 k2 k3 k5 nid))
  (hal : PySem.W.alongIn K "__init__" bm = some (some veInit)) (hop : PySem.W.Looks (model prog w) h (opaqueClassAbove (.ref C)) none) (hoe : h.get? e = some oe) (hce : oe.cls = .ref C) (hs : PySem.W.Looks (model prog w) h (isSubtype (.ref C) (.type "ValueError")) true) (hne : e ≠ C)
  (hq : Q (.done (.ret (.ref h.objs.size))) ⟨h.push { cls := .type "method-wrapper", data := .fields #[veInit, .ref e] }, g, d, t, os⟩) :
  wpAny (model prog w) A (Builtin.«super.__getattribute__» ⟨[.ref so, .str "__init__" tk], []⟩) Q E ⟨h, g, d, t, os⟩ := by
 unfold Builtin.«super.__getattribute__»
 dsimp only [asStr?]
 refine wpAny_bind (wpAny_pure ?_)
 rw [if_neg (by decide)]
 refine wpAny_bind (wpAny_pure ?_)
 dsimp only
 refine wpAny_bind (wpAny_field (x := .ref C) hso rfl rfl ?_)
 refine wpAny_bind (wpAny_field (x := .ref e) hso rfl rfl ?_)
 refine wpAny_bind (wpAny_field (x := .ref C) hso rfl rfl ?_)
 rw [if_neg (by rw [show (Value.ref C == Value.none) = false from rfl]; decide)]
 refine wpAny_bind (ks_wpAny_notOpaque hop ?_)
 rw [if_neg (by rw [show (Value.ref C == Value.type "module") = false from rfl]; decide)]
 refine wpAny_bind (wpAny_mroOf_exc hC ?_)
 have hdr : List.drop 1 (List.dropWhile (fun x => x != Value.ref C) (Value.ref C :: bm)) = bm := by
  rw [List.dropWhile_cons, if_neg (by simp)]
  rfl
 rw [hdr]
 refine wpAny_bind ?_
 refine ks_forIn_along X (fun _ _ => rfl) rfl ?_ hal
 dsimp only
 rw [wd_type]
 refine wpAny_bind (wpAny_pure ?_)
 have L1 : PySem.W.Looks (model prog w) h (typeLookup (.type "wrapper_descriptor") "__get__") (some (.builtin "wrapper_descriptor.__get__")) := PySem.W.looks_findIn X wd_find
 refine wpAny_bind (L1.at ?_)
 dsimp only
 have hb : (Value.ref e == Value.ref C) = false := by
  simpa using hne
 rw [hb, if_neg Bool.false_ne_true]
 refine wpAny_bind (wpAny_holding (wd_run hoe hce hs ?_))
 exact wpAny_bind (wpAny_pure (wpAny_pure (wpAny_pure hq)))
theorem super_meth {pl : Sem Bool} {Q : Value × List Value → Shared → Prop} (X : K.In h) (hso : h.get? so = some { cls := .type "super", data := .fields #[.ref C, .ref e, .ref C] }) (hC : h.get? C = some (excClassObj nm q C N bs bm hdct sn sub ab col dd k0 k1 k2 k3 k5 nid))
  (hal : PySem.W.alongIn K "__init__" bm = some (some veInit)) (hop : PySem.W.Looks (model prog w) h (opaqueClassAbove (.ref C)) none) (hoe : h.get? e = some oe) (hce : oe.cls = .ref C) (hs : PySem.W.Looks (model prog w) h (isSubtype (.ref C) (.type "ValueError")) true) (hne : e ≠ C)
  (hq : Q (.ref h.objs.size, []) ⟨h.push { cls := .type "method-wrapper", data := .fields #[veInit, .ref e] }, g, d, t + 1, os⟩) :
  wpAny (model prog w) A (getMethod (.ref so) "__init__" pl) Q E ⟨h, g, d, t, os⟩ := by
 have L0 : PySem.W.Looks (model prog w) h (typeOf (.ref so)) (.type "super") := (PySem.W.Looks.ld hso).andThen .now
 unfold getMethod specialOf
 refine wpAny_bind (wpAny_bind (L0.at ?_))
 refine wpAny_eq_pure F.ks_slot_super_ga.lookup ?_
 dsimp only
 rw [if_pos F.ks_canon_super_ga]
 unfold getAttr
 refine wpAny_bind (wpAny_bind (wpAny_mkText ?_))
 unfold getAttrBy
 refine wpAny_holding (wpAny_bind (L0.at ?_))
 refine wpAny_bind (wpAny_eq_pure F.ks_slot_super_ga.lookup ?_)
 dsimp only
 rw [if_neg (by decide)]
 unfold getAttrByItsOwn hookBefore
 rw [if_neg (by decide)]
 refine wpAny_bind (wpAny_pure ?_)
 refine wpAny_bind (wpAny_attempt (wpAny_holding ?_))
 unfold callGetattribute
 rw [if_neg (by decide)]
 unfold boundAndCalled
 rw [F.ks_slot_super_ga.bind]
 refine wpAny_bind (wpAny_pure ?_)
 refine wpAny_call_entry F.ks_slot_super_ga ⟨_, hso, rfl⟩ F.ks_entry_super_ga ?_ (F.ks_gaArgs_super _ _)
 refine super_ga X hso hC hal hop hoe hce hs hne ?_
 exact ⟨_, rfl, wpAny_pure (wpAny_pure hq)⟩
end
end L2
namespace L2
section
variable {prog : Program} {w : World} {A : Around} {E : Value → Shared → Prop} {h : Heap} {g : Array GenState} {d : Drawn} {t : Nat} {os : OsState} {e C so : Addr} {oe : Obj} {K : PySem.W.Frag}
theorem printed_ok {e C : Addr} {oe oC : Obj} {cdC : ClassData} {b : Bool} {full short : String} {mc : Manifest.Machinery} {ps : List Manifest.Param} {Q : String → Shared → Prop} (hC : h.get? C = some oC) (hcC : oC.data = .cls cdC) (hoe : h.get? e = some oe) (hce : oe.cls = .ref C)
  (hq : ∀ x, Q x ⟨h, g, d, t, os⟩) : wpAny (model prog w) A (Bind.printed "*" b { machinery := mc, full := full, short := short, receiver := .self, params := ps } (some (.ref e))) Q E ⟨h, g, d, t, os⟩ := by
 have L0 : PySem.W.Looks (model prog w) h (typeOf (.ref e)) (.ref C) := hce ▸ (PySem.W.Looks.ld hoe).andThen .now
 unfold Bind.printed
 rw [if_neg (by decide)]
 dsimp only
 unfold Bind.receiverType
 dsimp only
 rw [if_neg (by decide)]
 refine wpAny_bind (L0.at ?_)
 unfold typeNameWhole classData
 refine wpAny_bind (wpAny_bind (wpAny_bind (wpAny_load hC ?_)))
 rw [hcC]
 exact wpAny_pure (wpAny_pure (wpAny_pure (hq _)))
theorem mw_call {mw e t0 : Addr} {arg : Value} {C : Addr} {oC : Obj} {cdC : ClassData} (hC : h.get? C = some oC) (hcC : oC.data = .cls cdC) {Q : Value → Shared → Prop} (hmw : h.get? mw = some { cls := .type "method-wrapper", data := .fields #[veInit, .ref e] }) (hoe : h.get? e = some { cls := .ref C, data := .fields #[.ref t0, .none, .none, .none, .bool false, .none] })
  (hq : ∀ h', (∀ b o, b ≠ e → h.get? b = some o → h'.get? b = some o) → h'.get? e = some { cls := .ref C, data := .fields #[.ref h.objs.size, .none, .none, .none, .bool false, .none] } → h.objs.size ≤ h'.objs.size → Q .none ⟨h', g, d, t, os⟩) :
  wpAny (model prog w) A (call (.ref mw) [arg]) Q E ⟨h, g, d, t, os⟩ := by
 have FB := F.excBase_ValueError
 refine wpAny_call (codeAny_of_tree ?_)
 show wpAny _ _ (callAny (.ref mw) ⟨[arg], []⟩) _ _ _
 unfold callAny
 dsimp only
 refine wpAny_bind (wpAny_load hmw ?_)
 dsimp only
 rw [if_pos (by decide)]
 show wpAny _ _ (do
  checkBoundCall "ValueError.__init__" ⟨[.ref e, arg], []⟩
  again (.builtin "ValueError.__init__" ⟨[.ref e, arg], []⟩)) _ _ _
 refine wpAny_bind ?_
 unfold checkBoundCall
 rw [FB.initRow]
 dsimp only
 rw [FB.initKind]
 dsimp only
 rw [if_pos (by decide)]
 refine wpAny_mono (?_ : wpAny _ _ _ (fun _ s' => s' = ⟨h, g, d, t, os⟩) _ _) ?k (fun _ _ z => z)
 case k =>
  rintro _ _ rfl
  refine wpAny_pure ⟨Code.quiet_builtin _ (by decide +kernel), ?_⟩
  refine codeAny_builtin FB.initEntry ?_
  unfold Builtin.«BaseException.__init__»
  dsimp only
  rw [if_neg (by decide)]
  refine wpAny_bind (wpAny_newTuple ?_ (by show 1 ≤ _; decide))
  unfold Builtin.BaseException.bexcPut
  have h1 := Heap.get?_push_of_some ({ cls := Value.type "tuple", data := Data.seq #[arg] } : Obj) hoe
  refine wpAny_bind (wpAny_bind (wpAny_field (x := .ref t0) h1 rfl rfl ?_))
  refine wpAny_bind (wpAny_setField h1 rfl (by show 0 < 6; decide) ?_)
  dsimp only
  unfold letGo
  refine wpAny_bind (wpAny_point ?_)
  unfold letGo
  refine wpAny_pure (wpAny_pure (hq _ (fun b o hb q => Heap.get?_update_of_ne _ (Ne.symm hb) (Heap.get?_push_of_some _ q)) ?_ ?_))
  ·rw [Heap.get?_update_self _ h1]
   ·rfl
   ·rfl
  ·rw [Heap.size_update, Heap.size_push]
   exact Nat.le_succ _
 unfold Bind.checkArgs
 dsimp only
 refine wpAny_bind (printed_ok hC hcC hoe rfl fun x => ?_)
 refine wpAny_bind (wpAny_pure ?_)
 exact wpAny_onRaise (wpAny_eq_pure (check_star_args _ _ _ _ _ _) rfl)
end
end L2
namespace L2
section
variable {prog : Program} {w : World} {A : Around} {E : Value → Shared → Prop} {h : Heap} {g : Array GenState} {d : Drawn} {t : Nat} {os : OsState} {env : Env}
theorem cw_const {mw e : Addr} {x : Str} {n : Nat} {q pos : Pos} {Q : Value → Shared → Prop} (hmw : h.get? mw = some { cls := .type "method-wrapper", data := .fields #[veInit, .ref e] })
  (hq : ∀ tk, wpAny (model prog w) A (call (.ref mw) [.str x tk]) Q E ⟨h, g, d, t + 1, os⟩) :
  wpAny (model prog w) A (callWith pos (.ref mw) [] (backTo pos (starEach [.Constant (.str x) n q] env)) []) Q E ⟨h, g, d, t, os⟩ := by
 unfold callWith
 refine wpAny_bind (wpAny_holding ?_)
 show wpAny _ _ (evalArgs (.ref mw) true [(false, eval (.Constant (.str x) n q) env)] []) _ _ _
 refine Calls.evalArgs_plain ?_
 refine Calls.spliced_cons (Calls.Constant_str ?_)
 refine Calls.spliced_nil ?_
 refine wpAny_bind (wpAny_standAt ?_)
 refine wpAny_bind ?_
 unfold keeperOf
 refine wpAny_bind (wpAny_load hmw ?_)
 dsimp only
 refine wpAny_pure ?_
 show wpAny _ _ (do
  let r ← call (.ref mw) [.str x t]
  holding [r] point
  pure r) _ _ _
 refine wpAny_bind (wpAny_mono (hq t) (fun r s' hr => ?_) fun _ _ z => z)
 exact wpAny_bind (wpAny_holding (wpAny_point (wpAny_pure hr)))
end
end L2
namespace L2
section
variable {prog : Program} {w : World} {A : Around} {E : Value → Shared → Prop} {h : Heap} {g : Array GenState} {d : Drawn} {t : Nat} {os : OsState} {env : Env} {K : PySem.W.Frag} {e C : Addr} {vs : Array Value}
 {nm q : Str} {N : Addr} {bs : List Value} {D : Addr} {sn : List Str} {sub : List Value} {ab : Bool} {col : Option Bool} {dd : Option Addr} {k0 k1 k2 k3 k5 : Option Value} {nid : String}
theorem b1 : builtinOwn "ValueError" "__setattr__" = none := by decide +kernel
theorem b2 : builtinOwn "Exception" "__setattr__" = none := by decide +kernel
theorem b3 : builtinOwn "BaseException" "__setattr__" = none := by decide +kernel
theorem b4 : builtinOwn "object" "__setattr__" = some (.builtin "object.__setattr__") := by decide +kernel
theorem b5 : Builtin.ObjectAttr.isObjects "object" (Str.toString "__setattr__") = true := by decide +kernel
theorem refuse_ok {Q : Unit → Shared → Prop} (X : K.In h) (hC : h.get? C = some (excClassObj nm q C N bs (.ref D :: veB) true sn sub ab col dd k0 k1 k2 k3 k5 nid)) (hoe : h.get? e = some { cls := .ref C, data := .fields vs }) (hq : Q () ⟨h, g, d, t, os⟩) :
  wpAny (model prog w) A (Builtin.ObjectAttr.refuseIfOverridden (.ref e) "__setattr__") Q E ⟨h, g, d, t, os⟩ := by
 have L0 : PySem.W.Looks (model prog w) h (typeOf (.ref e)) (.ref C) := (PySem.W.Looks.ld hoe).andThen .now
 unfold Builtin.ObjectAttr.refuseIfOverridden
 refine wpAny_bind (L0.at (wpAny_bind (wpAny_mroOf_exc hC ?_)))
 refine wpAny_bind ?_
 rw [List.forIn_cons]
 refine wpAny_bind (wpAny_pure ?_)
 dsimp only
 rw [List.forIn_cons]
 refine wpAny_bind (wpAny_pure ?_)
 dsimp only
 rw [List.forIn_cons]
 dsimp only
 rw [if_neg (by decide), if_neg (by decide)]
 unfold classOwn
 dsimp only
 rw [b1]
 refine wpAny_bind (wpAny_bind (wpAny_pure ?_))
 rw [if_neg (by decide)]
 refine wpAny_pure ?_
 dsimp only
 rw [List.forIn_cons]
 dsimp only
 rw [if_neg (by decide), if_neg (by decide), b2]
 refine wpAny_bind (wpAny_bind (wpAny_pure ?_))
 rw [if_neg (by decide)]
 refine wpAny_pure ?_
 dsimp only
 rw [List.forIn_cons]
 dsimp only
 rw [if_neg (by decide), if_neg (by decide), b3]
 refine wpAny_bind (wpAny_bind (wpAny_pure ?_))
 rw [if_neg (by decide)]
 refine wpAny_pure ?_
 dsimp only
 rw [List.forIn_cons]
 dsimp only
 rw [if_neg (by decide), if_neg (by decide), b4]
 refine wpAny_bind (wpAny_bind (wpAny_pure ?_))
 rw [if_pos (by rfl), b5, if_neg (by decide)]
 refine wpAny_pure ?_
 dsimp only
 exact wpAny_pure (wpAny_pure hq)
theorem exc_setattr {v : Value} {Q : Unit → Shared → Prop} (X : K.In h) (hC : h.get? C = some (excClassObj nm q C N bs (.ref D :: veB) true sn sub ab col dd k0 k1 k2 k3 k5 nid)) (hoe : h.get? e = some { cls := .ref C, data := .fields vs })
  (hst : PySem.W.findIn K (.ref C) "__setattr__" = some (some (.builtin "object.__setattr__"))) (hat : PySem.W.findIn K (.ref C) "at" = some none) (hob : PySem.W.mroIn K C (.type "object") = some true)
  (hq : ∀ (h' : Heap) (t' : Nat) (dx : Addr), (∀ b o, b ≠ e → h.get? b = some o → h'.get? b = some o) → h.get? dx = none → h'.get? e = some { cls := .ref C, dict := some dx, data := .fields vs } → h'.Ns1 dx (fun x => if x = "at" then some v else none) → Q () ⟨h', g, d, t', os⟩) :
  wpAny (model prog w) A (setAttr (.ref e) "at" v) Q E ⟨h, g, d, t, os⟩ := by
 have L0 : PySem.W.Looks (model prog w) h (typeOf (.ref e)) (.ref C) := (PySem.W.Looks.ld hoe).andThen .now
 have L1 := PySem.W.looks_findIn (M := model prog w) X hst
 have L2 := PySem.W.looks_findIn (M := model prog w) X hat
 have L3 := PySem.W.looks_mroIn (M := model prog w) X hob
 unfold setAttr
 refine wpAny_bind (wpAny_mkText ?_)
 refine wpAny_bind ?_
 unfold callSpecial? specialOf
 refine wpAny_bind (wpAny_bind (L0.at (L1.at ?_)))
 refine wpAny_holding ?_
 rw [F.slot_object_setattr.bind]
 refine wpAny_bind (wpAny_pure ?_)
 refine wpAny_bind (wpAny_call (codeAny_call_builtin F.slot_object_setattr.plain F.entry_object_setattr ?_))
 simp only [checkBuiltinCall, F.bk_object_setattr, F.sp_object_setattr]
 unfold isInstance
 refine wpAny_bind (wpAny_bind (L0.at (L3.at ?_)))
 rw [if_neg (by decide)]
 refine wpAny_eq_pure (F.args_object_setattr_3 _ _ _) ?_
 unfold Builtin.«object.__setattr__»
 dsimp only
 rw [if_neg (by decide)]
 dsimp only [List.cons_append, List.nil_append]
 refine wpAny_bind (refuse_ok X hC hoe ?_)
 refine wpAny_bind (wpAny_pure ?_)
 refine wpAny_bind (L0.at (wpAny_bind (L2.at ?_)))
 refine wpAny_bind (wpAny_pure ?_)
 dsimp only
 unfold Builtin.ObjectAttr.storeInOwnDict
 refine wpAny_bind (wpAny_pure ?_)
 rw [if_neg (by rw [show (Value.ref C == Value.type "module") = false from rfl]; decide)]
 refine wpAny_bind ?_
 show wpAny _ _ (instanceDict e true) _ _ _
 unfold instanceDict classData
 refine wpAny_bind (wpAny_loadPart hoe ?_)
 dsimp only
 refine wpAny_bind (wpAny_bind (wpAny_load hC ?_))
 dsimp only
 refine wpAny_pure ?_
 rw [if_neg (by show ¬((!true) = true); decide), if_neg (by show ¬((!true || !true) = true); decide)]
 refine wpAny_bind (wpAny_alloc ?_)
 have h1 := Heap.get?_push_of_some ({ cls := Value.type "dict", data := Data.dict #[] } : Obj) hoe
 have h2 : (h.push { cls := Value.type "dict", data := Data.dict #[] }).get? h.objs.size = some { cls := Value.type "dict", data := Data.dict #[] } := Heap.get?_push_size _ rfl
 refine wpAny_bind (wpAny_update h1 ?_)
 refine wpAny_pure ?_
 dsimp only
 have nd : h.objs.size ≠ e := Ne.symm (Nat.ne_of_lt (Heap.lt_size hoe))
 unfold Builtin.ObjectAttr.storeInDict
 refine wpAny_bind (wpAny_pure (wpAny_bind ?_))
 have h3 := Heap.get?_update_of_ne (fun o => ({ cls := o.cls, dict := some h.objs.size, data := o.data, slots := o.slots } : Obj)) (Ne.symm nd) h2
 have n0 : ((h.push { cls := Value.type "dict", data := Data.dict #[] }).update e fun o => ({ cls := o.cls, dict := some h.objs.size, data := o.data, slots := o.slots } : Obj)).Ns1 h.objs.size (fun _ => none) := ⟨_, _, _, h3, rfl, fun z hz => by simp at hz, by unfold UniqKeys; simp, fun _ => rfl⟩
 refine wpAny_nsSet1 n0 fun h' hn2 hs2 => ?_
 obtain ⟨oD, esD, epD, hoD, hdD, hcD⟩ := hn2.count (ns := ["at"]) (PySem.Within.cons "at" v (ns := []) (fun y hy => (hy rfl).elim))
 refine wpAny_bind (wpAny_lookBehind hoD (by rw [hdD]; exact pastItsLine_dict (Nat.le_trans hcD (by decide))) ?_)
 refine wpAny_pure ?_
 dsimp only
 refine wpAny_pure ?_
 dsimp only
 refine wpAny_pure ?_
 refine hq h' _ _ (fun b o hb hbo => ?_) (Heap.get?_none_of_le (Nat.le_refl _)) ?_ hn2
 ·exact hs2.2 b (Nat.ne_of_lt (Heap.lt_size hbo)) ▸ (Heap.get?_update_of_ne _ (Ne.symm hb) (Heap.get?_push_of_some _ hbo))
 ·rw [hs2.2 e (Ne.symm nd)]
  rw [Heap.get?_update_self _ h1]
  ·rfl
end
end L2
namespace L2
noncomputable abbrev initParams (p1 p2 : Pos) : Arguments := { posonlyargs := [], args := [{ arg := "self", annotation := none, pos := p1 }, { arg := "at", annotation := none, pos := p2 }], vararg := none, kwonlyargs := [], kw_defaults := [], kwarg := none, defaults := [] }
noncomputable abbrev initScope : Scope := { kind := .function, names := [("self", .local), ("at", .local), ("__class__", .free), ("super", .globalImplicit)], isGenerator := false, isCoroutine := false, more := [] }
noncomputable abbrev initBody (x : Str) (n : Nat) (q0 q1 q2 q3 q4 q5 q6 q7 q8 q9 : Pos) : List Stmt :=
 [.Expr (.Call (.Attribute (.Call (.Name "super" q0) [] [] q1) "__init__" q2) [.Constant (.str x) n q3] [] q4) q5,
  .Assign [.Attribute (.Name "self" q6) "at" q7] (.Name "at" q8) q9]
structure ExcN (prog : Program) (K : PySem.W.Frag) (C fI : Addr) : Prop where
 cls : ∃ (nm q : Str) (N D : Addr) (bs : List Value) (sn : List Str) (sub : List Value) (ab : Bool) (col : Option Bool) (dd : Option Addr) (k0 k1 k2 k3 k5 : Option Value),
  K.lookup C = some (excClassObj nm q C N bs (.ref D :: veB) true sn sub ab col dd k0 k1 k2 k3 k5 "ValueError.__new__") ∧ PySem.W.tailIn K veB (.ref D :: veB) = true ∧ PySem.W.nsOkIn K N = true ∧ PySem.W.nsIn K N "__init__" = some (some (.ref fI)) ∧
  PySem.W.alongIn K "__init__" (.ref D :: veB) = some (some veInit)
 fn : ∃ (qual : Str) (p1 p2 : Pos) (x : Str) (n : Nat) (q0 q1 q2 q3 q4 q5 q6 q7 q8 q9 : Pos) (cc cda : Addr) (od an : Option Addr) (osl ccs cds : Array (Option Value)) (kV doc pm ct ccl cdl : Value) (ccd cdd : Option Addr) (vs : Array Value) (file : Str) (tf : Tok),
  K.lookup fI = some ⟨.type "function", od, .func (PySem.W.fnX "__init__" qual (initParams p1 p2) (initBody x n q0 q1 q2 q3 q4 q5 q6 q7 q8 q9) initScope [("__class__", cc)] .none kV doc pm an (.ref cda) ct), osl⟩ ∧
  PySem.W.codeIn K (.ref cda) qual = true ∧ K.lookup cc = some ⟨ccl, ccd, .cell (some (.ref C)), ccs⟩ ∧ K.lookup cda = some ⟨cdl, cdd, .fields vs, cds⟩ ∧ vs[2]? = some (.str file tf) ∧ (prog.main.file == file) = true ∧ (prog.main.scope.names.lookup ("super" : Str)).isSome = false ∧
  (q2.endLine == q4.line) = true
 opq : PySem.W.nsIn K cStatics "thirdparty.any" = some none
 self : PySem.W.mroIn K C (.ref C) = some true
 sve : PySem.W.mroIn K C (.type "ValueError") = some true
 sob : PySem.W.mroIn K C (.type "object") = some true
 sta : PySem.W.findIn K (.ref C) "__setattr__" = some (some (.builtin "object.__setattr__"))
 nat : PySem.W.findIn K (.ref C) "at" = some none
section
variable {prog : Program} {w : World} {A : Around} {h : Heap} {g : Array GenState} {d : Drawn} {t : Nat} {os : OsState} {R : Result → Shared → Prop} {K : PySem.W.Frag} {C fI e t0 : Addr} {num : Value} {mg : Str → Option Value} {base : Heap}
theorem eval_super {env : Env} {q0 q1 q2 q3 q4 : Pos} {x : Str} {n : Nat} (hp : (q2.endLine == q4.line) = true) : eval (.Call (.Attribute (.Call (.Name "super" q0) [] [] q1) "__init__" q2) [.Constant (.str x) n q3] [] q4) env = (do
   let ov ← attributeBase (.Call (.Name "super" q0) [] [] q1) "__init__" env (eval (.Call (.Name "super" q0) [] [] q1) env)
   standAt q2.atName
   let (f, first) ← holding [ov] (getMethod ov "__init__" (do let b ← importBound (.Call (.Name "super" q0) [] [] q1) env; pure (b.getD true)))
   callWith q4 f first (backTo q4 (starEach [.Constant (.str x) n q3] env)) []) := by
 show (do
   let ov ← attributeBase (.Call (.Name "super" q0) [] [] q1) "__init__" env (eval (.Call (.Name "super" q0) [] [] q1) env)
   standAt q2.atName
   methodCall (.Call (.Name "super" q0) [] [] q1) "__init__" q2 q4 env ov 1 (backTo q4 (starEach [.Constant (.str x) n q3] env)) []) = _
 have hq : methodCallPos true (.Call (.Name "super" q0) [] [] q1) env q2 q4 = pure q4 := by
  unfold methodCallPos
  rw [hp]
  rfl
 have hf : methodCallForm 1 (backTo q4 (starEach [.Constant (.str x) n q3] env)) [] = true := rfl
 unfold methodCall
 rw [hf, hq]
 rfl
variable {nm qn : Str} {N D : Addr} {bs : List Value} {sn : List Str} {sub : List Value} {ab : Bool} {col : Option Bool} {dd : Option Addr} {k0 k1 k2 k3 k5 : Option Value}
theorem s1 {env : Env} {e cc cda : Addr} {E : Value → Shared → Prop} {q0 q1 q2 q3 q4 q5 : Pos} {x : Str} {n : Nat} {body : List Stmt} {Q : Flow → Shared → Prop} {fd : FuncData} {of oc : Obj} {ar : Arg} {vs : Array Value} {file : Str} {tf : Tok}
  {m : Str → Option Value} {t0 : Addr}
  (ksup : env.kindOf "super" = some .globalImplicit) (kcl : env.kindOf "__class__" = some .free) (kfn : env.scope.kind = .function) (kse : env.kindOf "self" = some .local) (hfn : env.func = some fI) (hf : h.get? fI = some of) (hfd : of.data = .func fd) (har : (fd.params.posonlyargs ++ fd.params.args).head? = some ar) (hself : ar.arg = "self")
  (hcode : env.code = .ref cda) (hcda : h.get? cda = some oc) (hoc : oc.data = .fields vs) (hfile : vs[2]? = some (.str file tf)) (hmain : (prog.main.file == file) = true) (hsn : (prog.main.scope.names.lookup ("super" : Str)).isSome = false)
  (hL : h.Ns env.locals m) (hm : m "self" = some (.ref e)) (hcc : env.cells.lookup ("__class__" : Str) = some cc) (hcell : h.IsCell cc (some (.ref C))) (M : Mod K mg h) (hg : env.globals = mainGlobals) (hb : env.builtins = builtinsNs) (hsup : mg "super" = none)
  (X : K.In h) (hC : h.get? C = some (excClassObj nm qn C N bs (.ref D :: veB) true sn sub ab col dd k0 k1 k2 k3 k5 "ValueError.__new__")) (hoe : h.get? e = some { cls := .ref C, data := .fields #[.ref t0, .none, .none, .none, .bool false, .none] })
  (T : ExcN prog K C fI) (hal : PySem.W.alongIn K "__init__" (.ref D :: veB) = some (some veInit)) (hne : e ≠ C)
  (hp : (q2.endLine == q4.line) = true) (hi : interactive env = false) (hsw : swapsWith (.Call (.Attribute (.Call (.Name "super" q0) [] [] q1) "__init__" q2) [.Constant (.str x) n q3] [] q4) none q5.line env = pure false)
  (hQ : ∀ (h' : Heap) (t' : Nat) (t2 : Addr), (∀ b o, b ≠ e → h.get? b = some o → h'.get? b = some o) → h'.get? e = some { cls := .ref C, data := .fields #[.ref t2, .none, .none, .none, .bool false, .none] } → Q .next ⟨h', g, d, t', os⟩) :
  PySem.wpAt (model prog w) A (.func body env) (exec (.Expr (.Call (.Attribute (.Call (.Name "super" q0) [] [] q1) "__init__" q2) [.Constant (.str x) n q3] [] q4) q5) env) Q E ⟨h, g, d, t, os⟩ := by
 have X := X
 refine ks_wpAt_Expr_any ?_ hi hsw
 refine ks_wpAt_MethodCall ?_ (eval_super hp)
 refine ks_wpAt_super_base ksup kcl (by decide) hfn hf hfd har hcode hcda hoc hfile hmain hsn ?_
 obtain ⟨mb, hb1, hb2⟩ := M.blt
 refine PySem.W.ks_loadName_global kfn ksup (Calls.loadGlobal_builtin (by rw [hg]; exact M.glob) hsup (by rw [hb]; exact hb1) (by rw [hb2 _ (by decide)]; rfl) ⟨rfl, ?_⟩)
 refine wpAny_loadName_free kfn kcl hcc hcell ?_
 rw [hself]
 refine wpAny_loadName_local kfn kse hL hm ?_
 refine ks_wpAny_isType_cls hC rfl ⟨rfl, ?_⟩
 refine ks_wpAny_call_super hC rfl hoe rfl (fun c z => nomatch z) (PySem.W.looks_mroIn X T.self) fun h' hso kp => ?_
 have X1 : K.In h' := X.keeps kp
 refine super_meth X1 hso (kp _ _ hC) hal (PySem.W.looks_opaque X1 T.opq) (kp _ _ hoe) rfl (PySem.W.looks_mroIn X1 T.sve) hne ?_
 have h2 : (h'.push { cls := .type "method-wrapper", data := .fields #[veInit, .ref e] }).get? h'.objs.size = some { cls := .type "method-wrapper", data := .fields #[veInit, .ref e] } := Heap.get?_push_size _ rfl
 refine cw_const h2 fun tk => ?_
 refine mw_call (Heap.get?_push_of_some _ (kp _ _ hC)) rfl h2 (Heap.get?_push_of_some _ (kp _ _ hoe)) fun h3 k3 he3 sz => ?_
 exact hQ h3 _ _ (fun b o hb q => k3 b o hb (Heap.get?_push_of_some _ (kp _ _ q))) he3
theorem init_run {num : Value} (T : ExcN prog K C fI) (X : K.In h) (M : Mod K mg h) (hdep : A.depth < recursionLimit) (hsup : mg "super" = none) (hKe : ∀ a o, K.lookup a = some o → a ≠ e)
  (he : h.get? e = some { cls := .ref C, data := .fields #[.ref t0, .none, .none, .none, .bool false, .none] })
  (hR : ∀ (h' : Heap) (t' : Nat) (dx t2 : Addr), (∀ b o, b ≠ e → h.get? b = some o → h'.get? b = some o) → h.get? dx = none → h'.get? e = some { cls := .ref C, dict := some dx, data := .fields #[.ref t2, .none, .none, .none, .bool false, .none] } →
   h'.Ns1 dx (fun x => if x = "at" then some num else none) → R (.ok (.ret .none)) ⟨h', g, d, t', os⟩) :
  codeAny (model prog w) A (.call (.ref fI) ⟨[.ref e, num], []⟩) R ⟨h, g, d, t, os⟩ := by
 obtain ⟨nm, q, N, D, bs, sn, sub, ab, col, dd, k0, k1, k2, k3, k5, lC, tl, nok, nin, hal⟩ := T.cls
 obtain ⟨qual, p1, p2, x, n, q0, q1, q2, q3, q4, q5, q6, q7, q8, q9, cc, cda, od, an, osl, ccs, cds, kV, doc, pm, ct, ccl, cdl, ccd, cdd, vs, file, tf, lf, lcd, lcc, lcda, hfile, hmain, hsn, hp⟩ := T.fn
 have hf := X _ _ lf
 have hC := X _ _ lC
 have hne : e ≠ C := fun z => by
  rw [z, hC] at he
  cases he
 refine ks_codeAny_call_defAt (binds := [("self", .ref e), ("at", num)]) hdep hf rfl M.nolimit (PySem.W.codeRec_of X lcd) rfl (.of_eq rfl) ?_ (fun y hy => ?_) (fun h₀ hL kp => ?_)
 ·intro y hy
  simp only [PySem.W.fnX, initScope, List.mem_cons, List.not_mem_nil, or_false] at hy
  rcases hy with rfl | rfl | rfl | rfl <;> (intro z; cases z)
 ·simp only [List.mem_cons, List.not_mem_nil, or_false] at hy
  rcases hy with rfl | rfl <;> rfl
 ·have X0 : K.In h₀ := X.keeps kp
  have M0 : Mod K mg h₀ := ⟨X0, M.glob.keeps kp, by obtain ⟨mb, z1, z2⟩ := M.blt; exact ⟨mb, z1.keeps kp, z2⟩, M.nolimit.keeps kp⟩
  refine ks_wpAt_execs_cons ?_
  refine s1 (A := A.deeper _) (fI := fI) (cda := cda) (cc := cc) (of := _) (oc := _) (fd := _) (ar := _) (vs := vs) (file := file) (tf := tf) (nm := nm) (qn := q) (N := N) (D := D) (by rfl) (by rfl) rfl (by rfl) rfl (kp _ _ hf) rfl rfl rfl rfl (X0 _ _ lcda) rfl hfile hmain hsn hL rfl rfl ⟨_, X0 _ _ lcc, rfl⟩ M0 rfl rfl hsup X0 (kp _ _ hC) (kp _ _ he) T hal hne hp rfl rfl ?_
  intro h1 t1 t2 kp1 he1
  show PySem.wpAt _ _ _ (execs [_] _) _ _ _
  have X1 : K.In h1 := fun a o la => kp1 _ _ (hKe a o la) (X0 _ _ la)
  have neL : h.objs.size ≠ e := Ne.symm (Nat.ne_of_lt (Heap.lt_size he))
  have hL1 : h1.Ns h.objs.size (fun x => List.lookup x [(("self" : Str), Value.ref e), ("at", num)].reverse) := by
   obtain ⟨o, es, ep, ho, r⟩ := hL
   exact ⟨o, es, ep, kp1 _ _ neL ho, r⟩
  refine ks_wpAt_execs_cons (ks_wpAt_Assign_Attr ?_ rfl)
  refine PySem.wpAt_of_wpAny ?_
  refine wpAny_Name (wpAny_loadName_local rfl (by rfl) hL1 rfl ?_) (by decide)
  refine wpAny_Name (wpAny_loadName_local rfl (by rfl) hL1 rfl ?_) (by decide)
  refine exc_setattr X1 (X1 _ _ lC) he1 T.sta T.nat T.sob fun h2 t3 dx k2 hdx he2 hns => ?_
  show PySem.wpAt _ _ _ (execs [] _) _ _ _
  refine PySem.wpAt_of_wpAny (wpAny_pure ?_)
  refine hR h2 t3 dx t2 (fun b o hb q => k2 b o hb (kp1 b o hb (kp b o q))) ?_ he2 hns
  cases hz : h.get? dx with
  | none => rfl
  | some o =>
   by_cases hb : dx = e
   ·rw [hb, he1] at hdx
    cases hdx
   ·rw [kp1 _ _ hb (kp _ _ hz)] at hdx
    cases hdx
end
end L2
set_option Elab.async false
set_option linter.all false
set_option maxRecDepth 100000
namespace L2
open PySem PySem.Spec PyProof.Rows
theorem HOk.none_of {P : Program} {w : World} {H : Hp} {h : Heap} {a : Addr} (ok : HOk P w H h) (e : h.get? a = none) : H a = none := by
 cases q : H a with
 | none => rfl
 | some u =>
  obtain ⟨o, ho⟩ := (ok a u q).there
  rw [e] at ho
  cases ho
theorem Inv.newly {X : Cx} {pins : List (Addr × Obj)} {σ : St} {H : Hp} {s : Shared} {h' : Heap} {t' : Nat} {a : Addr} {o : HO} (I : Inv X pins σ H s) (k : ∀ b u, s.heap.get? b = some u → h'.get? b = some u) (hn : s.heap.get? a = none)
  (new : ObjOk X.prog X.w (upd H a o) h' a o) : Inv X pins σ (upd H a o) { s with heap := h', toks := t' } := by
 have ne : ∀ b u, s.heap.get? b = some u → b ≠ a := fun b u q z => by
  rw [z, hn] at q
  cases q
 refine Inv.track (I.kept (t' := t') k) (I.hok.none_of hn) (fun b u q hx => ?_) ?_ (fun x c q => ?_) (fun p hp => ?_) new
 ·obtain ⟨o1, q1⟩ := I.base.there b u q hx
  exact ne b o1 q1
 ·obtain ⟨m, ⟨oL, es, ep, hoL, _⟩, _⟩ := I.loc
  exact ne _ _ hoL
 ·obtain ⟨v, oc, hoc, _⟩ := I.cell x c q
  exact ne _ _ hoc
 ·obtain ⟨q1, _⟩ := I.pin p hp
  exact ne _ _ q1
theorem raise_inst {M : Model} {A : Around} {E : Value → Shared → Prop} {env : Env} {nm q : Str} {C N : Addr} {bs bm : List Value} {hdct : Bool} {sn : List Str} {sub : List Value} {ab : Bool} {col : Option Bool} {dd : Option Addr} {k0 k1 k2 k3 k5 : Option Value} {newId : String} {s : Shared} {x : Sem Value} {Q : Flow → Shared → Prop}
  (hb : bm.contains (Value.type "BaseException") = true) (hh : A.handled = none)
  (hx : wpAny M A x (fun v s₁ => ∃ e oe vs, v = .ref e ∧ s₁.heap.get? C = some (excClassObj nm q C N bs bm hdct sn sub ab col dd k0 k1 k2 k3 k5 newId) ∧ s₁.heap.get? e = some oe ∧ oe.cls = .ref C ∧ oe.data = .fields vs ∧ vs[1]? = some .none ∧ E (.ref e) s₁) E s) :
  wpAny M A (raiseStmt env (some x) none) Q E s := by
 unfold raiseStmt
 refine wpAny_bind (wpAny_mono hx (fun v s1 h => ?_) fun _ _ z => z)
 obtain ⟨e, oe, vs, rfl, hC, hoe, hce, hde, hv, hE⟩ := h
 obtain ⟨h, g, d, t, os⟩ := s1
 have L0 : PySem.W.Looks M h (typeOf (.ref e)) (.ref C) := hce ▸ (PySem.W.Looks.ld hoe).andThen .now
 have L1 : PySem.W.Looks M h (typeOf (.ref C)) (.type "type") := (PySem.W.Looks.ld hC).andThen .now
 have nc : ∀ c : ClassData, oe.data ≠ .cls c := fun c z => by rw [hde] at z; cases z
 refine wpAny_bind (wpAny_pure ?_)
 refine wpAny_bind (wpAny_holding ?_)
 unfold excFromValue isExcClass
 refine wpAny_bind (wpAny_bind (ks_wpAny_isType_inst hoe nc ?_))
 rw [if_neg Bool.false_ne_true]
 refine wpAny_pure ?_
 rw [if_neg Bool.false_ne_true]
 unfold isInstance
 refine wpAny_bind (wpAny_bind (L0.at (wpAny_isSubtype_exc hC ?_)))
 rw [show (Value.ref C :: bm).contains (Value.type "BaseException") = true by simp only [List.contains_cons, hb, Bool.or_true], if_pos rfl]
 refine wpAny_pure ?_
 dsimp only
 refine wpAny_bind (ks_wpAny_isType_inst hoe nc ?_)
 rw [if_neg Bool.false_ne_true]
 unfold raisedInstance
 refine wpAny_bind (wpAny_bind (L0.at (wpAny_bind (L1.at ?_))))
 rw [if_pos (by rfl)]
 refine wpAny_pure ?_
 unfold setFlight
 refine wpAny_bind (wpAny_bind (wpAny_field hoe hde hv ?_))
 rw [if_neg (by decide)]
 refine wpAny_pure ?_
 unfold raiseNew
 refine wpAny_bind (wpAny_handled ?_)
 rw [hh]
 exact wpAny_throw hE
noncomputable def MadeOkN (X : Cx) (E : XK) : Prop := ∀ (pins : List (Addr × Obj)) (σ : St) (H : Hp) (s : Shared) (h' : Heap) (t' : Nat) (e dx C t2 : Addr) (v : V) (num : Value), Inv X pins σ H s → (∀ b o, s.heap.get? b = some o → h'.get? b = some o) → s.heap.get? e = none → s.heap.get? dx = none →
 h'.get? e = some { cls := .ref C, dict := some dx, data := .fields #[.ref t2, .none, .none, .none, .bool false, .none] } → h'.Ns1 dx (fun x => if x = "at" then some num else none) → RelV v num → E (.ref C) (some dx) (upd H dx (.xd [("at", v)])) → X.xe (.ref e) { s with heap := h', toks := t' }
section
variable {P : Program} {w : World} {K : PySem.W.Frag} {mg : Str → Option Value} {base : Heap} {N : List Str} {qual : Str} {scope : Scope} {f : Addr} {cd : Value} {A : Around} {outer : List Env} {s : Shared} {H : Hp} {E : XK}
theorem xd_ok {P : Program} {w : World} {H : Hp} {h : Heap} {dx : Addr} {v : V} {num : Value} (hn : h.Ns1 dx (fun x => if x = "at" then some num else none)) (r : RelV v num) : ObjOk P w H h dx (.xd [("at", v)]) := by
 refine ⟨_, hn, fun f => ?_⟩
 by_cases hf : f = "at"
 ·subst hf
  exact r
 ·rw [if_neg hf, List.lookup_cons, show (f == ("at" : Str)) = false from beq_eq_false_iff_ne.mpr hf]
  trivial
theorem madeN : MadeOkN (cxOf (CXE P w) P w K mg base N qual scope f cd A outer s H E) E := by
 intro pins σ H1 s1 h' t' e dx C t2 v num I kp hne hnd he hns rv hE
 have J : Inv (cxOf (CXE P w) P w K mg base N qual scope f cd A outer s H E) pins σ (upd H1 dx (.xd [("at", v)])) { s1 with heap := h', toks := t' } := I.newly kp hnd (xd_ok hns rv)
 have neL : ∀ b o, s.heap.get? b = some o → b ≠ s.heap.objs.size := fun b o q => Nat.ne_of_lt (Heap.lt_size q)
 have old : ∀ b o, s1.heap.get? b = some o → b ≠ e := fun b o q z => by
  rw [z, hne] at q
  cases q
 have hB : ∀ b o, h'.get? b = some o → b ∉ e :: frs (cxOf (CXE P w) P w K mg base N qual scope f cd A outer s H E).stack → (PySem.W.hideAll h' (e :: frs (cxOf (CXE P w) P w K mg base N qual scope f cd A outer s H E).stack)).get? b = some o := fun b o q hb => PySem.W.hideAll_get _ q hb
 have bs : (PySem.W.hideAll h' (e :: frs (cxOf (CXE P w) P w K mg base N qual scope f cd A outer s H E).stack)).StaysIn h' := fun b o q => PySem.W.of_hideAll _ q
 have hBe : (PySem.W.hideAll h' (e :: frs (cxOf (CXE P w) P w K mg base N qual scope f cd A outer s H E).stack)).get? e = none := PySem.W.hideAll_none _ List.mem_cons_self
 have W := kd_leaving.any (wpAny_leaving_firstW (M := model P w) (E := fun _ _ => False) (s := { s1 with heap := h', toks := t' }) (base := PySem.W.hideAll h' (e :: frs (cxOf (CXE P w) P w K mg base N qual scope f cd A outer s H E).stack))
  (Q := fun _ s2 => ∃ h2, s2 = { s1 with heap := h2, toks := t' } ∧ Heap.LeftW (PySem.W.hideAll h' (e :: frs (cxOf (CXE P w) P w K mg base N qual scope f cd A outer s H E).stack)) (cxOf (CXE P w) P w K mg base N qual scope f cd A outer s H E).stack e (.ref C) (.ref t2) h' h2)
  I.ok.frames (PySem.W.funFrames_hide J.stack fun env he' a ha => List.mem_cons_of_mem _ (List.mem_filterMap.mpr ⟨env, he', ha⟩)) rfl he bs hBe rfl rfl rfl fun h2 z => ⟨h2, rfl, z⟩)
 refine wpAny_mono W (fun _ s2 hq => ?_) fun _ _ z => z.1.elim
 obtain ⟨⟨h2, rfl, l1, l2, l3, l4⟩, dk⟩ := hq
 have c1 : ∀ b u, upd H1 dx (.xd [("at", v)]) b = some u → ∃ o, (PySem.W.hideAll h' (e :: frs (cxOf (CXE P w) P w K mg base N qual scope f cd A outer s H E).stack)).get? b = some o := fun b u q => by
  obtain ⟨o, ho⟩ := (J.hok b u q).there
  refine ⟨o, hB b o ho fun z => ?_⟩
  rcases List.mem_cons.mp z with z | z
  ·have q2 := q
   rw [z] at q2
   unfold upd at q2
   split at q2
   ·rename_i hz
    obtain ⟨oD, es, ep, hoD, hdD, _⟩ := hns
    rw [← hz, he] at hoD
    cases hoD
    cases hdD
   ·rw [I.hok.none_of hne] at q2
    cases q2
  ·rw [J.stkFree b z] at q
   cases q
 have c2 : ∀ b o, s1.heap.get? b = some o → b ∉ frs (cxOf (CXE P w) P w K mg base N qual scope f cd A outer s H E).stack → ∃ o', (PySem.W.hideAll h' (e :: frs (cxOf (CXE P w) P w K mg base N qual scope f cd A outer s H E).stack)).get? b = some o' := fun b o q hb =>
  ⟨o, hB b o (kp b o q) fun z => (List.mem_cons.mp z).elim (old b o q) hb⟩
 have fl : Heap.FlyingW (PySem.W.hideAll h' (e :: frs (cxOf (CXE P w) P w K mg base N qual scope f cd A outer s H E).stack)) outer e (.ref C) (.ref t2) h2 := ⟨l1, hBe, l2.2.2, l3⟩
 have c2' : ∀ b o, h'.get? b = some o → b ∉ e :: frs (cxOf (CXE P w) P w K mg base N qual scope f cd A outer s H E).stack → ∃ o', (PySem.W.hideAll h' (e :: frs (cxOf (CXE P w) P w K mg base N qual scope f cd A outer s H E).stack)).get? b = some o' := fun b o q hb => ⟨o, hB b o q hb⟩
 have un1 : Un (frs (cxOf (CXE P w) P w K mg base N qual scope f cd A outer s H E).stack) [] H1 (upd H1 dx (.xd [("at", v)])) s1.heap h' := ⟨fun b o q _ _ _ => kp b o q, fun b o q _ _ _ => ⟨o.slots, kp b o q⟩, fun b o q n _ => by
   rw [upd_ne fun z => by rw [z, hnd] at q; cases q]
   exact n, fun b o q _ => ⟨o, kp b o q⟩, fun b xs q => by
   rw [upd_ne fun z => by rw [z, I.hok.none_of hnd] at q; cases q]
   exact q, fun b o xs q => by
   rw [upd_ne fun z => by rw [z, I.hok.none_of hnd] at q; cases q]
   exact q, fun b ps q => ⟨#[], by
    rw [upd_ne fun z => by rw [z, I.hok.none_of hnd] at q; cases q]
    simpa using q⟩⟩
 refine ⟨e, C, .ref t2, _, _, some dx, rfl, I.os, I.bare, ?_, fly_hok J.hok bs l1 c1, fl, c1, fun b o q hb => ?_, ?_, hE⟩
 ·exact Un.under (L := s.heap.objs.size) I.base (fly_un un1 bs l1 l4 c2 I.hfs) neL
 ·obtain ⟨o1, q1⟩ := I.base.there b o q (fun z => nomatch z)
  exact c2 b o1 q1 fun z => (List.mem_cons.mp z).elim (neL b o q) hb
 ·obtain ⟨o', h3, h4⟩ := dk e _ he
  exact ⟨o', h3, fun dx' z => by cases z; exact h4⟩
end
theorem find_list {name : Str} : ∀ {l : List DictEntry} {e : DictEntry}, List.find? (fun y => y.key.isStr name) l = some e → findBy (fun n v => v.isStr n) l.toArray name = some e.val := by
 intro l e h
 unfold findBy
 simp only [List.find?_toArray, List.findIdx?_toArray]
 first
  | rw [h]; rfl
  | simp [h]
theorem ns_in {K : PySem.W.Frag} {h : Heap} {N : Addr} {m : Str → Option Value} {x : Str} {v : Value} (X : K.In h) (hN : h.Ns N m) (hx : PySem.W.nsIn K N x = some (some v)) : m x = some v := by
 unfold PySem.W.nsIn at hx
 split at hx
 ·rename_i c d es ep sl ho
  obtain ⟨o, es', ep', ho', hd, hr⟩ := hN
  have e := (X _ _ ho).symm.trans ho'
  cases e
  cases hd
  rw [← hr.2 x]
  unfold nsFind
  cases hf : List.find? (fun y => y.key.isStr x) es.toList with
  | none =>
   rw [hf] at hx
   dsimp only at hx
   split at hx <;> cases hx
  | some e =>
   rw [hf] at hx
   cases hx
   exact find_list hf
 ·cases hx
noncomputable def tRaiseN (C : Addr) (E : XK) (t : TA) : TS := fun _ σ H => t σ H fun vs H1 => ∃ v, vs = [v] ∧ ∀ dx, H1 dx = none → E (.ref C) (some dx) (upd H1 dx (.xd [("at", v)]))
section
variable {X : Cx} {E : XK} {C : Addr} {x : Str} {np cpos pos : Pos} {e : Expr} {es : List Expr} {t : TA} {k : Nat}
theorem ps_raiseN {K : PySem.W.Frag} (hK : X.K = K) (hM : MadeOkN X E) (T : ∃ fI, ExcN X.prog K C fI) (hkp : PySem.W.keepIn K (.ref C) = true) (hg : Gl X x) (hm : X.mg x = some (.ref C)) (hsup : X.mg "super" = none) (hr : Room k X.A) (ha : PA X (e :: es) t) (hc : X.calm = true := by rfl) (hdb : (x == ("__debug__" : Str)) = false := by decide)
  (he : starEach (e :: es) X.env = (false, eval e X.env) :: starEach es X.env := by rfl) (hpl : (backTo cpos (starEach es X.env)).any (·.1) = false := by rfl) :
  PS X (.Raise (some (.Call (.Name x np) (e :: es) [] cpos)) none pos) (tRaiseN C E t) := by
 subst hK
 intro pins s σ H D I h
 obtain ⟨fI, T⟩ := T
 obtain ⟨nm, qn, N, D1, bs, sn, sub, ab, col, dd, k0, k1, k2, k3, k5, lC, tl, nok, nin, hal⟩ := T.cls
 have hfI := T.fn
 obtain ⟨qual, p1, p2, x1, n1, q0, q1, q2, q3, q4, q5, q6, q7, q8, q9, cc, cda, od, an, osl, ccs, cds, kV, doc, pm, ct, ccl, cdl, ccd, cdd, vs0, file, tf, lf, _⟩ := hfI
 show wpAny _ _ (do
  standAt pos
  raiseStmt X.env (some (do
   let v ← eval (.Call (.Name x np) (e :: es) [] cpos) X.env
   standAt pos
   pure v)) none) _ _ _
 refine wpAny_bind (wpAny_standAt (raise_inst (C := C) (bm := .ref D1 :: veB) (nm := nm) (q := qn) (N := N) (bs := bs) (hdct := true) (sn := sn) (sub := sub) (ab := ab) (col := col) (dd := dd) (k0 := k0) (k1 := k1) (k2 := k2) (k3 := k3) (k5 := k5) (newId := "ValueError.__new__") (by simp only [List.contains_cons]; rfl) (I.ok.hd hc) ?_))
 refine wpAny_bind (wpAny_Call_Name_kw (ld_glob I hg hm ?_ hdb))
 refine PySem.W.callWith_K (h₀ := X.base) I.ok.mod.kin hkp (thn (ha cpos pins s σ H _ I h) fun us s1 ⟨vs, H1, I1, r, v, ev, q⟩ => ⟨I1.kIn, ?_⟩) he hpl
 subst ev
 obtain ⟨num, rfl, rv⟩ := r.one
 obtain ⟨h1, g, d, t0, os⟩ := s1
 have M1 : Mod X.K X.mg h1 := ⟨I1.kIn, I1.mod.glob.keeps I1.bk, by obtain ⟨mb, z1, z2⟩ := I1.mod.blt; exact ⟨mb, z1.keeps I1.bk, z2⟩, I1.mod.nolimit.keeps I1.bk⟩
 have OT : OwnTail h1 veB (.ref D1 :: veB) := PySem.W.tail_of_in I1.kIn tl
 have hN : h1.Ns N _ := .of_isNs (PySem.W.isNs_of_in I1.kIn nok)
 refine call_init (fI := fI) OT (I1.kIn _ _ lC) hN (ns_in I1.kIn hN nin) (I1.kIn _ _ lf) rfl (fun h' e' M => ?_) (by show 1 ≤ sizeLine; decide)
 refine wpAny_call ?_
 obtain ⟨t1, he', _⟩ := M.there
 have X2 : X.K.In h' := I1.kIn.keeps M.keeps
 have M2 : Mod X.K X.mg h' := ⟨X2, M1.glob.keeps M.keeps, by obtain ⟨mb, z1, z2⟩ := M1.blt; exact ⟨mb, z1.keeps M.keeps, z2⟩, M1.nolimit.keeps M.keeps⟩
 refine init_run (num := num) T X2 M2 (by rw [make_depth]; have := hr.dp; omega) hsup (fun a o la z => ?_) he' fun h2 t2 dx ta kp hdx he2 hns => ?_
 ·have := I1.kIn _ _ la
  rw [z, M.new] at this
  cases this
 refine ⟨rfl, ?_⟩
 refine wpAny_bind (wpAny_standAt (wpAny_pure ⟨e', _, _, rfl, ?_, he2, rfl, rfl, rfl, ?_⟩))
 ·refine kp _ _ (fun z => ?_) (X2 _ _ lC)
  have := I1.kIn _ _ lC
  rw [z, M.new] at this
  cases this
 ·have nd : h1.get? dx = none := by
   cases hz : h1.get? dx with
   | none => rfl
   | some o =>
    rw [M.keeps _ _ hz] at hdx
    cases hdx
  exact hM pins σ H1 ⟨h1, g, d, t0, os⟩ h2 t2 e' dx C ta v num I1 (fun b o q => kp b o (fun z => by rw [z, M.new] at q; cases q) (M.keeps _ _ q)) M.new nd he2 hns rv (q dx (I1.hok.none_of nd))
end
end L2
namespace L2
open PySem PySem.Spec PyProof.Rows
open PySem.W PySem.Builtin PySem.Builtin.ObjectAttr
theorem handed_rel {M : Model} {A : Around} {E : Value → Shared → Prop} {v : V} {u : Value} {Q : Value → Shared → Prop} {s : Shared} (r : RelV v u) (q : Q u s) : wpAny M A (handedOut u) Q E s := by
 cases v <;> first | (obtain ⟨t, rfl⟩ := r; exact wpAny_pure q) | (cases r; exact wpAny_pure q)
section
variable {prog : Program} {w : World} {A : Around} {E : Value → Shared → Prop} {h : Heap} {g : Array GenState} {d : Drawn} {t : Nat} {os : OsState} {a dx : Addr} {o : Obj} {vs : Array Value} {C : Addr} {K : PySem.W.Frag} {m : Str → Option Value} {u : Value} {v : V}
theorem at_entry {tk : Tok} {Q : PySem.Fin → Shared → Prop} (X : K.In h) (T : ExcB K C) (hat : findIn K (.ref C) "at" = some none) (hhd : hasDictIn K C = true) (I : IsExcD a C (some dx) h) (hn : h.Ns dx m) (hm : m "at" = some u) (hq : Q (.done (.ret u)) ⟨h, g, d, t, os⟩) :
  wpAny (model prog w) A (Builtin.«object.__getattribute__» ⟨[.ref a, .str "at" tk], []⟩) Q E ⟨h, g, d, t, os⟩ := by
 have L0 := IsExc.type (M := model prog w) I.e
 have L1 := looks_findIn (M := model prog w) X hat
 obtain ⟨o, vs, ho, hc, hv, hd⟩ := I
 unfold Builtin.«object.__getattribute__»
 refine wpAny_bind (wpAny_pure ?_)
 dsimp only
 refine wpAny_bind (wpAny_pure ?_)
 refine wpAny_bind (L0.at ?_)
 unfold find
 refine wpAny_bind (wpAny_bind (L1.at ?_))
 refine wpAny_bind (wpAny_pure ?_)
 refine wpAny_bind (wpAny_pure ?_)
 dsimp only
 unfold ownThenClass inOwnDict
 obtain ⟨cdD, hcD⟩ : ∃ cd, clsIn K C = some cd ∧ cd.hasDict = true := by
  unfold hasDictIn at hhd
  cases hz : clsIn K C with
  | none => rw [hz] at hhd; cases hhd
  | some cd => rw [hz] at hhd; exact ⟨cd, rfl, hhd⟩
 have L2 := looks_clsIn (M := model prog w) X hcD.1
 dsimp only
 refine wpAny_bind (wpAny_bind (wpAny_bind ?_))
 unfold loadHead
 refine wpAny_loadPart ho ?_
 rw [hv]
 show wpAny _ _ (instanceDict a false) _ _ _
 unfold instanceDict
 refine wpAny_bind (wpAny_loadPart ho ?_)
 rw [hc, hd dx rfl]
 dsimp only
 refine wpAny_bind (L2.at ?_)
 rw [hcD.2, if_neg (by decide)]
 refine wpAny_pure ?_
 show wpAny _ _ (nsGet dx "at") _ _ _
 refine wpAny_nsGet hn ?_
 rw [hm]
 dsimp only
 refine wpAny_bind (wpAny_rule (wpAny_pure ?_))
 dsimp only
 exact wpAny_pure hq
theorem exc_getat {b : Bool} {Q : Value → Shared → Prop} (X : K.In h) (T : ExcB K C) (hat : findIn K (.ref C) "at" = some none) (hhd : hasDictIn K C = true) (I : IsExcD a C (some dx) h) (hn : h.Ns dx m) (hm : m "at" = some u) (r : RelV v u) (hq : ∀ t', Q u ⟨h, g, d, t', os⟩) :
  wpAny (model prog w) A (getAttr (.ref a) "at" b) Q E ⟨h, g, d, t, os⟩ := by
 have L0 := IsExc.type (M := model prog w) I.e
 have L1 := PySem.W.looks_findIn (M := model prog w) X T.1
 have L2 := PySem.W.looks_findIn (M := model prog w) X T.2.1
 have hx2 : (Value.builtin "BaseException.__getattribute__" == Value.builtin "object.__getattribute__") = false := by decide +kernel
 unfold getAttr
 refine wpAny_bind (wpAny_mkText ?_)
 unfold getAttrBy
 refine wpAny_holding (wpAny_bind (L0.at (wpAny_bind (L1.at ?_))))
 dsimp only
 rw [hx2, Bool.and_false, if_neg Bool.false_ne_true]
 unfold getAttrByItsOwn hookBefore
 rw [show onTheHeap (Value.ref C) = true from rfl, if_pos rfl]
 refine wpAny_bind (L2.at (wpAny_bind (wpAny_attempt (wpAny_holding ?_))))
 unfold callGetattribute
 rw [show onTheHeap (Value.builtin "BaseException.__getattribute__") = false from rfl, Bool.and_false, if_neg Bool.false_ne_true]
 have f3 := F.excAttr_ValueError.ga.bind (.ref a)
 unfold boundAndCalled
 rw [f3]
 refine wpAny_bind (wpAny_pure ?_)
 dsimp only
 refine wpAny_call (codeAny_call_builtin F.excAttr_ValueError.ga.plain F.entry_bexc_ga (check_ga_exc X T I.e (at_entry X T hat hhd I hn hm ?_)))
 exact handed_rel r (hq _)
end
noncomputable def tAt (K : PySem.W.Frag) (ta : TE) : TE := fun σ H Q => ta σ H fun x H1 => ∃ a C dx fs v, x = .ref a ∧ H1 a = some (excD a C (some dx)) ∧ ExcB K C ∧ findIn K (.ref C) "at" = some none ∧ hasDictIn K C = true ∧ H1 dx = some (.xd fs) ∧ fs.lookup ("at" : Str) = some v ∧ Q v H1
section
variable {X : Cx} {e : Expr} {pos : Pos} {ta : TE}
theorem pe_at {K : PySem.W.Frag} (hK : X.K = K) (he : PE X e ta) (hb : attributeBase e "at" X.env (eval e X.env) = eval e X.env) : PE X (.Attribute e "at" pos) (tAt K ta) := by
 subst hK
 intro pins s σ H Q I h
 refine attr_of hb (thn (he pins s σ H _ I h) fun u s1 ⟨x, H1, I1, rx, a, C, dx, fs, v, ex, ea, T, hat, hhd, ed, l, q⟩ => ?_)
 subst ex
 obtain rfl : u = Value.ref a := rx
 obtain ⟨hx, _, _⟩ := I1.hok a _ ea
 obtain ⟨mA, hn, hf⟩ := I1.hok dx _ ed
 have hr := hf "at"
 rw [l] at hr
 obtain ⟨h1, g, d, t, os⟩ := s1
 cases hm : mA "at" with
 | none =>
  rw [hm] at hr
  exact hr.elim
 | some u =>
  rw [hm] at hr
  exact exc_getat I1.kIn T hat hhd hx hn.ns hm hr fun t' => ⟨v, H1, I1.tok t', hr, q⟩
end
end L2
namespace L2
open PySem PySem.Spec PyProof.Rows
inductive PHs (X : Cx) : List ExceptHandler → List (Addr × Nat × TS) → Prop
 | nil {hs : List ExceptHandler} : PHs X hs []
 | cons {x n : Str} {np hpos : Pos} {b₀ : Stmt} {suite : List Stmt} {hs : List ExceptHandler} {cD : Addr} {i : Nat} {th : TS} {ths : List (Addr × Nat × TS)} (hi : X.N[i]? = some n) (hl : X.env.scope.names.lookup n = some .local) (hg : Gl X x) (hm : X.mg x = some (.ref cD)) (hdb : (x == ("__debug__" : Str)) = false)
   (hh : ∀ ev, PSs (X.suite ev) (b₀ :: suite) th) : PHs X hs ths → PHs X (.ExceptHandler (some (.Name x np)) (some n) (b₀ :: suite) hpos :: hs) ((cD, i, th) :: ths)
noncomputable def HMatch (K : PySem.W.Frag) (C : Addr) : List (Addr × Nat × TS) → (Nat → TS → Prop) → Prop
 | [], _ => False
 | (cD, i, th) :: r, F => (PySem.W.exmOne K (.ref C) (.ref cD) = some true ∧ F i th) ∨ (PySem.W.exmOne K (.ref C) (.ref cD) = some false ∧ HMatch K C r F)
noncomputable def tryEN (K : PySem.W.Frag) (ths : List (Addr × Nat × TS)) (D : Ends) (σ : St) : XK := fun cls od H' => ∃ C, cls = .ref C ∧ ExcB K C ∧ HMatch K C ths fun i th => ∀ e, H' e = none → th (goneEnds D i) (σ.set i (some (.ref e))) (upd H' e (excD e C od))
noncomputable def tTryN (K : PySem.W.Frag) (ths : List (Addr × Nat × TS)) (tb : XK → St → TS) : TS := fun D σ H => tb (tryEN K ths D σ) σ D σ H
section
variable {X : Cx} {body : List Stmt} {h0 : ExceptHandler} {hs : List ExceptHandler} {ths : List (Addr × Nat × TS)} {pos : Pos} {tb : XK → St → TS} {K : PySem.W.Frag}
theorem ps_tryN (hK : X.K = K) (hb : ∀ (pn : List (Addr × Obj)) (W : Value → Shared → Prop) (E : XK) (σ0 : St), PassesS (CXE X.prog X.w) (X.tryIn pn W) σ0 E → PSs (X.tryIn pn W) body (tb E σ0))
  (hhs : PHs X (h0 :: hs) ths) (hN : X.N.Nodup) (hst : X.stack = X.env :: X.outer := by rfl) (hf : X.env.frame = some X.env.locals := by rfl) :
  PS X (.Try body (h0 :: hs) [] [] pos) (tTryN K ths tb) := by
 subst hK
 intro pins s σ H D I h
 refine wpAny_Try_except ?_
 have hp : PassesS (CXE X.prog X.w) (X.tryIn (X.pn ++ pins) fun ev s₁ => wpAny (model X.prog X.w) X.A (noteFrame ev X.env) (fun _ s₂ => wpAny (model X.prog X.w) X.A (setFlight ev none) (fun _ s₃ => wpAny (model X.prog X.w) X.A (handleBy ev X.env (h0 :: hs)) (SP X pins D) X.xe s₃) X.xe s₂) X.xe s₁) σ (tryEN X.K ths D σ) := by
  intro pins' H1 s1 ev s' I1 hc
  obtain ⟨e, C, a0, B, H', od, rfl, os, bare, un, hok, fl, c1, c2, hd, C', hcc, T, hM⟩ := hc
  cases hcc
  have hfr : X.A.frames = some (X.env :: X.outer) := I.ok.frames.trans (by rw [hst])
  have fl1 : Heap.FlyingW B (X.env :: X.outer) e (.ref C) a0 s'.heap := by
   have z : Heap.FlyingW B X.stack e (.ref C) a0 s'.heap := fl
   rw [hst] at z
   exact z
  refine wpAny_mono (kd_note.any (wpAny_looks_onW (Q := fun _ s2 => ∃ h4, s2 = { s' with heap := h4 } ∧ Heap.HeldW B (X.env :: X.outer) e (.ref C) a0 X.env.locals h4 ∧ s'.heap.UpToSlots h4) (E := fun _ _ => False) hfr hf fl1 fun h4 held up4 => ⟨h4, rfl, held, up4⟩)) (fun _ s2 hq => ?_) fun _ _ z => z.1.elim
  obtain ⟨⟨h4, rfl, held, up4⟩, dk4⟩ := hq
  refine wpAny_mono (kd_flight.any (wpAny_landsW (Q := fun _ s2 => ∃ h5, s2 = { s' with heap := h5 } ∧ Heap.FlyingW B (X.env :: X.outer) e (.ref C) a0 h5 ∧ h4.UpToSlots h5) (E := fun _ _ => False) held fun h5 fl5 up5 => ⟨h5, rfl, fl5, up5⟩)) (fun _ s2 hq => ?_) fun _ _ z => z.1.elim
  obtain ⟨⟨h5, rfl, fl5, up5⟩, dk5⟩ := hq
  have mk : ∀ h6, B.StaysIn h6 → s'.heap.UpToSlots h6 → Inv X pins σ H' { s' with heap := h6 } := fun h6 st up => by
   have J := I1.call' (s' := { s' with heap := h6 }) (ch := []) os (fly_un un fl.1 st up c2 I1.hfs) (fly_hok hok fl.1 st c1) bare (fun b z => nomatch z)
   exact J.tryOut
  have ne1 : ∀ h6, Heap.FlyingW B (X.env :: X.outer) e (.ref C) a0 h6 → s'.heap.UpToSlots h6 → ∀ b o, s1.heap.get? b = some o → b ≠ e := fun h6 fl6 up b o q z => by
   by_cases hb : b ∈ frs X.stack
   ·obtain ⟨hn, o2, ho2, nf⟩ := I1.hfs b hb
    rw [q] at ho2
    cases ho2
    obtain ⟨sl, e1⟩ := un.slot b o q hn hb (fun z => nomatch z)
    obtain ⟨sl', e2⟩ := up b _ e1 nf
    obtain ⟨oe, vs, he, _, hd, _⟩ := fl6.first
    rw [z, he] at e2
    cases e2
    exact nf vs hd
   ·obtain ⟨o', hB⟩ := c2 b o q hb
    rw [z, fl6.2.1] at hB
    cases hB
  have hne : H' e = none := by
   cases q : H' e with
   | none => rfl
   | some u =>
    obtain ⟨o, hB⟩ := c1 e u q
    rw [fl.2.1] at hB
    cases hB
  have J5 := mk h5 fl5.1 (up4.trans up5)
  revert hM
  clear h
  generalize h0 :: hs = l at hhs ⊢
  induction hhs with
  | nil => intro hM; exact hM.elim
  | @cons x n np hpos b₀ suite hs cD i th ths hi hl hg hm hdb hh _ ih =>
  intro hM
  refine wpAny_handleBy_cons (codeAny_handlers_test ?_) (by intro q; cases q)
  refine ld_glob (X := X.suite (.ref e)) J5.suite hg hm ?_ hdb
  have LT : PySem.W.Looks (model X.prog X.w) h5 (typeOf (.ref e)) (.ref C) := by
   obtain ⟨oe, ho, hc⟩ := fl5.there
   exact hc ▸ (PySem.W.Looks.ld ho).andThen .now
  rcases hM with ⟨hx, hth⟩ | ⟨hx, hM⟩
  rotate_left
  ·refine (PySem.W.exm_one J5.kIn LT hx).here ?_
   exact ih hM
  refine (PySem.W.exm_one J5.kIn LT hx).here ?_
  show codeAny _ _ _ _ _
  refine codeAny_handlers_suite_as ?_
  refine wpAny_mono (kd_flight.any (lands_againW (Q := fun _ s2 => ∃ h6, s2 = { s' with heap := h6 } ∧ Heap.FlyingW B (X.env :: X.outer) e (.ref C) a0 h6 ∧ h5.UpToSlots h6) (E := fun _ _ => False) fl5 fun h6 fl6 up6 => ⟨h6, rfl, fl6, up6⟩)) (fun _ s2 hq => ?_) fun _ _ z => z.1.elim
  obtain ⟨⟨h6, rfl, fl6, up6⟩, dk6⟩ := hq
  have up := (up4.trans up5).trans up6
  have J6 := mk h6 fl6.1 up
  have ne := ne1 h6 fl6 up
  have IE : IsExc e C h6 := by
   obtain ⟨oe, vs, he, hc, hd, _⟩ := fl6.first
   exact ⟨oe, vs, he, hc, hd⟩
  have nf : ∀ b o, h6.get? b = some o → (∀ vs, o.data ≠ .fields vs) → b ≠ e := fun b o q d z => by
   obtain ⟨oe, vs, he, hc, hd⟩ := IE
   rw [z, he] at q
   cases q
   exact d vs hd
  have ID : IsExcD e C od h6 := by
   obtain ⟨o0, z1, z2⟩ := hd
   obtain ⟨o4, z3, z4⟩ := dk4 e o0 z1
   obtain ⟨o5, z5, z6⟩ := dk5 e o4 z3
   obtain ⟨o6, z7, z8⟩ := dk6 e o5 z5
   obtain ⟨o, vs, he, hc, hv⟩ := IE
   have e6 := he.symm.trans z7
   cases e6
   exact ⟨_, vs, he, hc, hv, fun dx z => z8.trans (z6.trans (z4.trans (z2 dx z)))⟩
  have J7 : Inv X pins σ (upd H' e (excD e C od)) { s' with heap := h6 } := by
   refine J6.track hne (fun b u q hx => ?_) ?_ (fun y c q => ?_) (fun p hp => ?_) (excD_ok ID)
   ·obtain ⟨o1, q1⟩ := I1.base.there b u q hx
    exact ne b o1 q1
   ·obtain ⟨m, ⟨oL, es, ep, hoL, hdL, _⟩, _⟩ := J6.loc
    exact nf _ _ hoL fun vs q => by rw [hdL] at q; cases q
   ·obtain ⟨v, oc, hoc, hdc⟩ := J6.cell y c q
    exact nf _ _ hoc fun vs q => by rw [hdc] at q; cases q
   ·obtain ⟨q1, _⟩ := I1.pin p (List.mem_append_left _ hp)
    exact ne _ _ q1
  refine store_ok (X := X.suite (.ref e)) (v := .ref e) J7.suite hN hi (.inl hl) rfl (fun s7 J8 => ?_) (.inr hl)
  refine wpAny_mono (hh (.ref e) pins s7 _ _ (goneEnds D i) J8 (hth e hne)) (fun fl s8 q => ?_) fun _ _ z => False.elim z
  match fl, q with
  | .next, ⟨σ', H'', J9, q⟩ => exact gone_ok (J9.unsuite I.ok) hN hi hl fun s9 Jz => ⟨_, _, Jz, q⟩
  | .brk, ⟨σ', H'', J9, q⟩ => exact gone_ok (J9.unsuite I.ok) hN hi hl fun s9 Jz => ⟨_, _, Jz, q⟩
  | .cont, ⟨σ', H'', J9, q⟩ => exact gone_ok (J9.unsuite I.ok) hN hi hl fun s9 Jz => ⟨_, _, Jz, q⟩
  | .ret u, ⟨v, σ', H'', J9, r, q⟩ => exact gone_ok (J9.unsuite I.ok) hN hi hl fun s9 Jz => ⟨v, _, _, Jz, r, q⟩
 refine wpAny_mono (hb _ _ _ _ hp [] s σ H D I.tryIn h) (fun fl s1 q => ?_) fun _ _ z => z
 have q := SP.tryOut q
 match fl, q with
 | .next, ⟨σ', H', J, q⟩ => exact pss_nil pins s1 σ' H' D J q
 | .brk, q => exact q
 | .cont, q => exact q
 | .ret u, q => exact q
end
end L2
set_option Elab.async false
set_option linter.all false
set_option maxRecDepth 100000
namespace L2
open PySem PySem.Spec PyProof.Rows
section
variable {X : Cx} {pos : Pos}
noncomputable def tPar3 (i j k : Nat) (ta : TA) : TS := fun D σ H => ta σ H fun vs H1 => ∃ v w u, vs = [v, w, u] ∧ D.nx (((σ.set i (some v)).set j (some w)).set k (some u)) H1
theorem ps_par3 {i j k : Nat} {x y z : Str} {a b c : Expr} {ta : TA} {px py pz pt : Pos} {kt k2 pt2} (hc : X.calm = true) (hN : X.N.Nodup) (hi : X.N[i]? = some x) (hj : X.N[j]? = some y) (hk : X.N[k]? = some z) (hij : i ≠ j) (hik : i ≠ k) (hjk : j ≠ k)
  (hx : X.env.scope.names.lookup x = some .local) (hy : X.env.scope.names.lookup y = some .local) (hz : X.env.scope.names.lookup z = some .local) (ha : PA X [a, b, c] ta)
  (hw : swappedStores [.Tuple [.Name x px, .Name y py, .Name z pz] kt pt] (.Tuple [a, b, c] k2 pt2) X.env = pure (some [x, y, z]))
  (hs : swapsWithSole [.Tuple [.Name x px, .Name y py, .Name z pz] kt pt] (.Tuple [a, b, c] k2 pt2) pos.line X.env = pure false := by rfl) :
  PS X (.Assign [.Tuple [.Name x px, .Name y py, .Name z pz] kt pt] (.Tuple [a, b, c] k2 pt2) pos) (tPar3 i j k ta) := by
 intro pins s σ H D I h
 rw [exec_Assign_arm]
 refine wpAny_bind (wpAny_standAt ?_)
 rw [hs]
 refine wpAny_bind (wpAny_pure ?_)
 rw [if_neg (by decide)]
 refine wpAny_bind (Tuple_ (thn (ha _ pins s σ H _ I h) fun us s1 ⟨vs, H1, I1, r1, q1⟩ => ?_))
 obtain ⟨v, w, u, e1, q1⟩ := q1
 subst e1
 obtain ⟨u1, u2, u3, rfl, rv, rw', ru⟩ : ∃ u1 u2 u3, us = [u1, u2, u3] ∧ RelV v u1 ∧ RelV w u2 ∧ RelV u u3 := by
  cases r1 with
  | cons p q =>
   cases q with
   | cons p' q' =>
    cases q' with
    | cons p'' q'' =>
     cases q''
     exact ⟨_, _, _, rfl, p, p', p''⟩
 refine wpAny_newObj_type ?_ (by show 3 ≤ sizeLine; decide)
 have I2 : Inv X pins σ H1 { s1 with heap := s1.heap.push { cls := .type "tuple", data := .seq [u1, u2, u3].toArray } } := I1.kept (t' := s1.toks) fun b o e => Heap.get?_push_of_some _ e
 rw [hw]
 refine wpAny_bind (wpAny_pure ?_)
 show wpAny (model X.prog X.w) X.A (do rule "assign.swapped-stores"; let items ← unpackItems (.ref s1.heap.objs.size) 3 none; assignInOrder [fun v => bindName X.env z v, fun v => bindName X.env y v, fun v => bindName X.env x v] items.reverse; pure Flow.next) _ _ _
 refine wpAny_bind (wpAny_rule (wpAny_bind (unpackItems_tuple (items := #[u1, u2, u3]) (I.ok.hd hc) (IsTup.new s1.heap _) fun h' hx' => ?_)))
 have I3 := I2.kept (h' := h') (t' := s1.toks) fun b o e => hx' b o (Nat.ne_of_lt (Heap.lt_size e)) e
 show wpAny _ _ (assignInOrder [fun v => bindName X.env z v, fun v => bindName X.env y v, fun v => bindName X.env x v] [u3, u2, u1] >>= fun _ => pure Flow.next) _ _ _
 refine wpAny_bind (assignInOrder_cons (wpAny_bindName (store_ok I3 hN hk (.inl hz) ru (fun s2 I4 => ?_) (.inr hz))))
 refine assignInOrder_cons (wpAny_bindName (store_ok I4 hN hj (.inl hy) rw' (fun s3 I5 => ?_) (.inr hy)))
 refine assignInOrder_cons (wpAny_bindName (store_ok I5 hN hi (.inl hx) rv (fun s4 I6 => assignInOrder_nil (wpAny_pure ?_)) (.inr hx)))
 rw [List.set_comm _ _ (Ne.symm hjk), List.set_comm _ _ (Ne.symm hik), List.set_comm _ _ (Ne.symm hij)] at I6
 exact ⟨_, H1, I6, q1⟩
end
end L2
set_option Elab.async false
set_option linter.all false
set_option maxRecDepth 100000
namespace L2
open PySem PySem.Spec PyProof.Rows
noncomputable def dkOf (o : Option HO) : Option (List (Key × V)) := match o with
 | some (.dK kvs) => some kvs
 | _ => none
theorem dkOf_k (kvs : List (Key × V)) : dkOf (some (.dK kvs)) = some kvs := rfl
theorem dkOf_eq {o : Option HO} {kvs : List (Key × V)} (h : dkOf o = some kvs) : o = some (.dK kvs) := by
 unfold dkOf at h
 split at h
 ·cases h; rfl
 ·cases h
noncomputable def tDg (k : Str) (td : TE) : TE := fun σ H Q => td σ H fun x H1 => match x with
 | .ref a => optK (dkOf (H1 a)) fun kvs => optK (valV kvs (Sum.inr k)) fun v => Q v H1
 | _ => False
noncomputable def tDp (k : Str) (td tv : TE) : TS := fun D σ H => tv σ H fun v H1 => td σ H1 fun x H2 => match x with
 | .ref a => optK (dkOf (H2 a)) fun kvs => kvs.length < 1000000 ∧ D.nx σ (upd H2 a (.dK (putK kvs (Sum.inr k) v)))
 | _ => False
section
variable {X : Cx} {o i value : Expr} {pos pos' : Pos} {td tv : TE} {k : Str}
theorem pe_dgS (hu : X.A.units + 1 < cLine) (ho : PE X o td) (hi : PE X i (tC (.str k))) (hs : NoSl i) : PE X (.Subscript o i pos) (tDg k td) := by
 intro pins s σ H Q I h
 refine subD_of PySem.F.slot_dict_getitem.lookup hs (thn (ho pins s σ H _ I h) fun u s1 ⟨x, H1, I1, rx, q1⟩ => ?_)
 cases x with
 | ref a =>
  obtain ⟨kvs, e, q1⟩ := optK_elim q1
  obtain ⟨v, e2, q1⟩ := optK_elim q1
  have e := dkOf_eq e
  refine thn (hi pins s1 σ H1 (fun y H2 => y = V.str k ∧ H2 = H1) I1 ⟨rfl, rfl⟩) fun iv s2 ⟨y, H2, I2, ry, ey, eH⟩ => ?_
  subst ey
  subst eH
  obtain rfl : u = Value.ref a := rx
  have g : DGet H2 a (V.str k) (some v) := by
   have := DGet.k (k := Sum.inr k) e
   rw [e2] at this
   exact this
  exact ⟨dict_typeIs I2 g, d_getItem hu I2 g ry fun w' s3 I3 rw' => ⟨v, H2, I3, rw', q1⟩⟩
 | _ => exact q1.elim
theorem ps_dpS (hu : X.A.units + 1 < cLine) (ho : PE X o td) (hi : PE X i (tC (.str k))) (hv : PE X value tv) (hs : swapsWith value (some (.Subscript o i pos')) pos.line X.env = pure false) :
  PS X (.Assign [.Subscript o i pos'] value pos) (tDp k td tv) := by
 intro pins s σ H D I h
 refine wpAny_Assign_Subscript (thn (hv pins s σ H _ I h) fun r s1 ⟨v, H1, I1, rv, q1⟩ => thn (ho pins s1 σ H1 _ I1 q1) fun u s2 ⟨x, H2, I2, rx, q2⟩ => ?_) hs
 cases x with
 | ref a =>
  obtain ⟨kvs, e, hl, q2⟩ := optK_elim q2
  have e := dkOf_eq e
  refine thn (hi pins s2 σ H2 (fun y H3 => y = V.str k ∧ H3 = H2) I2 ⟨rfl, rfl⟩) fun iv s3 ⟨y, H3, I3, ry, ey, eH⟩ => ?_
  subst ey
  subst eH
  obtain rfl : u = Value.ref a := rx
  exact d_setItem hu I3 (DPut.k (k := Sum.inr k) e (small6 hl)) ry rv fun s4 I4 => ⟨σ, _, I4, q2⟩
 | _ => exact q2.elim
end
end L2
set_option Elab.async false
set_option linter.all false
set_option maxRecDepth 100000
namespace L2
open PySem PySem.Spec PyProof.Rows
section
variable {X : Cx} {pos pos' : Pos}
theorem best_lt (val : Nat → Int) : ∀ k, argBest (fun i j => decide (val i < val j)) k ≤ k ∧ ∀ j, j ≤ k → val (argBest (fun i j => decide (val i < val j)) k) ≤ val j := by
 intro k
 induction k with
 | zero =>
  rw [argBest.eq_1]
  exact ⟨Nat.le_refl _, fun j hj => by obtain rfl : j = 0 := (by omega); exact Int.le_refl _⟩
 | succ k ih =>
  rw [show k + 1 = k.succ from rfl, argBest.eq_2]
  by_cases h : val (k + 1) < val (argBest (fun i j => decide (val i < val j)) k)
  ·rw [if_pos (decide_eq_true h)]
   refine ⟨Nat.le_refl _, fun j hj => ?_⟩
   by_cases e : j = k + 1
   ·subst e; exact Int.le_refl _
   ·have := ih.2 j (by omega)
    omega
  ·rw [if_neg (by rw [decide_eq_true_eq]; exact h)]
   refine ⟨by have := ih.1; omega, fun j hj => ?_⟩
   by_cases e : j = k + 1
   ·subst e; omega
   ·exact ih.2 j (by omega)
theorem best_gt (val : Nat → Int) : ∀ k, argBest (fun i j => decide (val i > val j)) k ≤ k ∧ ∀ j, j ≤ k → val j ≤ val (argBest (fun i j => decide (val i > val j)) k) := by
 intro k
 induction k with
 | zero =>
  rw [argBest.eq_1]
  exact ⟨Nat.le_refl _, fun j hj => by obtain rfl : j = 0 := (by omega); exact Int.le_refl _⟩
 | succ k ih =>
  rw [show k + 1 = k.succ from rfl, argBest.eq_2]
  by_cases h : val (k + 1) > val (argBest (fun i j => decide (val i > val j)) k)
  ·rw [if_pos (decide_eq_true h)]
   refine ⟨Nat.le_refl _, fun j hj => ?_⟩
   by_cases e : j = k + 1
   ·subst e; exact Int.le_refl _
   ·have := ih.2 j (by omega)
    omega
  ·rw [if_neg (by rw [decide_eq_true_eq]; exact h)]
   refine ⟨by have := ih.1; omega, fun j hj => ?_⟩
   by_cases e : j = k + 1
   ·subst e; omega
   ·exact ih.2 j (by omega)
noncomputable def rBestL (K : PySem.W.Frag) (ok : Int → Int → Prop) : List V → Hp → VK → Prop := fun vs H Q => ∃ (l : Addr) (ns : List Int), vs = [.ref l] ∧ SqL K H l (ns.map V.int) ∧ 0 < ns.length ∧ ∀ M, M ∈ ns → (∀ a ∈ ns, ok M a) → Q (.int M) H
theorem val_at {ns : List Int} : ∀ {its : List Value}, Vals (ns.map V.int) its → its.length = ns.length ∧ ∀ (i : Nat) (v : Value), its[i]? = some v → ∃ t, v = Value.int (ns.getD i 0) t := by
 induction ns with
 | nil => intro its r; cases r; exact ⟨rfl, fun i v h => by simp at h⟩
 | cons n ns ih =>
  intro its r
  cases r with
  | cons p q =>
   obtain ⟨h1, h2⟩ := ih q
   refine ⟨by simp [h1], fun i v h => ?_⟩
   cases i with
   | zero => cases h; exact p
   | succ i => exact h2 i v h
theorem mem_of_getD {ns : List Int} {i : Nat} (h : i < ns.length) : ns.getD i 0 ∈ ns := by
 rw [List.getD_eq_getElem?_getD, List.getElem?_eq_getElem h]
 exact List.getElem_mem h
theorem call_minL {K : PySem.W.Frag} (hK : X.K = K) (hcalm : X.calm = true) : CallR X (.builtin "min") (rBestL K fun M a => M ≤ a) := by
 subst hK
 intro pins s σ H xs us Q I r h
 obtain ⟨l, ns, rfl, hl, h0, q⟩ := h
 obtain ⟨u, rfl, rx⟩ := vals1 r
 cases rx
 obtain ⟨its, r', pl, hz⟩ := I.list hl
 obtain ⟨hlen, hat⟩ := val_at r'
 have hIs := pl.isList
 refine call_min_walk (wpAny_pyIter_list hIs ?_)
 obtain ⟨o, ho, hcl, hdt⟩ := hIs
 have W := Walks.list (prog := X.prog) (w := X.w) (A := X.A.in1) (show X.A.in1.handled = none from I.ok.hd hcalm) s.heap.objs.size l (Nat.ne_of_lt (Heap.lt_size ho)) its.toArray
 have S0 : (s.heap.push { cls := .type "list_iterator", data := .fields #[.ref l, .int 0 0] }).IsListIter s.heap.objs.size l 0 ∧ (s.heap.push { cls := .type "list_iterator", data := .fields #[.ref l, .int 0 0] }).IsList l its.toArray := ⟨⟨_, Heap.get?_push_size _ rfl, rfl, rfl⟩, ⟨o, Heap.get?_push_of_some _ ho, hcl, hdt⟩⟩
 refine ⟨s.heap.objs.size, [s.heap.objs.size, l], [s.heap.objs.size], its.toArray.size, (fun i v => its.toArray[i]? = some v), _, fun i j => decide (ns.getD i 0 < ns.getD j 0), rfl, W, S0, ?_, ?_, CmpOf.ints_lt (fun i => ns.getD i 0) (fun i v hv => hat i v (by simpa using hv)), ?_⟩
 ·intro b hb
  simp only [List.mem_cons, List.not_mem_nil, or_false] at hb
  rw [Heap.size_push]
  rcases hb with rfl | rfl
  ·exact Nat.lt_succ_self _
  ·exact Nat.lt_succ_of_lt (Heap.lt_size ho)
 ·simp only [List.size_toArray]; omega
 ·intro v h' tk hv kp
  obtain ⟨hb1, hb2⟩ := best_lt (fun i => ns.getD i 0) (its.toArray.size - 1)
  simp only [List.size_toArray] at hb1 hb2 hv
  rw [List.getElem?_toArray] at hv
  obtain ⟨t, rfl⟩ := hat _ v hv
  refine ⟨.int _, H, I.kept (t' := tk) (fun b ob hq => kp b ob ?_ (Heap.get?_push_of_some _ hq)), ⟨t, rfl⟩, q _ (mem_of_getD (by omega)) fun a ha => ?_⟩
  ·simp only [List.mem_cons, List.not_mem_nil, or_false]
   exact Nat.ne_of_lt (Heap.lt_size hq)
  ·obtain ⟨j, hj⟩ := List.getElem?_of_mem ha
   have lj := (List.getElem?_eq_some_iff.mp hj).1
   have := hb2 j (by omega)
   rw [show ns.getD j 0 = a by rw [List.getD_eq_getElem?_getD, hj]; rfl] at this
   exact this
theorem call_maxL {K : PySem.W.Frag} (hK : X.K = K) (hcalm : X.calm = true) : CallR X (.builtin "max") (rBestL K fun M a => a ≤ M) := by
 subst hK
 intro pins s σ H xs us Q I r h
 obtain ⟨l, ns, rfl, hl, h0, q⟩ := h
 obtain ⟨u, rfl, rx⟩ := vals1 r
 cases rx
 obtain ⟨its, r', pl, hz⟩ := I.list hl
 obtain ⟨hlen, hat⟩ := val_at r'
 have hIs := pl.isList
 refine call_max_walk (wpAny_pyIter_list hIs ?_)
 obtain ⟨o, ho, hcl, hdt⟩ := hIs
 have W := Walks.list (prog := X.prog) (w := X.w) (A := X.A.in1) (show X.A.in1.handled = none from I.ok.hd hcalm) s.heap.objs.size l (Nat.ne_of_lt (Heap.lt_size ho)) its.toArray
 have S0 : (s.heap.push { cls := .type "list_iterator", data := .fields #[.ref l, .int 0 0] }).IsListIter s.heap.objs.size l 0 ∧ (s.heap.push { cls := .type "list_iterator", data := .fields #[.ref l, .int 0 0] }).IsList l its.toArray := ⟨⟨_, Heap.get?_push_size _ rfl, rfl, rfl⟩, ⟨o, Heap.get?_push_of_some _ ho, hcl, hdt⟩⟩
 refine ⟨s.heap.objs.size, [s.heap.objs.size, l], [s.heap.objs.size], its.toArray.size, (fun i v => its.toArray[i]? = some v), _, fun i j => decide (ns.getD i 0 > ns.getD j 0), rfl, W, S0, ?_, ?_, CmpOf.ints_gt (fun i => ns.getD i 0) (fun i v hv => hat i v (by simpa using hv)), ?_⟩
 ·intro b hb
  simp only [List.mem_cons, List.not_mem_nil, or_false] at hb
  rw [Heap.size_push]
  rcases hb with rfl | rfl
  ·exact Nat.lt_succ_self _
  ·exact Nat.lt_succ_of_lt (Heap.lt_size ho)
 ·simp only [List.size_toArray]; omega
 ·intro v h' tk hv kp
  obtain ⟨hb1, hb2⟩ := best_gt (fun i => ns.getD i 0) (its.toArray.size - 1)
  simp only [List.size_toArray] at hb1 hb2 hv
  rw [List.getElem?_toArray] at hv
  obtain ⟨t, rfl⟩ := hat _ v hv
  refine ⟨.int _, H, I.kept (t' := tk) (fun b ob hq => kp b ob ?_ (Heap.get?_push_of_some _ hq)), ⟨t, rfl⟩, q _ (mem_of_getD (by omega)) fun a ha => ?_⟩
  ·simp only [List.mem_cons, List.not_mem_nil, or_false]
   exact Nat.ne_of_lt (Heap.lt_size hq)
  ·obtain ⟨j, hj⟩ := List.getElem?_of_mem ha
   have lj := (List.getElem?_eq_some_iff.mp hj).1
   have := hb2 j (by omega)
   rw [show ns.getD j 0 = a by rw [List.getD_eq_getElem?_getD, hj]; rfl] at this
   exact this
end
end L2
set_option Elab.async false
set_option linter.all false
set_option maxRecDepth 100000
namespace L2
open PySem PySem.Spec PyProof.Rows
noncomputable def Ite (K : PySem.W.Frag) (a : Addr) : It :=
 ⟨fun i H => ∃ xs, SqL K H a xs ∧ i < xs.length,
  fun i H v H' => ∃ t, v = .ref t ∧ H t = none ∧ ∀ xs x, SqL K H a xs → xs[i]? = some x → H' = upd H t (.tup [.int (i : Int), x]),
  fun i H => ∃ xs, SqL K H a xs ∧ i = xs.length⟩
noncomputable def iEnum (K : PySem.W.Frag) (ta : TA) : TI := fun σ H R => ta σ H fun vs H1 => ∃ a, vs = [.ref a] ∧ (∃ xs, SqL K H1 a xs) ∧ R (Ite K a) H1
section
variable {X : Cx}
theorem turn_enum {P : Program} {w : World} {K : PySem.W.Frag} {elts : List Expr} {kk : Nat} {pos : Pos} (n l : Addr) (h1 : l < n) : Turn P w K (.Tuple elts kk pos) (Ite K l) [n + 1, n] (n + 1)
  (fun i h => (∃ old, IsEnum h (n + 1) n (↑i) old) ∧ h.IsListIter n l i) where
 mem := by simp
 obj := fun i h st b hb => by
  obtain ⟨⟨old, z1⟩, ⟨o1, e1, c1, d1⟩⟩ := st
  simp only [List.mem_cons, List.not_mem_nil, or_false] at hb
  rcases hb with rfl | rfl
  ·exact ⟨_, z1, fun v q => by cases q⟩
  ·exact ⟨_, e1, fun v q => by rw [d1] at q; cases q⟩
 keep := fun i h h' st k => by
  obtain ⟨⟨old, z1⟩, z4⟩ := st
  exact ⟨⟨old, k _ (by simp) _ z1⟩, z4.at fun o e => k _ (by simp) o e⟩
 item := by
  intro X hP hw hK hc i pins s σ H E I hf st hg
  subst hP hw hK
  obtain ⟨xs, q1, hi⟩ := hg
  obtain ⟨us, r1, p1, _⟩ := I.list q1
  obtain ⟨z1, z4⟩ := st
  have W := WalksT.enumerate (prog := X.prog) (w := X.w) (I.ok.hd hc) (n + 1) n l (Nat.succ_ne_self n) (Nat.ne_of_lt (Nat.lt_succ_of_lt h1)) (Nat.ne_of_lt h1) us.toArray
  have len1 := r1.length
  refine W.item i s _ _ (by simp only [List.size_toArray]; omega) ⟨z1, z4, p1.isList⟩ fun T vals h' tk hPt hT hTup hMid hk => ?_
  obtain ⟨t, u, hu, rfl⟩ := hPt
  refine ⟨.ref T, rfl, W.go elts kk pos i T _ _ _ hMid fun h'' st' hk' => ?_⟩
  obtain ⟨x, hx⟩ : ∃ x, xs[i]? = some x := ⟨_, List.getElem?_eq_getElem hi⟩
  obtain ⟨u', eu, rx⟩ := r1.get hx
  have e1 : u' = u := by
   have z : us[i]? = some u := by simpa using hu
   rw [eu] at z
   exact Option.some.inj z
  subst e1
  have ap := W.apart i T h' hMid
  have ht2 : h''.IsTuple T #[.int (i : Int) t, u'] := hTup.at fun o e => hk' T o ap e
  have J := zip_inv (x := .int (i : Int)) (tk := tk) (h' := h'') I (wr := [n + 1, n]) hf hT ht2 ⟨t, rfl⟩ rx (fun b o hb e => hk' b o hb (hk b o hb e))
  refine ⟨.ref T, _, J, rfl, ⟨T, rfl, I.hok.fresh hT, fun xs' x' a1 a3 => ?_⟩, ⟨st'.1, st'.2.1⟩, fun b hb => ?_⟩
  ·rw [I.list_inj a1 q1, hx] at a3
   cases a3
   rfl
  ·have hb0 := (hf b hb).1
   have hlt : b < s.heap.objs.size := by
    obtain ⟨old, z1⟩ := z1
    obtain ⟨o1, e1, _⟩ := z4
    simp only [List.mem_cons, List.not_mem_nil, or_false] at hb
    rcases hb with rfl | rfl
    ·exact Heap.lt_size z1
    ·exact Heap.lt_size e1
   rw [upd_ne (Nat.ne_of_lt (Nat.lt_of_lt_of_le hlt hT))]
   exact hb0
 done := by
  intro X hP hw hK hc i pins s σ H E I hf st hg
  subst hP hw hK
  obtain ⟨xs, q1, hi⟩ := hg
  obtain ⟨us, r1, p1, _⟩ := I.list q1
  obtain ⟨z1, z4⟩ := st
  have W := WalksT.enumerate (prog := X.prog) (w := X.w) (I.ok.hd hc) (n + 1) n l (Nat.succ_ne_self n) (Nat.ne_of_lt (Nat.lt_succ_of_lt h1)) (Nat.ne_of_lt h1) us.toArray
  have e : i = us.toArray.size := by
   simp only [List.size_toArray]
   rw [← r1.length]
   exact hi
  subst e
  refine W.done s _ _ ⟨z1, z4, p1.isList⟩ fun h' tk hk => ⟨rfl, ?_⟩
  have tr : ∀ b w, H b = some w → b ∉ [n + 1, n] := fun b w e z => by
   rw [(hf b z).1] at e
   cases e
  refine I.step (g' := s.gens) (d' := s.drawn) (ch := [n + 1, n]) (fun b hb => ?_) (fun b o _ _ hc e _ => hk b o hc e) (fun b o _ _ hc e _ => ⟨o.slots, hk b o hc e⟩) (fun b o hc e n => n) (fun b o hc e => ⟨o, hk b o hc e⟩) (fun b xs e => e) (fun b o w e => e) (fun b ps e => ⟨#[], by rw [e]; simp⟩) (fun m hm => ?_) (fun b w e => ?_) I.bare
  ·obtain ⟨f0, f1, f2, f3, f4, f5⟩ := hf b hb
   exact ⟨f3, f1, f4, f5⟩
  ·obtain ⟨o, es, ep, ho, r⟩ := hm
   exact ⟨o, es, ep, hk _ o (fun z => (hf _ z).2.1 rfl) ho, r⟩
  ·refine (I.hok b w e).stay (fun c z hc q => hk c z ?_ q) (fun _ q => q) fun _ _ q => q
   rcases hc with rfl | hc
   ·exact tr _ _ e
   ·exact tr _ _ hc
 self := fun A i s Q E st q => by
  obtain ⟨⟨old, z1⟩, _⟩ := st
  exact wpAny_pyIter_enum z1 q
theorem pi_enum {a : Expr} {ta : TA} {p pos tpos : Pos} {elts : List Expr} {kk : Nat} {K : PySem.W.Frag} (hK : X.K = K) (hg : Gl X "enumerate") (hm : X.mg "enumerate" = none) (ha : PA X [a] ta) (hs : starEach [a] X.env = [(false, eval a X.env)] := by rfl) :
  PI X (.Tuple elts kk tpos) (.Call (.Name "enumerate" p) [a] [] pos) (iEnum K ta) := by
 subst hK
 intro pins s σ H R I h
 refine Call_ (ld_blt I hg hm boot_enumerate (PyProof.Rows.callWith_type1 (thn (ha pos pins s σ H _ I h) fun us s1 z => ?_) hs rfl))
 obtain ⟨vs, H1, I1, r1, l, rfl, ⟨xs, q1⟩, q⟩ := z
 obtain ⟨u, rfl, ru⟩ := r1.one
 obtain rfl : u = Value.ref l := ru
 obtain ⟨is1, s1', p1, _⟩ := I1.list q1
 have b1 : l < s1.heap.objs.size := by
  obtain ⟨o, e, _⟩ := p1.isList
  exact Heap.lt_size e
 refine call_enumerate_list p1.isList fun h' hz hi1 hsz hk => ?_
 refine wpAny_pyIter_enum hz ?_
 refine ⟨_, _, _, _, H1, rfl, I1.kept (t' := s1.toks) hk, turn_enum s1.heap.objs.size l b1, ⟨⟨_, hz⟩, hi1⟩, fun b hb => ?_, q⟩
 simp only [List.mem_cons, List.not_mem_nil, or_false] at hb
 have hle : s1.heap.objs.size ≤ b := by
  rcases hb with rfl | rfl <;> omega
 exact I1.fpOk hle (I1.hok.fresh hle)
end
section
variable {K : PySem.W.Frag} {a : Addr} {xs : List V} {ta : TA} {g : TG} {tb : TS} {Dn : Ends} {σ : St} {H : Hp}
theorem tfor_enum (Ra : Addr → Hp → Prop) (ha : ∀ R : List V → Hp → Prop, (∀ a H1, Ra a H1 → R [.ref a] H1) → ta σ H R)
  (hb : ∀ a H1, Ra a H1 → ∃ xs, ∃ Pv : Nat → St → Hp → Prop, Pv 0 σ H1 ∧ (∀ i σ H, i ≤ xs.length → Pv i σ H → SqL K H a xs) ∧
   (∀ i x t σ H, xs[i]? = some x → Pv i σ H → H t = none → g (.ref t) σ (upd H t (.tup [.int (i : Int), x])) fun σ2 H2 => tb { Dn with nx := Pv (i + 1), ct := Pv (i + 1), bk := Dn.nx } σ2 H2) ∧ ∀ σ H, Pv xs.length σ H → Dn.nx σ H) :
  tFor (iEnum K ta) g tb Dn σ H := by
 refine ha _ fun a H1 q => ?_
 obtain ⟨xs, Pv, h0, hq, hs, hd⟩ := hb a H1 q
 have s1 := hq 0 σ H1 (Nat.zero_le _) h0
 refine ⟨a, rfl, ⟨xs, s1⟩, fun i m σ H => Pv i σ H ∧ i ≤ xs.length ∧ m = xs.length - i, ⟨_, h0, Nat.zero_le _, rfl⟩, ?_⟩
 rintro i m σ H ⟨p, hi, rfl⟩
 have s1 := hq i σ H hi p
 rcases Nat.lt_or_eq_of_le hi with hi | hi
 ·right
  refine ⟨⟨xs, s1, by omega⟩, fun σ' H' => Pv (i + 1) σ' H', fun σ' H' p' => ⟨xs.length - (i + 1), by omega, p', by omega, rfl⟩, ?_⟩
  rintro v H' ⟨t, rfl, hn, e⟩
  obtain ⟨x, hx⟩ : ∃ x, xs[i]? = some x := ⟨_, List.getElem?_eq_getElem hi⟩
  rw [e xs x s1 hx]
  exact hs i x t σ H hx p hn
 ·left
  exact ⟨⟨xs, s1, by omega⟩, hd σ H (hi ▸ p)⟩
end
section
variable {g : TG} {tt : TT} {te tl : TE} {ta : TA} {k : Nat} {js : List Nat} {σ : St} {Q : VK} {H : Hp} {K : PySem.W.Frag} {a : Addr} {xs : List V}
theorem lc_enum {D : Addr} (Pv : Nat → List V → Hp → Prop) (h0 : Pv 0 [] (upd H D (.lst [])))
  (hn : xs.length < sizeLine) (hl : ∀ i ys H, i ≤ xs.length → Pv i ys H → H D = some (.lst ys) ∧ ys.length ≤ i ∧ SqL K H a xs)
  (hs : ∀ i x t ys H, xs[i]? = some x → Pv i ys H → H t = none → g (.ref t) (stLC σ k js) (upd H t (.tup [.int (i : Int), x])) fun σ2 H2 => (σ2.drop k = frV σ js ∧ σ2.length = k + js.length) ∧ tt σ2 H2 fun b H3 => if b = true then te σ2 H3 fun y H4 => H4 D = some (.lst ys) ∧ Pv (i + 1) (ys ++ [y]) (upd H4 D (.lst (ys ++ [y]))) else Pv (i + 1) ys H3)
  (hd : ∀ ys H, Pv xs.length ys H → Q (.ref D) H) :
  ∃ W : Nat → Nat → List V → Hp → Prop, (∃ m, W 0 m [] (upd H D (.lst []))) ∧ ∀ i m ys H, W i m ys H → H D = some (.lst ys) ∧
  (((Ite K a).stop i H ∧ Q (.ref D) H) ∨ ((Ite K a).go i H ∧ ys.length < sizeLine ∧ ∃ N : List V → Hp → Prop, (∀ ys' H', N ys' H' → ∃ m', m' < m ∧ W (i + 1) m' ys' H') ∧
   ∀ x H', (Ite K a).yld i H x H' → g x (stLC σ k js) H' fun σ2 H2 => (σ2.drop k = frV σ js ∧ σ2.length = k + js.length) ∧ tt σ2 H2 fun b H3 => if b = true then te σ2 H3 fun y H4 => H4 D = some (.lst ys) ∧ N (ys ++ [y]) (upd H4 D (.lst (ys ++ [y]))) else N ys H3)) := by
 refine ⟨fun i m ys H => m = xs.length - i ∧ i ≤ xs.length ∧ Pv i ys H, ⟨xs.length, by simp, Nat.zero_le _, h0⟩, ?_⟩
 rintro i m ys H ⟨rfl, hi, p⟩
 obtain ⟨e1, e2, q⟩ := hl i ys H hi p
 refine ⟨e1, ?_⟩
 by_cases hlt : i < xs.length
 ·refine .inr ⟨⟨xs, q, hlt⟩, by omega, Pv (i + 1), fun ys' H' p' => ⟨xs.length - (i + 1), by omega, rfl, hlt, p'⟩, fun x H' y => ?_⟩
  obtain ⟨t, rfl, ht, y⟩ := y
  obtain ⟨x, hx⟩ : ∃ x, xs[i]? = some x := ⟨_, List.getElem?_eq_getElem hlt⟩
  rw [y xs x q hx]
  exact hs i x t ys H hx p ht
 ·have e : i = xs.length := by omega
  subst e
  exact .inl ⟨⟨xs, q, rfl⟩, hd ys H p⟩
theorem tlc_enum (ha : ∀ R : List V → Hp → Prop, R [.ref a] H → ta σ H R) (hq : SqL K H a xs) (hn : xs.length < 1000000) (Pv : Addr → Nat → List V → Hp → Prop) (h0 : ∀ D, H D = none → Pv D 0 [] (upd H D (.lst [])))
  (hl : ∀ D i ys H, i ≤ xs.length → Pv D i ys H → H D = some (.lst ys) ∧ ys.length ≤ i ∧ SqL K H a xs)
  (hs : ∀ D i x t ys H1, H D = none → xs[i]? = some x → Pv D i ys H1 → H1 t = none → g (.ref t) (L2.stLC σ k js) (upd H1 t (.tup [.int (i : Int), x])) fun σ2 H2 => (σ2.drop k = frV σ js ∧ σ2.length = k + js.length) ∧ tt σ2 H2 fun b H3 => if b = true then te σ2 H3 fun y H4 => H4 D = some (.lst ys) ∧ Pv D (i + 1) (ys ++ [y]) (upd H4 D (.lst (ys ++ [y]))) else Pv D (i + 1) ys H3)
  (hd : ∀ D ys H1, H D = none → Pv D xs.length ys H1 → Q (.ref D) H1) : tLC (iEnum K ta) k js g tt te σ H Q :=
 ha _ ⟨a, rfl, ⟨xs, hq⟩, fun D hD => lc_enum (Pv D) (h0 D hD) (Nat.lt_trans hn (by decide)) (fun i ys H hi p => hl D i ys H hi p) (fun i x t ys H hi p ht => hs D i x t ys H hD hi p ht) (fun ys H p => hd D ys H hD p)⟩
end
noncomputable def rInD (K : PySem.W.Frag) : R2 := fun x y H Q => ∃ d ds, Rdy K H x d ∧ Rdy K H y (.list ds) ∧ SeqAt.shaped d = true ∧ SeqAt.shaped (.list ds) = true ∧ (∀ y ∈ ds, SeqAt.noMix y d = true) ∧ Q (.bl (decide (Spec.countIn d ds ≠ 0))) H
theorem op_inDK {X : Cx} {K : PySem.W.Frag} (hK : X.K = K) (hu : X.A.units + 65 < cLine) : OpR X (compareOp .In) (rInD K) := by
 subst hK
 intro pins s σ H x y v u Q I rx ry h
 obtain ⟨d, ds, h1, h2, s1, s2, nm, q⟩ := h
 obtain ⟨as, r1⟩ := h1.reads I rx
 obtain ⟨bs, r2⟩ := h2.reads I ry
 exact in_list_dataH r2 r1 s2 s1 hu nm ⟨.bl _, H, I, rfl, q⟩
theorem pe_globI {X : Cx} {x : Str} {i : Int} {pos : Pos} (hg : Gl X x) (hm : ∃ t, X.mg x = some (.int i t)) (hd : (x == ("__debug__" : Str)) = false := by decide) : PE X (.Name x pos) (tC (.int i)) := by
 obtain ⟨t, hm⟩ := hm
 exact pe_glob hg hm ⟨t, rfl⟩ hd
end L2
set_option Elab.async false
set_option linter.all false
set_option maxRecDepth 100000
set_option Elab.async false
set_option linter.all false
set_option maxRecDepth 100000
set_option Elab.async false
set_option linter.all false
set_option maxRecDepth 100000
namespace L2
open PySem PySem.Spec PyProof.Rows
section
variable {X : Cx}
noncomputable def clrR : V → List V → Hp → VK → Prop := fun x vs H Q => match x, vs with
 | .ref l, [] => optK (lstOf (H l)) fun _ => Q .non (upd H l (.lst []))
 | _, _ => False
variable {o : Expr} {to : TE} {apos cpos : Pos}
theorem mt_clrF : MtM X "list.clear" clrR := by
 intro pins s σ H x vs v us Q I rx rv h
 unfold clrR at h
 split at h
 ·rename_i l
  obtain ⟨xs, e, q⟩ := optK_elim h
  exact mt_clear pins s σ H _ _ v us Q I rx rv ⟨l, xs, rfl, rfl, lstOf_eq e, q⟩
 ·exact h.elim
theorem pe_clr0 (ho : PE X o to) (hbase : attributeBase o "clear" X.env (eval o X.env) = eval o X.env := by rfl) (hline : (apos.endLine == cpos.line) = true := by rfl) : PE X (.Call (.Attribute o "clear" apos) [] [] cpos) (tML0 clrR to) := by
 intro pins s σ H Q I h
 refine pe_bm0 PySem.F.plainAttrs_list PySem.F.slot_list_clear PySem.F.type_list_clear mt_clrF ho.up hbase hline pins s σ H Q I ⟨_, h, fun x H1 q => ?_⟩
 cases x with
 | ref l =>
  obtain ⟨h1, h2⟩ := q
  obtain ⟨xs, e⟩ := Option.isSome_iff_exists.mp h1
  exact ⟨.inl ⟨rfl, xs, SqL.of (lstOf_eq e)⟩, h2⟩
 | _ => exact q.elim
end
end L2
set_option Elab.async false
set_option linter.all false
set_option maxRecDepth 100000
namespace L2
open PySem
mutual
noncomputable def plainD : PyData → Bool
 | .int _ => true
 | .none => true
 | .list xs => plainDs xs
 | .tuple xs => plainDs xs
 | _ => false
noncomputable def plainDs : List PyData → Bool
 | [] => true
 | x :: xs => plainD x && plainDs xs
end
mutual
theorem eqv_iff : ∀ (d e : PyData), plainD d = true → plainD e = true → (PyData.eqv d e = true ↔ d = e)
 | .int a, e, _, he => by
  cases e <;> simp [PyData.eqv, plainD] at he ⊢
 | .none, e, _, he => by
  cases e <;> simp [PyData.eqv, plainD] at he ⊢
 | .list xs, e, hd, he => by
  cases e with
  | list ys =>
   simp only [plainD] at hd he
   simp only [PyData.eqv, PyData.list.injEq]
   exact eqvAll_iff xs ys hd he
  | _ => simp [PyData.eqv, plainD] at he ⊢
 | .tuple xs, e, hd, he => by
  cases e with
  | tuple ys =>
   simp only [plainD] at hd he
   simp only [PyData.eqv, PyData.tuple.injEq]
   exact eqvAll_iff xs ys hd he
  | _ => simp [PyData.eqv, plainD] at he ⊢
 | .bool _, e, hd, _ => by simp [plainD] at hd
 | .str _, e, hd, _ => by simp [plainD] at hd
 | .dict _, e, hd, _ => by simp [plainD] at hd
theorem eqvAll_iff : ∀ (xs ys : List PyData), plainDs xs = true → plainDs ys = true → (PyData.eqvAll xs ys = true ↔ xs = ys)
 | [], [], _, _ => by simp [PyData.eqvAll]
 | [], y :: ys, _, _ => by simp [PyData.eqvAll]
 | x :: xs, [], _, _ => by simp [PyData.eqvAll]
 | x :: xs, y :: ys, hx, hy => by
  simp only [plainDs, Bool.and_eq_true] at hx hy
  simp only [PyData.eqvAll, Bool.and_eq_true, List.cons.injEq]
  rw [eqv_iff x y hx.1 hy.1, eqvAll_iff xs ys hx.2 hy.2]
end
theorem eqv_pos {d e : PyData} (hd : plainD d = true) (h : d = e) : PyData.eqv d e = true := (eqv_iff d e hd (h ▸ hd)).mpr h
end L2
namespace L2
open PySem PySem.Spec PyProof.Rows
noncomputable def rNotInD (K : PySem.W.Frag) : R2 := fun x y H Q => ∃ d ds, Rdy K H x d ∧ Rdy K H y (.list ds) ∧ SeqAt.shaped d = true ∧ SeqAt.shaped (.list ds) = true ∧ (∀ y ∈ ds, SeqAt.noMix y d = true) ∧ Q (.bl (!decide (Spec.countIn d ds ≠ 0))) H
theorem op_notInDK {X : Cx} {K : PySem.W.Frag} (hK : X.K = K) (hu : X.A.units + 65 < cLine) : OpR X (compareOp .NotIn) (rNotInD K) := by
 subst hK
 intro pins s σ H x y v u Q I rx ry h
 obtain ⟨d, ds, h1, h2, s1, s2, nm, q⟩ := h
 obtain ⟨as, r1⟩ := h1.reads I rx
 obtain ⟨bs, r2⟩ := h2.reads I ry
 exact notIn_list_dataH r2 r1 s2 s1 hu nm ⟨.bl _, H, I, rfl, q⟩
end L2
namespace L2
open PySem
section
variable {ta : TA} {g : TG} {tb : TS} {Dn : Ends} {σ : St} {H : Hp}
theorem tfor_rangeH (Pn : Nat → Hp → Prop) (ha : ∀ R : List V → Hp → Prop, (∀ (n : Nat) H1, Pn n H1 → R [.int n] H1) → ta σ H R)
  (hb : ∀ n H1, Pn n H1 → n < 1000000 ∧ ∃ Pv : Nat → St → Hp → Prop, Pv 0 σ H1 ∧ (∀ i σ H, i < n → Pv i σ H → g (.int (0 + (i : Int))) σ H fun σ2 H2 => tb { Dn with nx := Pv (i + 1), ct := Pv (i + 1), bk := Dn.nx } σ2 H2) ∧ ∀ σ H, Pv n σ H → Dn.nx σ H) : tFor (iRng1 ta) g tb Dn σ H :=
 ha _ fun n H1 hn => by
  obtain ⟨h1, Pv, h0, hs, hd⟩ := hb n H1 hn
  exact ⟨n, rfl, by omega, by omega, for_range (lo := 0) (n := (n : Int).toNat) Pv h0 (fun i σ H hi p => hs i σ H (by simpa using hi) p) (fun σ H p => hd σ H (by simpa using p))⟩
end
end L2
namespace L2
open PySem PySem.Spec PyProof.Rows
section
variable {g : TG} {tt : TT} {te tl : TE} {k : Nat} {js : List Nat} {σ : St} {Q : VK} {H : Hp} {K : PySem.W.Frag}
theorem tlc_list_up (R : VK) (h : tl σ H R)
  (hb : ∀ x H1, R x H1 → ∃ (a : Addr) (xs : List V), x = .ref a ∧ SqL K H1 a xs ∧ xs.length < 1000000 ∧ ∃ Pv : Addr → Nat → List V → Hp → Prop, (∀ D, H1 D = none → Pv D 0 [] (upd H1 D (.lst []))) ∧
   (∀ D i ys H, i ≤ xs.length → Pv D i ys H → H D = some (.lst ys) ∧ ys.length ≤ i ∧ SqL K H a xs) ∧
   (∀ D i x ys H2, H1 D = none → xs[i]? = some x → Pv D i ys H2 → g x (L2.stLC σ k js) H2 fun σ2 H3 => (σ2.drop k = frV σ js ∧ σ2.length = k + js.length) ∧ tt σ2 H3 fun b H4 => if b = true then te σ2 H4 fun y H5 => H5 D = some (.lst ys) ∧ Pv D (i + 1) (ys ++ [y]) (upd H5 D (.lst (ys ++ [y]))) else Pv D (i + 1) ys H4) ∧
   ∀ D ys H2, H1 D = none → Pv D xs.length ys H2 → Q (.ref D) H2) : tLC (iList K (tUp tl)) k js g tt te σ H Q := by
 refine ⟨R, h, fun x H1 q => ?_⟩
 obtain ⟨a, xs, rfl, hq, hn, Pv, h0, hl, hs, hd⟩ := hb x H1 q
 exact ⟨a, rfl, ⟨xs, hq⟩, fun D hD => lc_list (Pv D) (h0 D hD) (Nat.lt_trans hn (by decide)) (fun i ys H hi p => hl D i ys H hi p) (fun i x ys H hi p => hs D i x ys H hD hi p) (fun ys H p => hd D ys H hD p)⟩
end
end L2
namespace L2
open PySem
theorem pa_consS {X : Cx} {a b : Expr} {p : Pos} {es : List Expr} {te : TE} {t : TA} (ha : PE X (.Subscript a b p) te) (hr : PA X es t) : PA X (.Subscript a b p :: es) (tCons te t) := pa_cons ha hr rfl
end L2
set_option Elab.async false
set_option linter.all false
set_option maxRecDepth 100000
set_option Elab.async false
set_option linter.all false
set_option maxRecDepth 100000
namespace L2
open PySem PySem.Spec PyProof.Rows
section
variable {X : Cx} {a b : Expr} {ta tb : TE} {pos : Pos}
noncomputable def fVar (i : Nat) : TE := fun σ H Q => match σ[i]? with
 | some (some v) => Q v H
 | _ => False
theorem pvF (i : Nat) {x : Str} (hN : X.N[i]? = some x := by rfl) (hv : Vis X.env.scope x := by first | exact Or.inl rfl | exact Or.inr (Or.inl rfl) | exact Or.inr (Or.inr rfl)) (hd : (x == ("__debug__" : Str)) = false := by decide)
  (hcd : (x == ("__classdict__" : Str)) = false := by decide) : PE X (.Name x pos) (fVar i) := by
 intro pins s σ H Q I h
 refine pv i hN hv hd hcd pins s σ H Q I ?_
 unfold fVar at h
 split at h
 ·exact ⟨_, ‹_›, h⟩
 ·exact h.elim
noncomputable def fI (C : Int → Int → Prop) (g : Int → Int → V) : R2 := fun x y H Q => match x, y with
 | .int i, .int j => C i j ∧ Q (g i j) H
 | _, _ => False
noncomputable def fI0 (g : Int → Int → V) : R2 := fun x y H Q => match x, y with
 | .int i, .int j => Q (g i j) H
 | _, _ => False
noncomputable def fU (g : Int → V) : V → Hp → VK → Prop := fun x H Q => match x with
 | .int i => Q (g i) H
 | _ => False
theorem OpR.f {F : Value → Value → Sem Value} {C : Int → Int → Prop} {g : Int → Int → V} (h : OpR X F (rI C g)) : OpR X F (fI C g) := by
 intro pins s σ H x y v u Q I r1 r2 q
 refine h pins s σ H x y v u Q I r1 r2 ?_
 unfold fI at q
 split at q
 ·exact ⟨_, _, rfl, rfl, q.1, q.2⟩
 ·exact q.elim
theorem OpR.f0 {F : Value → Value → Sem Value} {g : Int → Int → V} (h : OpR X F (rI0 g)) : OpR X F (fI0 g) := by
 intro pins s σ H x y v u Q I r1 r2 q
 refine h pins s σ H x y v u Q I r1 r2 ?_
 unfold fI0 at q
 split at q
 ·exact ⟨_, _, rfl, rfl, q⟩
 ·exact q.elim
theorem UnR.f {F : Value → Sem Value} {g : Int → V} (h : UnR X F (rU g)) : UnR X F (fU g) := by
 intro pins s σ H x v Q I r1 q
 refine h pins s σ H x v Q I r1 ?_
 unfold fU at q
 split at q
 ·exact ⟨_, rfl, q⟩
 ·exact q.elim
noncomputable def fEq : R2 := fun x y H Q => match x, y with
 | .int i, .int j => Q (.bl (decide (i = j))) H
 | _, _ => rEq x y H Q
theorem OpR.e {F : Value → Value → Sem Value} (h : OpR X F rEq) : OpR X F fEq := by
 intro pins s σ H x y v u Q I r1 r2 q
 refine h pins s σ H x y v u Q I r1 r2 ?_
 unfold fEq at q
 split at q
 ·refine ⟨rfl, ?_⟩
  simpa only [V.int.injEq] using q
 ·exact q
theorem op_eqI : OpR X (compareOp .Eq) (fI0 fun i j => .bl (decide (i = j))) := OpR.f0 (opB0 fun _ _ _ _ _ _ _ q => eq_int q)
theorem op_neI : OpR X (compareOp .NotEq) (fI0 fun i j => .bl (!decide (i = j))) := OpR.f0 (opB0 fun _ _ _ _ _ _ _ q => ne_int q)
noncomputable def fTest (t : TE) : TT := fun σ H Q => t σ H fun x H' => match x with
 | .bl k => Q k H'
 | _ => False
theorem pt_cmpF {op : CmpOp} {r : R2} (ho : OpR X (compareOp op) r) (ha : PE X a ta) (hb : PE X b tb) (hm : behindInMarks op b = false) : PT X (.Compare a [op] [b] pos) (fTest (tOp r ta tb)) := by
 intro pins s σ H Q I h
 refine wpAny_isTrue_Compare1 (thn (ha pins s σ H _ I h) fun v s1 ⟨x, H1, I1, r1, q1⟩ => thn (hb pins s1 σ H1 _ I1 q1) fun u s2 ⟨y, H2, I2, r2, q2⟩ =>
  thn (ho pins s2 σ H2 x y v u _ I2 r1 r2 q2) fun c s3 ⟨z, H3, I3, r3, q3⟩ => ?_) hm
 dsimp only at q3
 split at q3
 ·cases r3
  exact wpAny_truthy_bool ⟨H3, I3, q3⟩
 ·exact q3.elim
noncomputable def fCons (t : TG) (u : TGs) : TGs := fun vs σ H Q => match vs with
 | v :: r => t v σ H fun σ' H' => u r σ' H' Q
 | [] => False
noncomputable def fNil : TGs := fun vs σ H Q => match vs with
 | [] => Q σ H
 | _ => False
theorem pgs_nilF : PGs X [] fNil := by
 intro pins s σ H vs us Q I r h
 refine pgs_nil pins s σ H vs us Q I r ?_
 unfold fNil at h
 split at h
 ·exact ⟨rfl, h⟩
 ·exact h.elim
theorem pgs_consF {e : Expr} {es : List Expr} {t : TG} {u : TGs} (h1 : PG X e t) (h2 : PGs X es u)
  (hs : (assignEach (e :: es) X.env).map (·.2) = assign e X.env :: (assignEach es X.env).map (·.2) := by rfl) : PGs X (e :: es) (fCons t u) := by
 intro pins s σ H vs us Q I r h
 refine pgs_cons h1 h2 hs pins s σ H vs us Q I r ?_
 unfold fCons at h
 split at h
 ·exact ⟨_, _, rfl, h⟩
 ·exact h.elim
theorem pt_valF {e : Expr} {t : TE} (h : PE X e t) (he : ∀ whole, isTrue e X.env whole = (do let v ← whole; standAt e.pos; holding [v] (truthy v)) := by intro _; rfl) : PT X e (fTest t) := by
 intro pins s σ H Q I hw
 refine isTrue_plain (thn (h pins s σ H _ I hw) fun v s1 ⟨x, H1, I1, r1, q1⟩ => ?_) (he _)
 dsimp only at q1
 split at q1
 ·cases r1
  exact wpAny_truthy_bool ⟨H1, I1, q1⟩
 ·exact q1.elim
end
end L2
set_option Elab.async false
set_option linter.all false
set_option maxRecDepth 100000
namespace L2
open PySem PySem.Spec PyProof.Rows
theorem vals3 {x y z : V} {us : List Value} (r : Vals [x, y, z] us) : ∃ u v w', us = [u, v, w'] ∧ RelV x u ∧ RelV y v ∧ RelV z w' := by
 cases r with
 | cons r1 r2 =>
  obtain ⟨v, w', rfl, h1, h2⟩ := vals2 r2
  exact ⟨_, _, _, rfl, r1, h1, h2⟩
theorem call_max3 {X : Cx} (hc : X.calm = true) : CallR X (.builtin "max") (fun xs H Q => ∃ i j k, xs = [.int i, .int j, .int k] ∧ Q (.int (max (max i j) k)) H) := by
 intro pins s σ H xs us Q I r h
 obtain ⟨i, j, k, rfl, q⟩ := h
 obtain ⟨u, v, w', rfl, ⟨t, rfl⟩, ⟨t', rfl⟩, ⟨t'', rfl⟩⟩ := vals3 r
 refine max_three_ints (I.ok.hd hc) fun h' tk kp => ⟨_, H, I.kept kp, ?_, q⟩
 by_cases h1 : j > i
 ·rw [if_pos h1, show max i j = j by omega]
  by_cases h2 : k > j
  ·rw [if_pos h2, show max j k = k by omega]; exact ⟨_, rfl⟩
  ·rw [if_neg h2, show max j k = j by omega]; exact ⟨_, rfl⟩
 ·rw [if_neg h1, show max i j = i by omega]
  by_cases h2 : k > i
  ·rw [if_pos h2, show max i k = k by omega]; exact ⟨_, rfl⟩
  ·rw [if_neg h2, show max i k = i by omega]; exact ⟨_, rfl⟩
theorem call_min3 {X : Cx} (hc : X.calm = true) : CallR X (.builtin "min") (fun xs H Q => ∃ i j k, xs = [.int i, .int j, .int k] ∧ Q (.int (min (min i j) k)) H) := by
 intro pins s σ H xs us Q I r h
 obtain ⟨i, j, k, rfl, q⟩ := h
 obtain ⟨u, v, w', rfl, ⟨t, rfl⟩, ⟨t', rfl⟩, ⟨t'', rfl⟩⟩ := vals3 r
 refine min_three_ints (I.ok.hd hc) fun h' tk kp => ⟨_, H, I.kept kp, ?_, q⟩
 by_cases h1 : j < i
 ·rw [if_pos h1, show min i j = j by omega]
  by_cases h2 : k < j
  ·rw [if_pos h2, show min j k = k by omega]; exact ⟨_, rfl⟩
  ·rw [if_neg h2, show min j k = j by omega]; exact ⟨_, rfl⟩
 ·rw [if_neg h1, show min i j = i by omega]
  by_cases h2 : k < i
  ·rw [if_pos h2, show min i k = k by omega]; exact ⟨_, rfl⟩
  ·rw [if_neg h2, show min i k = i by omega]; exact ⟨_, rfl⟩
end L2
namespace MA
noncomputable def sgn (n : Int) : Int := if n < 0 then -1 else if 0 < n then 1 else 0
theorem sgn_pos {n : Int} (h : 0 < n) : sgn n = 1 := by unfold sgn; rw [if_neg (by omega), if_pos h]
theorem sgn_neg {n : Int} (h : n < 0) : sgn n = -1 := by unfold sgn; rw [if_pos h]
theorem sgn_range (n : Int) : sgn n = -1 ∨ sgn n = 0 ∨ sgn n = 1 := by unfold sgn; split <;> (try split) <;> simp
noncomputable def ab (i : Int) : Int := if i < 0 then -i else i
theorem ab_eq (i : Int) : ab i = (i.natAbs : Int) := by unfold ab; split <;> omega
theorem gcd_step {a b : Int} (hb : 0 < b) : Int.gcd b (a % b) = Int.gcd a b := by
 rw [Int.gcd_comm a b]
 have h : Int.gcd b (a % b + b * (a / b)) = Int.gcd b (a % b) := Int.gcd_add_mul_left_right ..
 rw [Int.emod_add_mul_ediv] at h
 exact h.symm
theorem gcd_abs_left (a b : Int) : Int.gcd (a.natAbs : Int) b = Int.gcd a b := by
 rw [Int.gcd_eq_natAbs_gcd_natAbs, Int.gcd_eq_natAbs_gcd_natAbs]; simp
theorem gcd_abs_right (a b : Int) : Int.gcd a (b.natAbs : Int) = Int.gcd a b := by
 rw [Int.gcd_eq_natAbs_gcd_natAbs, Int.gcd_eq_natAbs_gcd_natAbs]; simp
theorem gcd_zero {a : Int} (ha : 0 ≤ a) : (Int.gcd a 0 : Int) = a := by simp; omega
noncomputable def com (x y w : Int) : Int := (Int.gcd (Int.gcd w x) y : Int) * sgn w
structure IsPt (x y w a b c : Int) : Prop where
 pos : 0 < c
 ex : a * w = x * c
 ey : b * w = y * c
 low : Int.gcd (Int.gcd a b) c = 1
 la : a.natAbs ≤ x.natAbs
 lb : b.natAbs ≤ y.natAbs
 lc : c.natAbs ≤ w.natAbs
structure IsFr (x w a c : Int) : Prop where
 pos : 0 < c
 ex : a * w = x * c
 low : Int.gcd a c = 1
 la : a.natAbs ≤ x.natAbs
 lc : c.natAbs ≤ w.natAbs
theorem com_ne {x y w : Int} (hw : w ≠ 0) : com x y w ≠ 0 := by
 unfold com
 have h1 : Int.gcd (Int.gcd w x) y ≠ 0 := by
  intro h
  have := Int.gcd_eq_zero_iff.mp h
  have h2 : Int.gcd w x = 0 := by have := this.1; omega
  exact hw (Int.gcd_eq_zero_iff.mp h2).1
 intro h
 rcases Int.mul_eq_zero.mp h with h | h
 ·omega
 ·rcases Int.lt_or_gt_of_ne hw with z | z
  ·rw [sgn_neg z] at h; omega
  ·rw [sgn_pos z] at h; omega
theorem com_dvd (x y w : Int) (hw : w ≠ 0) : com x y w ∣ x ∧ com x y w ∣ y ∧ com x y w ∣ w := by
 have key : ∀ z, (Int.gcd (Int.gcd w x) y : Int) ∣ z → com x y w ∣ z := by
  intro z hz
  unfold com
  rcases Int.lt_or_gt_of_ne hw with q | q
  ·rw [sgn_neg q]
   rw [show (Int.gcd (Int.gcd w x) y : Int) * -1 = -(Int.gcd (Int.gcd w x) y : Int) by omega]
   exact Int.neg_dvd.mpr hz
  ·rw [sgn_pos q, Int.mul_one]
   exact hz
 have g1 : (Int.gcd (Int.gcd w x) y : Int) ∣ (Int.gcd w x : Int) := Int.gcd_dvd_left _ _
 exact ⟨key x (Int.dvd_trans g1 (Int.gcd_dvd_right _ _)), key y (Int.gcd_dvd_right _ _), key w (Int.dvd_trans g1 (Int.gcd_dvd_left _ _))⟩
theorem fdiv_exact {a b : Int} (h : b ∣ a) : a.fdiv b = a / b := by
 exact Int.fdiv_eq_ediv_of_dvd h
theorem natAbs_ediv_le (a b : Int) (h : b ∣ a) : (a / b).natAbs ≤ a.natAbs := by
 rw [Int.natAbs_ediv_of_dvd h]
 exact Nat.div_le_self _ _
theorem isPt_of {x y w : Int} (hw : w ≠ 0) : IsPt x y w (x.fdiv (com x y w)) (y.fdiv (com x y w)) (w.fdiv (com x y w)) := by
 obtain ⟨dx, dy, dw⟩ := com_dvd x y w hw
 have hc := com_ne (x := x) (y := y) hw
 rw [fdiv_exact dx, fdiv_exact dy, fdiv_exact dw]
 obtain ⟨a, ha⟩ := dx
 obtain ⟨b, hb⟩ := dy
 obtain ⟨c, hcw⟩ := dw
 have ea : x / com x y w = a := by
  have := Int.mul_ediv_cancel_left a hc
  rw [← ha] at this; exact this
 have eb : y / com x y w = b := by
  have := Int.mul_ediv_cancel_left b hc
  rw [← hb] at this; exact this
 have ec : w / com x y w = c := by
  have := Int.mul_ediv_cancel_left c hc
  rw [← hcw] at this; exact this
 have la := natAbs_ediv_le x _ (⟨a, ha⟩ : com x y w ∣ x)
 have lb := natAbs_ediv_le y _ (⟨b, hb⟩ : com x y w ∣ y)
 have lc := natAbs_ediv_le w _ (⟨c, hcw⟩ : com x y w ∣ w)
 rw [ea] at la ⊢
 rw [eb] at lb ⊢
 rw [ec] at lc ⊢
 generalize hG : com x y w = G at *
 have hgg : (Int.gcd (Int.gcd w x) y : Int) * sgn w = G := by rw [← hG]; rfl
 have gpos : 0 < (Int.gcd (Int.gcd w x) y : Int) := by
  have : (Int.gcd (Int.gcd w x) y : Int) ≠ 0 := by
   intro z
   rw [z, Int.zero_mul] at hgg
   exact hc hgg.symm
  omega
 refine ⟨?_, by rw [ha, hcw]; grind, by rw [hb, hcw]; grind, ?_, la, lb, lc⟩
 ·-- c is above 0
  rcases Int.lt_or_gt_of_ne hw with q | q
  ·rw [sgn_neg q] at hgg
   have hGn : G < 0 := by omega
   have h1 : G * c < 0 := by rw [← hcw]; exact q
   exact Int.pos_of_mul_neg_right h1 hGn
  ·rw [sgn_pos q, Int.mul_one] at hgg
   have h1 : 0 < G * c := by rw [← hcw]; exact q
   exact Int.pos_of_mul_pos_right h1 (by omega)
 ·-- lowest terms
  have e1 : Int.gcd (Int.gcd w x) y = G.natAbs := by
   have := congrArg Int.natAbs hgg
   rw [Int.natAbs_mul] at this
   have h2 : (sgn w).natAbs = 1 := by
    rcases Int.lt_or_gt_of_ne hw with q | q
    ·rw [sgn_neg q]; rfl
    ·rw [sgn_pos q]; rfl
   rw [h2, Nat.mul_one] at this
   simpa using this
  have e2 : Int.gcd (Int.gcd w x) y = G.natAbs * Int.gcd (Int.gcd c a) b := by
   rw [hcw, ha, hb]
   rw [Int.gcd_mul_left]
   have : ((G.natAbs * Int.gcd c a : Nat) : Int).gcd (G * b) = G.natAbs * Int.gcd (Int.gcd c a) b := by
    rw [Int.gcd_eq_natAbs_gcd_natAbs, Int.natAbs_mul]
    simp only [Int.natAbs_natCast]
    rw [Nat.gcd_mul_left, Int.gcd_eq_natAbs_gcd_natAbs (Int.gcd c a : Int) b]
    simp
   exact this
  have gn : 0 < G.natAbs := by omega
  have e3 : Int.gcd (Int.gcd c a) b = 1 := by
   rw [e1] at e2
   have : G.natAbs * 1 = G.natAbs * Int.gcd (Int.gcd c a) b := by omega
   exact (Nat.eq_of_mul_eq_mul_left gn this).symm
  have e4 : Int.gcd (Int.gcd a b) c = Int.gcd (Int.gcd c a) b := by
   rw [Int.gcd_comm (Int.gcd a b : Int) c, Int.gcd_assoc]
  rw [e4, e3]
theorem isFr_of {x w : Int} (hw : w ≠ 0) : IsFr x w (x.fdiv ((Int.gcd w x : Int) * sgn w)) (w.fdiv ((Int.gcd w x : Int) * sgn w)) := by
 have h := isPt_of (x := x) (y := 0) (w := w) hw
 have e : com x 0 w = (Int.gcd w x : Int) * sgn w := by
  unfold com
  simp
 rw [e] at h
 have h0 : (0 : Int).fdiv ((Int.gcd w x : Int) * sgn w) = 0 := Int.zero_fdiv _
 rw [h0] at h
 refine ⟨h.pos, h.ex, ?_, h.la, h.lc⟩
 have := h.low
 rw [Int.gcd_zero, gcd_abs_left] at this
 exact this
end MA
namespace MA
theorem isPt_same {x y w a b c x' y' w' a' b' c' : Int} (h : IsPt x y w a b c) (k : IsPt x' y' w' a' b' c') (hw : w ≠ 0) (hw' : w' ≠ 0) (e1 : x * w' = x' * w) (e2 : y * w' = y' * w) : a = a' ∧ b = b' ∧ c = c' := by
 have f1 : a * c' = a' * c := by
  have h1 := h.ex
  have h2 := k.ex
  have : (w * w') * (a * c' - a' * c) = 0 := by grind
  rcases Int.mul_eq_zero.mp this with z | z
  ·rcases Int.mul_eq_zero.mp z with z | z
   ·exact absurd z hw
   ·exact absurd z hw'
  ·omega
 have f2 : b * c' = b' * c := by
  have h1 := h.ey
  have h2 := k.ey
  have : (w * w') * (b * c' - b' * c) = 0 := by grind
  rcases Int.mul_eq_zero.mp this with z | z
  ·rcases Int.mul_eq_zero.mp z with z | z
   ·exact absurd z hw
   ·exact absurd z hw'
  ·omega
 have dv : ∀ {a b c a' b' c' : Int}, Int.gcd (Int.gcd a b) c = 1 → a * c' = a' * c → b * c' = b' * c → c ∣ c' := by
  intro a b c a' b' c' hl e1 e2
  have d1 : c ∣ a * c' := ⟨a', by rw [e1, Int.mul_comm]⟩
  have d2 : c ∣ b * c' := ⟨b', by rw [e2, Int.mul_comm]⟩
  have d3 : c ∣ (Int.gcd (a * c') (b * c') : Int) := Int.dvd_coe_gcd d1 d2
  rw [Int.gcd_mul_right] at d3
  have d4 : c ∣ ((Int.gcd a b : Int) * (c'.natAbs : Int)) := by
   have := d3
   push_cast at this
   exact this
  have d5 : c ∣ c * (c'.natAbs : Int) := Int.dvd_mul_right _ _
  have d6 : c ∣ (Int.gcd ((Int.gcd a b : Int) * (c'.natAbs : Int)) (c * (c'.natAbs : Int)) : Int) := Int.dvd_coe_gcd d4 d5
  rw [Int.gcd_mul_right, hl] at d6
  simp only [Nat.one_mul, Int.natAbs_natCast] at d6
  exact Int.dvd_natAbs.mp d6
 have g1 : c ∣ c' := dv h.low f1 f2
 have g2 : c' ∣ c := dv k.low f1.symm f2.symm
 have ec : c = c' := Int.dvd_antisymm (by have := h.pos; omega) (by have := k.pos; omega) g1 g2
 subst ec
 have hc := h.pos
 exact ⟨Int.eq_of_mul_eq_mul_right (by omega) f1, Int.eq_of_mul_eq_mul_right (by omega) f2, rfl⟩
theorem isFr_same {x w a c x' w' a' c' : Int} (h : IsFr x w a c) (k : IsFr x' w' a' c') (hw : w ≠ 0) (hw' : w' ≠ 0) (e1 : x * w' = x' * w) : a = a' ∧ c = c' := by
 have p1 : IsPt x 0 w a 0 c := ⟨h.pos, h.ex, by simp, by rw [Int.gcd_zero, gcd_abs_left]; exact h.low, h.la, by simp, h.lc⟩
 have p2 : IsPt x' 0 w' a' 0 c' := ⟨k.pos, k.ex, by simp, by rw [Int.gcd_zero, gcd_abs_left]; exact k.low, k.la, by simp, k.lc⟩
 have := isPt_same p1 p2 hw hw' e1 (by simp)
 exact ⟨this.1, this.2.2⟩
structure IsLn (a b c x y z : Int) : Prop where
 ex : ∃ g : Int, 0 < g ∧ a = g * x ∧ b = g * y ∧ c = g * z ∧ g = (Int.gcd (Int.gcd a b) c : Int)
 low : Int.gcd (Int.gcd x y) z = 1
 la : x.natAbs ≤ a.natAbs
 lb : y.natAbs ≤ b.natAbs
 lc : z.natAbs ≤ c.natAbs
theorem isLn_of {a b c : Int} (h : ¬ (a = 0 ∧ b = 0)) : IsLn a b c (a.fdiv (Int.gcd (Int.gcd a b) c : Int)) (b.fdiv (Int.gcd (Int.gcd a b) c : Int)) (c.fdiv (Int.gcd (Int.gcd a b) c : Int)) ∧ (Int.gcd (Int.gcd a b) c : Int) ≠ 0 := by
 have hne : Int.gcd (Int.gcd a b) c ≠ 0 := by
  intro z
  have z1 := (Int.gcd_eq_zero_iff.mp z).1
  have z2 : Int.gcd a b = 0 := by omega
  exact h (Int.gcd_eq_zero_iff.mp z2)
 have d0 : (Int.gcd (Int.gcd a b) c : Int) ∣ (Int.gcd a b : Int) := Int.gcd_dvd_left _ _
 have da : (Int.gcd (Int.gcd a b) c : Int) ∣ a := Int.dvd_trans d0 (Int.gcd_dvd_left _ _)
 have db : (Int.gcd (Int.gcd a b) c : Int) ∣ b := Int.dvd_trans d0 (Int.gcd_dvd_right _ _)
 have dc : (Int.gcd (Int.gcd a b) c : Int) ∣ c := Int.gcd_dvd_right _ _
 have la := natAbs_ediv_le a _ da
 have lb := natAbs_ediv_le b _ db
 have lc := natAbs_ediv_le c _ dc
 refine ⟨?_, by omega⟩
 rw [fdiv_exact da, fdiv_exact db, fdiv_exact dc]
 generalize hG : (Int.gcd (Int.gcd a b) c : Int) = G at *
 have gp : 0 < G := by omega
 have hG' : Int.gcd (Int.gcd a b) c = G.natAbs := by omega
 have ea : a = G * (a / G) := (Int.mul_ediv_cancel' da).symm
 have eb : b = G * (b / G) := (Int.mul_ediv_cancel' db).symm
 have ec : c = G * (c / G) := (Int.mul_ediv_cancel' dc).symm
 refine ⟨⟨G, gp, ea, eb, ec, hG.symm⟩, ?_, la, lb, lc⟩
 generalize a / G = x at *
 generalize b / G = y at *
 generalize c / G = z at *
 subst ea eb ec
 rw [Int.gcd_mul_left] at hG'
 have e2 : ((G.natAbs * Int.gcd x y : Nat) : Int).gcd (G * z) = G.natAbs * Int.gcd (Int.gcd x y) z := by
  rw [Int.gcd_eq_natAbs_gcd_natAbs, Int.natAbs_mul]
  simp only [Int.natAbs_natCast]
  rw [Nat.gcd_mul_left, Int.gcd_eq_natAbs_gcd_natAbs (Int.gcd x y : Int) z]
  simp
 rw [e2] at hG'
 have : G.natAbs * Int.gcd (Int.gcd x y) z = G.natAbs * 1 := by omega
 exact Nat.eq_of_mul_eq_mul_left (by omega) this
end MA
set_option Elab.async false
set_option linter.all false
namespace MC
open MA
noncomputable abbrev V3 := Int × Int × Int
noncomputable def dt (a b c : V3) : Int := a.1 * (b.2.1 * c.2.2 - b.2.2 * c.2.1) - a.2.1 * (b.1 * c.2.2 - b.2.2 * c.1) + a.2.2 * (b.1 * c.2.1 - b.2.1 * c.1)
noncomputable def ex (m p : V3) : Int := m.1 * p.1 + m.2.1 * p.2.1 - m.2.2 * p.2.2
theorem pos_of {x y s t : Int} (hs : 0 < s) (ht : 0 < t) (e : x * s = y * t) : (0 < x ↔ 0 < y) ∧ (x = 0 ↔ y = 0) ∧ (x < 0 ↔ y < 0) := by
 rcases Int.lt_trichotomy x 0 with h | h | h
 ·have := Int.mul_neg_of_neg_of_pos h hs
  have hy : y < 0 := by
   rcases Int.lt_trichotomy y 0 with q | q | q
   ·exact q
   ·subst q; omega
   ·have := Int.mul_pos q ht; omega
  omega
 ·subst h
  have hy : y = 0 := by
   rcases Int.lt_trichotomy y 0 with q | q | q
   ·have := Int.mul_neg_of_neg_of_pos q ht; omega
   ·exact q
   ·have := Int.mul_pos q ht; omega
  omega
 ·have := Int.mul_pos h hs
  have hy : 0 < y := by
   rcases Int.lt_trichotomy y 0 with q | q | q
   ·have := Int.mul_neg_of_neg_of_pos q ht; omega
   ·subst q; omega
   ·exact q
  omega
noncomputable abbrev Vx := V3 × V3 × Int
noncomputable def rot {α : Type} (l : List α) : List α := l.drop 1 ++ l.take 1
noncomputable def edges (l : List Vx) : List (Vx × Vx) := l.zip (rot l)
noncomputable def rotk {α : Type} (k : Nat) (l : List α) : List α := l.drop k ++ l.take k
end MC
set_option Elab.async false
set_option linter.all false
namespace MC
open MA
noncomputable def Rot {α : Type} (l m : List α) : Prop := ∃ u v, l = u ++ v ∧ m = v ++ u
theorem Rot.of {α : Type} (k : Nat) (l : List α) : Rot l (rotk k l) := ⟨l.take k, l.drop k, (List.take_append_drop k l).symm, rfl⟩
end MC
set_option Elab.async false
set_option linter.all false
set_option Elab.async false
set_option linter.all false
set_option Elab.async false
set_option linter.all false
set_option Elab.async false
set_option linter.all false
set_option Elab.async false
set_option linter.all false
set_option Elab.async false
set_option linter.all false
namespace MC
noncomputable def Ahd (a b : V3) : Prop := a.1 * b.2.2 < b.1 * a.2.2 ∨ (a.1 * b.2.2 = b.1 * a.2.2 ∧ a.2.1 * b.2.2 < b.2.1 * a.2.2)
noncomputable instance (a b : V3) : Decidable (Ahd a b) := by unfold Ahd; exact inferInstance
end MC
set_option Elab.async false
set_option linter.all false
namespace MC
open MA L2
noncomputable def Inside (l : List Vx) (p : V3) : Prop := ∀ e ∈ edges l, 0 ≤ dt e.1.1 e.2.1 p
noncomputable instance (l : List Vx) (p : V3) : Decidable (Inside l p) := by unfold Inside; exact inferInstance
end MC
set_option Elab.async false
set_option linter.all false
set_option Elab.async false
set_option linter.all false
namespace MC
open MA L2
noncomputable abbrev U2 := Int × Int
end MC
set_option Elab.async false
set_option linter.all false
set_option Elab.async false
set_option linter.all false
set_option Elab.async false
set_option linter.all false
set_option Elab.async false
set_option linter.all false
namespace MC
open MA L2
noncomputable def sq2 (z : V3) (r : U2) : Int := (z.1 - r.1 * z.2.2) ^ 2 + (z.2.1 - r.2 * z.2.2) ^ 2
noncomputable def lnB (r s : U2) : V3 :=
 let a := 2 * (s.1 - r.1); let b := 2 * (s.2 - r.2); let c := s.1 * s.1 + s.2 * s.2 - r.1 * r.1 - r.2 * r.2
 (a / (Int.gcd (Int.gcd a b) c : Int), b / (Int.gcd (Int.gcd a b) c : Int), c / (Int.gcd (Int.gcd a b) c : Int))
theorem isLn_eq {a b c x y z : Int} (h : IsLn a b c x y z) : x = a / (Int.gcd (Int.gcd a b) c : Int) ∧ y = b / (Int.gcd (Int.gcd a b) c : Int) ∧ z = c / (Int.gcd (Int.gcd a b) c : Int) := by
 obtain ⟨g, hg, e1, e2, e3, e4⟩ := h.ex
 rw [← e4]
 refine ⟨?_, ?_, ?_⟩
 ·rw [e1, Int.mul_ediv_cancel_left _ (by omega)]
 ·rw [e2, Int.mul_ediv_cancel_left _ (by omega)]
 ·rw [e3, Int.mul_ediv_cancel_left _ (by omega)]
theorem lnB_ex {r s : U2} (h : r ≠ s) : ∃ g : Int, 0 < g ∧ ∀ p : V3, g * ex (lnB r s) p * p.2.2 = sq2 p r - sq2 p s := by
 have hab : ¬ (2 * (s.1 - r.1) = 0 ∧ 2 * (s.2 - r.2) = 0) := fun q => h (Prod.ext (by omega) (by omega))
 have L := (isLn_of (c := s.1 * s.1 + s.2 * s.2 - r.1 * r.1 - r.2 * r.2) hab).1
 have E := isLn_eq L
 obtain ⟨g, hg, e1, e2, e3, e4⟩ := L.ex
 rw [E.1] at e1
 rw [E.2.1] at e2
 rw [E.2.2] at e3
 refine ⟨g, hg, fun p => ?_⟩
 have e : g * ex (lnB r s) p = 2 * (s.1 - r.1) * p.1 + 2 * (s.2 - r.2) * p.2.1 - (s.1 * s.1 + s.2 * s.2 - r.1 * r.1 - r.2 * r.2) * p.2.2 := by
  unfold ex lnB
  dsimp only
  generalize (2 * (s.1 - r.1)) / _ = A at e1 ⊢
  generalize (2 * (s.2 - r.2)) / _ = B at e2 ⊢
  generalize (s.1 * s.1 + s.2 * s.2 - r.1 * r.1 - r.2 * r.2) / _ = D at e3 ⊢
  rw [e1, e2, e3]
  grind
 rw [e]
 unfold sq2
 grind
theorem lnB_sgn {r s : U2} (h : r ≠ s) {p : V3} (hp : 0 < p.2.2) : (ex (lnB r s) p ≤ 0 ↔ sq2 p r ≤ sq2 p s) ∧ (ex (lnB r s) p < 0 ↔ sq2 p r < sq2 p s) ∧ (ex (lnB r s) p = 0 ↔ sq2 p r = sq2 p s) := by
 obtain ⟨g, hg, e⟩ := lnB_ex h
 have e := e p
 have q := pos_of (x := ex (lnB r s) p) (y := sq2 p r - sq2 p s) (s := g * p.2.2) (t := 1) (Int.mul_pos hg hp) (by decide) (by rw [Int.mul_one, ← e]; grind)
 omega
theorem lnB_raw {n : Nat} {a b c d : Int} (h1 : Bd n a) (h2 : Bd n b) (h3 : Bd n c) (h4 : Bd n d) : Bd (2 * n + 4) (2 * (c - a)) ∧ Bd (2 * n + 4) (c * c + d * d - a * a - b * b) := by
 have p1 : (2 : Nat) ^ (2 * n + 4) = 2 ^ (2 * n) * 16 := by rw [Nat.pow_add]
 have p2 : (2 : Nat) ^ n ≤ 2 ^ (2 * n) := Nat.pow_le_pow_right (by decide) (by omega)
 have sqb : ∀ {i : Int}, Bd n i → (i * i).natAbs < 2 ^ (2 * n) := fun {i} hi => by
  have := hi.mul hi
  unfold Bd at this
  rw [show 2 * n = n + n by omega]
  exact this
 have q1 := sqb h1
 have q2 := sqb h2
 have q3 := sqb h3
 have q4 := sqb h4
 unfold Bd at h1 h2 h3 h4 ⊢
 generalize (2 : Nat) ^ (2 * n + 4) = T at p1 ⊢
 generalize (2 : Nat) ^ (2 * n) = T1 at p1 p2 q1 q2 q3 q4
 generalize (2 : Nat) ^ n = T2 at p2 h1 h2 h3 h4
 generalize a * a = A at *
 generalize b * b = B at *
 generalize c * c = C at *
 generalize d * d = D at *
 constructor
 ·omega
 ·omega
theorem lnB_bd {r s : U2} {n : Nat} (h1 : Bd n r.1) (h2 : Bd n r.2) (h3 : Bd n s.1) (h4 : Bd n s.2) (h : r ≠ s) : Bd (2 * n + 4) (lnB r s).1 ∧ Bd (2 * n + 4) (lnB r s).2.1 ∧ Bd (2 * n + 4) (lnB r s).2.2 := by
 have hab : ¬ (2 * (s.1 - r.1) = 0 ∧ 2 * (s.2 - r.2) = 0) := fun q => h (Prod.ext (by omega) (by omega))
 have L := (isLn_of (c := s.1 * s.1 + s.2 * s.2 - r.1 * r.1 - r.2 * r.2) hab).1
 have E := isLn_eq L
 have la := L.la
 have lb := L.lb
 have lc := L.lc
 rw [E.1] at la
 rw [E.2.1] at lb
 rw [E.2.2] at lc
 have b1 := (lnB_raw h1 h2 h3 h4).1
 have b2 := (lnB_raw h2 h1 h4 h3).1
 have b3 := (lnB_raw h1 h2 h3 h4).2
 exact ⟨Nat.lt_of_le_of_lt la b1, Nat.lt_of_le_of_lt lb b2, Nat.lt_of_le_of_lt lc b3⟩
end MC
set_option Elab.async false
set_option linter.all false
set_option Elab.async false
set_option linter.all false
namespace MC
open MA L2
theorem list_best {α : Type} (κ : α → Int) : ∀ (l : List α), 0 < l.length → ∃ (k : Nat) (a : α), l[k]? = some a ∧ ∀ b ∈ l, κ b ≤ κ a
 | [], h => absurd h (Nat.lt_irrefl _)
 | [a], _ => ⟨0, a, rfl, fun b hb => by rw [List.mem_singleton] at hb; rw [hb]; exact Int.le_refl _⟩
 | a :: b :: l, _ => by
  obtain ⟨k, c, hk, hm⟩ := list_best κ (b :: l) (Nat.succ_pos _)
  by_cases h : κ c ≤ κ a
  ·refine ⟨0, a, rfl, fun d hd => ?_⟩
   rcases List.mem_cons.mp hd with rfl | hd
   ·exact Int.le_refl _
   ·exact Int.le_trans (hm d hd) h
  ·refine ⟨k + 1, c, hk, fun d hd => ?_⟩
   rcases List.mem_cons.mp hd with rfl | hd
   ·omega
   ·exact hm d hd
end MC
set_option Elab.async false
set_option linter.all false
namespace RG
noncomputable abbrev Pt := Rat × Rat
noncomputable def dq (p s : Pt) : Rat := (p.1 - s.1) * (p.1 - s.1) + (p.2 - s.2) * (p.2 - s.2)
theorem sq_nn (x : Rat) : 0 ≤ x * x := by
 rcases Rat.le_total (a := 0) (b := x) with h | h
 ·exact Rat.mul_nonneg h h
 ·have := Rat.mul_nonneg (a := -x) (b := -x) (by grind) (by grind)
  grind
theorem dq_nn (p s : Pt) : 0 ≤ dq p s := by
 unfold dq
 have h1 := sq_nn (p.1 - s.1)
 have h2 := sq_nn (p.2 - s.2)
 grind
theorem sq_zero {x : Rat} (h : x * x = 0) : x = 0 := by
 rcases Rat.mul_eq_zero.mp h with h | h <;> exact h
theorem dq_zero {p s : Pt} (h : dq p s ≤ 0) : p = s := by
 unfold dq at h
 have h1 := sq_nn (p.1 - s.1)
 have h2 := sq_nn (p.2 - s.2)
 have e1 := sq_zero (x := p.1 - s.1) (by grind)
 have e2 := sq_zero (x := p.2 - s.2) (by grind)
 exact Prod.ext (by grind) (by grind)
structure Held (a b c h : Pt) (R α β γ : Rat) : Prop where
 a0 : 0 ≤ α
 b0 : 0 ≤ β
 c0 : 0 ≤ γ
 pos : 0 < α + β + γ
 x : α * a.1 + β * b.1 + γ * c.1 = (α + β + γ) * h.1
 y : α * a.2 + β * b.2 + γ * c.2 = (α + β + γ) * h.2
 ia : dq h a ≤ R
 ib : dq h b ≤ R
 ic : dq h c ≤ R
 ea : α * (dq h a - R) = 0
 eb : β * (dq h b - R) = 0
 ec : γ * (dq h c - R) = 0
theorem Held.far {a b c h : Pt} {R α β γ : Rat} (H : Held a b c h R α β γ) (P : Pt) : R + dq P h ≤ dq P a ∨ R + dq P h ≤ dq P b ∨ R + dq P h ≤ dq P c := by
 have id : α * dq P a + β * dq P b + γ * dq P c = (α + β + γ) * (R + dq P h) := by
  have x := H.x
  have y := H.y
  have ea := H.ea
  have eb := H.eb
  have ec := H.ec
  unfold dq at *
  grind
 refine Classical.byContradiction fun z => ?_
 have za : dq P a < R + dq P h := by grind
 have zb : dq P b < R + dq P h := by grind
 have zc : dq P c < R + dq P h := by grind
 have ma := Rat.mul_nonneg H.a0 (show 0 ≤ R + dq P h - dq P a by grind)
 have mb := Rat.mul_nonneg H.b0 (show 0 ≤ R + dq P h - dq P b by grind)
 have mc := Rat.mul_nonneg H.c0 (show 0 ≤ R + dq P h - dq P c by grind)
 have pos := H.pos
 have e1 : α * (R + dq P h - dq P a) = 0 := by grind
 have e2 : β * (R + dq P h - dq P b) = 0 := by grind
 have e3 : γ * (R + dq P h - dq P c) = 0 := by grind
 have q1 := (Rat.mul_eq_zero.mp e1).resolve_right (by grind)
 have q2 := (Rat.mul_eq_zero.mp e2).resolve_right (by grind)
 have q3 := (Rat.mul_eq_zero.mp e3).resolve_right (by grind)
 grind
noncomputable def mid (a b : Pt) : Pt := ((a.1 + b.1) / 2, (a.2 + b.2) / 2)
noncomputable def ar2 (a b c : Pt) : Rat := (b.1 - a.1) * (c.2 - a.2) - (b.2 - a.2) * (c.1 - a.1)
noncomputable def Cand (a b c h : Pt) : Prop := h = mid a b ∨ h = mid b c ∨ h = mid c a ∨ (ar2 a b c ≠ 0 ∧ dq h a = dq h b ∧ dq h a = dq h c)
theorem mid_held (a b c : Pt) (hc : dq a c + dq b c ≤ dq a b) : Held a b c (mid a b) (dq a b / 4) 1 1 0 := by
 unfold mid
 refine ⟨by grind, by grind, by grind, by grind, by grind, by grind, ?_, ?_, ?_, ?_, ?_, by grind⟩
 all_goals (unfold dq at *; dsimp only at *; grind)
theorem cramer {E1 E2 u1 u2 w1 w2 : Rat} (t1 : E1 * u1 + E2 * u2 = 0) (t2 : E1 * w1 + E2 * w2 = 0) (D : u1 * w2 - u2 * w1 ≠ 0) : E1 = 0 ∧ E2 = 0 := by
 have z1 : (u1 * w2 - u2 * w1) * E1 = 0 := by grind
 have z2 : (u1 * w2 - u2 * w1) * E2 = 0 := by grind
 exact ⟨(Rat.mul_eq_zero.mp z1).resolve_left D, (Rat.mul_eq_zero.mp z2).resolve_left D⟩
theorem triple (a b c : Pt) : ∃ h R α β γ, Held a b c h R α β γ ∧ Cand a b c h := by
 by_cases h1 : dq a c + dq b c ≤ dq a b
 ·exact ⟨_, _, _, _, _, mid_held a b c h1, .inl rfl⟩
 by_cases h2 : dq b a + dq c a ≤ dq b c
 ·have H := mid_held b c a h2
  exact ⟨_, _, 0, 1, 1, ⟨by grind, by grind, by grind, by grind, by have := H.x; grind, by have := H.y; grind, H.ic, H.ia, H.ib, by grind, H.ea, H.eb⟩, .inr (.inl rfl)⟩
 by_cases h3 : dq c b + dq a b ≤ dq c a
 ·have H := mid_held c a b h3
  exact ⟨_, _, 1, 0, 1, ⟨by grind, by grind, by grind, by grind, by have := H.x; grind, by have := H.y; grind, H.ib, H.ic, H.ia, H.eb, by grind, H.ea⟩, .inr (.inr (.inl rfl))⟩
 have key : 4 * (ar2 a b c * ar2 a b c) = (dq a c + dq b c - dq a b) * (dq b a + dq c a - dq b c) + (dq b a + dq c a - dq b c) * (dq c b + dq a b - dq c a) + (dq c b + dq a b - dq c a) * (dq a c + dq b c - dq a b) := by
  unfold ar2 dq
  grind
 have pos : ar2 a b c ≠ 0 := fun z => by
  rw [z] at key
  have m1 := Rat.mul_pos (show 0 < dq a c + dq b c - dq a b by grind) (show 0 < dq b a + dq c a - dq b c by grind)
  have m2 := Rat.mul_pos (show 0 < dq b a + dq c a - dq b c by grind) (show 0 < dq c b + dq a b - dq c a by grind)
  have m3 := Rat.mul_pos (show 0 < dq c b + dq a b - dq c a by grind) (show 0 < dq a c + dq b c - dq a b by grind)
  grind
 have ex : ∃ h : Pt, 2 * ((b.1 - a.1) * (h.1 - a.1) + (b.2 - a.2) * (h.2 - a.2)) = dq a b ∧ 2 * ((c.1 - a.1) * (h.1 - a.1) + (c.2 - a.2) * (h.2 - a.2)) = dq a c := by
  refine ⟨(a.1 + ((c.2 - a.2) * dq a b - (b.2 - a.2) * dq a c) / (2 * ar2 a b c), a.2 + ((b.1 - a.1) * dq a c - (c.1 - a.1) * dq a b) / (2 * ar2 a b c)), ?_, ?_⟩
  ·dsimp only
   have e : ar2 a b c = (b.1 - a.1) * (c.2 - a.2) - (b.2 - a.2) * (c.1 - a.1) := rfl
   generalize ar2 a b c = D at *
   grind
  ·dsimp only
   have e : ar2 a b c = (b.1 - a.1) * (c.2 - a.2) - (b.2 - a.2) * (c.1 - a.1) := rfl
   generalize ar2 a b c = D at *
   grind
 obtain ⟨h, e1, e2⟩ := ex
 have ab : dq h a = dq h b := by unfold dq at *; grind
 have ac : dq h a = dq h c := by unfold dq at *; grind
 have s1 : dq a b = dq b a := by unfold dq; grind
 have s2 : dq b c = dq c b := by unfold dq; grind
 have s3 : dq a c = dq c a := by unfold dq; grind
 have pA : 0 < dq b c := by grind
 have pB : 0 < dq c a := by grind
 have pC : 0 < dq a b := by grind
 have mA := Rat.mul_pos pA (show 0 < dq c a + dq a b - dq b c by grind)
 have mB := Rat.mul_pos pB (show 0 < dq a b + dq b c - dq c a by grind)
 have mC := Rat.mul_pos pC (show 0 < dq b c + dq c a - dq a b by grind)
 have uw : 2 * ((b.1 - a.1) * (c.1 - a.1) + (b.2 - a.2) * (c.2 - a.2)) = dq c a + dq a b - dq b c := by unfold dq; grind
 have uu : (b.1 - a.1) * (b.1 - a.1) + (b.2 - a.2) * (b.2 - a.2) = dq a b := by unfold dq; grind
 have ww : (c.1 - a.1) * (c.1 - a.1) + (c.2 - a.2) * (c.2 - a.2) = dq c a := by unfold dq; grind
 have D0 : (b.1 - a.1) * (c.2 - a.2) - (b.2 - a.2) * (c.1 - a.1) ≠ 0 := pos
 rw [s3] at e2
 clear key h1 h2 h3
 refine ⟨h, dq h a, _, _, _, ⟨Rat.le_of_lt mA, Rat.le_of_lt mB, Rat.le_of_lt mC, by grind, ?_, ?_, by grind, by grind, by grind, by grind, by grind, by grind⟩, .inr (.inr (.inr ⟨pos, ab, ac⟩))⟩
 all_goals (
  clear pA pB pC mA mB mC s1 s2 s3 ab ac pos
  generalize dq b c = A at *
  generalize dq c a = B at *
  generalize dq a b = C at *
  generalize eu1 : b.1 - a.1 = u1 at *
  generalize eu2 : b.2 - a.2 = u2 at *
  generalize ew1 : c.1 - a.1 = w1 at *
  generalize ew2 : c.2 - a.2 = w2 at *
  generalize ek1 : h.1 - a.1 = k1 at *
  generalize ek2 : h.2 - a.2 = k2 at *
  have t1 : (B * (C + A - B) * u1 + C * (A + B - C) * w1 - (A * (B + C - A) + B * (C + A - B) + C * (A + B - C)) * k1) * u1 + (B * (C + A - B) * u2 + C * (A + B - C) * w2 - (A * (B + C - A) + B * (C + A - B) + C * (A + B - C)) * k2) * u2 = 0 := by grind
  have t2 : (B * (C + A - B) * u1 + C * (A + B - C) * w1 - (A * (B + C - A) + B * (C + A - B) + C * (A + B - C)) * k1) * w1 + (B * (C + A - B) * u2 + C * (A + B - C) * w2 - (A * (B + C - A) + B * (C + A - B) + C * (A + B - C)) * k2) * w2 = 0 := by grind
  obtain ⟨y1, y2⟩ := cramer t1 t2 D0
  grind)
theorem conv {p1 p2 p3 p4 q t : Pt} {m1 m2 m3 m4 R : Rat} (h1 : 0 ≤ m1) (h2 : 0 ≤ m2) (h3 : 0 ≤ m3) (h4 : 0 ≤ m4) (hp : 0 < m1 + m2 + m3 + m4) (x : m1 * p1.1 + m2 * p2.1 + m3 * p3.1 + m4 * p4.1 = (m1 + m2 + m3 + m4) * q.1) (y : m1 * p1.2 + m2 * p2.2 + m3 * p3.2 + m4 * p4.2 = (m1 + m2 + m3 + m4) * q.2)
  (i1 : m1 * (R - dq p1 t) ≥ 0) (i2 : m2 * (R - dq p2 t) ≥ 0) (i3 : m3 * (R - dq p3 t) ≥ 0) (i4 : m4 * (R - dq p4 t) ≥ 0) : dq q t ≤ R := by
 have id : m1 * dq p1 t + m2 * dq p2 t + m3 * dq p3 t + m4 * dq p4 t = (m1 + m2 + m3 + m4) * dq q t + (m1 * dq p1 q + m2 * dq p2 q + m3 * dq p3 q + m4 * dq p4 q) := by
  unfold dq
  grind
 have k1 := Rat.mul_nonneg h1 (dq_nn p1 q)
 have k2 := Rat.mul_nonneg h2 (dq_nn p2 q)
 have k3 := Rat.mul_nonneg h3 (dq_nn p3 q)
 have k4 := Rat.mul_nonneg h4 (dq_nn p4 q)
 refine Classical.byContradiction fun z => ?_
 have m := Rat.mul_pos hp (show 0 < dq q t - R by grind)
 grind
theorem radon (p1 p2 p3 p4 : Pt) : ∃ l1 l2 l3 l4 : Rat, ¬ (l1 = 0 ∧ l2 = 0 ∧ l3 = 0 ∧ l4 = 0) ∧ l1 + l2 + l3 + l4 = 0 ∧ l1 * p1.1 + l2 * p2.1 + l3 * p3.1 + l4 * p4.1 = 0 ∧ l1 * p1.2 + l2 * p2.2 + l3 * p3.2 + l4 * p4.2 = 0 := by
 by_cases d : (p1.1 - p4.1) * (p2.2 - p4.2) - (p1.2 - p4.2) * (p2.1 - p4.1) = 0
 ·by_cases v : p1.1 - p4.1 = 0 ∧ p1.2 - p4.2 = 0
  ·exact ⟨1, 0, 0, -1, by grind, by grind, by grind, by grind⟩
  ·refine ⟨-((p1.1 - p4.1) * (p2.1 - p4.1) + (p1.2 - p4.2) * (p2.2 - p4.2)), dq p1 p4, 0, (p1.1 - p4.1) * (p2.1 - p4.1) + (p1.2 - p4.2) * (p2.2 - p4.2) - dq p1 p4, fun q => v ?_, by grind, ?_, ?_⟩
   ·have := dq_zero (p := p1) (s := p4) (by grind)
    rw [this]
    grind
   ·unfold dq; grind
   ·unfold dq; grind
 ·refine ⟨(p2.1 - p4.1) * (p3.2 - p4.2) - (p2.2 - p4.2) * (p3.1 - p4.1), (p3.1 - p4.1) * (p1.2 - p4.2) - (p3.2 - p4.2) * (p1.1 - p4.1), (p1.1 - p4.1) * (p2.2 - p4.2) - (p1.2 - p4.2) * (p2.1 - p4.1), -(((p2.1 - p4.1) * (p3.2 - p4.2) - (p2.2 - p4.2) * (p3.1 - p4.1)) + ((p3.1 - p4.1) * (p1.2 - p4.2) - (p3.2 - p4.2) * (p1.1 - p4.1)) + ((p1.1 - p4.1) * (p2.2 - p4.2) - (p1.2 - p4.2) * (p2.1 - p4.1))), fun q => d q.2.2.1, by grind, by grind, by grind⟩
theorem dvc {L a : Rat} (h : 0 < L) : L * (a / L) = a := by grind
noncomputable def pp (x : Rat) : Rat := if 0 ≤ x then x else 0
noncomputable def pn (x : Rat) : Rat := if 0 ≤ x then 0 else -x
theorem pp_pn (x : Rat) : x = pp x - pn x ∧ 0 ≤ pp x ∧ 0 ≤ pn x ∧ (pp x = 0 ∨ pn x = 0) := by
 unfold pp pn
 split <;> grind
theorem helly {p1 p2 p3 p4 t1 t2 t3 t4 : Pt} {R : Rat} (a2 : dq p1 t2 ≤ R) (a3 : dq p1 t3 ≤ R) (a4 : dq p1 t4 ≤ R) (b1 : dq p2 t1 ≤ R) (b3 : dq p2 t3 ≤ R) (b4 : dq p2 t4 ≤ R) (c1 : dq p3 t1 ≤ R) (c2 : dq p3 t2 ≤ R) (c4 : dq p3 t4 ≤ R) (d1 : dq p4 t1 ≤ R) (d2 : dq p4 t2 ≤ R) (d3 : dq p4 t3 ≤ R) :
  ∃ q : Pt, dq q t1 ≤ R ∧ dq q t2 ≤ R ∧ dq q t3 ≤ R ∧ dq q t4 ≤ R := by
 obtain ⟨l1, l2, l3, l4, nz, s, x, y⟩ := radon p1 p2 p3 p4
 obtain ⟨e1, u1, v1, o1⟩ := pp_pn l1
 obtain ⟨e2, u2, v2, o2⟩ := pp_pn l2
 obtain ⟨e3, u3, v3, o3⟩ := pp_pn l3
 obtain ⟨e4, u4, v4, o4⟩ := pp_pn l4
 generalize pp l1 = m1 at *
 generalize pp l2 = m2 at *
 generalize pp l3 = m3 at *
 generalize pp l4 = m4 at *
 generalize pn l1 = n1 at *
 generalize pn l2 = n2 at *
 generalize pn l3 = n3 at *
 generalize pn l4 = n4 at *
 have hs : m1 + m2 + m3 + m4 = n1 + n2 + n3 + n4 := by grind
 have hp : 0 < m1 + m2 + m3 + m4 := by
  refine Classical.byContradiction fun z => nz ?_
  have z1 : m1 = 0 := by grind
  have z2 : m2 = 0 := by grind
  have z3 : m3 = 0 := by grind
  have z4 : m4 = 0 := by grind
  have y1 : n1 = 0 := by grind
  have y2 : n2 = 0 := by grind
  have y3 : n3 = 0 := by grind
  have y4 : n4 = 0 := by grind
  grind
 obtain ⟨q, qx, qy⟩ : ∃ q : Pt, m1 * p1.1 + m2 * p2.1 + m3 * p3.1 + m4 * p4.1 = (m1 + m2 + m3 + m4) * q.1 ∧ m1 * p1.2 + m2 * p2.2 + m3 * p3.2 + m4 * p4.2 = (m1 + m2 + m3 + m4) * q.2 := by
  refine ⟨((m1 * p1.1 + m2 * p2.1 + m3 * p3.1 + m4 * p4.1) / (m1 + m2 + m3 + m4), (m1 * p1.2 + m2 * p2.2 + m3 * p3.2 + m4 * p4.2) / (m1 + m2 + m3 + m4)), ?_, ?_⟩
  all_goals (dsimp only; exact (dvc hp).symm)
 have qx' : n1 * p1.1 + n2 * p2.1 + n3 * p3.1 + n4 * p4.1 = (n1 + n2 + n3 + n4) * q.1 := by rw [← hs]; grind
 have qy' : n1 * p1.2 + n2 * p2.2 + n3 * p3.2 + n4 * p4.2 = (n1 + n2 + n3 + n4) * q.2 := by rw [← hs]; grind
 have nn : ∀ {m d : Rat}, 0 ≤ m → d ≤ R → m * (R - d) ≥ 0 := fun h1 h2 => Rat.mul_nonneg h1 (by grind)
 have zz : ∀ {m d : Rat}, m = 0 → m * (R - d) ≥ 0 := fun h1 => by rw [h1]; grind
 have hp' : 0 < n1 + n2 + n3 + n4 := by rw [← hs]; exact hp
 refine ⟨q, ?_, ?_, ?_, ?_⟩
 ·rcases o1 with o | o
  ·exact conv u1 u2 u3 u4 hp qx qy (zz o) (nn u2 b1) (nn u3 c1) (nn u4 d1)
  ·exact conv v1 v2 v3 v4 hp' qx' qy' (zz o) (nn v2 b1) (nn v3 c1) (nn v4 d1)
 ·rcases o2 with o | o
  ·exact conv u1 u2 u3 u4 hp qx qy (nn u1 a2) (zz o) (nn u3 c2) (nn u4 d2)
  ·exact conv v1 v2 v3 v4 hp' qx' qy' (nn v1 a2) (zz o) (nn v3 c2) (nn v4 d2)
 ·rcases o3 with o | o
  ·exact conv u1 u2 u3 u4 hp qx qy (nn u1 a3) (nn u2 b3) (zz o) (nn u4 d3)
  ·exact conv v1 v2 v3 v4 hp' qx' qy' (nn v1 a3) (nn v2 b3) (zz o) (nn v4 d3)
 ·rcases o4 with o | o
  ·exact conv u1 u2 u3 u4 hp qx qy (nn u1 a4) (nn u2 b4) (nn u3 c4) (zz o)
  ·exact conv v1 v2 v3 v4 hp' qx' qy' (nn v1 a4) (nn v2 b4) (nn v3 c4) (zz o)
theorem best {α : Type} (κ : α → Rat) : ∀ (l : List α), l ≠ [] → ∃ a ∈ l, ∀ b ∈ l, κ b ≤ κ a
 | [], h => absurd rfl h
 | [a], _ => ⟨a, by simp, fun b hb => by rw [List.mem_singleton] at hb; rw [hb]; grind⟩
 | a :: b :: l, _ => by
  obtain ⟨c, hc, hm⟩ := best κ (b :: l) (by simp)
  by_cases h : κ c ≤ κ a
  ·refine ⟨a, by simp, fun d hd => ?_⟩
   rcases List.mem_cons.mp hd with rfl | hd
   ·grind
   ·exact Rat.le_trans (hm d hd) h
  ·refine ⟨c, List.mem_cons_of_mem _ hc, fun d hd => ?_⟩
   rcases List.mem_cons.mp hd with rfl | hd
   ·grind
   ·exact hm d hd
theorem least (S : List Pt) (hS : S ≠ []) : ∃ a ∈ S, ∃ b ∈ S, ∃ c ∈ S, ∃ h R α β γ, Held a b c h R α β γ ∧ Cand a b c h ∧ ∀ s ∈ S, dq h s ≤ R := by
 have ch : ∀ t : Pt × Pt × Pt, ∃ z : Pt × Rat × Rat × Rat × Rat, Held t.1 t.2.1 t.2.2 z.1 z.2.1 z.2.2.1 z.2.2.2.1 z.2.2.2.2 ∧ Cand t.1 t.2.1 t.2.2 z.1 := fun t => by
  obtain ⟨h, R, α, β, γ, H, C⟩ := triple t.1 t.2.1 t.2.2
  exact ⟨(h, R, α, β, γ), H, C⟩
 obtain ⟨f, hf⟩ := Classical.axiomOfChoice ch
 obtain ⟨⟨a, b, c⟩, hm, hb⟩ := best (fun t => (f t).2.1) (S.flatMap fun a => S.flatMap fun b => S.map fun c => (a, b, c)) (by
  obtain ⟨s, r, rfl⟩ := List.exists_cons_of_ne_nil hS
  simp)
 have mem : ∀ {a b c : Pt}, (a, b, c) ∈ (S.flatMap fun a => S.flatMap fun b => S.map fun c => (a, b, c)) ↔ a ∈ S ∧ b ∈ S ∧ c ∈ S := by
  intro a b c
  constructor
  ·intro h
   obtain ⟨a', h1, h⟩ := List.mem_flatMap.mp h
   obtain ⟨b', h2, h⟩ := List.mem_flatMap.mp h
   obtain ⟨c', h3, e⟩ := List.mem_map.mp h
   cases e
   exact ⟨h1, h2, h3⟩
  ·rintro ⟨h1, h2, h3⟩
   exact List.mem_flatMap.mpr ⟨a, h1, List.mem_flatMap.mpr ⟨b, h2, List.mem_map.mpr ⟨c, h3, rfl⟩⟩⟩
 obtain ⟨ha, hb', hc⟩ := mem.mp hm
 obtain ⟨H, C⟩ := hf (a, b, c)
 dsimp only at H C
 refine ⟨a, ha, b, hb', c, hc, _, _, _, _, _, H, C, fun s hs => ?_⟩
 refine Classical.byContradiction fun z => ?_
 obtain ⟨Ha, _⟩ := hf (b, c, s)
 obtain ⟨Hb, _⟩ := hf (a, c, s)
 obtain ⟨Hc, _⟩ := hf (a, b, s)
 have ra := hb (b, c, s) (mem.mpr ⟨hb', hc, hs⟩)
 have rb := hb (a, c, s) (mem.mpr ⟨ha, hc, hs⟩)
 have rc := hb (a, b, s) (mem.mpr ⟨ha, hb', hs⟩)
 dsimp only at Ha Hb Hc ra rb rc
 obtain ⟨q, q1, q2, q3, q4⟩ := helly (p1 := (f (b, c, s)).1) (p2 := (f (a, c, s)).1) (p3 := (f (a, b, s)).1) (p4 := (f (a, b, c)).1) (t1 := a) (t2 := b) (t3 := c) (t4 := s) (R := (f (a, b, c)).2.1)
  (Rat.le_trans Ha.ia ra) (Rat.le_trans Ha.ib ra) (Rat.le_trans Ha.ic ra) (Rat.le_trans Hb.ia rb) (Rat.le_trans Hb.ib rb) (Rat.le_trans Hb.ic rb) (Rat.le_trans Hc.ia rc) (Rat.le_trans Hc.ib rc) (Rat.le_trans Hc.ic rc) H.ia H.ib H.ic
 have e : q = (f (a, b, c)).1 := dq_zero (by rcases H.far q with y | y | y <;> grind)
 rw [e] at q4
 exact z q4
end RG
set_option Elab.async false
set_option linter.all false
namespace RG
noncomputable def Ring (S : List Pt) (h : Pt) (R : Rat) : Prop := (∃ a ∈ S, ∃ b ∈ S, ∃ c ∈ S, ∃ α β γ, Held a b c h R α β γ) ∧ ∀ s ∈ S, dq h s ≤ R
theorem Ring.far {S : List Pt} {h : Pt} {R : Rat} (H : Ring S h R) (P : Pt) : ∃ t ∈ S, R + dq P h ≤ dq P t := by
 obtain ⟨⟨a, ha, b, hb, c, hc, α, β, γ, K⟩, _⟩ := H
 rcases K.far P with q | q | q
 ·exact ⟨a, ha, q⟩
 ·exact ⟨b, hb, q⟩
 ·exact ⟨c, hc, q⟩
theorem Ring.only {S : List Pt} {h P : Pt} {R : Rat} (H : Ring S h R) (hP : ∀ s ∈ S, dq P s ≤ R) : P = h := by
 obtain ⟨t, ht, q⟩ := H.far P
 have := hP t ht
 exact dq_zero (by grind)
theorem Ring.reach {S : List Pt} {h : Pt} {R : Rat} (H : Ring S h R) : ∃ t ∈ S, dq h t = R := by
 obtain ⟨t, ht, q⟩ := H.far h
 have q2 := H.2 t ht
 have z : dq h h = 0 := by unfold dq; grind
 exact ⟨t, ht, by grind⟩
theorem Held.mid_ne {a b c h : Pt} {R α β γ : Rat} (H : Held a b c h R α β γ) (hR : R ≠ 0) (e : h = mid a b) : a ≠ b := fun z => by
 subst z
 have ha : h = a := by rw [e]; unfold mid; exact Prod.ext (by grind) (by grind)
 have z0 : dq h a = 0 := by rw [ha]; unfold dq; grind
 have ea := H.ea
 have eb := H.eb
 have ec := H.ec
 rw [z0] at ea eb
 have a0 : α = 0 := (Rat.mul_eq_zero.mp ea).resolve_right (by grind)
 have b0 : β = 0 := (Rat.mul_eq_zero.mp eb).resolve_right (by grind)
 have x := H.x
 have y := H.y
 have pos := H.pos
 rw [a0, b0] at x y pos
 have g0 : γ ≠ 0 := by grind
 have x1 : γ * (c.1 - h.1) = 0 := by grind
 have y1 : γ * (c.2 - h.2) = 0 := by grind
 have x2 := (Rat.mul_eq_zero.mp x1).resolve_left g0
 have y2 := (Rat.mul_eq_zero.mp y1).resolve_left g0
 have z2 : dq h c = 0 := by unfold dq; grind
 rw [z2] at ec
 exact hR (by have := (Rat.mul_eq_zero.mp ec).resolve_left g0; grind)
theorem Held.turn {a b c h : Pt} {R α β γ : Rat} (H : Held a b c h R α β γ) : Held b c a h R β γ α :=
 ⟨H.b0, H.c0, H.a0, by have := H.pos; grind, by have := H.x; grind, by have := H.y; grind, H.ib, H.ic, H.ia, H.eb, H.ec, H.ea⟩
theorem circ_uniq {a b c h h' : Pt} (n : ar2 a b c ≠ 0) (e1 : dq h a = dq h b) (e2 : dq h a = dq h c) (f1 : dq h' a = dq h' b) (f2 : dq h' a = dq h' c) : h = h' := by
 have t1 : (h.1 - h'.1) * (b.1 - a.1) + (h.2 - h'.2) * (b.2 - a.2) = 0 := by unfold dq at *; grind
 have t2 : (h.1 - h'.1) * (c.1 - a.1) + (h.2 - h'.2) * (c.2 - a.2) = 0 := by unfold dq at *; grind
 obtain ⟨z1, z2⟩ := cramer t1 t2 n
 exact Prod.ext (by grind) (by grind)
theorem ring_of {S : List Pt} (hS : S ≠ []) {Cs : Pt → Prop} (h1 : ∀ a ∈ S, (∀ b ∈ S, b = a) → Cs a) (h2 : ∀ a ∈ S, ∀ b ∈ S, a ≠ b → Cs (mid a b)) (h3 : ∀ a ∈ S, ∀ b ∈ S, ∀ c ∈ S, ar2 a b c ≠ 0 → ∃ h, Cs h ∧ dq h a = dq h b ∧ dq h a = dq h c) : ∃ h R, Cs h ∧ Ring S h R := by
 obtain ⟨a, ha, b, hb, c, hc, h, R, α, β, γ, H, C, w⟩ := least S hS
 have ring : Ring S h R := ⟨⟨a, ha, b, hb, c, hc, α, β, γ, H⟩, w⟩
 refine ⟨h, R, ?_, ring⟩
 by_cases hR : R = 0
 ·subst hR
  have all : ∀ s ∈ S, h = s := fun s hs => dq_zero (w s hs)
  have e := all a ha
  rw [e]
  exact h1 a ha fun b hb => by rw [← e, all b hb]
 ·rcases C with e | e | e | ⟨n, e1, e2⟩
  ·rw [e]; exact h2 a ha b hb (H.mid_ne hR e)
  ·rw [e]; exact h2 b hb c hc (H.turn.mid_ne hR e)
  ·rw [e]; exact h2 c hc a ha (H.turn.turn.mid_ne hR e)
  ·obtain ⟨h', hC, f1, f2⟩ := h3 a ha b hb c hc n
   rw [circ_uniq n e1 e2 f1 f2]
   exact hC
end RG
set_option Elab.async false
set_option linter.all false
namespace RG
theorem held2 {a b h : Pt} {R α β : Rat} (ha : 0 ≤ α) (hb : 0 ≤ β) (pos : 0 < α + β) (x : α * a.1 + β * b.1 = (α + β) * h.1) (y : α * a.2 + β * b.2 = (α + β) * h.2) (ea : α * (dq h a - R) = 0) (eb : β * (dq h b - R) = 0) : ∃ p, (p = a ∨ p = b) ∧ ∃ q, (q = a ∨ q = b) ∧ dq h p = R ∧ dq h q = R ∧ p.1 + q.1 = 2 * h.1 ∧ p.2 + q.2 = 2 * h.2 := by
 by_cases za : α = 0
 ·subst za
  have nb : β ≠ 0 := by grind
  have x1 : β * (b.1 - h.1) = 0 := by grind
  have y1 : β * (b.2 - h.2) = 0 := by grind
  have x2 := (Rat.mul_eq_zero.mp x1).resolve_left nb
  have y2 := (Rat.mul_eq_zero.mp y1).resolve_left nb
  have e2 := (Rat.mul_eq_zero.mp eb).resolve_left nb
  exact ⟨b, .inr rfl, b, .inr rfl, by grind, by grind, by grind, by grind⟩
 by_cases zb : β = 0
 ·subst zb
  have x1 : α * (a.1 - h.1) = 0 := by grind
  have y1 : α * (a.2 - h.2) = 0 := by grind
  have x2 := (Rat.mul_eq_zero.mp x1).resolve_left za
  have y2 := (Rat.mul_eq_zero.mp y1).resolve_left za
  have e2 := (Rat.mul_eq_zero.mp ea).resolve_left za
  exact ⟨a, .inl rfl, a, .inl rfl, by grind, by grind, by grind, by grind⟩
 have e1 := (Rat.mul_eq_zero.mp ea).resolve_left za
 have e2 := (Rat.mul_eq_zero.mp eb).resolve_left zb
 have d1 : dq h a = R := by grind
 have d2 : dq h b = R := by grind
 have t1 : α * (a.1 - h.1) = - (β * (b.1 - h.1)) := by grind
 have t2 : α * (a.2 - h.2) = - (β * (b.2 - h.2)) := by grind
 have s1 : α * (a.1 - h.1) * (α * (a.1 - h.1)) = β * (b.1 - h.1) * (β * (b.1 - h.1)) := by rw [t1]; grind
 have s2 : α * (a.2 - h.2) * (α * (a.2 - h.2)) = β * (b.2 - h.2) * (β * (b.2 - h.2)) := by rw [t2]; grind
 have sq : α * α * dq h a = β * β * dq h b := by unfold dq; grind
 rw [d1, d2] at sq
 have f : (α + β) * ((α - β) * R) = 0 := by grind
 have f2 := (Rat.mul_eq_zero.mp f).resolve_left (by grind)
 rcases Rat.mul_eq_zero.mp f2 with g | g
 ·have eab : α = β := by grind
  subst eab
  have x1 : α * (a.1 + b.1 - 2 * h.1) = 0 := by grind
  have y1 : α * (a.2 + b.2 - 2 * h.2) = 0 := by grind
  have x2 := (Rat.mul_eq_zero.mp x1).resolve_left za
  have y2 := (Rat.mul_eq_zero.mp y1).resolve_left za
  exact ⟨a, .inl rfl, b, .inr rfl, d1, d2, by grind, by grind⟩
 ·have z := dq_zero (p := h) (s := a) (by grind)
  exact ⟨a, .inl rfl, a, .inl rfl, d1, d1, by rw [z]; grind, by rw [z]; grind⟩
theorem line_two {a b c h : Pt} (e1 : dq h a = dq h b) (e2 : dq h a = dq h c) (z : ar2 a b c = 0) : a = b ∨ a = c ∨ b = c := by
 have c0 : (b.1 - a.1) * (c.2 - a.2) = (b.2 - a.2) * (c.1 - a.1) := by unfold ar2 at z; grind
 have p0 : (b.1 - a.1) * (2 * (a.1 - h.1) + (b.1 - a.1)) + (b.2 - a.2) * (2 * (a.2 - h.2) + (b.2 - a.2)) = 0 := by unfold dq at e1; grind
 have q0 : (c.1 - a.1) * (2 * (a.1 - h.1) + (c.1 - a.1)) + (c.2 - a.2) * (2 * (a.2 - h.2) + (c.2 - a.2)) = 0 := by unfold dq at e2; grind
 have ext : ∀ {p q : Pt}, (q.1 - p.1) * (q.1 - p.1) + (q.2 - p.2) * (q.2 - p.2) = 0 → p = q := fun {p q} w => dq_zero (by unfold dq; grind)
 generalize g1 : b.1 - a.1 = p1 at *
 generalize g2 : b.2 - a.2 = p2 at *
 generalize g3 : c.1 - a.1 = q1 at *
 generalize g4 : c.2 - a.2 = q2 at *
 generalize 2 * (a.1 - h.1) = u1 at *
 generalize 2 * (a.2 - h.2) = u2 at *
 by_cases n1 : p1 * p1 + p2 * p2 = 0
 ·exact .inl (ext (by rw [g1, g2]; exact n1))
 by_cases n2 : q1 * q1 + q2 * q2 = 0
 ·exact .inr (.inl (ext (by rw [g3, g4]; exact n2)))
 have pu : p1 * u1 + p2 * u2 = - (p1 * p1 + p2 * p2) := by grind
 have qu : q1 * u1 + q2 * u2 = - (q1 * q1 + q2 * q2) := by grind
 have k1 : (p1 * p1 + p2 * p2) * q1 = (p1 * q1 + p2 * q2) * p1 := by grind
 have k2 : (p1 * p1 + p2 * p2) * q2 = (p1 * q1 + p2 * q2) * p2 := by grind
 have m1 : (p1 * p1 + p2 * p2) * (q1 * u1 + q2 * u2) = (p1 * q1 + p2 * q2) * (p1 * u1 + p2 * u2) := by
  have a1 : (p1 * p1 + p2 * p2) * (q1 * u1 + q2 * u2) = (p1 * p1 + p2 * p2) * q1 * u1 + (p1 * p1 + p2 * p2) * q2 * u2 := by grind
  rw [a1, k1, k2]
  grind
 rw [pu, qu] at m1
 have r1 : (p1 * p1 + p2 * p2) * (q1 * q1 + q2 * q2 - (p1 * q1 + p2 * q2)) = 0 := by grind
 have r2 := (Rat.mul_eq_zero.mp r1).resolve_left n1
 have l1 : (q1 * q1 + q2 * q2) * p1 = (p1 * q1 + p2 * q2) * q1 := by grind
 have l2 : (q1 * q1 + q2 * q2) * p2 = (p1 * q1 + p2 * q2) * q2 := by grind
 have m2 : (q1 * q1 + q2 * q2) * (p1 * u1 + p2 * u2) = (p1 * q1 + p2 * q2) * (q1 * u1 + q2 * u2) := by
  have a1 : (q1 * q1 + q2 * q2) * (p1 * u1 + p2 * u2) = (q1 * q1 + q2 * q2) * p1 * u1 + (q1 * q1 + q2 * q2) * p2 * u2 := by grind
  rw [a1, l1, l2]
  grind
 rw [pu, qu] at m2
 have r3 : (q1 * q1 + q2 * q2) * (p1 * p1 + p2 * p2 - (p1 * q1 + p2 * q2)) = 0 := by grind
 have r4 := (Rat.mul_eq_zero.mp r3).resolve_left n2
 refine .inr (.inr (ext ?_))
 have d1 : c.1 - b.1 = q1 - p1 := by grind
 have d2 : c.2 - b.2 = q2 - p2 := by grind
 rw [d1, d2]
 grind
theorem Ring.held {S : List Pt} {h : Pt} {R : Rat} (H : Ring S h R) : (∃ a ∈ S, ∃ b ∈ S, dq h a = R ∧ dq h b = R ∧ a.1 + b.1 = 2 * h.1 ∧ a.2 + b.2 = 2 * h.2) ∨ ∃ a ∈ S, ∃ b ∈ S, ∃ c ∈ S, dq h a = R ∧ dq h b = R ∧ dq h c = R ∧ ((0 < ar2 a b h ∧ 0 < ar2 b c h ∧ 0 < ar2 c a h) ∨ (ar2 a b h < 0 ∧ ar2 b c h < 0 ∧ ar2 c a h < 0)) := by
 obtain ⟨⟨a, ha, b, hb, c, hc, α, β, γ, K⟩, _⟩ := H
 have pos := K.pos
 have a0 := K.a0
 have b0 := K.b0
 have c0 := K.c0
 have x := K.x
 have y := K.y
 have ea := K.ea
 have eb := K.eb
 have ec := K.ec
 have two : ∀ {p q : Pt} {α β : Rat}, p ∈ S → q ∈ S → 0 ≤ α → 0 ≤ β → 0 < α + β → α * p.1 + β * q.1 = (α + β) * h.1 → α * p.2 + β * q.2 = (α + β) * h.2 → α * (dq h p - R) = 0 → β * (dq h q - R) = 0 → ∃ a ∈ S, ∃ b ∈ S, dq h a = R ∧ dq h b = R ∧ a.1 + b.1 = 2 * h.1 ∧ a.2 + b.2 = 2 * h.2 := fun hp hq a0 b0 ps x y ea eb => by
  obtain ⟨u, hu, v, hv, r⟩ := held2 a0 b0 ps x y ea eb
  refine ⟨u, ?_, v, ?_, r⟩
  ·rcases hu with e | e <;> rw [e] <;> assumption
  ·rcases hv with e | e <;> rw [e] <;> assumption
 by_cases za : α = 0
 ·subst za
  exact .inl (two hb hc b0 c0 (by grind) (by grind) (by grind) eb ec)
 by_cases zb : β = 0
 ·subst zb
  exact .inl (two ha hc a0 c0 (by grind) (by grind) (by grind) ea ec)
 by_cases zc : γ = 0
 ·subst zc
  exact .inl (two ha hb a0 b0 (by grind) (by grind) (by grind) ea eb)
 have d1 : dq h a = R := by have := (Rat.mul_eq_zero.mp ea).resolve_left za; grind
 have d2 : dq h b = R := by have := (Rat.mul_eq_zero.mp eb).resolve_left zb; grind
 have d3 : dq h c = R := by have := (Rat.mul_eq_zero.mp ec).resolve_left zc; grind
 by_cases z : ar2 a b c = 0
 ·rcases line_two (d1.trans d2.symm) (d1.trans d3.symm) z with e | e | e
  ·subst e
   exact .inl (two (α := α + β) ha hc (by grind) c0 (by grind) (by grind) (by grind) (by grind) ec)
  ·subst e
   exact .inl (two (α := α + γ) ha hb (by grind) b0 (by grind) (by grind) (by grind) (by grind) eb)
  ·subst e
   exact .inl (two (β := β + γ) ha hb a0 (by grind) (by grind) (by grind) (by grind) ea (by grind))
 have n1 : (α + β + γ) * ar2 a b h = γ * ar2 a b c := by unfold ar2; grind
 have n2 : (α + β + γ) * ar2 b c h = α * ar2 a b c := by unfold ar2; grind
 have n3 : (α + β + γ) * ar2 c a h = β * ar2 a b c := by unfold ar2; grind
 have up : ∀ {u v w D : Rat}, 0 < u → 0 < v → u * w = v * D → (0 < D → 0 < w) ∧ (D < 0 → w < 0) := fun {u v w D} hu hv e => by
  constructor
  ·intro hD
   refine Classical.byContradiction fun k => ?_
   have m1 := Rat.mul_pos hv hD
   have m2 := Rat.mul_nonneg (a := u) (b := -w) (by grind) (by grind)
   grind
  ·intro hD
   refine Classical.byContradiction fun k => ?_
   have m1 := Rat.mul_pos (b := -D) hv (by grind)
   have m2 := Rat.mul_nonneg (a := u) (b := w) (by grind) (by grind)
   grind
 have ap : 0 < α := by grind
 have bp : 0 < β := by grind
 have cp : 0 < γ := by grind
 refine .inr ⟨a, ha, b, hb, c, hc, d1, d2, d3, ?_⟩
 by_cases D : 0 < ar2 a b c
 ·exact .inl ⟨(up pos cp n1).1 D, (up pos ap n2).1 D, (up pos bp n3).1 D⟩
 ·have D' : ar2 a b c < 0 := by grind
  exact .inr ⟨(up pos cp n1).2 D', (up pos ap n2).2 D', (up pos bp n3).2 D'⟩
end RG
section
open PySem L2 MA PyProof.Rows MC
local macro_rules | `(tactic| o_head ⟨$a0, $a1, $a2⟩) => `(tactic| simp only [tSeq, List.cons_inj_right, tNext, tIfS, tOp, tUn, rI, rI0, rU, tVar, tC, tAsg, gName, tRet, tDrop, tCall, tCons, tNil, tCB, tTup, tLst, ixF, tPar, tNot, tAnd, tOr, tB, tNotV, tAndV, List.append_nil, List.getElem?_cons_zero, List.getElem?_cons_succ, List.set_cons_zero, List.set_cons_succ, Option.some.injEq, V.int.injEq, V.bl.injEq, V.ref.injEq, exists_eq_left', exists_eq_left, exists_eq_right, exists_and_left, exists_and_right, and_true, true_and, and_assoc, List.cons.injEq, optK_some, seqOf_l, seqOf_t, tYes, tNotN, tML, tML0, appR, clrR, catF, listF, lenF, slF, tSl, tPart, tNoPart, tyN, isiF, isiT_1, isiT_2, isiT_3, isiT_4, isiT_5, isiT_6, isiT_7, lstOf_l, tup3_some, tup2_some, Option.isSome_some, List.dropLast, List.getLast?, L2.stLC, frV, List.map_cons, List.map_nil, List.replicate_succ, List.replicate_zero, List.cons_append, List.nil_append, List.drop_succ_cons, List.drop_zero, Option.join_some, atI_0, atI_1, atI_2, atI_3, if_true, if_false, Bool.false_eq_true, Bool.true_eq_false, reduceIte, reduceCtorEq, decide_eq_true_eq, Bool.not_eq_true', decide_eq_false_iff_not, eq_self, List.length_cons, List.length_nil, Nat.zero_add, Nat.reduceAdd, Nat.reduceLT, upd_same, Int.cast_ofNat_Int, Int.reduceToNat, Int.reducePow, Int.reduceLE, Int.reduceLT, Int.reduceSub, Int.reduceAdd, Int.reduceMul, Int.reduceNeg, bd10, bd64, bd2, bd3, bd4, ixN_3_0, ixN_3_1, ixN_3_2, ixN_2_0, ixN_2_1, ixN_4_0, ixN_4_1, ixN_4_2, ixN_4_3, ne_eq, Int.reduceEq, not_false_eq_true, not_true_eq_false, false_or, or_false, false_and, and_false, exists_false, exists_const, tRaise, tCallS, goneEnds, tPar3, fVar, fI, fI0, fU, fTest, fCons, fNil, tDg, tDp, dkOf_k, tDisp, tPairs, $a0:term, $a1:term, $a2:term])
local macro_rules | `(tactic| o_head ⟨$a0, $a1, $a2, $a3⟩) => `(tactic| simp only [tSeq, List.cons_inj_right, tNext, tIfS, tOp, tUn, rI, rI0, rU, tVar, tC, tAsg, gName, tRet, tDrop, tCall, tCons, tNil, tCB, tTup, tLst, ixF, tPar, tNot, tAnd, tOr, tB, tNotV, tAndV, List.append_nil, List.getElem?_cons_zero, List.getElem?_cons_succ, List.set_cons_zero, List.set_cons_succ, Option.some.injEq, V.int.injEq, V.bl.injEq, V.ref.injEq, exists_eq_left', exists_eq_left, exists_eq_right, exists_and_left, exists_and_right, and_true, true_and, and_assoc, List.cons.injEq, optK_some, seqOf_l, seqOf_t, tYes, tNotN, tML, tML0, appR, clrR, catF, listF, lenF, slF, tSl, tPart, tNoPart, tyN, isiF, isiT_1, isiT_2, isiT_3, isiT_4, isiT_5, isiT_6, isiT_7, lstOf_l, tup3_some, tup2_some, Option.isSome_some, List.dropLast, List.getLast?, L2.stLC, frV, List.map_cons, List.map_nil, List.replicate_succ, List.replicate_zero, List.cons_append, List.nil_append, List.drop_succ_cons, List.drop_zero, Option.join_some, atI_0, atI_1, atI_2, atI_3, if_true, if_false, Bool.false_eq_true, Bool.true_eq_false, reduceIte, reduceCtorEq, decide_eq_true_eq, Bool.not_eq_true', decide_eq_false_iff_not, eq_self, List.length_cons, List.length_nil, Nat.zero_add, Nat.reduceAdd, Nat.reduceLT, upd_same, Int.cast_ofNat_Int, Int.reduceToNat, Int.reducePow, Int.reduceLE, Int.reduceLT, Int.reduceSub, Int.reduceAdd, Int.reduceMul, Int.reduceNeg, bd10, bd64, bd2, bd3, bd4, ixN_3_0, ixN_3_1, ixN_3_2, ixN_2_0, ixN_2_1, ixN_4_0, ixN_4_1, ixN_4_2, ixN_4_3, ne_eq, Int.reduceEq, not_false_eq_true, not_true_eq_false, false_or, or_false, false_and, and_false, exists_false, exists_const, tRaise, tCallS, goneEnds, tPar3, fVar, fI, fI0, fU, fTest, fCons, fNil, tDg, tDp, dkOf_k, tDisp, tPairs, $a0:term, $a1:term, $a2:term, $a3:term])
local macro_rules | `(tactic| o_head ⟨$a0, $a1, $a2, $a3, $a4⟩) => `(tactic| simp only [tSeq, List.cons_inj_right, tNext, tIfS, tOp, tUn, rI, rI0, rU, tVar, tC, tAsg, gName, tRet, tDrop, tCall, tCons, tNil, tCB, tTup, tLst, ixF, tPar, tNot, tAnd, tOr, tB, tNotV, tAndV, List.append_nil, List.getElem?_cons_zero, List.getElem?_cons_succ, List.set_cons_zero, List.set_cons_succ, Option.some.injEq, V.int.injEq, V.bl.injEq, V.ref.injEq, exists_eq_left', exists_eq_left, exists_eq_right, exists_and_left, exists_and_right, and_true, true_and, and_assoc, List.cons.injEq, optK_some, seqOf_l, seqOf_t, tYes, tNotN, tML, tML0, appR, clrR, catF, listF, lenF, slF, tSl, tPart, tNoPart, tyN, isiF, isiT_1, isiT_2, isiT_3, isiT_4, isiT_5, isiT_6, isiT_7, lstOf_l, tup3_some, tup2_some, Option.isSome_some, List.dropLast, List.getLast?, L2.stLC, frV, List.map_cons, List.map_nil, List.replicate_succ, List.replicate_zero, List.cons_append, List.nil_append, List.drop_succ_cons, List.drop_zero, Option.join_some, atI_0, atI_1, atI_2, atI_3, if_true, if_false, Bool.false_eq_true, Bool.true_eq_false, reduceIte, reduceCtorEq, decide_eq_true_eq, Bool.not_eq_true', decide_eq_false_iff_not, eq_self, List.length_cons, List.length_nil, Nat.zero_add, Nat.reduceAdd, Nat.reduceLT, upd_same, Int.cast_ofNat_Int, Int.reduceToNat, Int.reducePow, Int.reduceLE, Int.reduceLT, Int.reduceSub, Int.reduceAdd, Int.reduceMul, Int.reduceNeg, bd10, bd64, bd2, bd3, bd4, ixN_3_0, ixN_3_1, ixN_3_2, ixN_2_0, ixN_2_1, ixN_4_0, ixN_4_1, ixN_4_2, ixN_4_3, ne_eq, Int.reduceEq, not_false_eq_true, not_true_eq_false, false_or, or_false, false_and, and_false, exists_false, exists_const, tRaise, tCallS, goneEnds, tPar3, fVar, fI, fI0, fU, fTest, fCons, fNil, tDg, tDp, dkOf_k, tDisp, tPairs, $a0:term, $a1:term, $a2:term, $a3:term, $a4:term])
local macro_rules | `(tactic| o_head ⟨$a0, $a1, $a2, $a3, $a4, $a5⟩) => `(tactic| simp only [tSeq, List.cons_inj_right, tNext, tIfS, tOp, tUn, rI, rI0, rU, tVar, tC, tAsg, gName, tRet, tDrop, tCall, tCons, tNil, tCB, tTup, tLst, ixF, tPar, tNot, tAnd, tOr, tB, tNotV, tAndV, List.append_nil, List.getElem?_cons_zero, List.getElem?_cons_succ, List.set_cons_zero, List.set_cons_succ, Option.some.injEq, V.int.injEq, V.bl.injEq, V.ref.injEq, exists_eq_left', exists_eq_left, exists_eq_right, exists_and_left, exists_and_right, and_true, true_and, and_assoc, List.cons.injEq, optK_some, seqOf_l, seqOf_t, tYes, tNotN, tML, tML0, appR, clrR, catF, listF, lenF, slF, tSl, tPart, tNoPart, tyN, isiF, isiT_1, isiT_2, isiT_3, isiT_4, isiT_5, isiT_6, isiT_7, lstOf_l, tup3_some, tup2_some, Option.isSome_some, List.dropLast, List.getLast?, L2.stLC, frV, List.map_cons, List.map_nil, List.replicate_succ, List.replicate_zero, List.cons_append, List.nil_append, List.drop_succ_cons, List.drop_zero, Option.join_some, atI_0, atI_1, atI_2, atI_3, if_true, if_false, Bool.false_eq_true, Bool.true_eq_false, reduceIte, reduceCtorEq, decide_eq_true_eq, Bool.not_eq_true', decide_eq_false_iff_not, eq_self, List.length_cons, List.length_nil, Nat.zero_add, Nat.reduceAdd, Nat.reduceLT, upd_same, Int.cast_ofNat_Int, Int.reduceToNat, Int.reducePow, Int.reduceLE, Int.reduceLT, Int.reduceSub, Int.reduceAdd, Int.reduceMul, Int.reduceNeg, bd10, bd64, bd2, bd3, bd4, ixN_3_0, ixN_3_1, ixN_3_2, ixN_2_0, ixN_2_1, ixN_4_0, ixN_4_1, ixN_4_2, ixN_4_3, ne_eq, Int.reduceEq, not_false_eq_true, not_true_eq_false, false_or, or_false, false_and, and_false, exists_false, exists_const, tRaise, tCallS, goneEnds, tPar3, fVar, fI, fI0, fU, fTest, fCons, fNil, tDg, tDp, dkOf_k, tDisp, tPairs, $a0:term, $a1:term, $a2:term, $a3:term, $a4:term, $a5:term])
local macro_rules | `(tactic| o_head ⟨$a0, $a1, $a2, $a3, $a4, $a5, $a6⟩) => `(tactic| simp only [tSeq, List.cons_inj_right, tNext, tIfS, tOp, tUn, rI, rI0, rU, tVar, tC, tAsg, gName, tRet, tDrop, tCall, tCons, tNil, tCB, tTup, tLst, ixF, tPar, tNot, tAnd, tOr, tB, tNotV, tAndV, List.append_nil, List.getElem?_cons_zero, List.getElem?_cons_succ, List.set_cons_zero, List.set_cons_succ, Option.some.injEq, V.int.injEq, V.bl.injEq, V.ref.injEq, exists_eq_left', exists_eq_left, exists_eq_right, exists_and_left, exists_and_right, and_true, true_and, and_assoc, List.cons.injEq, optK_some, seqOf_l, seqOf_t, tYes, tNotN, tML, tML0, appR, clrR, catF, listF, lenF, slF, tSl, tPart, tNoPart, tyN, isiF, isiT_1, isiT_2, isiT_3, isiT_4, isiT_5, isiT_6, isiT_7, lstOf_l, tup3_some, tup2_some, Option.isSome_some, List.dropLast, List.getLast?, L2.stLC, frV, List.map_cons, List.map_nil, List.replicate_succ, List.replicate_zero, List.cons_append, List.nil_append, List.drop_succ_cons, List.drop_zero, Option.join_some, atI_0, atI_1, atI_2, atI_3, if_true, if_false, Bool.false_eq_true, Bool.true_eq_false, reduceIte, reduceCtorEq, decide_eq_true_eq, Bool.not_eq_true', decide_eq_false_iff_not, eq_self, List.length_cons, List.length_nil, Nat.zero_add, Nat.reduceAdd, Nat.reduceLT, upd_same, Int.cast_ofNat_Int, Int.reduceToNat, Int.reducePow, Int.reduceLE, Int.reduceLT, Int.reduceSub, Int.reduceAdd, Int.reduceMul, Int.reduceNeg, bd10, bd64, bd2, bd3, bd4, ixN_3_0, ixN_3_1, ixN_3_2, ixN_2_0, ixN_2_1, ixN_4_0, ixN_4_1, ixN_4_2, ixN_4_3, ne_eq, Int.reduceEq, not_false_eq_true, not_true_eq_false, false_or, or_false, false_and, and_false, exists_false, exists_const, tRaise, tCallS, goneEnds, tPar3, fVar, fI, fI0, fU, fTest, fCons, fNil, tDg, tDp, dkOf_k, tDisp, tPairs, $a0:term, $a1:term, $a2:term, $a3:term, $a4:term, $a5:term, $a6:term])
local macro_rules | `(tactic| o_head ⟨$a0, $a1, $a2, $a3, $a4, $a5, $a6, $a7⟩) => `(tactic| simp only [tSeq, List.cons_inj_right, tNext, tIfS, tOp, tUn, rI, rI0, rU, tVar, tC, tAsg, gName, tRet, tDrop, tCall, tCons, tNil, tCB, tTup, tLst, ixF, tPar, tNot, tAnd, tOr, tB, tNotV, tAndV, List.append_nil, List.getElem?_cons_zero, List.getElem?_cons_succ, List.set_cons_zero, List.set_cons_succ, Option.some.injEq, V.int.injEq, V.bl.injEq, V.ref.injEq, exists_eq_left', exists_eq_left, exists_eq_right, exists_and_left, exists_and_right, and_true, true_and, and_assoc, List.cons.injEq, optK_some, seqOf_l, seqOf_t, tYes, tNotN, tML, tML0, appR, clrR, catF, listF, lenF, slF, tSl, tPart, tNoPart, tyN, isiF, isiT_1, isiT_2, isiT_3, isiT_4, isiT_5, isiT_6, isiT_7, lstOf_l, tup3_some, tup2_some, Option.isSome_some, List.dropLast, List.getLast?, L2.stLC, frV, List.map_cons, List.map_nil, List.replicate_succ, List.replicate_zero, List.cons_append, List.nil_append, List.drop_succ_cons, List.drop_zero, Option.join_some, atI_0, atI_1, atI_2, atI_3, if_true, if_false, Bool.false_eq_true, Bool.true_eq_false, reduceIte, reduceCtorEq, decide_eq_true_eq, Bool.not_eq_true', decide_eq_false_iff_not, eq_self, List.length_cons, List.length_nil, Nat.zero_add, Nat.reduceAdd, Nat.reduceLT, upd_same, Int.cast_ofNat_Int, Int.reduceToNat, Int.reducePow, Int.reduceLE, Int.reduceLT, Int.reduceSub, Int.reduceAdd, Int.reduceMul, Int.reduceNeg, bd10, bd64, bd2, bd3, bd4, ixN_3_0, ixN_3_1, ixN_3_2, ixN_2_0, ixN_2_1, ixN_4_0, ixN_4_1, ixN_4_2, ixN_4_3, ne_eq, Int.reduceEq, not_false_eq_true, not_true_eq_false, false_or, or_false, false_and, and_false, exists_false, exists_const, tRaise, tCallS, goneEnds, tPar3, fVar, fI, fI0, fU, fTest, fCons, fNil, tDg, tDp, dkOf_k, tDisp, tPairs, $a0:term, $a1:term, $a2:term, $a3:term, $a4:term, $a5:term, $a6:term, $a7:term])
local macro_rules | `(tactic| o_head ⟨$a0, $a1, $a2, $a3, $a4, $a5, $a6, $a7, $a8⟩) => `(tactic| simp only [tSeq, List.cons_inj_right, tNext, tIfS, tOp, tUn, rI, rI0, rU, tVar, tC, tAsg, gName, tRet, tDrop, tCall, tCons, tNil, tCB, tTup, tLst, ixF, tPar, tNot, tAnd, tOr, tB, tNotV, tAndV, List.append_nil, List.getElem?_cons_zero, List.getElem?_cons_succ, List.set_cons_zero, List.set_cons_succ, Option.some.injEq, V.int.injEq, V.bl.injEq, V.ref.injEq, exists_eq_left', exists_eq_left, exists_eq_right, exists_and_left, exists_and_right, and_true, true_and, and_assoc, List.cons.injEq, optK_some, seqOf_l, seqOf_t, tYes, tNotN, tML, tML0, appR, clrR, catF, listF, lenF, slF, tSl, tPart, tNoPart, tyN, isiF, isiT_1, isiT_2, isiT_3, isiT_4, isiT_5, isiT_6, isiT_7, lstOf_l, tup3_some, tup2_some, Option.isSome_some, List.dropLast, List.getLast?, L2.stLC, frV, List.map_cons, List.map_nil, List.replicate_succ, List.replicate_zero, List.cons_append, List.nil_append, List.drop_succ_cons, List.drop_zero, Option.join_some, atI_0, atI_1, atI_2, atI_3, if_true, if_false, Bool.false_eq_true, Bool.true_eq_false, reduceIte, reduceCtorEq, decide_eq_true_eq, Bool.not_eq_true', decide_eq_false_iff_not, eq_self, List.length_cons, List.length_nil, Nat.zero_add, Nat.reduceAdd, Nat.reduceLT, upd_same, Int.cast_ofNat_Int, Int.reduceToNat, Int.reducePow, Int.reduceLE, Int.reduceLT, Int.reduceSub, Int.reduceAdd, Int.reduceMul, Int.reduceNeg, bd10, bd64, bd2, bd3, bd4, ixN_3_0, ixN_3_1, ixN_3_2, ixN_2_0, ixN_2_1, ixN_4_0, ixN_4_1, ixN_4_2, ixN_4_3, ne_eq, Int.reduceEq, not_false_eq_true, not_true_eq_false, false_or, or_false, false_and, and_false, exists_false, exists_const, tRaise, tCallS, goneEnds, tPar3, fVar, fI, fI0, fU, fTest, fCons, fNil, tDg, tDp, dkOf_k, tDisp, tPairs, $a0:term, $a1:term, $a2:term, $a3:term, $a4:term, $a5:term, $a6:term, $a7:term, $a8:term])
local macro_rules | `(tactic| o_head ⟨$a0, $a1, $a2, $a3, $a4, $a5, $a6, $a7, $a8, $a9⟩) => `(tactic| simp only [tSeq, List.cons_inj_right, tNext, tIfS, tOp, tUn, rI, rI0, rU, tVar, tC, tAsg, gName, tRet, tDrop, tCall, tCons, tNil, tCB, tTup, tLst, ixF, tPar, tNot, tAnd, tOr, tB, tNotV, tAndV, List.append_nil, List.getElem?_cons_zero, List.getElem?_cons_succ, List.set_cons_zero, List.set_cons_succ, Option.some.injEq, V.int.injEq, V.bl.injEq, V.ref.injEq, exists_eq_left', exists_eq_left, exists_eq_right, exists_and_left, exists_and_right, and_true, true_and, and_assoc, List.cons.injEq, optK_some, seqOf_l, seqOf_t, tYes, tNotN, tML, tML0, appR, clrR, catF, listF, lenF, slF, tSl, tPart, tNoPart, tyN, isiF, isiT_1, isiT_2, isiT_3, isiT_4, isiT_5, isiT_6, isiT_7, lstOf_l, tup3_some, tup2_some, Option.isSome_some, List.dropLast, List.getLast?, L2.stLC, frV, List.map_cons, List.map_nil, List.replicate_succ, List.replicate_zero, List.cons_append, List.nil_append, List.drop_succ_cons, List.drop_zero, Option.join_some, atI_0, atI_1, atI_2, atI_3, if_true, if_false, Bool.false_eq_true, Bool.true_eq_false, reduceIte, reduceCtorEq, decide_eq_true_eq, Bool.not_eq_true', decide_eq_false_iff_not, eq_self, List.length_cons, List.length_nil, Nat.zero_add, Nat.reduceAdd, Nat.reduceLT, upd_same, Int.cast_ofNat_Int, Int.reduceToNat, Int.reducePow, Int.reduceLE, Int.reduceLT, Int.reduceSub, Int.reduceAdd, Int.reduceMul, Int.reduceNeg, bd10, bd64, bd2, bd3, bd4, ixN_3_0, ixN_3_1, ixN_3_2, ixN_2_0, ixN_2_1, ixN_4_0, ixN_4_1, ixN_4_2, ixN_4_3, ne_eq, Int.reduceEq, not_false_eq_true, not_true_eq_false, false_or, or_false, false_and, and_false, exists_false, exists_const, tRaise, tCallS, goneEnds, tPar3, fVar, fI, fI0, fU, fTest, fCons, fNil, tDg, tDp, dkOf_k, tDisp, tPairs, $a0:term, $a1:term, $a2:term, $a3:term, $a4:term, $a5:term, $a6:term, $a7:term, $a8:term, $a9:term])
local macro_rules | `(tactic| o_head ⟨$a0, $a1, $a2, $a3, $a4, $a5, $a6, $a7, $a8, $a9, $a10, $a11⟩) => `(tactic| simp only [tSeq, List.cons_inj_right, tNext, tIfS, tOp, tUn, rI, rI0, rU, tVar, tC, tAsg, gName, tRet, tDrop, tCall, tCons, tNil, tCB, tTup, tLst, ixF, tPar, tNot, tAnd, tOr, tB, tNotV, tAndV, List.append_nil, List.getElem?_cons_zero, List.getElem?_cons_succ, List.set_cons_zero, List.set_cons_succ, Option.some.injEq, V.int.injEq, V.bl.injEq, V.ref.injEq, exists_eq_left', exists_eq_left, exists_eq_right, exists_and_left, exists_and_right, and_true, true_and, and_assoc, List.cons.injEq, optK_some, seqOf_l, seqOf_t, tYes, tNotN, tML, tML0, appR, clrR, catF, listF, lenF, slF, tSl, tPart, tNoPart, tyN, isiF, isiT_1, isiT_2, isiT_3, isiT_4, isiT_5, isiT_6, isiT_7, lstOf_l, tup3_some, tup2_some, Option.isSome_some, List.dropLast, List.getLast?, L2.stLC, frV, List.map_cons, List.map_nil, List.replicate_succ, List.replicate_zero, List.cons_append, List.nil_append, List.drop_succ_cons, List.drop_zero, Option.join_some, atI_0, atI_1, atI_2, atI_3, if_true, if_false, Bool.false_eq_true, Bool.true_eq_false, reduceIte, reduceCtorEq, decide_eq_true_eq, Bool.not_eq_true', decide_eq_false_iff_not, eq_self, List.length_cons, List.length_nil, Nat.zero_add, Nat.reduceAdd, Nat.reduceLT, upd_same, Int.cast_ofNat_Int, Int.reduceToNat, Int.reducePow, Int.reduceLE, Int.reduceLT, Int.reduceSub, Int.reduceAdd, Int.reduceMul, Int.reduceNeg, bd10, bd64, bd2, bd3, bd4, ixN_3_0, ixN_3_1, ixN_3_2, ixN_2_0, ixN_2_1, ixN_4_0, ixN_4_1, ixN_4_2, ixN_4_3, ne_eq, Int.reduceEq, not_false_eq_true, not_true_eq_false, false_or, or_false, false_and, and_false, exists_false, exists_const, tRaise, tCallS, goneEnds, tPar3, fVar, fI, fI0, fU, fTest, fCons, fNil, tDg, tDp, dkOf_k, tDisp, tPairs, $a0:term, $a1:term, $a2:term, $a3:term, $a4:term, $a5:term, $a6:term, $a7:term, $a8:term, $a9:term, $a10:term, $a11:term])
namespace LW
open PySem L2 MA PyProof.Rows
noncomputable def top (i : Nat) : Stmt := PySem.Challenge.pw_nearlands_k68_the_least_ring.main.body.getD i (.Pass ⟨0, 0, 0, 0⟩)
noncomputable abbrev s_divisor : Stmt := top 7
noncomputable abbrev s_sign : Stmt := top 8
noncomputable abbrev s_point_of : Stmt := top 10
noncomputable abbrev s_spot_point : Stmt := top 11
noncomputable abbrev s_fraction_of : Stmt := top 12
noncomputable abbrev s_less : Stmt := top 13
noncomputable abbrev s_scaled_square : Stmt := top 14
noncomputable abbrev s_square : Stmt := top 15
noncomputable abbrev s_line_of : Stmt := top 17
noncomputable abbrev s_between : Stmt := top 18
noncomputable abbrev s_meet : Stmt := top 19
noncomputable abbrev s_check_count : Stmt := top 22
noncomputable abbrev s_check_spots : Stmt := top 23
noncomputable abbrev s_farthest : Stmt := top 26
noncomputable abbrev s_middle : Stmt := top 28
noncomputable abbrev s_ring_centres : Stmt := top 27
noncomputable abbrev s_least_ring : Stmt := top 25
noncomputable abbrev s__law_feed : Stmt := top 30
noncomputable abbrev s__law_draw : Stmt := top 31
noncomputable abbrev s__law_great : Stmt := top 32
noncomputable abbrev s__law_scale : Stmt := top 33
noncomputable abbrev s__law_spot : Stmt := top 34
noncomputable abbrev s__law_dozen : Stmt := top 35
noncomputable abbrev s__law_spots : Stmt := top 36
noncomputable abbrev s__law_world : Stmt := top 37
noncomputable abbrev s__law_frac : Stmt := top 38
noncomputable abbrev s__law_whole : Stmt := top 39
noncomputable abbrev s__law_divisor : Stmt := top 40
noncomputable abbrev s__law_is_point : Stmt := top 41
noncomputable abbrev s__law_way : Stmt := top 42
noncomputable abbrev s__law_side : Stmt := top 43
noncomputable abbrev s__law_held : Stmt := top 44
noncomputable abbrev s__law_right : Stmt := top 45
noncomputable abbrev s__law_refused : Stmt := top 46
noncomputable abbrev s_law : Stmt := top 47
theorem hu65 {A : Around} {k : Nat} (hr : Room k A) : A.units + 65 < cLine := by have := hr.un; omega
theorem hu64 {A : Around} {k : Nat} (hr : Room k A) : A.units + 64 < cLine := hr.units
structure Cz where
 TooMany : Addr
 NoSpot : Addr
structure Txt (P : Program) (K : PySem.W.Frag) (mg : Str → Option Value) (C : Cz) : Prop where
 b_abs : mg "abs" = none
 b_all : mg "all" = none
 b_bool : mg "bool" = none
 b_enumerate : mg "enumerate" = none
 b_int : mg "int" = none
 b_isinstance : mg "isinstance" = none
 b_len : mg "len" = none
 b_list : mg "list" = none
 b_max : mg "max" = none
 b_min : mg "min" = none
 b_range : mg "range" = none
 b_super : mg "super" = none
 b_tuple : mg "tuple" = none
 n_NoSpot : ∃ fI, ExcN P K C.NoSpot fI
 kp_NoSpot : PySem.W.keepIn K (.ref C.NoSpot) = true
 eb_NoSpot : ExcB K C.NoSpot
 at_NoSpot : PySem.W.findIn K (.ref C.NoSpot) "at" = some none
 hd_NoSpot : PySem.W.hasDictIn K C.NoSpot = true
 g_TooMany : mg "TooMany" = some (.ref C.TooMany)
 g_NoSpot : mg "NoSpot" = some (.ref C.NoSpot)
 x_TooMany : ExcC K C.TooMany
 n_MOST_SPOTS : ∃ t, mg "MOST_SPOTS" = some (.int 12 t)
 m_TooMany_TooMany : PySem.W.exmOne K (.ref C.TooMany) (.ref C.TooMany) = some true
 m_NoSpot_TooMany : PySem.W.exmOne K (.ref C.NoSpot) (.ref C.TooMany) = some false
 m_NoSpot_NoSpot : PySem.W.exmOne K (.ref C.NoSpot) (.ref C.NoSpot) = some true
 i_TooMany_NoSpot : PySem.W.kitOne K (.ref C.TooMany) (.ref C.NoSpot) = some false
end LW
namespace LW
open PySem L2 MA PyProof.Rows MC
noncomputable def sp_divisor : Sp := fun vs H Q _ => ∃ a b : Int, vs = [.int a, .int b] ∧ Q (.int (Int.gcd a b : Int)) H
noncomputable def sp_sign : Sp := fun vs H Q _ => ∃ n : Int, vs = [.int n] ∧ Q (.int (sgn n)) H
noncomputable abbrev P3 := Int × Int × Int
noncomputable def CsAt (H : Hp) (qs : List Addr) (cs : List P3) : Prop := qs.length = cs.length ∧ ∀ (i : Nat) (q : Addr) (z : P3), qs[i]? = some q → cs[i]? = some z → H q = some (.tup [.int z.1, .int z.2.1, .int z.2.2])
theorem CsAt.ext {H H' : Hp} {qs : List Addr} {rs : List P3} (h : CsAt H qs rs) (x : Ext H H') : CsAt H' qs rs := ⟨h.1, fun i q z a b => x _ _ (h.2 i q z a b)⟩
theorem CsAt.at {H : Hp} {qs : List Addr} {rs : List P3} (h : CsAt H qs rs) {i : Nat} {q : Addr} (hq : qs[i]? = some q) : ∃ r, rs[i]? = some r ∧ H q = some (.tup [.int r.1, .int r.2.1, .int r.2.2]) := by
 have li := (List.getElem?_eq_some_iff.mp hq).1
 have e := List.getElem?_eq_getElem (l := rs) (i := i) (by rw [← h.1]; exact li)
 exact ⟨_, e, h.2 i q _ hq e⟩
theorem CsAt.snoc {H : Hp} {qs : List Addr} {R : List P3} (h : CsAt H qs R) {q : Addr} {v : P3} (h2 : H q = some (.tup [.int v.1, .int v.2.1, .int v.2.2])) : CsAt H (qs ++ [q]) (R ++ [v]) := by
 refine ⟨by rw [List.length_append, List.length_append, h.1]; rfl, fun i t' v' a b => ?_⟩
 by_cases hi : i < qs.length
 ·rw [List.getElem?_append_left hi] at a
  rw [List.getElem?_append_left (by rw [← h.1]; exact hi)] at b
  exact h.2 i t' v' a b
 ·rw [List.getElem?_append_right (by omega)] at a
  rw [List.getElem?_append_right (by rw [← h.1]; omega), ← h.1] at b
  have : i - qs.length = 0 := by
   have := (List.getElem?_eq_some_iff.mp a).1
   simp only [List.length_cons, List.length_nil] at this
   omega
  rw [this] at a b
  cases a
  cases b
  exact h2
theorem CsAt.setL {H : Hp} {qs : List Addr} {R : List P3} {L : Addr} {xs ys : List V} (h : CsAt H qs R) (hL : H L = some (.lst xs)) : CsAt (upd H L (.lst ys)) qs R := ⟨h.1, fun i t v a b => by
 have h1 := h.2 i t v a b
 exact (upd_ne (ne_of h1 hL (by intro z; cases z))).trans h1⟩
theorem refs_get {qs : List Addr} {i : Nat} {v : V} (h : (qs.map V.ref)[i]? = some v) : ∃ q, qs[i]? = some q ∧ v = .ref q := by
 rw [List.getElem?_map] at h
 cases e : qs[i]? with
 | none => rw [e] at h; cases h
 | some q => rw [e] at h; exact ⟨q, rfl, (Option.some.inj h).symm⟩
theorem Ext.none {H H' : Hp} {b : Addr} (f : Ext H H') (h : H' b = none) : H b = none := by
 cases q : H b with
 | none => rfl
 | some o =>
  rw [f b o q] at h
  cases h
theorem cut_from (xs : List V) (k : Nat) : cutV xs (some (k : Int)) none = xs.drop k := by
 unfold cutV
 rw [HT.sIx_nat, HT.sIx_none, List.take_of_length_le (by rw [List.length_drop]; omega)]
 by_cases h : k ≤ xs.length
 ·rw [Nat.min_eq_left h]
 ·rw [Nat.min_eq_right (by omega), List.drop_length, List.drop_eq_nil_of_le (by omega)]
theorem cut_to (xs : List V) (k : Nat) : cutV xs none (some (k : Int)) = xs.take k := by
 unfold cutV
 rw [HT.sIx_nat, HT.sIx_none, List.drop_zero, Nat.sub_zero]
 by_cases h : k ≤ xs.length
 ·rw [Nat.min_eq_left h]
 ·rw [Nat.min_eq_right (by omega), List.take_length, List.take_of_length_le (by omega)]
noncomputable abbrev P2 := Int × Int
noncomputable def R2At (H : Hp) (qs : List Addr) (rs : List P2) : Prop := qs.length = rs.length ∧ ∀ (i : Nat) (q : Addr) (z : P2), qs[i]? = some q → rs[i]? = some z → H q = some (.tup [.int z.1, .int z.2])
theorem R2At.ext {H H' : Hp} {qs : List Addr} {rs : List P2} (h : R2At H qs rs) (x : Ext H H') : R2At H' qs rs := ⟨h.1, fun i q z a b => x _ _ (h.2 i q z a b)⟩
theorem R2At.at {H : Hp} {qs : List Addr} {rs : List P2} (h : R2At H qs rs) {i : Nat} {q : Addr} (hq : qs[i]? = some q) : ∃ r, rs[i]? = some r ∧ H q = some (.tup [.int r.1, .int r.2]) := by
 have li := (List.getElem?_eq_some_iff.mp hq).1
 have e := List.getElem?_eq_getElem (l := rs) (i := i) (by rw [← h.1]; exact li)
 exact ⟨_, e, h.2 i q _ hq e⟩
structure SpOk (H : Hp) (b l : Addr) (x y u v : Int) (qs : List Addr) (rs : List P2) : Prop where
 bx : H b = some (.tup [.int x, .int y, .int u, .int v])
 sp : H l = some (.lst (qs.map V.ref))
 at_ : R2At H qs rs
 xu : x < u
 yv : y < v
 ins : ∀ r ∈ rs, x ≤ r.1 ∧ r.1 ≤ u ∧ y ≤ r.2 ∧ r.2 ≤ v
 nd : rs.Nodup
 n0 : 0 < rs.length
 n12 : rs.length ≤ 12
 sz : (-(4 * 10 ^ 30) ≤ x ∧ u ≤ 4 * 10 ^ 30) ∧ (-(4 * 10 ^ 30) ≤ y ∧ v ≤ 4 * 10 ^ 30)
theorem bd29 {n : Int} (h1 : -(4 * 10 ^ 30) ≤ n) (h2 : n ≤ 4 * 10 ^ 30) (m : Nat) (hm : 110 ≤ m := by decide) : Bd m n := Bd.mono (m := 110) (Bd.of_le (4 * 10 ^ 30) h1 h2 (by decide)) hm
noncomputable def t2d (r : P2) : PyData := .tuple [.int r.1, .int r.2]
theorem rdy_rs {K : PySem.W.Frag} {H : Hp} : ∀ {qs : List Addr} {rs : List P2}, R2At H qs rs → RdyAll K H (qs.map V.ref) (rs.map t2d)
 | [], [], _ => .nil
 | [], _ :: _, h => by simp [R2At] at h
 | _ :: _, [], h => by simp [R2At] at h
 | p :: ps, c :: cs, h => .cons (rdy_t2 (h.2 0 p c rfl rfl)) (rdy_rs ⟨by simpa using h.1, fun i q z h1 h2 => h.2 (i + 1) q z h1 h2⟩)
theorem R2At.take {H : Hp} {qs : List Addr} {rs : List P2} (h : R2At H qs rs) (k : Nat) : R2At H (qs.take k) (rs.take k) := by
 refine ⟨by rw [List.length_take, List.length_take, h.1], fun i q z h1 h2 => ?_⟩
 by_cases hi : i < k
 ·rw [List.getElem?_take_of_lt hi] at h1 h2
  exact h.2 i q z h1 h2
 ·rw [List.getElem?_eq_none (by rw [List.length_take]; omega)] at h1
  cases h1
theorem lay_rs : ∀ rs : List P2, PyData.canLayAll0 (rs.map t2d) = true ∧ PyData.depthAll (rs.map t2d) ≤ 1
 | [] => ⟨rfl, by simp [PyData.depthAll]⟩
 | c :: cs => by
  obtain ⟨a, b⟩ := lay_rs cs
  constructor
  ·simp [t2d, PyData.canLayAll0, PyData.canLay0]
   exact a
  ·simp [t2d, PyData.depthAll, PyData.depth] at b ⊢
   omega
theorem shaped_rs (rs : List P2) : SeqAt.shaped (.list (rs.map t2d)) = true := by
 obtain ⟨a, b⟩ := lay_rs rs
 unfold SeqAt.shaped
 rw [Bool.and_eq_true, decide_eq_true_eq]
 exact ⟨by simp [PyData.canLay0, a], by simp [PyData.depth]; omega⟩
theorem shaped_t2 (r : P2) : SeqAt.shaped (t2d r) = true := by
 simp [t2d, SeqAt.shaped, PyData.canLay0, PyData.canLayAll0, PyData.depth, PyData.depthAll]
theorem nomix_t2 (a b : P2) : SeqAt.noMix (t2d a) (t2d b) = true := by
 simp [t2d, SeqAt.noMix, SeqAt.noMixAll]
noncomputable def sp_point_of : Sp := fun vs H Q _ => ∃ x y w : Int, vs = [.int x, .int y, .int w] ∧ w ≠ 0 ∧ Bd 8000 w ∧
 ∀ p a b c, H p = none → IsPt x y w a b c → Q (.ref p) (upd H p (.tup [.int a, .int b, .int c]))
noncomputable def sp_spot_point : Sp := fun vs H Q _ => ∃ (p : Addr) (a b : Int), vs = [.ref p] ∧ H p = some (.tup [.int a, .int b]) ∧ ∀ t, H t = none → Q (.ref t) (upd H t (.tup [.int a, .int b, .int 1]))
noncomputable def sp_fraction_of : Sp := fun vs H Q _ => ∃ x w : Int, vs = [.int x, .int w] ∧ w ≠ 0 ∧ Bd 8000 w ∧
 ∀ p a c, H p = none → IsFr x w a c → Q (.ref p) (upd H p (.tup [.int a, .int c]))
noncomputable def sp_less : Sp := fun vs H Q _ => ∃ (p q : Addr) (a b c d : Int), vs = [.ref p, .ref q] ∧ H p = some (.tup [.int a, .int b]) ∧ H q = some (.tup [.int c, .int d]) ∧ (Bd 20000 a ∧ Bd 20000 b ∧ Bd 20000 c ∧ Bd 20000 d) ∧ Q (.bl (decide (a * d < c * b))) H
noncomputable def sqr (x : Int × Int × Int) (y : Int × Int) : Int := (x.1 - y.1 * x.2.2) ^ 2 + (x.2.1 - y.2 * x.2.2) ^ 2
noncomputable def sp_scaled_square : Sp := fun vs H Q _ => ∃ (p q : Addr), vs = [.ref p, .ref q] ∧ optK (tup3 (H p)) fun x => optK (tup2 (H q)) fun y => B3 2000 x ∧ B2 2000 y ∧ Q (.int (sqr x y)) H
noncomputable def sp_square : Sp := fun vs H Q _ => ∃ (p q : Addr), vs = [.ref p, .ref q] ∧ optK (tup3 (H p)) fun x => optK (tup2 (H q)) fun y => B3 2000 x ∧ B2 2000 y ∧ 0 < x.2.2 ∧ ∀ t a c, H t = none → IsFr (sqr x y) (x.2.2 ^ 2) a c → Q (.ref t) (upd H t (.tup [.int a, .int c]))
noncomputable def sp_line_of : Sp := fun vs H Q _ => ∃ a b c : Int, vs = [.int a, .int b, .int c] ∧ ¬ (a = 0 ∧ b = 0) ∧ (Bd 4000 a ∧ Bd 4000 b ∧ Bd 4000 c) ∧
 ∀ p x y z, H p = none → IsLn a b c x y z → Q (.ref p) (upd H p (.tup [.int x, .int y, .int z]))
noncomputable def BtwOk (x y : Int × Int) (H : Hp) (Q : VK) : Prop := ¬ x = y ∧ ∀ t, H t = none → Q (.ref t) (upd H t (.tup [.int (lnB x y).1, .int (lnB x y).2.1, .int (lnB x y).2.2]))
noncomputable def sp_between : Sp := fun vs H Q _ => ∃ (p q : Addr), vs = [.ref p, .ref q] ∧ optK (tup2 (H p)) fun x => optK (tup2 (H q)) fun y => B2 400 x ∧ B2 400 y ∧ BtwOk x y H Q
noncomputable def MeetOk (x y : Int × Int × Int) (H : Hp) (Q : VK) : Prop := (x.1 * y.2.1 = x.2.1 * y.1 → Q .non H) ∧
 (¬ x.1 * y.2.1 = x.2.1 * y.1 → ∀ t a b c, H t = none → IsPt (x.2.2 * y.2.1 - x.2.1 * y.2.2) (x.1 * y.2.2 - x.2.2 * y.1) (x.1 * y.2.1 - x.2.1 * y.1) a b c → Q (.ref t) (upd H t (.tup [.int a, .int b, .int c])))
noncomputable def sp_meet : Sp := fun vs H Q _ => ∃ (p q : Addr), vs = [.ref p, .ref q] ∧ optK (tup3 (H p)) fun x => optK (tup3 (H q)) fun y => B3 1000 x ∧ B3 1000 y ∧ MeetOk x y H Q
noncomputable def sp_check_countE (C : Cz) : Sp := fun vs H Q E => ∃ (l : Addr) (xs : List V), vs = [.ref l] ∧ H l = some (.lst xs) ∧ ((0 < xs.length ∧ xs.length ≤ 12 ∧ Q .non H) ∨ (¬ (0 < xs.length ∧ xs.length ≤ 12) ∧ E (.ref C.TooMany) none H))
structure LpOk (H : Hp) (l : Addr) (qs : List Addr) (rs : List P2) : Prop where
 sp : H l = some (.lst (qs.map V.ref))
 at_ : R2At H qs rs
 nd : rs.Nodup
 n0 : 0 < rs.length
 n12 : rs.length ≤ 12
 sz : ∀ r ∈ rs, Bd 130 r.1 ∧ Bd 130 r.2
theorem LpOk.ext {H H' : Hp} {l : Addr} {qs : List Addr} {rs : List P2} (h : LpOk H l qs rs) (e : Ext H H') : LpOk H' l qs rs := ⟨e _ _ h.sp, h.at_.ext e, h.nd, h.n0, h.n12, h.sz⟩
theorem LpOk.get {H : Hp} {l : Addr} {qs : List Addr} {rs : List P2} (h : LpOk H l qs rs) {i : Nat} {r : P2} (hi : rs[i]? = some r) : ∃ q, qs[i]? = some q ∧ H q = some (.tup [.int r.1, .int r.2]) ∧ atI (qs.map V.ref) (i : Int) = some (.ref q) ∧ Bd 130 r.1 ∧ Bd 130 r.2 := by
 obtain ⟨q, hq⟩ : ∃ q, qs[i]? = some q := ⟨_, List.getElem?_eq_getElem (by rw [h.at_.1]; exact (List.getElem?_eq_some_iff.mp hi).1)⟩
 exact ⟨q, hq, h.at_.2 i q r hq hi, atI_nat (by rw [List.getElem?_map, hq]; rfl), h.sz r (List.mem_of_getElem? hi)⟩
noncomputable def FirstDup (rs : List P2) (i : Nat) : Prop := (rs.take i).Nodup ∧ ∃ r, rs[i]? = some r ∧ r ∈ rs.take i
theorem mem_before {rs : List P2} {i : Nat} {r : P2} : decide (Spec.countIn (t2d r) ((rs.take i).map t2d) ≠ 0) = decide (r ∈ rs.take i) := by
 rw [← any_eqv_countIn _ _ (fun y hy => by obtain ⟨z, _, rfl⟩ := List.mem_map.mp hy; exact nomix_t2 z r)]
 by_cases h : r ∈ rs.take i
 ·rw [decide_eq_true h, List.any_eq_true]
  exact ⟨t2d r, List.mem_map.mpr ⟨r, h, rfl⟩, by show PyData.eqv (.tuple [.int r.1, .int r.2]) (.tuple [.int r.1, .int r.2]) = true; rw [eqv_t2]; simp⟩
 ·rw [decide_eq_false h, List.any_eq_false]
  intro y hy
  obtain ⟨z, hz, rfl⟩ := List.mem_map.mp hy
  show ¬ PyData.eqv (.tuple [.int z.1, .int z.2]) (.tuple [.int r.1, .int r.2]) = true
  rw [eqv_t2, decide_eq_true_eq]
  rintro ⟨e1, e2⟩
  have ez : z = r := Prod.ext e1 e2
  subst ez
  exact h hz
theorem FirstDup.no {rs : List P2} (hn : rs.Nodup) {i : Nat} (h : FirstDup rs i) : False := by
 obtain ⟨_, r, h1, h2⟩ := h
 obtain ⟨j, hj⟩ := List.getElem?_of_mem h2
 have lj := (List.getElem?_eq_some_iff.mp hj).1
 rw [List.length_take] at lj
 rw [List.getElem?_take_of_lt (by omega)] at hj
 obtain ⟨g1, e1⟩ := List.getElem?_eq_some_iff.mp h1
 obtain ⟨g2, e2⟩ := List.getElem?_eq_some_iff.mp hj
 have := (List.getElem_inj (h₀ := g1) (h₁ := g2) hn).mp (e1.trans e2.symm)
 omega
theorem nodup_take {rs : List P2} {i : Nat} {r : P2} (hn : (rs.take i).Nodup) (hi : rs[i]? = some r) (h : r ∉ rs.take i) : (rs.take (i + 1)).Nodup := by
 rw [List.take_succ, hi]
 exact List.nodup_append.mpr ⟨hn, by simp, fun a ha b hb e => h (by simp at hb; rw [← hb, ← e]; exact ha)⟩
noncomputable def sp_csE (K : PySem.W.Frag) (C : Cz) : Sp := fun vs H Q E => ∃ (l : Addr) (qs : List Addr) (rs : List P2), vs = [.ref l] ∧ H l = some (.lst (qs.map V.ref)) ∧ R2At H qs rs ∧ (¬ (0 < rs.length ∧ rs.length ≤ 12) → E (.ref C.TooMany) none H) ∧
 (0 < rs.length → rs.length ≤ 12 → ∀ H', Ext H H' → (rs.Nodup → Q .non H') ∧ ∀ i dx, FirstDup rs i → H' dx = none → E (.ref C.NoSpot) (some dx) (upd H' dx (.xd [("at", .int (i : Int))])))
noncomputable def FarM (rs : List P2) (z : P3) (M : Int) : Prop := (∃ r ∈ rs, M = sqr z r) ∧ ∀ r ∈ rs, sqr z r ≤ M
noncomputable def sqV (H : Hp) (z : P3) : V → V
 | .ref q => (match H q with
  | some (.tup [.int a, .int b]) => .int (sqr z (a, b))
  | _ => .non)
 | _ => .non
theorem sqV_map {H : Hp} (z : P3) : ∀ {qs : List Addr} {rs : List P2}, R2At H qs rs → (qs.map V.ref).map (sqV H z) = (rs.map (sqr z)).map V.int
 | [], [], _ => rfl
 | [], _ :: _, h => by simp [R2At] at h
 | _ :: _, [], h => by simp [R2At] at h
 | p :: ps, c :: cs, h => by
  have e := h.2 0 p c rfl rfl
  have ih := sqV_map z (qs := ps) (rs := cs) ⟨by simpa using h.1, fun i q z h1 h2 => h.2 (i + 1) q z h1 h2⟩
  simp only [List.map_cons, ih]
  congr 1
  simp only [sqV, e]
noncomputable def sp_farthest (K : PySem.W.Frag) : Sp := fun vs H Q _ => ∃ (l p : Addr) (qs : List Addr) (rs : List P2) (z : P3), vs = [.ref l, .ref p] ∧ LpOk H l qs rs ∧ H p = some (.tup [.int z.1, .int z.2.1, .int z.2.2]) ∧ B3 2000 z ∧ ∀ t M H', Ext H H' → H t = none → H' t = some (.tup [.int M, .int (z.2.2 ^ 2)]) → FarM rs z M → Q (.ref t) H'
noncomputable def sp_middle : Sp := fun vs H Q _ => ∃ (p q : Addr), vs = [.ref p, .ref q] ∧ optK (tup2 (H p)) fun x => optK (tup2 (H q)) fun y => ∀ t a b c, H t = none → IsPt (x.1 + y.1) (x.2 + y.2) 2 a b c → Q (.ref t) (upd H t (.tup [.int a, .int b, .int c]))
theorem rf_at0 {rs : List P2} (h : 0 < rs.length) : rs[0]? = some (rs[0]) := List.getElem?_eq_getElem h
noncomputable def IsC (c : P3) : Prop := 0 < c.2.2 ∧ Int.gcd (Int.gcd c.1 c.2.1) c.2.2 = 1 ∧ B3 2000 c ∧ B3 1100 c
theorem isC_of {c : P3} (h1 : 0 < c.2.2) (h2 : Int.gcd (Int.gcd c.1 c.2.1) c.2.2 = 1) (b : B3 1100 c) : IsC c := ⟨h1, h2, ⟨b.1.mono (by decide), b.2.1.mono (by decide), b.2.2.mono (by decide)⟩, b⟩
structure CenOk (rs : List P2) (A : Nat → Nat → Prop) (B : Nat → Nat → Nat → Prop) (cs : List P3) : Prop where
 ok : ∀ c ∈ cs, IsC c
 one : ∀ r, rs[0]? = some r → (r.1, r.2, 1) ∈ cs
 two : ∀ i j p q, A i j → rs[i]? = some p → rs[j]? = some q → ∃ c ∈ cs, IsPt (p.1 + q.1) (p.2 + q.2) 2 c.1 c.2.1 c.2.2
 three : ∀ i j k p q s, B i j k → rs[i]? = some p → rs[j]? = some q → rs[k]? = some s → (q.1 - p.1) * (s.2 - p.2) ≠ (q.2 - p.2) * (s.1 - p.1) → ∃ c ∈ cs, sqr c p = sqr c q ∧ sqr c p = sqr c s
theorem CenOk.mono {rs : List P2} {A A' : Nat → Nat → Prop} {B B' : Nat → Nat → Nat → Prop} {cs : List P3} (h : CenOk rs A B cs) (h1 : ∀ i j, A' i j → A i j) (h2 : ∀ i j k, B' i j k → B i j k) : CenOk rs A' B' cs :=
 ⟨h.ok, h.one, fun i j p q a => h.two i j p q (h1 i j a), fun i j k p q s b => h.three i j k p q s (h2 i j k b)⟩
theorem CenOk.put {rs : List P2} {A A' : Nat → Nat → Prop} {B B' : Nat → Nat → Nat → Prop} {cs : List P3} (h : CenOk rs A B cs) {c : P3} (hc : IsC c) (h1 : ∀ i j p q, A' i j → rs[i]? = some p → rs[j]? = some q → A i j ∨ IsPt (p.1 + q.1) (p.2 + q.2) 2 c.1 c.2.1 c.2.2)
  (h2 : ∀ i j k p q s, B' i j k → rs[i]? = some p → rs[j]? = some q → rs[k]? = some s → B i j k ∨ (sqr c p = sqr c q ∧ sqr c p = sqr c s)) : CenOk rs A' B' (cs ++ [c]) where
 ok := fun x hx => by
  rcases List.mem_append.mp hx with q | q
  ·exact h.ok x q
  ·rw [List.mem_singleton] at q; rw [q]; exact hc
 one := fun r hr => List.mem_append_left _ (h.one r hr)
 two := fun i j p q a e1 e2 => by
  rcases h1 i j p q a e1 e2 with z | z
  ·obtain ⟨x, hx, y⟩ := h.two i j p q z e1 e2
   exact ⟨x, List.mem_append_left _ hx, y⟩
  ·exact ⟨c, by simp, z⟩
 three := fun i j k p q s b e1 e2 e3 n => by
  rcases h2 i j k p q s b e1 e2 e3 with z | z
  ·obtain ⟨x, hx, y⟩ := h.three i j k p q s z e1 e2 e3 n
   exact ⟨x, List.mem_append_left _ hx, y⟩
  ·exact ⟨c, by simp, z⟩
noncomputable def PA (a b : Nat) (i j : Nat) : Prop := j < i ∧ (i < a ∨ (i = a ∧ j < b))
noncomputable def PB (a b c : Nat) (i j k : Nat) : Prop := k < j ∧ j < i ∧ (i < a ∨ (i = a ∧ (j < b ∨ (j = b ∧ k < c))))
noncomputable def RcAt (rs : List P2) (H H' : Hp) (D : Addr) (a b b' c n : Nat) : Prop := ∃ (ts : List Addr) (cs : List P3), Ext H H' ∧ H' D = some (.lst (ts.map V.ref)) ∧ CsAt H' ts cs ∧ CenOk rs (PA a b) (PB a b' c) cs ∧ cs.length ≤ n
theorem RcAt.mono {rs : List P2} {H H' : Hp} {D : Addr} {a b b' c n a2 b2 b2' c2 n2 : Nat} (h : RcAt rs H H' D a b b' c n) (h1 : ∀ i j, PA a2 b2 i j → PA a b i j) (h2 : ∀ i j k, PB a2 b2' c2 i j k → PB a b' c i j k) (h3 : n ≤ n2) : RcAt rs H H' D a2 b2 b2' c2 n2 := by
 obtain ⟨ts, cs, x, e, hc, cen, l⟩ := h
 exact ⟨ts, cs, x, e, hc, cen.mono h1 h2, Nat.le_trans l h3⟩
theorem nodup_ne {α : Type} {rs : List α} (nd : rs.Nodup) {i j : Nat} {r s : α} (hi : rs[i]? = some r) (hj : rs[j]? = some s) (ne : j ≠ i) : r ≠ s := fun z => by
 subst z
 have h1 := List.getElem?_eq_some_iff.mp hi
 have h2 := List.getElem?_eq_some_iff.mp hj
 exact ne ((List.getElem_inj (h₀ := h2.1) (h₁ := h1.1) nd).mp (h2.2.trans h1.2.symm))
noncomputable def CtrOk (H : Hp) (p q s : P2) (w : V) : Prop := (w = .non ∧ (q.1 - p.1) * (s.2 - p.2) = (q.2 - p.2) * (s.1 - p.1)) ∨ ∃ (t : Addr) (c : P3), w = .ref t ∧ H t = some (.tup [.int c.1, .int c.2.1, .int c.2.2]) ∧ IsC c ∧ sqr c p = sqr c q ∧ sqr c p = sqr c s
theorem lnB_dir {r s : P2} (h : ¬ r = s) : ∃ g : Int, 0 < g ∧ 2 * (s.1 - r.1) = g * (lnB r s).1 ∧ 2 * (s.2 - r.2) = g * (lnB r s).2.1 := by
 have hab : ¬ (2 * (s.1 - r.1) = 0 ∧ 2 * (s.2 - r.2) = 0) := fun q => h (Prod.ext (by omega) (by omega))
 have L := (isLn_of (c := s.1 * s.1 + s.2 * s.2 - r.1 * r.1 - r.2 * r.2) hab).1
 have E := isLn_eq L
 obtain ⟨g, hg, e1, e2, e3, e4⟩ := L.ex
 rw [E.1] at e1
 rw [E.2.1] at e2
 exact ⟨g, hg, e1, e2⟩
theorem lnB_par {p q s : P2} (h1 : ¬ p = q) (h2 : ¬ p = s) : (lnB p q).1 * (lnB p s).2.1 = (lnB p q).2.1 * (lnB p s).1 ↔ (q.1 - p.1) * (s.2 - p.2) = (q.2 - p.2) * (s.1 - p.1) := by
 obtain ⟨g, hg, e1, e2⟩ := lnB_dir h1
 obtain ⟨k, hk, f1, f2⟩ := lnB_dir h2
 have gk := Int.mul_pos hg hk
 have id : 4 * ((q.1 - p.1) * (s.2 - p.2) - (q.2 - p.2) * (s.1 - p.1)) = (g * k) * ((lnB p q).1 * (lnB p s).2.1 - (lnB p q).2.1 * (lnB p s).1) := by
  have a : 4 * ((q.1 - p.1) * (s.2 - p.2) - (q.2 - p.2) * (s.1 - p.1)) = (2 * (q.1 - p.1)) * (2 * (s.2 - p.2)) - (2 * (q.2 - p.2)) * (2 * (s.1 - p.1)) := by grind
  rw [a, e1, e2, f1, f2]
  grind
 constructor
 ·intro z
  rw [z, Int.sub_self, Int.mul_zero] at id
  omega
 ·intro z
  rw [z, Int.sub_self, Int.mul_zero] at id
  rcases Int.mul_eq_zero.mp id.symm with y | y
  ·omega
  ·omega
theorem meet_on {x y : P3} {a b c : Int} (n : ¬ x.1 * y.2.1 = x.2.1 * y.1) (h : IsPt (x.2.2 * y.2.1 - x.2.1 * y.2.2) (x.1 * y.2.2 - x.2.2 * y.1) (x.1 * y.2.1 - x.2.1 * y.1) a b c) : ex x (a, b, c) = 0 ∧ ex y (a, b, c) = 0 := by
 have e1 := h.ex
 have e2 := h.ey
 have w0 : x.1 * y.2.1 - x.2.1 * y.1 ≠ 0 := fun z => n (by omega)
 constructor
 ·have k : (x.1 * y.2.1 - x.2.1 * y.1) * ex x (a, b, c) = 0 := by unfold ex; dsimp only; grind
  exact (Int.mul_eq_zero.mp k).resolve_left w0
 ·have k : (x.1 * y.2.1 - x.2.1 * y.1) * ex y (a, b, c) = 0 := by unfold ex; dsimp only; grind
  exact (Int.mul_eq_zero.mp k).resolve_left w0
noncomputable def sp_centres (K : PySem.W.Frag) : Sp := fun vs H Q _ => ∃ (l : Addr) (qs : List Addr) (rs : List P2), vs = [.ref l] ∧ LpOk H l qs rs ∧ ∀ t ts cs H', Ext H H' → H t = none → H' t = some (.lst (ts.map V.ref)) → CsAt H' ts cs → CenOk rs (PA rs.length 0) (PB rs.length 0 0) cs → cs.length ≤ 2000 → Q (.ref t) H'
noncomputable def mostOf (ws : List Int) (n : Nat) : List Int := ((List.range n).filter fun i => decide (∀ a ∈ ws, a ≤ ws.getD i 0)).map fun i : Nat => (i : Int)
theorem mostOf_succ (ws : List Int) (n : Nat) : mostOf ws (n + 1) = if (∀ a ∈ ws, a ≤ ws.getD n 0) then mostOf ws n ++ [(n : Int)] else mostOf ws n := by
 unfold mostOf
 rw [List.range_succ, List.filter_append, List.map_append]
 by_cases h : ∀ a ∈ ws, a ≤ ws.getD n 0
 ·have e : List.filter (fun i => decide (∀ a ∈ ws, a ≤ ws.getD i 0)) [n] = [n] := List.filter_eq_self.mpr fun i hi => by
   obtain rfl : i = n := by simpa using hi
   exact decide_eq_true h
  rw [if_pos h, e]
  rfl
 ·have e : List.filter (fun i => decide (∀ a ∈ ws, a ≤ ws.getD i 0)) [n] = [] := List.filter_eq_nil_iff.mpr fun i hi => by
   obtain rfl : i = n := by simpa using hi
   rw [decide_eq_true_eq]
   exact h
  rw [if_neg h, e, List.map_nil, List.append_nil]
theorem most_iff {ws : List Int} {M : Int} (hM : M ∈ ws) (hl : ∀ a ∈ ws, a ≤ M) {n : Nat} (hn : n < ws.length) : ws.getD n 0 = M ↔ ∀ a ∈ ws, a ≤ ws.getD n 0 := by
 have hm := mem_of_getD hn
 constructor
 ·intro e
  rw [e]
  exact hl
 ·intro h
  have h1 := h M hM
  have h2 := hl _ hm
  omega
open RG in
noncomputable def rp (z : P3) : RG.Pt := ((z.1 : Rat) / (z.2.2 : Rat), (z.2.1 : Rat) / (z.2.2 : Rat))
noncomputable def spR (r : P2) : RG.Pt := ((r.1 : Rat), (r.2 : Rat))
theorem rne {x : Int} (h : x ≠ 0) : (x : Rat) ≠ 0 := fun q => h (by exact_mod_cast q)
theorem dq_sqr {z : P3} (hz : 0 < z.2.2) (r : P2) : RG.dq (rp z) (spR r) = (sqr z r : Rat) / ((z.2.2 ^ 2 : Int) : Rat) := by
 have n := rne (Int.ne_of_gt hz)
 have e : sqr z r = (z.1 - r.1 * z.2.2) * (z.1 - r.1 * z.2.2) + (z.2.1 - r.2 * z.2.2) * (z.2.1 - r.2 * z.2.2) := by unfold sqr; grind
 have e2 : z.2.2 ^ 2 = z.2.2 * z.2.2 := by grind
 rw [e, e2]
 simp only [Rat.intCast_add, Rat.intCast_mul, Rat.intCast_sub]
 unfold RG.dq rp spR
 dsimp only
 generalize (z.2.2 : Rat) = W at n
 grind
structure RingOk (rs : List P2) (z : P3) (a b : Int) : Prop where
 isC : IsC z
 ring : RG.Ring (rs.map spR) (rp z) ((a : Rat) / (b : Rat))
 b0 : 0 < b
 low : Int.gcd a b = 1
 bd : Bd 20000 a ∧ Bd 5000 b
noncomputable def RowsAt (H : Hp) (rs : List P2) (ts : List Addr) (cs : List P3) : Prop := ts.length = cs.length ∧ ∀ (k : Nat) (t : Addr) (z : P3), ts[k]? = some t → cs[k]? = some z → ∃ (c f : Addr) (M : Int), H t = some (.tup [.ref c, .ref f]) ∧ H c = some (.tup [.int z.1, .int z.2.1, .int z.2.2]) ∧ H f = some (.tup [.int M, .int (z.2.2 ^ 2)]) ∧ FarM rs z M
theorem RowsAt.ext {H H' : Hp} {rs : List P2} {ts : List Addr} {cs : List P3} (h : RowsAt H rs ts cs) (x : Ext H H') : RowsAt H' rs ts cs := ⟨h.1, fun k t z g1 g2 => by
 obtain ⟨c, f, M, e1, e2, e3, fm⟩ := h.2 k t z g1 g2
 exact ⟨c, f, M, x _ _ e1, x _ _ e2, x _ _ e3, fm⟩⟩
theorem RowsAt.setL {H : Hp} {rs : List P2} {ts : List Addr} {cs : List P3} (h : RowsAt H rs ts cs) {D : Addr} {xs ys : List V} (hD : H D = some (.lst xs)) : RowsAt (upd H D (.lst ys)) rs ts cs := ⟨h.1, fun k t z g1 g2 => by
 obtain ⟨c, f, M, e1, e2, e3, fm⟩ := h.2 k t z g1 g2
 exact ⟨c, f, M, (upd_ne (ne_of e1 hD (by intro z; cases z))).trans e1, (upd_ne (ne_of e2 hD (by intro z; cases z))).trans e2, (upd_ne (ne_of e3 hD (by intro z; cases z))).trans e3, fm⟩⟩
theorem RowsAt.snoc {H : Hp} {rs : List P2} {ts : List Addr} {cs : List P3} (h : RowsAt H rs ts cs) {t c f : Addr} {z : P3} {M : Int} (e1 : H t = some (.tup [.ref c, .ref f])) (e2 : H c = some (.tup [.int z.1, .int z.2.1, .int z.2.2])) (e3 : H f = some (.tup [.int M, .int (z.2.2 ^ 2)])) (fm : FarM rs z M) : RowsAt H rs (ts ++ [t]) (cs ++ [z]) := by
 refine ⟨by rw [List.length_append, List.length_append, h.1]; rfl, fun k t' z' a b => ?_⟩
 by_cases hi : k < ts.length
 ·rw [List.getElem?_append_left hi] at a
  rw [List.getElem?_append_left (by rw [← h.1]; exact hi)] at b
  exact h.2 k t' z' a b
 ·rw [List.getElem?_append_right (by omega)] at a
  rw [List.getElem?_append_right (by rw [← h.1]; omega), ← h.1] at b
  have : k - ts.length = 0 := by
   have := (List.getElem?_eq_some_iff.mp a).1
   simp only [List.length_cons, List.length_nil] at this
   omega
  rw [this] at a b
  cases a
  cases b
  exact ⟨c, f, M, e1, e2, e3, fm⟩
theorem sqr_bd {z : P3} {r : P2} (h : B3 2000 z) (h1 : Bd 130 r.1) (h2 : Bd 130 r.2) : Bd 20000 (sqr z r) := by
 have a := (h.1.sub (h1.mul h.2.2)).sq
 have b := (h.2.1.sub (h2.mul h.2.2)).sq
 exact (a.add b).mono (by decide)
noncomputable def LeastOf (rs : List P2) (cs : List P3) (n : Nat) (z : P3) (M : Int) : Prop := z ∈ cs ∧ FarM rs z M ∧ ∀ k c N, k < n → cs[k]? = some c → FarM rs c N → M * c.2.2 ^ 2 ≤ N * z.2.2 ^ 2
theorem FarM.same {rs : List P2} {z : P3} {M N : Int} (h : FarM rs z M) (k : FarM rs z N) : M = N := by
 obtain ⟨⟨r, hr, e⟩, h2⟩ := h
 obtain ⟨⟨s, hs, f⟩, k2⟩ := k
 have := h2 s hs
 have := k2 r hr
 omega
noncomputable def Lst (H : Hp) (rs : List P2) (cs : List P3) (n : Nat) (t : Addr) : Prop := ∃ (z : P3) (c f : Addr) (M : Int), H t = some (.tup [.ref c, .ref f]) ∧ H c = some (.tup [.int z.1, .int z.2.1, .int z.2.2]) ∧ H f = some (.tup [.int M, .int (z.2.2 ^ 2)]) ∧ LeastOf rs cs n z M
theorem LeastOf.keep {rs : List P2} {cs : List P3} {n : Nat} {z c : P3} {M N : Int} (h : LeastOf rs cs n z M) (hc : cs[n]? = some c) (hN : FarM rs c N) (q : ¬ N * z.2.2 ^ 2 < M * c.2.2 ^ 2) : LeastOf rs cs (n + 1) z M := by
 refine ⟨h.1, h.2.1, fun k c' N' hk e hN' => ?_⟩
 by_cases z : k < n
 ·exact h.2.2 k c' N' z e hN'
 ·have : k = n := by omega
  subst this
  rw [hc] at e
  cases e
  rw [hN'.same hN]
  omega
theorem LeastOf.take {rs : List P2} {cs : List P3} {n : Nat} {z c : P3} {M N : Int} (h : LeastOf rs cs n z M) (hz : 0 < z.2.2) (hc : cs[n]? = some c) (hN : FarM rs c N) (hc0 : 0 < c.2.2) (q : N * z.2.2 ^ 2 < M * c.2.2 ^ 2) : LeastOf rs cs (n + 1) c N := by
 refine ⟨List.mem_of_getElem? hc, hN, fun k c' N' hk e hN' => ?_⟩
 by_cases y : k < n
 ·have l := h.2.2 k c' N' y e hN'
  have z2 : 0 < z.2.2 ^ 2 := by rw [show z.2.2 ^ 2 = z.2.2 * z.2.2 by grind]; exact Int.mul_pos hz hz
  have c2 : 0 ≤ c.2.2 ^ 2 := by rw [show c.2.2 ^ 2 = c.2.2 * c.2.2 by grind]; exact Int.le_of_lt (Int.mul_pos hc0 hc0)
  have d2 : 0 ≤ c'.2.2 ^ 2 := by
   rw [show c'.2.2 ^ 2 = c'.2.2 * c'.2.2 by grind]
   rcases Int.le_total 0 c'.2.2 with w | w
   · exact Int.mul_nonneg w w
   · have := Int.mul_nonneg (show 0 ≤ -c'.2.2 by omega) (show 0 ≤ -c'.2.2 by omega); grind
  refine Int.le_of_mul_le_mul_left (a := z.2.2 ^ 2) ?_ z2
  have a1 := Int.mul_le_mul_of_nonneg_right (Int.le_of_lt q) d2
  have a2 := Int.mul_le_mul_of_nonneg_right l c2
  generalize z.2.2 ^ 2 = Z at *
  generalize c.2.2 ^ 2 = C at *
  generalize c'.2.2 ^ 2 = D at *
  have e1 : Z * (N * D) = N * Z * D := by grind
  have e2 : Z * (N' * C) = N' * Z * C := by grind
  have e3 : M * C * D = M * D * C := by grind
  omega
 ·have : k = n := by omega
  subst this
  rw [hc] at e
  cases e
  rw [hN'.same hN]
  exact Int.le_refl _
theorem FarM.ex {rs : List P2} (n0 : 0 < rs.length) (z : P3) : ∃ M, FarM rs z M := by
 obtain ⟨k, r, hr, hm⟩ := list_best (sqr z) rs n0
 exact ⟨_, ⟨r, List.mem_of_getElem? hr, rfl⟩, hm⟩
theorem div_le_of {W A B : Rat} (w : 0 < W) (q : A ≤ B) : A / W ≤ B / W := by
 refine Classical.byContradiction fun z => ?_
 have m := Rat.mul_pos w (show 0 < A / W - B / W by grind)
 have e : W * (A / W - B / W) = A - B := by grind
 grind
theorem cross_le {m n x y : Rat} (a0 : 0 < x) (b0 : 0 < y) (q : m * y ≤ n * x) : m / x ≤ n / y := by
 refine Classical.byContradiction fun z => ?_
 have h := Rat.mul_pos (Rat.mul_pos a0 b0) (show 0 < m / x - n / y by grind)
 have e : x * y * (m / x - n / y) = m * y - n * x := by grind
 grind
theorem fr_cross {x y a b : Rat} (h1 : x ≠ 0) (h2 : y ≠ 0) (e : a / x = b / y) : b * x = a * y := by grind
theorem far_le {rs : List P2} {c : P3} {N : Int} (hc : 0 < c.2.2) (h : FarM rs c N) : (∀ s ∈ rs.map spR, RG.dq (rp c) s ≤ (N : Rat) / ((c.2.2 ^ 2 : Int) : Rat)) ∧ ∃ s ∈ rs.map spR, RG.dq (rp c) s = (N : Rat) / ((c.2.2 ^ 2 : Int) : Rat) := by
 have w2 : 0 < c.2.2 ^ 2 := by
  have e2 : c.2.2 ^ 2 = c.2.2 * c.2.2 := by grind
  rw [e2]
  exact Int.mul_pos hc hc
 have w2r : (0 : Rat) < ((c.2.2 ^ 2 : Int) : Rat) := by exact_mod_cast w2
 constructor
 ·intro s hs
  obtain ⟨r, hr, rfl⟩ := List.mem_map.mp hs
  rw [dq_sqr hc]
  have q : (sqr c r : Rat) ≤ (N : Rat) := by exact_mod_cast h.2 r hr
  generalize ((c.2.2 ^ 2 : Int) : Rat) = W at w2r
  generalize (sqr c r : Rat) = A at q
  generalize (N : Rat) = B at q
  exact div_le_of w2r q
 ·obtain ⟨⟨r, hr, e⟩, _⟩ := h
  exact ⟨spR r, List.mem_map.mpr ⟨r, hr, rfl⟩, by rw [dq_sqr hc, e]⟩
theorem frac_le {M N a b : Int} (ha : 0 < a) (hb : 0 < b) (h : M * b ≤ N * a) : (M : Rat) / (a : Rat) ≤ (N : Rat) / (b : Rat) := by
 have a0 : (0 : Rat) < (a : Rat) := by exact_mod_cast ha
 have b0 : (0 : Rat) < (b : Rat) := by exact_mod_cast hb
 have q : (M : Rat) * (b : Rat) ≤ (N : Rat) * (a : Rat) := by
  rw [← Rat.intCast_mul, ← Rat.intCast_mul]
  exact_mod_cast h
 generalize (M : Rat) = m at q
 generalize (N : Rat) = n at q
 generalize (a : Rat) = x at q a0
 generalize (b : Rat) = y at q b0
 exact cross_le a0 b0 q
theorem dq_eq {c : P3} (hc : 0 < c.2.2) {p q : P2} (h : sqr c p = sqr c q) : RG.dq (rp c) (spR p) = RG.dq (rp c) (spR q) := by rw [dq_sqr hc, dq_sqr hc, h]
theorem least_is {rs : List P2} (nd : rs.Nodup) (n0 : 0 < rs.length) {cs : List P3} (cen : CenOk rs (PA rs.length 0) (PB rs.length 0 0) cs) {z : P3} {M : Int} (h : LeastOf rs cs cs.length z M) : RG.Ring (rs.map spR) (rp z) ((M : Rat) / ((z.2.2 ^ 2 : Int) : Rat)) := by
 have hS : rs.map spR ≠ [] := fun q => by
  have := congrArg List.length q
  rw [List.length_map] at this
  simp at this
  rw [this] at n0
  exact Nat.lt_irrefl _ n0
 have ix : ∀ {a : RG.Pt}, a ∈ rs.map spR → ∃ (i : Nat) (p : P2), rs[i]? = some p ∧ a = spR p := fun ha => by
  obtain ⟨p, hp, e⟩ := List.mem_map.mp ha
  obtain ⟨i, hi⟩ := List.getElem?_of_mem hp
  exact ⟨i, p, hi, e.symm⟩
 have lt : ∀ {i : Nat} {p : P2}, rs[i]? = some p → i < rs.length := fun hi => (List.getElem?_eq_some_iff.mp hi).1
 have md : ∀ {c : P3} {p q : P2}, IsC c → IsPt (p.1 + q.1) (p.2 + q.2) 2 c.1 c.2.1 c.2.2 → rp c = RG.mid (spR p) (spR q) := fun {c p q} ic hp => by
  have e1 : ((c.1 * 2 : Int) : Rat) = (((p.1 + q.1) * c.2.2 : Int) : Rat) := by rw [hp.ex]
  have e2 : ((c.2.1 * 2 : Int) : Rat) = (((p.2 + q.2) * c.2.2 : Int) : Rat) := by rw [hp.ey]
  have n := rne (Int.ne_of_gt ic.1)
  simp only [Rat.intCast_mul, Rat.intCast_add] at e1 e2
  have t2 : ((2 : Int) : Rat) = 2 := rfl
  rw [t2] at e1 e2
  unfold rp RG.mid spR
  dsimp only
  generalize (c.2.2 : Rat) = W at n e1 e2
  exact Prod.ext (by dsimp only; grind) (by dsimp only; grind)
 obtain ⟨hh, R, ⟨c0, hc0, ec0⟩, ring⟩ := RG.ring_of hS (Cs := fun p => ∃ c ∈ cs, rp c = p)
  (fun a ha hall => by
   refine ⟨_, cen.one _ (rf_at0 n0), ?_⟩
   have e := hall (spR rs[0]) (List.mem_map.mpr ⟨_, List.getElem_mem n0, rfl⟩)
   rw [← e]
   unfold rp spR
   have o : ((1 : Int) : Rat) = 1 := rfl
   dsimp only
   rw [o]
   exact Prod.ext (by dsimp only; grind) (by dsimp only; grind))
  (fun a ha b hb ne => by
   obtain ⟨i, p, hi, rfl⟩ := ix ha
   obtain ⟨j, q, hj, rfl⟩ := ix hb
   have li := lt hi
   have lj := lt hj
   rcases Nat.lt_trichotomy i j with z | z | z
   ·obtain ⟨c, hc, e⟩ := cen.two j i q p ⟨z, .inl lj⟩ hj hi
    refine ⟨c, hc, ?_⟩
    rw [md (cen.ok c hc) e]
    unfold RG.mid
    exact Prod.ext (by dsimp only; grind) (by dsimp only; grind)
   ·subst z
    rw [hi] at hj
    cases hj
    exact absurd rfl ne
   ·obtain ⟨c, hc, e⟩ := cen.two i j p q ⟨z, .inl li⟩ hi hj
    exact ⟨c, hc, md (cen.ok c hc) e⟩)
  (fun a ha b hb c hc n => by
   obtain ⟨i, p, hi, rfl⟩ := ix ha
   obtain ⟨j, q, hj, rfl⟩ := ix hb
   obtain ⟨k, s, hk, rfl⟩ := ix hc
   have li := lt hi
   have lj := lt hj
   have lk := lt hk
   have ar : RG.ar2 (spR p) (spR q) (spR s) = (((q.1 - p.1) * (s.2 - p.2) - (q.2 - p.2) * (s.1 - p.1) : Int) : Rat) := by
    unfold RG.ar2 spR
    simp only [Rat.intCast_mul, Rat.intCast_sub]
   have nz : (q.1 - p.1) * (s.2 - p.2) - (q.2 - p.2) * (s.1 - p.1) ≠ 0 := fun z => n (by rw [ar, z]; rfl)
   have ij : i ≠ j := fun z => by subst z; rw [hi] at hj; cases hj; exact nz (by grind)
   have ik : i ≠ k := fun z => by subst z; rw [hi] at hk; cases hk; exact nz (by grind)
   have jk : j ≠ k := fun z => by subst z; rw [hj] at hk; cases hk; exact nz (by grind)
   have fin : ∀ c ∈ cs, sqr c p = sqr c q → sqr c p = sqr c s → ∃ h, (∃ c ∈ cs, rp c = h) ∧ RG.dq h (spR p) = RG.dq h (spR q) ∧ RG.dq h (spR p) = RG.dq h (spR s) := fun c hc e1 e2 => ⟨rp c, ⟨c, hc, rfl⟩, dq_eq (cen.ok c hc).1 e1, dq_eq (cen.ok c hc).1 e2⟩
   rcases (show (k < j ∧ j < i) ∨ (j < k ∧ k < i) ∨ (k < i ∧ i < j) ∨ (i < k ∧ k < j) ∨ (j < i ∧ i < k) ∨ (i < j ∧ j < k) by omega) with ⟨z1, z2⟩ | ⟨z1, z2⟩ | ⟨z1, z2⟩ | ⟨z1, z2⟩ | ⟨z1, z2⟩ | ⟨z1, z2⟩
   ·obtain ⟨c, hc, e1, e2⟩ := cen.three i j k p q s ⟨z1, z2, .inl li⟩ hi hj hk (fun w => nz (by grind))
    exact fin c hc (by omega) (by omega)
   ·obtain ⟨c, hc, e1, e2⟩ := cen.three i k j p s q ⟨z1, z2, .inl li⟩ hi hk hj (fun w => nz (by grind))
    exact fin c hc (by omega) (by omega)
   ·obtain ⟨c, hc, e1, e2⟩ := cen.three j i k q p s ⟨z1, z2, .inl lj⟩ hj hi hk (fun w => nz (by grind))
    exact fin c hc (by omega) (by omega)
   ·obtain ⟨c, hc, e1, e2⟩ := cen.three j k i q s p ⟨z1, z2, .inl lj⟩ hj hk hi (fun w => nz (by grind))
    exact fin c hc (by omega) (by omega)
   ·obtain ⟨c, hc, e1, e2⟩ := cen.three k i j s p q ⟨z1, z2, .inl lk⟩ hk hi hj (fun w => nz (by grind))
    exact fin c hc (by omega) (by omega)
   ·obtain ⟨c, hc, e1, e2⟩ := cen.three k j i s q p ⟨z1, z2, .inl lk⟩ hk hj hi (fun w => nz (by grind))
    exact fin c hc (by omega) (by omega))
 obtain ⟨hz, hM, hmin⟩ := h
 obtain ⟨N, hN⟩ := FarM.ex n0 c0
 obtain ⟨k, hk⟩ := List.getElem?_of_mem hc0
 have le := hmin k c0 N (List.getElem?_eq_some_iff.mp hk).1 hk hN
 have z0 := (cen.ok z hz).1
 have c00 := (cen.ok c0 hc0).1
 have sqp : ∀ {w : Int}, 0 < w → 0 < w ^ 2 := fun {w} hw => by
  have e2 : w ^ 2 = w * w := by grind
  rw [e2]
  exact Int.mul_pos hw hw
 have fl := frac_le (sqp z0) (sqp c00) le
 obtain ⟨f1, s1, hs1, f2⟩ := far_le z0 hM
 obtain ⟨g1, s2, hs2, g2⟩ := far_le c00 hN
 have NR : (N : Rat) / ((c0.2.2 ^ 2 : Int) : Rat) ≤ R := by
  rw [← g2, ec0]
  exact ring.2 s2 hs2
 have ez := ring.only (P := rp z) fun s hs => Rat.le_trans (f1 s hs) (Rat.le_trans fl NR)
 rw [ez]
 obtain ⟨t, ht, e⟩ := ring.reach
 have e2 : R = (M : Rat) / ((z.2.2 ^ 2 : Int) : Rat) := by
  have q1 := f1 t ht
  rw [ez, e] at q1
  exact Rat.le_antisymm q1 (Rat.le_trans fl NR)
 rw [← e2]
 exact ring
theorem fr_eq {M W a b : Int} (k : IsFr M W a b) (w : W ≠ 0) : (a : Rat) / (b : Rat) = (M : Rat) / (W : Rat) := by
 have e : ((a * W : Int) : Rat) = ((M * b : Int) : Rat) := by rw [k.ex]
 rw [Rat.intCast_mul, Rat.intCast_mul] at e
 have n1 := rne w
 have n2 := rne (Int.ne_of_gt k.pos)
 generalize (a : Rat) = A at e
 generalize (M : Rat) = B at e
 generalize (W : Rat) = C at e n1
 generalize (b : Rat) = D at e n2
 grind
theorem most_head {rs : List P2} {z : P3} {M : Int} (n0 : 0 < rs.length) (h : FarM rs z M) : ∃ (i : Nat) (r : P2), rs[i]? = some r ∧ sqr z r = M ∧ atI ((mostOf (rs.map (sqr z)) rs.length).map V.int) 0 = some (.int (i : Int)) := by
 obtain ⟨⟨r, hr, e⟩, hm⟩ := h
 obtain ⟨j, hj⟩ := List.getElem?_of_mem hr
 have gd : ∀ {k : Nat} {s : P2}, rs[k]? = some s → (rs.map (sqr z)).getD k 0 = sqr z s := fun hk => by
  rw [List.getD_eq_getElem?_getD, List.getElem?_map, hk]
  rfl
 have mem : (j : Nat) ∈ (List.range rs.length).filter fun i => decide (∀ a ∈ rs.map (sqr z), a ≤ (rs.map (sqr z)).getD i 0) := by
  refine List.mem_filter.mpr ⟨List.mem_range.mpr (List.getElem?_eq_some_iff.mp hj).1, decide_eq_true fun a ha => ?_⟩
  obtain ⟨s, hs, rfl⟩ := List.mem_map.mp ha
  rw [gd hj, ← e]
  exact hm s hs
 cases hl : (List.range rs.length).filter (fun i => decide (∀ a ∈ rs.map (sqr z), a ≤ (rs.map (sqr z)).getD i 0)) with
 | nil => rw [hl] at mem; cases mem
 | cons i l =>
  have mi : i ∈ (List.range rs.length).filter fun i => decide (∀ a ∈ rs.map (sqr z), a ≤ (rs.map (sqr z)).getD i 0) := by rw [hl]; simp
  obtain ⟨m1, m2⟩ := List.mem_filter.mp mi
  have li := List.mem_range.mp m1
  have m2 := of_decide_eq_true m2
  refine ⟨i, rs[i], List.getElem?_eq_getElem li, ?_, ?_⟩
  ·have a1 := m2 (sqr z r) (List.mem_map.mpr ⟨r, hr, rfl⟩)
   rw [gd (List.getElem?_eq_getElem li)] at a1
   have a2 := hm rs[i] (List.getElem_mem li)
   omega
  ·unfold mostOf
   rw [hl]
   exact atI_nat (j := 0) rfl
noncomputable def sp_ring (K : PySem.W.Frag) : Sp := fun vs H Q _ => ∃ (l : Addr) (qs : List Addr) (rs : List P2), vs = [.ref l] ∧ LpOk H l qs rs ∧ ∀ t tc tp to z a b H', Ext H H' → H' t = some (.tup [.ref tc, .ref tp, .ref to]) → H' tc = some (.tup [.int z.1, .int z.2.1, .int z.2.2]) → H' tp = some (.tup [.int a, .int b]) → H' to = some (.lst ((mostOf (rs.map (sqr z)) rs.length).map V.int)) → RingOk rs z a b → H to = none → Q (.ref t) H'
noncomputable def sp_ringE (K : PySem.W.Frag) (C : Cz) : Sp := fun vs H Q E => ∃ (l : Addr) (qs : List Addr) (rs : List P2), vs = [.ref l] ∧ H l = some (.lst (qs.map V.ref)) ∧ R2At H qs rs ∧ (∀ r ∈ rs, Bd 130 r.1 ∧ Bd 130 r.2) ∧ (¬ (0 < rs.length ∧ rs.length ≤ 12) → E (.ref C.TooMany) none H) ∧
 (0 < rs.length → rs.length ≤ 12 → ∀ H', Ext H H' → ∀ i dx, FirstDup rs i → H' dx = none → E (.ref C.NoSpot) (some dx) (upd H' dx (.xd [("at", .int (i : Int))]))) ∧
 (0 < rs.length → rs.length ≤ 12 → rs.Nodup → ∀ t tc tp to z a b H', Ext H H' → H' t = some (.tup [.ref tc, .ref tp, .ref to]) → H' tc = some (.tup [.int z.1, .int z.2.1, .int z.2.2]) → H' tp = some (.tup [.int a, .int b]) → H' to = some (.lst ((mostOf (rs.map (sqr z)) rs.length).map V.int)) → RingOk rs z a b → H to = none → Q (.ref t) H')
theorem ring_weak {K : PySem.W.Frag} {C : Cz} {vs : List V} {H : Hp} {Q : VK} {E : XK} (h : sp_ring K vs H Q E) : sp_ringE K C vs H Q E := by
 obtain ⟨l, qs, rs, e, ok, h⟩ := h
 exact ⟨l, qs, rs, e, ok.sp, ok.at_, ok.sz, fun n => absurd ⟨ok.n0, ok.n12⟩ n, fun _ _ H' _ i dx fd => (fd.no ok.nd).elim, fun _ _ _ => h⟩
noncomputable abbrev fdL (c : Addr) (n l : Int) : List (Key × V) := [(Sum.inr "cells", .ref c), (Sum.inr "at", .int n), (Sum.inr "left", .int l)]
theorem fd_cells (c : Addr) (n l : Int) : valV (fdL c n l) (Sum.inr "cells") = some (.ref c) := rfl
theorem fd_at (c : Addr) (n l : Int) : valV (fdL c n l) (Sum.inr "at") = some (.int n) := rfl
theorem fd_left (c : Addr) (n l : Int) : valV (fdL c n l) (Sum.inr "left") = some (.int l) := rfl
theorem fd_putat (c : Addr) (n l m : Int) : putK (fdL c n l) (Sum.inr "at") (.int m) = fdL c m l := rfl
theorem fd_putleft (c : Addr) (n l m : Int) : putK (fdL c n l) (Sum.inr "left") (.int m) = fdL c n m := rfl
noncomputable def FD (c : Addr) (b : Nat) (H : Hp) (p : Addr) : Prop := ∃ (ns : List Int) (n : Nat) (l : Int), H p = some (.dK (fdL c n l)) ∧ H c = some (.lst (ns.map V.int)) ∧ ns.length ≤ 63 ∧ n ≤ b
structure DX (c : Addr) (b : Nat) (p : Addr) (H H' : Hp) : Prop where
 feed : FD c b H' p
 keep : ∀ q o, q ≠ p → H q = some o → H' q = some o
theorem DX.trans {e : Addr} {a b : Nat} {p : Addr} {H H1 H2 : Hp} (x : DX e a p H H1) (y : DX e b p H1 H2) : DX e b p H H2 := ⟨y.feed, fun c o hc h => y.keep c o hc (x.keep c o hc h)⟩
theorem DX.refl {e : Addr} {b : Nat} {p : Addr} {H : Hp} (h : FD e b H p) : DX e b p H H := ⟨h, fun _ _ _ h => h⟩
theorem FD.ext {e : Addr} {b : Nat} {p : Addr} {H H' : Hp} (h : FD e b H p) (x : Ext H H') : FD e b H' p := by
 obtain ⟨ns, n, l, h1, h2, h3, h4⟩ := h
 exact ⟨ns, n, l, x _ _ h1, x _ _ h2, h3, h4⟩
theorem FD.upd {e : Addr} {b : Nat} {p q : Addr} {H : Hp} {o : HO} (h : FD e b H p) (hq : H q = none) : FD e b (L2.upd H q o) p := h.ext (Ext.upd hq)
theorem DX.ext {e : Addr} {b : Nat} {p : Addr} {H H1 H2 : Hp} (d : DX e b p H H1) (x : Ext H1 H2) : DX e b p H H2 := ⟨d.feed.ext x, fun q o hq e => x _ _ (d.keep q o hq e)⟩
theorem DX.upd {e : Addr} {b : Nat} {p q : Addr} {H H1 : Hp} {o : HO} (a : DX e b p H H1) (h : H1 q = none) : DX e b p H (L2.upd H1 q o) := a.ext (Ext.upd h)
theorem FD.mono {e : Addr} {a b : Nat} {p : Addr} {H : Hp} (h : FD e a H p) (hab : a ≤ b) : FD e b H p := by
 obtain ⟨ns, n, l, h1, h2, h3, h4⟩ := h
 exact ⟨ns, n, l, h1, h2, h3, by omega⟩
theorem DX.mono {e : Addr} {a b : Nat} {p : Addr} {H H' : Hp} (h : DX e a p H H') (hab : a ≤ b) : DX e b p H H' := ⟨h.feed.mono hab, h.keep⟩
theorem FD.ne {e : Addr} {b : Nat} {p t : Addr} {H : Hp} (h : FD e b H p) (ht : H t = none) : t ≠ p := by
 obtain ⟨ns, n, l, h1, _⟩ := h
 rintro rfl
 rw [h1] at ht
 cases ht
theorem FD.nc {e : Addr} {b : Nat} {p t : Addr} {H : Hp} (h : FD e b H p) (ht : H t = none) : t ≠ e := by
 obtain ⟨ns, n, l, h1, h2, _⟩ := h
 rintro rfl
 rw [h2] at ht
 cases ht
theorem FD.tup {e : Addr} {b : Nat} {H : Hp} {p q : Addr} {xs : List V} (f : FD e b H p) (h : H q = some (.tup xs)) : q ≠ p := by
 obtain ⟨ns, n, l, h1, _⟩ := f
 exact ne_of h h1 (by intro z; cases z)
theorem FD.lst {e : Addr} {b : Nat} {H : Hp} {p q : Addr} {xs : List V} (f : FD e b H p) (h : H q = some (.lst xs)) : q ≠ p := by
 obtain ⟨ns, n, l, h1, _⟩ := f
 exact ne_of h h1 (by intro z; cases z)
theorem FD.set {e : Addr} {b : Nat} {p D : Addr} {H : Hp} {o : HO} (f : FD e b H p) (h1 : D ≠ p) (h2 : D ≠ e) : FD e b (L2.upd H D o) p := by
 obtain ⟨ns, n, l, g1, g2, r⟩ := f
 exact ⟨ns, n, l, (upd_ne h1.symm).trans g1, (upd_ne h2.symm).trans g2, r⟩
theorem DX.set {e : Addr} {b b0 : Nat} {p D : Addr} {H H1 : Hp} {o : HO} (d : DX e b p H H1) (hD : H D = .none) (f : FD e b0 H p) : DX e b p H (L2.upd H1 D o) := ⟨d.feed.set (f.ne hD) (f.nc hD), fun q u hq e => by rw [upd_ne (ne_of_none e hD)]; exact d.keep q u hq e⟩
theorem DX.none {e : Addr} {b : Nat} {p t : Addr} {H H' : Hp} (x : DX e b p H H') (h : H' t = none) : H t = none := by
 by_cases c : t = p
 ·obtain ⟨ns, n, l, h1, _⟩ := x.feed
  rw [c, h1] at h
  cases h
 ·cases q : H t with
  | none => rfl
  | some o =>
   rw [x.keep t o c q] at h
   cases h
noncomputable def sp_feed (K : PySem.W.Frag) : Sp := fun vs H Q _ => ∃ (a : Addr) (ns : List Int), vs = [.ref a] ∧ SqL K H a (ns.map V.int) ∧ ns.length ≤ 63 ∧ ∀ p c H', Ext H H' → H p = none → FD c 0 H' p → Q (.ref p) H'
noncomputable def sp_draw : Sp := fun vs H Q _ => ∃ (p : Addr) (m : Int) (c : Addr) (b : Nat), vs = [.ref p, .int m] ∧ FD c b H p ∧ b ≤ 1000000 ∧ 0 < m ∧ m ≤ 100000 ∧ ∀ r H', 0 ≤ r → r < m → DX c (b + 1) p H H' → Q (.int r) H'
noncomputable def sp_great : Sp := fun vs H Q _ => ∃ (p : Addr) (k : Nat) (c : Addr) (b : Nat), vs = [.ref p, .int k] ∧ FD c b H p ∧ b ≤ 100000 ∧ k ≤ 5 ∧ ∀ (r : Int) H', 0 ≤ r → r < 100000 ^ k → DX c (b + k) p H H' → Q (.int r) H'
noncomputable def sp_scale : Sp := fun vs H Q _ => ∃ (p c : Addr) (b : Nat), vs = [.ref p] ∧ FD c b H p ∧ b ≤ 10000 ∧ ∀ t m r u H', DX c (b + 25) p H H' → H' t = some (.tup [.int m, .int r, .int u]) → (1 ≤ m ∧ m ≤ 10 ^ 20) → (-(10 ^ 25) ≤ r ∧ r ≤ 10 ^ 25) → (-(10 ^ 25) ≤ u ∧ u ≤ 10 ^ 25) → Q (.ref t) H'
theorem atI_lt {xs : List Int} {r : Int} (h0 : 0 ≤ r) (h1 : r < xs.length) : ∃ x, atI (xs.map V.int) r = some (.int x) ∧ x ∈ xs := by
 obtain ⟨n, rfl⟩ := Int.eq_ofNat_of_zero_le h0
 have hn : n < xs.length := by omega
 exact ⟨xs[n], atI_nat (by rw [List.getElem?_map, List.getElem?_eq_getElem hn]; rfl), List.getElem_mem hn⟩
theorem atI_get {xs : List Int} {n : Nat} (h1 : n < xs.length) : ∃ x, atI (xs.map V.int) (n : Int) = some (.int x) ∧ some x = xs[n]? :=
 ⟨xs[n], atI_nat (by rw [List.getElem?_map, List.getElem?_eq_getElem h1]; rfl), (List.getElem?_eq_getElem h1).symm⟩
noncomputable def sp_spot : Sp := fun vs H Q _ => ∃ (p : Addr) (st : Int) (c : Addr) (b : Nat), vs = [.ref p, .int st] ∧ FD c b H p ∧ b ≤ 10000 ∧ 0 ≤ st ∧ st ≤ 5 ∧ ∀ t x y H', DX c (b + 2) p H H' → H' t = some (.tup [.int x, .int y]) → (0 ≤ x ∧ x ≤ 12) → (0 ≤ y ∧ y ≤ 12) → Q (.ref t) H'
noncomputable def dzX : List Int := [10, 9, 8, 5, 2, 1, 0, 1, 2, 5, 8, 9]
noncomputable def dzY : List Int := [5, 8, 9, 10, 9, 8, 5, 2, 1, 0, 1, 2]
noncomputable def DzOk (way : Int) (k : Nat) (r : P2) : Prop := if way = 0 then r = ((k : Int) % 4, (k : Int) / 4) else if way = 1 then some r.1 = dzX[k]? ∧ some r.2 = dzY[k]? else r.1 = k ∧ 0 ≤ r.2 ∧ r.2 ≤ 10
theorem DzOk.inj {way : Int} {i j : Nat} {r : P2} (hi : i < 12) (hj : j < 12) (h1 : DzOk way i r) (h2 : DzOk way j r) : i = j := by
 unfold DzOk at h1 h2
 split at h1
 ·rename_i c
  rw [if_pos c] at h2
  have := h1.symm.trans h2
  simp only [Prod.mk.injEq] at this
  omega
 ·rename_i c
  rw [if_neg c] at h2
  split at h1
  ·rename_i c2
   rw [if_pos c2] at h2
   have e1 := h1.1.symm.trans h2.1
   have e2 := h1.2.symm.trans h2.2
   have key : ∀ i j : Fin 12, dzX[i.val]? = dzX[j.val]? → dzY[i.val]? = dzY[j.val]? → i = j := by unfold dzX dzY; decide
   have := key ⟨i, hi⟩ ⟨j, hj⟩ e1 e2
   exact congrArg Fin.val this
  ·rename_i c2
   rw [if_neg c2] at h2
   omega
theorem DzOk.bd {way : Int} {i : Nat} {r : P2} (hi : i < 12) (h : DzOk way i r) : (0 ≤ r.1 ∧ r.1 ≤ 12) ∧ (0 ≤ r.2 ∧ r.2 ≤ 12) := by
 unfold DzOk at h
 split at h
 ·subst h
  dsimp only
  omega
 ·split at h
  ·have key : ∀ i : Fin 12, ∀ x, some x = dzX[i.val]? → 0 ≤ x ∧ x ≤ 12 := by
    intro i x hx
    have m := List.mem_of_getElem? hx.symm
    have bx : ∀ x ∈ dzX, 0 ≤ x ∧ x ≤ 12 := by unfold dzX; decide
    exact bx x m
   have key2 : ∀ i : Fin 12, ∀ x, some x = dzY[i.val]? → 0 ≤ x ∧ x ≤ 12 := by
    intro i x hx
    have m := List.mem_of_getElem? hx.symm
    have bx : ∀ x ∈ dzY, 0 ≤ x ∧ x ≤ 12 := by unfold dzY; decide
    exact bx x m
   exact ⟨key ⟨i, hi⟩ _ h.1, key2 ⟨i, hi⟩ _ h.2⟩
  ·omega
theorem R2At.drop {H : Hp} {qs : List Addr} {rs : List P2} (h : R2At H qs rs) (k : Nat) : R2At H (qs.drop k) (rs.drop k) := by
 refine ⟨by rw [List.length_drop, List.length_drop, h.1], fun i q z h1 h2 => ?_⟩
 rw [List.getElem?_drop] at h1 h2
 exact h.2 _ q z h1 h2
theorem R2At.append {H : Hp} {qs qs' : List Addr} {rs rs' : List P2} (h : R2At H qs rs) (h' : R2At H qs' rs') : R2At H (qs ++ qs') (rs ++ rs') := by
 refine ⟨by rw [List.length_append, List.length_append, h.1, h'.1], fun i q z h1 h2 => ?_⟩
 by_cases hi : i < qs.length
 ·rw [List.getElem?_append_left hi] at h1
  rw [List.getElem?_append_left (by rw [← h.1]; exact hi)] at h2
  exact h.2 i q z h1 h2
 ·rw [List.getElem?_append_right (by omega)] at h1
  rw [List.getElem?_append_right (by rw [← h.1]; omega), ← h.1] at h2
  exact h'.2 _ q z h1 h2
theorem R2At.one {H : Hp} {q : Addr} {r : P2} (h : H q = some (.tup [.int r.1, .int r.2])) : R2At H [q] [r] := ⟨rfl, fun i q' z h1 h2 => by
 match i, h1, h2 with
 | 0, h1, h2 => cases h1; cases h2; exact h⟩
theorem R2At.setL {H : Hp} {qs : List Addr} {R : List P2} {L : Addr} {xs ys : List V} (h : R2At H qs R) (hL : H L = some (.lst xs)) : R2At (upd H L (.lst ys)) qs R := ⟨h.1, fun i t v a b => by
 have h1 := h.2 i t v a b
 exact (upd_ne (ne_of h1 hL (by intro z; cases z))).trans h1⟩
theorem R2At.dx {e : Addr} {b : Nat} {p : Addr} {H H' : Hp} {qs : List Addr} {R : List P2} (h : R2At H qs R) {b0 : Nat} (f : FD e b0 H p) (d : DX e b p H H') : R2At H' qs R := ⟨h.1, fun i t v a c => d.keep _ _ (f.tup (h.2 i t v a c)) (h.2 i t v a c)⟩
theorem nodup_of_at {rs : List P2} {P : Nat → P2 → Prop} (h : ∀ i r, rs[i]? = some r → P i r) (inj : ∀ i j r, i < rs.length → j < rs.length → P i r → P j r → i = j) : rs.Nodup := by
 rw [List.nodup_iff_pairwise_ne, List.pairwise_iff_getElem]
 intro i j hi hj hij e
 have e1 : rs[i]? = some rs[i] := List.getElem?_eq_getElem hi
 have e2 : rs[j]? = some rs[i] := by rw [List.getElem?_eq_getElem hj, e]
 have := inj i j _ hi hj (h i _ e1) (h j _ e2)
 omega
theorem nodup_rot {α : Type} {l : List α} (h : l.Nodup) (k : Nat) : (l.drop k ++ l.take k).Nodup := by
 have : (l.drop k ++ l.take k).Perm l := by
  have := List.perm_append_comm (l₁ := l.drop k) (l₂ := l.take k)
  rwa [List.take_append_drop] at this
 exact this.nodup_iff.mpr h
noncomputable def sp_dozen : Sp := fun vs H Q _ => ∃ (p c : Addr) (b : Nat), vs = [.ref p] ∧ FD c b H p ∧ b ≤ 1000 ∧ ∀ D qs rs H', DX c (b + 20) p H H' → H D = none → H' D = some (.lst (qs.map V.ref)) → R2At H' qs rs → rs.Nodup → 10 ≤ rs.length → rs.length ≤ 12 → (∀ r ∈ rs, (0 ≤ r.1 ∧ r.1 ≤ 12) ∧ (0 ≤ r.2 ∧ r.2 ≤ 12)) → Q (.ref D) H'
theorem inD_rs (rs : List P2) (r : P2) : decide (Spec.countIn (t2d r) (rs.map t2d) ≠ 0) = decide (r ∈ rs) := by
 rw [← any_eqv_countIn _ _ (fun y hy => by obtain ⟨z, _, rfl⟩ := List.mem_map.mp hy; exact nomix_t2 z r)]
 rw [Bool.eq_iff_iff, List.any_eq_true, decide_eq_true_eq]
 constructor
 ·rintro ⟨y, hy, e⟩
  obtain ⟨z, hz, rfl⟩ := List.mem_map.mp hy
  have e' : PyData.eqv (.tuple [.int z.1, .int z.2]) (.tuple [.int r.1, .int r.2]) = true := e
  rw [eqv_t2, decide_eq_true_eq] at e'
  have : z = r := Prod.ext e'.1 e'.2
  rw [← this]
  exact hz
 ·intro h
  refine ⟨t2d r, List.mem_map.mpr ⟨r, h, rfl⟩, ?_⟩
  show PyData.eqv (.tuple [.int r.1, .int r.2]) (.tuple [.int r.1, .int r.2]) = true
  rw [eqv_t2, decide_eq_true_eq]
  exact ⟨rfl, rfl⟩
noncomputable def WBd (n : Int) (rs : List P2) : Prop := ∀ r ∈ rs, (0 ≤ r.1 ∧ r.1 ≤ n) ∧ (0 ≤ r.2 ∧ r.2 ≤ 12)
theorem WBd.snoc {n : Int} {rs : List P2} (h : WBd n rs) {r : P2} (hr : (0 ≤ r.1 ∧ r.1 ≤ n) ∧ (0 ≤ r.2 ∧ r.2 ≤ 12)) : WBd n (rs ++ [r]) := fun z hz => by
 rcases List.mem_append.mp hz with q | q
 ·exact h z q
 ·rw [List.mem_singleton] at q
  rw [q]
  exact hr
theorem WBd.mono {m n : Int} {rs : List P2} (h : WBd m rs) (hmn : m ≤ n) : WBd n rs := fun z hz => by
 have := h z hz
 omega
theorem nodup_snoc {α : Type} {rs : List α} (h : rs.Nodup) {r : α} (hr : r ∉ rs) : (rs ++ [r]).Nodup := List.nodup_append.mpr ⟨h, by simp, fun x hx y hy e => by
 rw [List.mem_singleton] at hy
 subst hy
 subst e
 exact hr hx⟩
noncomputable def sp_spots (K : PySem.W.Frag) : Sp := fun vs H Q _ => ∃ (p : Addr) (n0 m0 : Nat) (c : Addr) (b : Nat), vs = [.ref p, .int (n0 : Int), .int (m0 : Int)] ∧ FD c b H p ∧ b ≤ 500 ∧ 1 ≤ n0 ∧ n0 ≤ 6 ∧ n0 ≤ m0 ∧ m0 ≤ 12 ∧ ∀ D qs rs H', DX c (b + 60) p H H' → H D = none → H' D = some (.lst (qs.map V.ref)) → R2At H' qs rs → rs.Nodup → n0 ≤ rs.length → rs.length ≤ 12 → WBd 24 rs → Q (.ref D) H'
theorem four_ints {ys : List V} (l : ys.length = 4) (hv : ∀ v ∈ ys, ∃ x : Int, v = .int x ∧ 0 ≤ x ∧ x ≤ 7) : ∃ e0 e1 e2 e3 : Int, ys = [.int e0, .int e1, .int e2, .int e3] ∧ (0 ≤ e0 ∧ e0 ≤ 7) ∧ (0 ≤ e1 ∧ e1 ≤ 7) ∧ (0 ≤ e2 ∧ e2 ≤ 7) ∧ (0 ≤ e3 ∧ e3 ≤ 7) := by
 match ys, l with
 | [v1, v2, v3, v4], _ =>
  obtain ⟨e0, rfl, f0⟩ := hv v1 (by simp)
  obtain ⟨e1, rfl, f1⟩ := hv v2 (by simp)
  obtain ⟨e2, rfl, f2⟩ := hv v3 (by simp)
  obtain ⟨e3, rfl, f3⟩ := hv v4 (by simp)
  exact ⟨e0, e1, e2, e3, rfl, f0, f1, f2, f3⟩
theorem sc_bd {k m : Int} (h1 : -10 ≤ k) (h2 : k ≤ 50) (m1 : 1 ≤ m) (m2 : m ≤ 10 ^ 20) : -(10 ^ 21) ≤ k * m ∧ k * m ≤ 50 * 10 ^ 20 := by
 constructor
 ·have := Int.mul_le_mul_of_nonneg_right h1 (show 0 ≤ m by omega)
  omega
 ·have := Int.mul_le_mul_of_nonneg_right h2 (show 0 ≤ m by omega)
  omega
theorem sc_le {k l m r : Int} (h : k ≤ l) (m1 : 1 ≤ m) : k * m + r ≤ l * m + r := by
 have := Int.mul_le_mul_of_nonneg_right h (show 0 ≤ m by omega)
 omega
theorem sc_lt {k l m r : Int} (h : k < l) (m1 : 1 ≤ m) : k * m + r < l * m + r := by
 have := Int.mul_lt_mul_of_pos_right h (show 0 < m by omega)
 omega
theorem sc_inj {k l m r : Int} (m1 : 1 ≤ m) (h : k * m + r = l * m + r) : k = l := by
 have : k * m = l * m := by omega
 exact Int.eq_of_mul_eq_mul_right (by omega) this
theorem nodup_sc {rs : List P2} (h : rs.Nodup) {m r u : Int} (m1 : 1 ≤ m) : (rs.map fun z => (z.1 * m + r, z.2 * m + u)).Nodup := by
 rw [List.nodup_iff_pairwise_ne] at h ⊢
 rw [List.pairwise_map]
 refine h.imp fun {a b} ne e => ne ?_
 simp only [Prod.mk.injEq] at e
 exact Prod.ext (sc_inj m1 e.1) (sc_inj m1 e.2)
noncomputable def sp_world (K : PySem.W.Frag) : Sp := fun vs H Q _ => ∃ (p : Addr) (n0 m0 : Nat) (c : Addr) (b : Nat), vs = [.ref p, .int (n0 : Int), .int (m0 : Int)] ∧ FD c b H p ∧ b ≤ 400 ∧ 1 ≤ n0 ∧ n0 ≤ 6 ∧ n0 ≤ m0 ∧ m0 ≤ 12 ∧
 ∀ t bx l x y u v qs rs H', DX c (b + 90) p H H' → H' t = some (.tup [.ref bx, .ref l]) → SpOk H' bx l x y u v qs rs → n0 ≤ rs.length → (-(10 ^ 26) ≤ x ∧ u ≤ 10 ^ 26) → (-(10 ^ 26) ≤ y ∧ v ≤ 10 ^ 26) → Q (.ref t) H'
noncomputable def sp_frac : Sp := fun vs H Q _ => ∃ x y : Int, vs = [.int x, .int y] ∧ 0 < y ∧ Bd 8000 y ∧ ∀ p a c, H p = none → IsFr x y a c → Q (.ref p) (upd H p (.tup [.int a, .int c]))
noncomputable def sp__law_whole : Sp := fun vs H Q _ => ∃ i : Int, vs = [.int i] ∧ Q (.bl true) H
noncomputable def sp__law_divisor : Sp := fun vs H Q _ => ∃ a b : Int, vs = [.int a, .int b] ∧ Q (.int (Int.gcd a b : Int)) H
noncomputable def sp_ispt (K : PySem.W.Frag) : Sp := fun vs H Q _ => ∃ (p : Addr) (z : P3), vs = [.ref p] ∧ H p = some (.tup [.int z.1, .int z.2.1, .int z.2.2]) ∧ 0 < z.2.2 ∧ Int.gcd (Int.gcd z.1 z.2.1) z.2.2 = 1 ∧ ∀ H', Ext H H' → Q (.bl true) H'
noncomputable def sp_way : Sp := fun vs H Q _ => ∃ (p q : Addr) (z : P3) (r : P2), vs = [.ref p, .ref q] ∧ H p = some (.tup [.int z.1, .int z.2.1, .int z.2.2]) ∧ H q = some (.tup [.int r.1, .int r.2]) ∧ B3 2000 z ∧ B2 2000 r ∧ Q (.int (sq2 z r)) H
noncomputable def sp_side : Sp := fun vs H Q _ => ∃ (p q r : Addr) (A B D : P3), vs = [.ref p, .ref q, .ref r] ∧ H p = some (.tup [.int A.1, .int A.2.1, .int A.2.2]) ∧ H q = some (.tup [.int B.1, .int B.2.1, .int B.2.2]) ∧ H r = some (.tup [.int D.1, .int D.2.1, .int D.2.2]) ∧ B3 2000 A ∧ B3 2000 B ∧ B3 2000 D ∧ Q (.int (dt A B D)) H
noncomputable def toP (r : P2) : P3 := (r.1, r.2, 1)
noncomputable def mostN (ws : List Int) (n : Nat) : List Nat := (List.range n).filter fun i => decide (∀ a ∈ ws, a ≤ ws.getD i 0)
noncomputable def onP (rs : List P2) (z : P3) : List P3 := (mostN (rs.map (sqr z)) rs.length).map fun i => toP (rs.getD i (0, 0))
noncomputable def Hold2 (z A B : P3) : Prop := (A.1 + B.1) * z.2.2 = 2 * z.1 ∧ (A.2.1 + B.2.1) * z.2.2 = 2 * z.2.1
noncomputable def Hold3 (z A B D : P3) : Prop := (0 < dt A B z ∧ 0 < dt B D z ∧ 0 < dt D A z) ∨ (dt A B z < 0 ∧ dt B D z < 0 ∧ dt D A z < 0)
theorem Hold3.turn {z A B D : P3} (h : Hold3 z A B D) : Hold3 z B D A := by
 rcases h with ⟨a, b, c⟩ | ⟨a, b, c⟩
 ·exact .inl ⟨b, c, a⟩
 ·exact .inr ⟨b, c, a⟩
theorem dt_swap (A B z : P3) : dt B A z = - dt A B z := by unfold dt; grind
theorem Hold3.swap {z A B D : P3} (h : Hold3 z A B D) : Hold3 z B A D := by
 have e1 := dt_swap A B z
 have e2 := dt_swap B D z
 have e3 := dt_swap D A z
 rcases h with ⟨a, b, c⟩ | ⟨a, b, c⟩
 ·exact .inr ⟨by omega, by omega, by omega⟩
 ·exact .inl ⟨by omega, by omega, by omega⟩
theorem Hold3.ne {z A B D : P3} (h : Hold3 z A B D) : A ≠ B ∧ B ≠ D ∧ D ≠ A := by
 have e : ∀ X : P3, dt X X z = 0 := fun X => by unfold dt; grind
 refine ⟨fun q => ?_, fun q => ?_, fun q => ?_⟩ <;> subst q
 ·have := e A; unfold Hold3 at h; omega
 ·have := e B; unfold Hold3 at h; omega
 ·have := e D; unfold Hold3 at h; omega
noncomputable def Two (cs : List P3) (z : P3) : Prop := ∃ (i j : Nat) (A B : P3), j ≤ i ∧ cs[i]? = some A ∧ cs[j]? = some B ∧ Hold2 z A B
noncomputable def Three (cs : List P3) (z : P3) : Prop := ∃ (i j k : Nat) (A B D : P3), k < j ∧ j < i ∧ cs[i]? = some A ∧ cs[j]? = some B ∧ cs[k]? = some D ∧ Hold3 z A B D
theorem Two.of {cs : List P3} {z A B : P3} (ha : A ∈ cs) (hb : B ∈ cs) (h : Hold2 z A B) : Two cs z := by
 obtain ⟨i, hi⟩ := List.getElem?_of_mem ha
 obtain ⟨j, hj⟩ := List.getElem?_of_mem hb
 by_cases q : j ≤ i
 ·exact ⟨i, j, A, B, q, hi, hj, h⟩
 ·exact ⟨j, i, B, A, by omega, hj, hi, by unfold Hold2 at h ⊢; rw [Int.add_comm B.1, Int.add_comm B.2.1]; exact h⟩
theorem Three.of {cs : List P3} {z A B D : P3} (ha : A ∈ cs) (hb : B ∈ cs) (hd : D ∈ cs) (h : Hold3 z A B D) : Three cs z := by
 obtain ⟨i, hi⟩ := List.getElem?_of_mem ha
 obtain ⟨j, hj⟩ := List.getElem?_of_mem hb
 obtain ⟨k, hk⟩ := List.getElem?_of_mem hd
 obtain ⟨n1, n2, n3⟩ := h.ne
 have m1 : i ≠ j := fun q => by subst q; rw [hi] at hj; cases hj; exact n1 rfl
 have m2 : j ≠ k := fun q => by subst q; rw [hj] at hk; cases hk; exact n2 rfl
 have m3 : k ≠ i := fun q => by subst q; rw [hk] at hi; cases hi; exact n3 rfl
 rcases Nat.lt_or_gt_of_ne m1 with a | a <;> rcases Nat.lt_or_gt_of_ne m2 with b | b <;> rcases Nat.lt_or_gt_of_ne m3 with c | c
 ·omega
 ·exact ⟨k, j, i, D, B, A, a, b, hk, hj, hi, h.turn.swap⟩
 ·exact ⟨j, i, k, B, A, D, c, a, hj, hi, hk, h.swap⟩
 ·exact ⟨j, k, i, B, D, A, c, b, hj, hk, hi, h.turn⟩
 ·exact ⟨i, k, j, A, D, B, b, c, hi, hk, hj, h.turn.turn.swap⟩
 ·exact ⟨k, i, j, D, A, B, a, c, hk, hi, hj, h.turn.turn⟩
 ·exact ⟨i, j, k, A, B, D, b, a, hi, hj, hk, h⟩
 ·omega
theorem mem_onP {rs : List P2} {z : P3} {p : P2} (hp : p ∈ rs) (hm : ∀ s ∈ rs, sqr z s ≤ sqr z p) : toP p ∈ onP rs z := by
 obtain ⟨i, hi⟩ := List.getElem?_of_mem hp
 have li := (List.getElem?_eq_some_iff.mp hi).1
 have gi : (rs.map (sqr z)).getD i 0 = sqr z p := by
  rw [List.getD_eq_getElem?_getD, List.getElem?_map, hi]
  rfl
 refine List.mem_map.mpr ⟨i, List.mem_filter.mpr ⟨List.mem_range.mpr li, decide_eq_true fun a ha => ?_⟩, by rw [List.getD_eq_getElem?_getD, hi]; rfl⟩
 obtain ⟨s, hs, rfl⟩ := List.mem_map.mp ha
 rw [gi]
 exact hm s hs
theorem le_of_div {W A B : Rat} (w : 0 < W) (q : A / W ≤ B / W) : A ≤ B := by
 refine Classical.byContradiction fun z => ?_
 have m := Rat.mul_nonneg (Rat.le_of_lt w) (show 0 ≤ B / W - A / W by grind)
 have e : W * (B / W - A / W) = B - A := by grind
 grind
theorem half_cross {p q c W : Rat} (n : W ≠ 0) (h : p + q = 2 * (c / W)) : (p + q) * W = 2 * c := by grind
theorem ar_cross {a1 a2 b1 b2 c1 c2 W : Rat} (n : W ≠ 0) : ((b1 - a1) * (c2 / W - a2) - (b2 - a2) * (c1 / W - a1)) * W = a1 * (b2 * W - 1 * c2) - a2 * (b1 * W - 1 * c1) + 1 * (b1 * c2 - b2 * c1) := by grind
theorem sign_pos {x W : Rat} (w : 0 < W) : (0 < x → 0 < x * W) ∧ (x < 0 → x * W < 0) := by
 constructor
 ·exact fun h => Rat.mul_pos h w
 ·intro h
  have := Rat.mul_pos (show 0 < -x by grind) w
  grind
theorem held_on {rs : List P2} {z : P3} {a b : Int} (h : RingOk rs z a b) : Two (onP rs z) z ∨ Three (onP rs z) z := by
 have w0 := h.isC.1
 have n := rne (Int.ne_of_gt w0)
 have W0 : (0 : Rat) < ((z.2.2 : Int) : Rat) := by exact_mod_cast w0
 have w2r : (0 : Rat) < ((z.2.2 ^ 2 : Int) : Rat) := by
  have e2 : z.2.2 ^ 2 = z.2.2 * z.2.2 := by grind
  rw [e2]
  exact_mod_cast Int.mul_pos w0 w0
 have on : ∀ {s : RG.Pt}, s ∈ rs.map spR → RG.dq (rp z) s = (a : Rat) / (b : Rat) → ∃ p, s = spR p ∧ toP p ∈ onP rs z := fun {s} hs e => by
  obtain ⟨p, hp, rfl⟩ := List.mem_map.mp hs
  refine ⟨p, rfl, mem_onP hp fun q hq => ?_⟩
  have m := h.ring.2 (spR q) (List.mem_map.mpr ⟨q, hq, rfl⟩)
  rw [← e, dq_sqr w0, dq_sqr w0] at m
  exact_mod_cast le_of_div w2r m
 have dtR : ∀ p q : P2, RG.ar2 (spR p) (spR q) (rp z) * ((z.2.2 : Int) : Rat) = ((dt (toP p) (toP q) z : Int) : Rat) := fun p q => by
  unfold dt toP RG.ar2 spR rp
  dsimp only
  simp only [Rat.intCast_add, Rat.intCast_mul, Rat.intCast_sub]
  rw [show ((1 : Int) : Rat) = 1 from rfl]
  exact ar_cross n
 have sg : ∀ p q : P2, (0 < RG.ar2 (spR p) (spR q) (rp z) → 0 < dt (toP p) (toP q) z) ∧ (RG.ar2 (spR p) (spR q) (rp z) < 0 → dt (toP p) (toP q) z < 0) := fun p q => by
  have s := sign_pos (x := RG.ar2 (spR p) (spR q) (rp z)) W0
  rw [dtR] at s
  exact ⟨fun g => by exact_mod_cast s.1 g, fun g => by exact_mod_cast s.2 g⟩
 rcases h.ring.held with ⟨s, hs, t, ht, e1, e2, x, y⟩ | ⟨s, hs, t, ht, u, hu, e1, e2, e3, g⟩
 ·obtain ⟨p, rfl, hp⟩ := on hs e1
  obtain ⟨q, rfl, hq⟩ := on ht e2
  refine .inl (.of hp hq ⟨?_, ?_⟩)
  ·have m := half_cross n x
   show (p.1 + q.1) * z.2.2 = 2 * z.1
   have e : (((p.1 + q.1) * z.2.2 : Int) : Rat) = ((2 * z.1 : Int) : Rat) := by rw [Rat.intCast_mul, Rat.intCast_add, Rat.intCast_mul]; exact m
   exact_mod_cast e
  ·have m := half_cross n y
   show (p.2 + q.2) * z.2.2 = 2 * z.2.1
   have e : (((p.2 + q.2) * z.2.2 : Int) : Rat) = ((2 * z.2.1 : Int) : Rat) := by rw [Rat.intCast_mul, Rat.intCast_add, Rat.intCast_mul]; exact m
   exact_mod_cast e
 ·obtain ⟨p, rfl, hp⟩ := on hs e1
  obtain ⟨q, rfl, hq⟩ := on ht e2
  obtain ⟨r, rfl, hr⟩ := on hu e3
  refine .inr (.of hp hq hr ?_)
  rcases g with ⟨g1, g2, g3⟩ | ⟨g1, g2, g3⟩
  ·exact .inl ⟨(sg _ _).1 g1, (sg _ _).1 g2, (sg _ _).1 g3⟩
  ·exact .inr ⟨(sg _ _).2 g1, (sg _ _).2 g2, (sg _ _).2 g3⟩
noncomputable def N2 (cs : List P3) (z : P3) (i j : Nat) : Prop := ∀ A B, cs[i]? = some A → cs[j]? = some B → ¬ Hold2 z A B
noncomputable def N3 (cs : List P3) (z : P3) (i j k : Nat) : Prop := ∀ A B D, cs[i]? = some A → cs[j]? = some B → cs[k]? = some D → ¬ Hold3 z A B D
noncomputable def RowN (cs : List P3) (z : P3) (i j : Nat) : Prop := ∀ j' < j, N2 cs z i j' ∧ ∀ k < j', N3 cs z i j' k
noncomputable def AllN (cs : List P3) (z : P3) (i : Nat) : Prop := ∀ i' < i, RowN cs z i' (i' + 1)
theorem AllN.no {cs : List P3} {z : P3} (h : AllN cs z cs.length) (g : Two cs z ∨ Three cs z) : False := by
 rcases g with ⟨i, j, A, B, l, h1, h2, q⟩ | ⟨i, j, k, A, B, D, l1, l2, h1, h2, h3, q⟩
 ·exact (h i (List.getElem?_eq_some_iff.mp h1).1 j (by omega)).1 A B h1 h2 q
 ·exact (h i (List.getElem?_eq_some_iff.mp h1).1 j (by omega)).2 k l1 A B D h1 h2 h3 q
theorem AllN.succ {cs : List P3} {z : P3} {i : Nat} (h : AllN cs z i) (r : RowN cs z i (i + 1)) : AllN cs z (i + 1) := fun i' l => by
 by_cases e : i' = i
 ·rw [e]; exact r
 ·exact h i' (by omega)
theorem RowN.succ {cs : List P3} {z : P3} {i j : Nat} (h : RowN cs z i j) (a : N2 cs z i j) (b : ∀ k < j, N3 cs z i j k) : RowN cs z i (j + 1) := fun j' l => by
 by_cases e : j' = j
 ·rw [e]; exact ⟨a, b⟩
 ·exact h j' (by omega)
noncomputable def sp_held (K : PySem.W.Frag) : Sp := fun vs H Q _ => ∃ (l c o : Addr) (qs : List Addr) (rs : List P2) (z : P3) (a b : Int), vs = [.ref l, .ref c, .ref o] ∧ LpOk H l qs rs ∧ H c = some (.tup [.int z.1, .int z.2.1, .int z.2.2]) ∧ H o = some (.lst ((mostOf (rs.map (sqr z)) rs.length).map V.int)) ∧ RingOk rs z a b ∧ ∀ H', Ext H H' → Q (.bl true) H'
theorem eqvAll_rs : ∀ rs : List P2, PyData.eqvAll (rs.map t2d) (rs.map t2d) = true
 | [] => by simp [PyData.eqvAll]
 | c :: cs => by
  have := eqvAll_rs cs
  simp only [List.map_cons, PyData.eqvAll, this, Bool.and_true]
  simp [t2d, PyData.eqv, PyData.eqvAll]
theorem eqv_rs (rs : List P2) : PyData.eqv (.list (rs.map t2d)) (.list (rs.map t2d)) = true := by
 simp only [PyData.eqv, eqvAll_rs]
theorem rdy_es {K : PySem.W.Frag} {H : Hp} : ∀ es : List Int, RdyAll K H (es.map V.int) (es.map PyData.int)
 | [] => .nil
 | e :: es => .cons (.int e) (rdy_es es)
theorem lay_es : ∀ es : List Int, PyData.canLayAll0 (es.map PyData.int) = true ∧ PyData.depthAll (es.map PyData.int) = 0
 | [] => ⟨rfl, by simp [PyData.depthAll]⟩
 | c :: cs => by
  obtain ⟨a, b⟩ := lay_es cs
  constructor
  ·simp [PyData.canLayAll0, PyData.canLay0, a]
  ·simp [PyData.depthAll, PyData.depth, b]
theorem shaped_es (es : List Int) : SeqAt.shaped (.list (es.map PyData.int)) = true := by
 obtain ⟨c, d⟩ := lay_es es
 unfold SeqAt.shaped
 rw [Bool.and_eq_true, decide_eq_true_eq]
 exact ⟨by simp [PyData.canLay0, c], by simp [PyData.depth, d]⟩
theorem plain_all : ∀ es : List Int, plainDs (es.map PyData.int) = true
 | [] => rfl
 | e :: es => by simp [plainDs, plainD, plain_all es]
theorem plain_es (es : List Int) : plainD (.list (es.map PyData.int)) = true := by simp [plainD, plain_all]
theorem rep_bl (i : Nat) : (List.replicate i true).map V.bl ++ [.bl true] = .bl true :: (List.replicate i true).map V.bl := by
 rw [List.map_replicate, ← List.replicate_succ', List.replicate_succ]
theorem all_rep (n : Nat) : (List.replicate n true).all id = true := by simp
theorem ring_frac {rs : List P2} {z : P3} {a b M : Int} (h : RingOk rs z a b) (hM : FarM rs z M) : a * (z.2.2 * z.2.2) = M * b := by
 obtain ⟨f1, s1, hs1, f2⟩ := far_le h.isC.1 hM
 obtain ⟨t, ht, e⟩ := h.ring.reach
 have q1 := f1 t ht
 have q2 := h.ring.2 s1 hs1
 rw [e] at q1
 rw [f2] at q2
 have q := Rat.le_antisymm q1 q2
 have w0 : z.2.2 ^ 2 ≠ 0 := by
  rw [show z.2.2 ^ 2 = z.2.2 * z.2.2 by grind]
  exact Int.ne_of_gt (Int.mul_pos h.isC.1 h.isC.1)
 have c := fr_cross (rne w0) (rne (Int.ne_of_gt h.b0)) q.symm
 rw [← Rat.intCast_mul, ← Rat.intCast_mul] at c
 have c2 : a * z.2.2 ^ 2 = M * b := by exact_mod_cast c
 rw [← c2]
 grind
noncomputable def sp_right (K : PySem.W.Frag) : Sp := fun vs H Q _ => ∃ (l : Addr) (qs : List Addr) (rs : List P2), vs = [.ref l] ∧ LpOk H l qs rs ∧ ∀ H', Ext H H' → Q (.bl true) H'
noncomputable def sp_refused (K : PySem.W.Frag) : Sp := fun vs H Q _ => ∃ (l : Addr) (qs : List Addr) (rs : List P2), vs = [.ref l] ∧ H l = some (.lst (qs.map V.ref)) ∧ R2At H qs rs ∧ (∀ r ∈ rs, Bd 130 r.1 ∧ Bd 130 r.2) ∧
 ((¬ (0 < rs.length ∧ rs.length ≤ 12) ∧ ∀ t H', Ext H H' → H' t = some (.tup [.str "many", .bl false]) → Q (.ref t) H') ∨ ((0 < rs.length ∧ rs.length ≤ 12) ∧ ∃ i, FirstDup rs i ∧ ∀ t H', Ext H H' → H' t = some (.tup [.str "spot", .int (i : Int)]) → Q (.ref t) H'))
theorem FirstDup.uniq {rs : List P2} {i j : Nat} (h : FirstDup rs i) (k : FirstDup rs j) : i = j := by
 have key : ∀ {i j : Nat}, FirstDup rs i → FirstDup rs j → i < j → False := fun {i j} h k l => by
  obtain ⟨_, r, h1, h2⟩ := h
  have li := (List.getElem?_eq_some_iff.mp h1).1
  have sub : (rs.take i) ++ [r] = rs.take (i + 1) := by rw [List.take_succ, h1]; rfl
  have nd : (rs.take (i + 1)).Nodup := (List.take_sublist_take_left (l := rs) (show i + 1 ≤ j by omega)).nodup k.1
  rw [← sub] at nd
  have := (List.nodup_append.mp nd).2.2 r h2 r (by simp)
  exact this rfl
 rcases Nat.lt_trichotomy i j with l | l | l
 ·exact (key h k l).elim
 ·exact l
 ·exact (key k h l).elim
noncomputable def tw (rs : List P2) (at' : Nat) (r : P2) : List P2 := rs.take at' ++ [r] ++ rs.drop at'
theorem tw_dup {rs : List P2} (nd : rs.Nodup) {one at' : Nat} {r : P2} (h1 : rs[one]? = some r) (l1 : one < at') (l2 : at' ≤ rs.length) : FirstDup (tw rs at' r) at' := by
 have lt : (rs.take at').length = at' := by rw [List.length_take]; omega
 have e : (tw rs at' r).take at' = rs.take at' := by
  unfold tw
  rw [List.append_assoc, List.take_append_of_le_length (by omega), List.take_of_length_le (by omega)]
 refine ⟨by rw [e]; exact (List.take_sublist at' rs).nodup nd, r, ?_, ?_⟩
 ·unfold tw
  rw [List.append_assoc, List.getElem?_append_right (by omega), lt, Nat.sub_self]
  rfl
 ·rw [e]
  exact List.mem_of_getElem? (i := one) (by rw [List.getElem?_take_of_lt l1]; exact h1)
theorem tw_len {rs : List P2} {at' : Nat} {r : P2} (l2 : at' ≤ rs.length) : (tw rs at' r).length = rs.length + 1 := by
 unfold tw
 rw [List.length_append, List.length_append, List.length_take, List.length_drop]
 show min at' rs.length + 1 + _ = _
 omega
noncomputable def manyD : PyData := .tuple [.str "many", .bool false]
noncomputable def spotD (i : Int) : PyData := .tuple [.str "spot", .int i]
theorem rdy_many {K : PySem.W.Frag} {H : Hp} {t : Addr} (h : H t = some (.tup [.str "many", .bl false])) : Rdy K H (.ref t) manyD := .tup (SqT.of h) (.cons (.str _) (.cons (.bl _) .nil))
theorem rdy_spot {K : PySem.W.Frag} {H : Hp} {t : Addr} {i : Int} (h : H t = some (.tup [.str "spot", .int i])) : Rdy K H (.ref t) (spotD i) := .tup (SqT.of h) (.cons (.str _) (.cons (.int _) .nil))
theorem so3 : PyData.strOk "many" = true := by decide +kernel
theorem so4 : PyData.strOk "spot" = true := by decide +kernel
theorem sh_many : SeqAt.shaped manyD = true := by simp only [manyD, SeqAt.shaped, PyData.canLay0, PyData.canLayAll0, PyData.depth, PyData.depthAll, so3] <;> decide
theorem sh_spot (i : Int) : SeqAt.shaped (spotD i) = true := by simp only [spotD, SeqAt.shaped, PyData.canLay0, PyData.canLayAll0, PyData.depth, PyData.depthAll, so4] <;> decide
theorem eq_many : PyData.eqv manyD manyD = true := by simp [manyD, PyData.eqv, PyData.eqvAll]
theorem eq_spot (i : Int) : PyData.eqv (spotD i) (spotD i) = true := by simp [spotD, PyData.eqv, PyData.eqvAll]
theorem R2At.none {H : Hp} : R2At H [] [] := ⟨rfl, fun i q z a => by simp at a⟩
noncomputable def col13 : Nat → List P2
 | 0 => []
 | n + 1 => col13 n ++ [(0, (n : Int))]
theorem col_len : ∀ n, (col13 n).length = n
 | 0 => rfl
 | n + 1 => by rw [col13, List.length_append, col_len n]; rfl
theorem col_bd : ∀ {n : Nat}, n ≤ 20 → ∀ r ∈ col13 n, Bd 130 r.1 ∧ Bd 130 r.2
 | 0, _, r, h => by simp [col13] at h
 | n + 1, hn, r, h => by
  rw [col13] at h
  rcases List.mem_append.mp h with g | g
  ·exact col_bd (by omega) r g
  ·rw [List.mem_singleton.mp g]
   exact ⟨bd29 (by omega) (by omega) 130, bd29 (by omega) (by omega) 130⟩
noncomputable def sp_law (K : PySem.W.Frag) : Sp := fun vs H Q _ => ∃ (a : Addr) (ns : List Int), vs = [.ref a] ∧ SqL K H a (ns.map V.int) ∧ ns.length ≤ 63 ∧ ∀ H', Q (.bl true) H'
end LW
namespace LW
open PySem L2 MA PyProof.Rows MC
section
variable {P : Program} {w : World} {K : PySem.W.Frag} {mg : Str → Option Value} {base : Heap}
theorem sc_divisor : FnScope ["one", "other"] ["one", "other"] (defScope s_divisor) := ⟨rfl, rfl, rfl, by decide +kernel, rfl, by decide +kernel, by decide +kernel⟩
set_option maxHeartbeats 0 in
theorem ok_divisor {C : Cz} {f : Addr} {fd : FuncData} (F : Fun K "divisor" "divisor" s_divisor f fd) (T : Txt P K mg C)  : FnOk P w K mg base (CXE P w) 1 f fd ["one", "other"] sp_divisor := by
 refine okN F (k := 0) sc_divisor (fun vs H Q E h => ?_) (fun cdv A outer s H vs Q E hr h => ?_)
 ·obtain ⟨a, b, rfl, _⟩ := h
  rfl
 ·obtain ⟨a, b, rfl, h⟩ := h
  refine' ⟨_, ?main, ?rest⟩
  case main =>
   refine' pss_cons ?c1 ?c2
   case' c1 => refine' ps_set (i := 0) sc_divisor.nd rfl (Or.inl rfl) ?c3
   case' c3 => refine' pe_callB call_abs (by rfl) T.b_abs boot_abs ?c4
   case' c4 => exact (pa_cons (pvF 0) pa_nil)
   case' c2 => refine' pss_cons ?c5 ?c6
   case' c5 => refine' ps_set (i := 1) sc_divisor.nd rfl (Or.inl rfl) ?c7
   case' c7 => refine' pe_callB call_abs (by rfl) T.b_abs boot_abs ?c8
   case' c8 => exact (pa_cons (pvF 1) pa_nil)
   case' c6 => refine' pss_cons ?c9 ?c10
   case' c9 => refine' ps_while PassesOwn.never ?c11 ?c12
   case' c11 => exact (pt_cmpF op_neI (pvF 1) pe_int (nomark _))
   case' c12 => refine' pss_one ?c13
   case' c13 => refine' ps_par (i := 0) (j := 1) rfl sc_divisor.nd rfl rfl (by decide) rfl rfl ?c14 rfl
   case' c14 => refine' pa_cons (pvF 1) ?c15
   case' c15 => exact (pa_cons (pe_op (OpR.f op_mod) (pvF 0) (pvF 1)) pa_nil)
   case' c10 => exact (pss_one (ps_ret (pvF 0)))
  case rest =>
   simp only [L2.start, List.map_cons, List.map_nil, List.length_cons, List.length_nil, Nat.reduceAdd, Nat.reduceSub, List.replicate_succ, List.replicate_zero, List.cons_append, List.nil_append, List.append_nil]
   o_head ⟨tRaiseN, tAt, tTryN⟩
   refine ⟨fun m σ H' => ∃ x y : Int, σ = [some (.int x), some (.int y)] ∧ H' = H ∧ 0 ≤ x ∧ 0 ≤ y ∧ Int.gcd x y = Int.gcd a b ∧ m = y.toNat, ⟨_, _, _, rfl, rfl, ?_, ?_, ?_, rfl⟩, ?_⟩
   ·show 0 ≤ ab a
    rw [ab_eq]; omega
   ·show 0 ≤ ab b
    rw [ab_eq]; omega
   ·show Int.gcd (ab a) (ab b) = _
    rw [ab_eq, ab_eq, gcd_abs_left, gcd_abs_right]
   ·rintro m σ H' ⟨x, y, rfl, rfl, hx, hy, hg, rfl⟩
    o_head ⟨tRaiseN, tAt, tTryN⟩
    by_cases hy0 : y = 0
    ·subst hy0
     rw [if_neg (by simp)]
     have e := gcd_zero hx
     rw [hg] at e
     rw [e] at h
     exact h
    ·rw [if_pos (by simpa using hy0)]
     have hp : 0 < y := by omega
     refine ⟨fun σ' H1 => ∃ x y' : Int, σ' = [some (.int x), some (.int y')] ∧ H1 = H' ∧ 0 ≤ x ∧ 0 ≤ y' ∧ Int.gcd x y' = Int.gcd a b ∧ y' < y, ?_, ?_⟩
     ·rintro σ' H1 ⟨x, y', rfl, rfl, h1, h2, h3, h4⟩
      exact ⟨y'.toNat, by omega, x, y', rfl, rfl, h1, h2, h3, rfl⟩
     ·o_head ⟨tRaiseN, tAt, tTryN⟩
      exact ⟨hp, hy, Int.emod_nonneg _ hy0, by rw [gcd_step hp]; exact hg, Int.emod_lt_of_pos _ hp⟩
end
end LW
namespace LW
open PySem L2 MA PyProof.Rows MC
section
variable {P : Program} {w : World} {K : PySem.W.Frag} {mg : Str → Option Value} {base : Heap}
theorem sc_sign : FnScope ["number"] ["number"] (defScope s_sign) := ⟨rfl, rfl, rfl, by decide +kernel, rfl, by decide +kernel, by decide +kernel⟩
set_option maxHeartbeats 0 in
theorem ok_sign {C : Cz} {f : Addr} {fd : FuncData} (F : Fun K "sign" "sign" s_sign f fd) (T : Txt P K mg C)  : FnOk P w K mg base (CXE P w) 1 f fd ["number"] sp_sign := by
 refine okN F (k := 0) sc_sign (fun vs H Q E h => ?_) (fun cdv A outer s H vs Q E hr h => ?_)
 ·obtain ⟨n, rfl, _⟩ := h
  rfl
 ·obtain ⟨n, rfl, h⟩ := h
  refine' ⟨_, ?main, ?rest⟩
  case main =>
   refine' pss_cons ?c1 ?c2
   case' c1 => refine' ps_if ?c3 ?c4 pss_nil
   case' c3 => exact (pt_cmpF (OpR.f0 op_lt) (pvF 0) pe_int (nomark _))
   case' c4 => refine' pss_one ?c5
   case' c5 => refine' ps_ret ?c6
   case' c6 => exact (pe_un (UnR.f un_neg) pe_int)
   case' c2 => refine' pss_cons ?c7 ?c8
   case' c7 => refine' ps_if ?c9 ?c10 pss_nil
   case' c9 => exact (pt_cmpF (OpR.f0 op_gt) (pvF 0) pe_int (nomark _))
   case' c10 => refine' pss_one ?c11
   case' c11 => exact (ps_ret pe_int)
   case' c8 => refine' pss_one ?c12
   case' c12 => exact (ps_ret pe_int)
  case rest =>
   simp only [L2.start, List.map_cons, List.map_nil, List.length_cons, List.length_nil, Nat.reduceAdd, Nat.reduceSub, List.replicate_succ, List.replicate_zero, List.cons_append, List.nil_append, List.append_nil]
   o_head ⟨tRaiseN, tAt, tTryN⟩
   unfold sgn at h
   split
   ·rename_i z
    rw [if_pos z] at h
    exact h
   ·rename_i z
    rw [if_neg z] at h
    split
    ·rename_i z
     rw [if_pos z] at h
     exact h
    ·rename_i z
     rw [if_neg z] at h
     exact h
end
end LW
namespace LW
open PySem L2 MA PyProof.Rows MC
section
variable {P : Program} {w : World} {K : PySem.W.Frag} {mg : Str → Option Value} {base : Heap}
theorem sc_point_of : FnScope ["x", "y", "w", "common"] ["x", "y", "w"] (defScope s_point_of) := ⟨rfl, rfl, rfl, by decide +kernel, rfl, by decide +kernel, by decide +kernel⟩
set_option maxHeartbeats 0 in
theorem ok_point_of {C : Cz} {f : Addr} {fd : FuncData} (F : Fun K "point_of" "point_of" s_point_of f fd) (T : Txt P K mg C) (F_divisor : FnB P w K mg base (CXE P w) 1 "divisor" ["one", "other"] sp_divisor) (F_sign : FnB P w K mg base (CXE P w) 1 "sign" ["number"] sp_sign) : FnOk P w K mg base (CXE P w) 2 f fd ["x", "y", "w"] sp_point_of := by
 refine okN F (k := 1) sc_point_of (fun vs H Q E h => ?_) (fun cdv A outer s H vs Q E hr h => ?_)
 ·obtain ⟨x, y, u, rfl, _⟩ := h
  rfl
 ·obtain ⟨x, y, u, rfl, h⟩ := h
  refine' ⟨_, ?main, ?rest⟩
  case main =>
   refine' pss_cons ?c1 ?c2
   case' c1 => refine' ps_if ?c3 ?c4 pss_nil
   case' c3 => exact (pt_cmpF op_eqI (pvF 2) pe_int (nomark _))
   case' c4 => exact (pss_one ps_never)
   case' c2 => refine' pss_cons ?c5 ?c6
   case' c5 => refine' ps_set (i := 3) ?c7 ?c8 ?c9 ?c10
   case c7 => exact sc_point_of.nd
   case c8 => exact rfl
   case c9 => exact (Or.inl rfl)
   case' c10 => refine' pe_op ?c11 ?c12 ?c13
   case c11 => exact (OpR.f op_mulA)
   case' c12 => refine' pe_fn F_divisor (hr.mono (by decide)) rfl passE0 ?c14
   case' c14 => refine' pa_cons ?c15 ?c16
   case' c15 => refine' pe_fn F_divisor (hr.mono (by decide)) rfl passE0 ?c17
   case' c17 => refine' pa_cons (pvF 2) ?c18
   case' c18 => exact (pa_cons (pvF 0) pa_nil)
   case' c16 => exact (pa_cons (pvF 1) pa_nil)
   case' c13 => refine' pe_fn F_sign (hr.mono (by decide)) rfl passE0 ?c19
   case' c19 => exact (pa_cons (pvF 2) pa_nil)
   case' c6 => refine' pss_one ?c20
   case' c20 => refine' ps_ret ?c21
   case' c21 => refine' pe_tup ?c22
   case' c22 => refine' pa_cons (pe_op (OpR.f op_fdivB) (pvF 0) (pvF 3)) ?c23
   case' c23 => refine' pa_cons (pe_op (OpR.f op_fdivB) (pvF 1) (pvF 3)) ?c24
   case' c24 => exact (pa_cons (pe_op (OpR.f op_fdivB) (pvF 2) (pvF 3)) pa_nil)
  case rest =>
   obtain ⟨hw, hb, h⟩ := h
   simp only [L2.start, List.map_cons, List.map_nil, List.length_cons, List.length_nil, Nat.reduceAdd, Nat.reduceSub, List.replicate_succ, List.replicate_zero, List.cons_append, List.nil_append, List.append_nil]
   rw [tSeq] 
   o_head ⟨tRaiseN, tAt, tTryN, sp_divisor, sp_sign, hw⟩
   have hc : com x y u = (Int.gcd (Int.gcd u x) y : Int) * sgn u := rfl
   rw [← hc]
   have h1 : com x y u ≠ 0 := com_ne hw
   have h2 : Bd 9000 (com x y u) := by
    refine Bd.mono (m := 8000) ?_ (by decide)
    have := (com_dvd x y u hw).2.2
    exact Nat.lt_of_le_of_lt (Nat.le_of_dvd (by omega) (Int.natAbs_dvd_natAbs.mpr this)) hb
   refine ⟨.inl (.inr ?_), h1, h2, h1, h2, h1, h2, by decide, fun p hp => h p _ _ _ hp (isPt_of hw)⟩
   rcases sgn_range u with e | e | e <;> rw [e] <;> decide
end
end LW
namespace LW
open PySem L2 MA PyProof.Rows MC
section
variable {P : Program} {w : World} {K : PySem.W.Frag} {mg : Str → Option Value} {base : Heap}
theorem sc_spot_point : FnScope ["spot"] ["spot"] (defScope s_spot_point) := ⟨rfl, rfl, rfl, by decide +kernel, rfl, by decide +kernel, by decide +kernel⟩
set_option maxHeartbeats 0 in
theorem ok_spot_point {C : Cz} {f : Addr} {fd : FuncData} (F : Fun K "spot_point" "spot_point" s_spot_point f fd) (T : Txt P K mg C)  : FnOk P w K mg base (CXE P w) 1 f fd ["spot"] sp_spot_point := by
 refine okN F (k := 0) sc_spot_point (fun vs H Q E h => ?_) (fun cdv A outer s H vs Q E hr h => ?_)
 ·obtain ⟨p, a, b, rfl, _⟩ := h
  rfl
 ·obtain ⟨p, a, b, rfl, h⟩ := h
  refine' ⟨_, ?main, ?rest⟩
  case main =>
   refine' pss_one ?c1
   case' c1 => refine' ps_ret ?c2
   case' c2 => refine' pe_tup ?c3
   case' c3 => refine' pa_cons ?c4 ?c5
   case' c4 => exact (pe_ix ix_F (pvF 0) pe_int (fun _ _ => rfl))
   case' c5 => refine' pa_cons ?c6 ?c7
   case' c6 => exact (pe_ix ix_F (pvF 0) pe_int (fun _ _ => rfl))
   case' c7 => exact (pa_cons pe_int pa_nil)
  case rest =>
   obtain ⟨hp, h⟩ := h
   simp only [L2.start, List.map_cons, List.map_nil, List.length_cons, List.length_nil, Nat.reduceAdd, Nat.reduceSub, List.replicate_succ, List.replicate_zero, List.cons_append, List.nil_append, List.append_nil]
   o_head ⟨tRaiseN, tAt, tTryN, hp⟩
   exact ⟨by decide, h⟩
end
end LW
namespace LW
open PySem L2 MA PyProof.Rows MC
section
variable {P : Program} {w : World} {K : PySem.W.Frag} {mg : Str → Option Value} {base : Heap}
theorem sc_fraction_of : FnScope ["top", "bottom", "common"] ["top", "bottom"] (defScope s_fraction_of) := ⟨rfl, rfl, rfl, by decide +kernel, rfl, by decide +kernel, by decide +kernel⟩
set_option maxHeartbeats 0 in
theorem ok_fraction_of {C : Cz} {f : Addr} {fd : FuncData} (F : Fun K "fraction_of" "fraction_of" s_fraction_of f fd) (T : Txt P K mg C) (F_divisor : FnB P w K mg base (CXE P w) 1 "divisor" ["one", "other"] sp_divisor) (F_sign : FnB P w K mg base (CXE P w) 1 "sign" ["number"] sp_sign) : FnOk P w K mg base (CXE P w) 2 f fd ["top", "bottom"] sp_fraction_of := by
 refine okN F (k := 1) sc_fraction_of (fun vs H Q E h => ?_) (fun cdv A outer s H vs Q E hr h => ?_)
 ·obtain ⟨x, u, rfl, _⟩ := h
  rfl
 ·obtain ⟨x, u, rfl, h⟩ := h
  refine' ⟨_, ?main, ?rest⟩
  case main =>
   refine' pss_cons ?c1 ?c2
   case' c1 => refine' ps_if ?c3 ?c4 pss_nil
   case' c3 => exact (pt_cmpF op_eqI (pvF 1) pe_int (nomark _))
   case' c4 => exact (pss_one ps_never)
   case' c2 => refine' pss_cons ?c5 ?c6
   case' c5 => refine' ps_set (i := 2) sc_fraction_of.nd rfl (Or.inl rfl) ?c7
   case' c7 => refine' pe_op (OpR.f op_mulA) ?c8 ?c9
   case' c8 => refine' pe_fn F_divisor (hr.mono (by decide)) rfl passE0 ?c10
   case' c10 => refine' pa_cons (pvF 1) ?c11
   case' c11 => exact (pa_cons (pvF 0) pa_nil)
   case' c9 => refine' pe_fn F_sign (hr.mono (by decide)) rfl passE0 ?c12
   case' c12 => exact (pa_cons (pvF 1) pa_nil)
   case' c6 => refine' pss_one ?c13
   case' c13 => refine' ps_ret ?c14
   case' c14 => refine' pe_tup ?c15
   case' c15 => refine' pa_cons (pe_op (OpR.f op_fdivB) (pvF 0) (pvF 2)) ?c16
   case' c16 => exact (pa_cons (pe_op (OpR.f op_fdivB) (pvF 1) (pvF 2)) pa_nil)
  case rest =>
   obtain ⟨hw, hb, h⟩ := h
   simp only [L2.start, List.map_cons, List.map_nil, List.length_cons, List.length_nil, Nat.reduceAdd, Nat.reduceSub, List.replicate_succ, List.replicate_zero, List.cons_append, List.nil_append, List.append_nil]
   o_head ⟨tRaiseN, tAt, tTryN, sp_divisor, sp_sign, hw⟩
   have hc : com x 0 u = (Int.gcd u x : Int) * sgn u := by unfold com; simp
   rw [← hc]
   have h1 : com x 0 u ≠ 0 := com_ne hw
   have h2 : Bd 9000 (com x 0 u) := by
    refine Bd.mono (m := 8000) ?_ (by decide)
    have := (com_dvd x 0 u hw).2.2
    exact Nat.lt_of_le_of_lt (Nat.le_of_dvd (by omega) (Int.natAbs_dvd_natAbs.mpr this)) hb
   have h3 := isFr_of (x := x) hw
   rw [← hc] at h3
   refine ⟨.inl (.inr ?_), h1, h2, h1, h2, by decide, fun p hp => h p _ _ hp h3⟩
   rcases sgn_range u with e | e | e <;> rw [e] <;> decide
end
end LW
namespace LW
open PySem L2 MA PyProof.Rows MC
section
variable {P : Program} {w : World} {K : PySem.W.Frag} {mg : Str → Option Value} {base : Heap}
theorem sc_less : FnScope ["one", "other"] ["one", "other"] (defScope s_less) := ⟨rfl, rfl, rfl, by decide +kernel, rfl, by decide +kernel, by decide +kernel⟩
set_option maxHeartbeats 0 in
theorem ok_less {C : Cz} {f : Addr} {fd : FuncData} (F : Fun K "less" "less" s_less f fd) (T : Txt P K mg C)  : FnOk P w K mg base (CXE P w) 1 f fd ["one", "other"] sp_less := by
 refine okN F (k := 0) sc_less (fun vs H Q E h => ?_) (fun cdv A outer s H vs Q E hr h => ?_)
 ·obtain ⟨p, q, a, b, c, d, rfl, _⟩ := h
  rfl
 ·obtain ⟨p, q, a, b, c, d, rfl, h⟩ := h
  refine' ⟨_, ?main, ?rest⟩
  case main =>
   refine' pss_one ?c1
   case' c1 => refine' ps_ret ?c2
   case' c2 => refine' pe_cmpR ?c3 ?c4 ?c5 ?c6
   case c3 => exact (OpR.f0 op_lt)
   case' c4 => refine' pe_op (OpR.f op_mulA) ?c7 ?c8
   case' c7 => exact (pe_ix ix_F (pvF 0) pe_int (fun _ _ => rfl))
   case' c8 => exact (pe_ix ix_F (pvF 1) pe_int (fun _ _ => rfl))
   case' c5 => refine' pe_op (OpR.f op_mulA) ?c9 ?c10
   case' c9 => exact (pe_ix ix_F (pvF 1) pe_int (fun _ _ => rfl))
   case' c10 => exact (pe_ix ix_F (pvF 0) pe_int (fun _ _ => rfl))
   case c6 => exact (nomark _)
  case rest =>
   obtain ⟨hp, hq, ⟨b1, b2, b3, b4⟩, h⟩ := h
   simp only [L2.start, List.map_cons, List.map_nil, List.length_cons, List.length_nil, Nat.reduceAdd, Nat.reduceSub, List.replicate_succ, List.replicate_zero, List.cons_append, List.nil_append, List.append_nil]
   o_head ⟨tRaiseN, tAt, tTryN, hp, hq⟩
   exact ⟨.inr ⟨b1.mono (by decide), b4.mono (by decide)⟩, .inr ⟨b3.mono (by decide), b2.mono (by decide)⟩, h⟩
end
end LW
namespace LW
open PySem L2 MA PyProof.Rows MC
section
variable {P : Program} {w : World} {K : PySem.W.Frag} {mg : Str → Option Value} {base : Heap}
theorem sc_scaled_square : FnScope ["point", "spot", "x", "y", "w"] ["point", "spot"] (defScope s_scaled_square) := ⟨rfl, rfl, rfl, by decide +kernel, rfl, by decide +kernel, by decide +kernel⟩
set_option maxHeartbeats 0 in
theorem ok_scaled_square {C : Cz} {f : Addr} {fd : FuncData} (F : Fun K "scaled_square" "scaled_square" s_scaled_square f fd) (T : Txt P K mg C)  : FnOk P w K mg base (CXE P w) 1 f fd ["point", "spot"] sp_scaled_square := by
 refine okN F (k := 0) sc_scaled_square (fun vs H Q E h => ?_) (fun cdv A outer s H vs Q E hr h => ?_)
 ·obtain ⟨p, q, rfl, _⟩ := h
  rfl
 ·obtain ⟨p, q, rfl, h⟩ := h
  refine' ⟨_, ?main, ?rest⟩
  case main =>
   refine' pss_cons ?c1 ?c2
   case' c1 => refine' ps_asg (pvF 0) ?c3
   case' c3 => refine' pg_F (n := 3) rfl ?c4
   case' c4 => refine' pgs_consF (pg_name (i := 2) sc_scaled_square.nd rfl (Or.inl rfl)) ?c5
   case' c5 => refine' pgs_consF (pg_name (i := 3) sc_scaled_square.nd rfl (Or.inl rfl)) ?c6
   case' c6 => exact (pgs_consF (pg_name (i := 4) sc_scaled_square.nd rfl (Or.inl rfl)) pgs_nilF)
   case' c2 => refine' pss_one ?c7
   case' c7 => refine' ps_ret ?c8
   case' c8 => refine' pe_op ?c9 ?c10 ?c11
   case c9 => exact (OpR.f0 op_add)
   case' c10 => refine' pe_op (OpR.f op_powB) ?c12 pe_int
   case' c12 => refine' pe_op (OpR.f0 op_sub) (pvF 2) ?c13
   case' c13 => refine' pe_op (OpR.f op_mulA) ?c14 (pvF 4)
   case' c14 => exact (pe_ix ix_F (pvF 1) pe_int (fun _ _ => rfl))
   case' c11 => refine' pe_op (OpR.f op_powB) ?c15 pe_int
   case' c15 => refine' pe_op (OpR.f0 op_sub) (pvF 3) ?c16
   case' c16 => refine' pe_op (OpR.f op_mulA) ?c17 (pvF 4)
   case' c17 => exact (pe_ix ix_F (pvF 1) pe_int (fun _ _ => rfl))
  case rest =>
   obtain ⟨⟨a, b, c⟩, hp, h⟩ := optK_elim h
   obtain ⟨⟨d, e⟩, hq, ⟨b1, b2, b3⟩, ⟨b4, b5⟩, h⟩ := optK_elim h
   replace hp := tup3_eq hp
   replace hq := tup2_eq hq
   dsimp only at hp hq b1 b2 b3 b4 b5 h
   simp only [L2.start, List.map_cons, List.map_nil, List.length_cons, List.length_nil, Nat.reduceAdd, Nat.reduceSub, List.replicate_succ, List.replicate_zero, List.cons_append, List.nil_append, List.append_nil]
   o_head ⟨tRaiseN, tAt, tTryN, gSeqF, gCons, gNil, hp, hq⟩
   exact ⟨(by first | exact CMulA.left (by decide) (by decide) | exact CMulA.right (by decide) (by decide) | (apply CMulA.of; (repeat (first | assumption | apply Bd.mul | apply Bd.sub | apply Bd.add | apply Bd.neg | apply Bd.sq)); all_goals decide)), (b1.sub (b4.mul b3)).mono (by decide), (by first | exact CMulA.left (by decide) (by decide) | exact CMulA.right (by decide) (by decide) | (apply CMulA.of; (repeat (first | assumption | apply Bd.mul | apply Bd.sub | apply Bd.add | apply Bd.neg | apply Bd.sq)); all_goals decide)), (b2.sub (b5.mul b3)).mono (by decide), h⟩
end
end LW
namespace LW
open PySem L2 MA PyProof.Rows MC
section
variable {P : Program} {w : World} {K : PySem.W.Frag} {mg : Str → Option Value} {base : Heap}
theorem sc_square : FnScope ["point", "spot"] ["point", "spot"] (defScope s_square) := ⟨rfl, rfl, rfl, by decide +kernel, rfl, by decide +kernel, by decide +kernel⟩
set_option maxHeartbeats 0 in
theorem ok_square {C : Cz} {f : Addr} {fd : FuncData} (F : Fun K "square" "square" s_square f fd) (T : Txt P K mg C) (F_scaled_square : FnB P w K mg base (CXE P w) 1 "scaled_square" ["point", "spot"] sp_scaled_square) (F_fraction_of : FnB P w K mg base (CXE P w) 2 "fraction_of" ["top", "bottom"] sp_fraction_of) : FnOk P w K mg base (CXE P w) 3 f fd ["point", "spot"] sp_square := by
 refine okN F (k := 2) sc_square (fun vs H Q E h => ?_) (fun cdv A outer s H vs Q E hr h => ?_)
 ·obtain ⟨p, q, rfl, _⟩ := h
  rfl
 ·obtain ⟨p, q, rfl, h⟩ := h
  refine' ⟨_, ?main, ?rest⟩
  case main =>
   refine' pss_one ?c1
   case' c1 => refine' ps_ret ?c2
   case' c2 => refine' pe_fn ?c3 ?c4 ?c5 ?c6 ?c7
   case c3 => exact F_fraction_of
   case c4 => exact (hr.mono (by decide))
   case c5 => exact rfl
   case c6 => exact passE0
   case' c7 => refine' pa_cons ?c8 ?c9
   case' c8 => refine' pe_fn F_scaled_square (hr.mono (by decide)) rfl passE0 ?c10
   case' c10 => refine' pa_cons (pvF 0) ?c11
   case' c11 => exact (pa_cons (pvF 1) pa_nil)
   case' c9 => refine' pa_cons ?c12 pa_nil
   case' c12 => refine' pe_op (OpR.f op_powB) ?c13 pe_int
   case' c13 => exact (pe_ix ix_F (pvF 0) pe_int (fun _ _ => rfl))
  case rest =>
   obtain ⟨⟨a, b, c⟩, hp, h⟩ := optK_elim h
   obtain ⟨⟨d, e⟩, hq, ⟨b1, b2, b3⟩, ⟨b4, b5⟩, hc, h⟩ := optK_elim h
   replace hp := tup3_eq hp
   replace hq := tup2_eq hq
   dsimp only at hp hq b1 b2 b3 b4 b5 h hc
   simp only [L2.start, List.map_cons, List.map_nil, List.length_cons, List.length_nil, Nat.reduceAdd, Nat.reduceSub, List.replicate_succ, List.replicate_zero, List.cons_append, List.nil_append, List.append_nil]
   o_head ⟨tRaiseN, tAt, tTryN, sp_scaled_square, sp_fraction_of, hp, hq⟩
   refine ⟨⟨b1, b2, b3⟩, ⟨b4, b5⟩, b3.mono (by decide), ?_, b3.sq.mono (by decide), fun t a' c' ht hf => h t a' c' ht hf⟩
   have : 0 < c ^ 2 := Int.pow_pos hc
   omega
end
end LW
namespace LW
open PySem L2 MA PyProof.Rows MC
section
variable {P : Program} {w : World} {K : PySem.W.Frag} {mg : Str → Option Value} {base : Heap}
theorem sc_line_of : FnScope ["a", "b", "c", "common"] ["a", "b", "c"] (defScope s_line_of) := ⟨rfl, rfl, rfl, by decide +kernel, rfl, by decide +kernel, by decide +kernel⟩
set_option maxHeartbeats 0 in
theorem ok_line_of {C : Cz} {f : Addr} {fd : FuncData} (F : Fun K "line_of" "line_of" s_line_of f fd) (T : Txt P K mg C) (F_divisor : FnB P w K mg base (CXE P w) 1 "divisor" ["one", "other"] sp_divisor) : FnOk P w K mg base (CXE P w) 2 f fd ["a", "b", "c"] sp_line_of := by
 refine okN F (k := 1) sc_line_of (fun vs H Q E h => ?_) (fun cdv A outer s H vs Q E hr h => ?_)
 ·obtain ⟨a, b, c, rfl, _⟩ := h
  rfl
 ·obtain ⟨a, b, c, rfl, h⟩ := h
  refine' ⟨_, ?main, ?rest⟩
  case main =>
   refine' pss_cut ?c1 ?c2
   case' c1 => refine' ps_if ?c3 ?c4 ?c5
   case' c3 => refine' PW.pt ?c6
   case' c6 => refine' pw_and ?c7 ?c8
   case' c7 => exact (pt_cmpF op_eqI (pvF 0) pe_int (nomark _))
   case' c8 => refine' pw_and1 ?c9
   case' c9 => exact (pt_cmpF op_eqI (pvF 1) pe_int (nomark _))
   case' c4 => exact (pss_one ps_never)
   case c5 => exact pss_nil
   case' c2 => refine' pss_cons ?c10 ?c11
   case' c10 => refine' ps_set (i := 3) sc_line_of.nd rfl (Or.inl rfl) ?c12
   case' c12 => refine' pe_fn F_divisor (hr.mono (by decide)) rfl passE0 ?c13
   case' c13 => refine' pa_cons ?c14 ?c15
   case' c14 => refine' pe_fn F_divisor (hr.mono (by decide)) rfl passE0 ?c16
   case' c16 => refine' pa_cons (pvF 0) ?c17
   case' c17 => exact (pa_cons (pvF 1) pa_nil)
   case' c15 => exact (pa_cons (pvF 2) pa_nil)
   case' c11 => refine' pss_one ?c18
   case' c18 => refine' ps_ret ?c19
   case' c19 => refine' pe_tup ?c20
   case' c20 => refine' pa_cons (pe_op (OpR.f op_fdivB) (pvF 0) (pvF 3)) ?c21
   case' c21 => refine' pa_cons (pe_op (OpR.f op_fdivB) (pvF 1) (pvF 3)) ?c22
   case' c22 => exact (pa_cons (pe_op (OpR.f op_fdivB) (pvF 2) (pvF 3)) pa_nil)
  case rest =>
   obtain ⟨hn, ⟨b1, b2, b3⟩, h⟩ := h
   simp only [L2.start, List.map_cons, List.map_nil, List.length_cons, List.length_nil, Nat.reduceAdd, Nat.reduceSub, List.replicate_succ, List.replicate_zero, List.cons_append, List.nil_append, List.append_nil]
   refine ⟨fun σ H' => σ = [some (.int a), some (.int b), some (.int c), none] ∧ H' = H, ?_, ?_⟩
   ·o_head ⟨tRaiseN, tAt, tTryN⟩
    split
    ·rename_i ea
     split
     ·rename_i eb
      exact absurd ⟨ea, eb⟩ hn
     ·trivial
    ·trivial
   ·rintro σ H' ⟨rfl, rfl⟩
    o_head ⟨tRaiseN, tAt, tTryN, sp_divisor⟩
    obtain ⟨hl, hne⟩ := isLn_of (c := c) hn
    have hb : Bd 9000 (Int.gcd (Int.gcd a b) c : Int) := by
     refine Bd.mono (m := 4000) ?_ (by decide)
     obtain ⟨g, hg, ea, eb, ec, eg⟩ := hl.ex
     rw [← eg]
     by_cases z : a = 0
     ·have : b ≠ 0 := fun z' => hn ⟨z, z'⟩
      exact Nat.lt_of_le_of_lt (Nat.le_of_dvd (by omega) (Int.natAbs_dvd_natAbs.mpr ⟨_, eb⟩)) b2
     ·exact Nat.lt_of_le_of_lt (Nat.le_of_dvd (by omega) (Int.natAbs_dvd_natAbs.mpr ⟨_, ea⟩)) b1
    exact ⟨hne, hb, hne, hb, hne, hb, by decide, fun p hp => h p _ _ _ hp hl⟩
end
end LW
namespace LW
open PySem L2 MA PyProof.Rows MC
section
variable {P : Program} {w : World} {K : PySem.W.Frag} {mg : Str → Option Value} {base : Heap}
theorem sc_between : FnScope ["one", "other", "x", "y", "u", "v"] ["one", "other"] (defScope s_between) := ⟨rfl, rfl, rfl, by decide +kernel, rfl, by decide +kernel, by decide +kernel⟩
set_option maxHeartbeats 0 in
theorem ok_between {C : Cz} {f : Addr} {fd : FuncData} (F : Fun K "between" "between" s_between f fd) (T : Txt P K mg C) (F_line_of : FnB P w K mg base (CXE P w) 2 "line_of" ["a", "b", "c"] sp_line_of) : FnOk P w K mg base (CXE P w) 3 f fd ["one", "other"] sp_between := by
 refine okN F (k := 2) sc_between (fun vs H Q E h => ?_) (fun cdv A outer s H vs Q E hr h => ?_)
 ·obtain ⟨p, q, rfl, _⟩ := h
  rfl
 ·obtain ⟨p, q, rfl, h⟩ := h
  refine' ⟨_, ?main, ?rest⟩
  case main =>
   refine' pss_cut ?c1 ?c2
   case' c1 => refine' ps_if (pt_cmpF (op_eqDK (K := K) rfl (hu64 hr)) (pvF 0) (pvF 1) (nomark _)) ?c3 pss_nil
   case' c3 => exact (pss_one ps_never)
   case' c2 => refine' pss_cons ?c4 ?c5
   case' c4 => refine' ps_asg (pvF 0) ?c6
   case' c6 => refine' pg_F (n := 2) rfl ?c7
   case' c7 => refine' pgs_consF (pg_name (i := 2) sc_between.nd rfl (Or.inl rfl)) ?c8
   case' c8 => exact (pgs_consF (pg_name (i := 3) sc_between.nd rfl (Or.inl rfl)) pgs_nilF)
   case' c5 => refine' pss_cons ?c9 ?c10
   case' c9 => refine' ps_asg (pvF 1) ?c11
   case' c11 => refine' pg_F (n := 2) rfl ?c12
   case' c12 => refine' pgs_consF (pg_name (i := 4) sc_between.nd rfl (Or.inl rfl)) ?c13
   case' c13 => exact (pgs_consF (pg_name (i := 5) sc_between.nd rfl (Or.inl rfl)) pgs_nilF)
   case' c10 => refine' pss_one ?c14
   case' c14 => refine' ps_ret ?c15
   case' c15 => refine' pe_fn ?c16 ?c17 ?c18 ?c19 ?c20
   case c16 => exact F_line_of
   case c17 => exact (hr.mono (by decide))
   case c18 => exact rfl
   case c19 => exact passE0
   case' c20 => refine' pa_cons ?c21 ?c22
   case' c21 => exact (pe_op (OpR.f op_mulA) pe_int (pe_op (OpR.f0 op_sub) (pvF 4) (pvF 2)))
   case' c22 => refine' pa_cons ?c23 ?c24
   case' c23 => exact (pe_op (OpR.f op_mulA) pe_int (pe_op (OpR.f0 op_sub) (pvF 5) (pvF 3)))
   case' c24 => refine' pa_cons ?c25 pa_nil
   case' c25 => refine' pe_op (OpR.f0 op_sub) ?c26 (pe_op (OpR.f op_mulA) (pvF 3) (pvF 3))
   case' c26 => refine' pe_op (OpR.f0 op_sub) ?c27 (pe_op (OpR.f op_mulA) (pvF 2) (pvF 2))
   case' c27 => exact (pe_op (OpR.f0 op_add) (pe_op (OpR.f op_mulA) (pvF 4) (pvF 4)) (pe_op (OpR.f op_mulA) (pvF 5) (pvF 5)))
  case rest =>
   obtain ⟨⟨a, b⟩, hp, h⟩ := optK_elim h
   obtain ⟨⟨d, e⟩, hq, ⟨b1, b2⟩, ⟨b3, b4⟩, hne, h⟩ := optK_elim h
   replace hp := tup2_eq hp
   replace hq := tup2_eq hq
   dsimp only at hp hq b1 b2 b3 b4
   simp only [L2.start, List.map_cons, List.map_nil, List.length_cons, List.length_nil, Nat.reduceAdd, Nat.reduceSub, List.replicate_succ, List.replicate_zero, List.cons_append, List.nil_append, List.append_nil]
   have hn : ¬ (a = d ∧ b = e) := fun z => hne (by rw [z.1, z.2])
   refine ⟨fun σ H' => σ = [some (.ref p), some (.ref q), none, none, none, none] ∧ H' = H, ?_, ?_⟩
   ·o_head ⟨tRaiseN, tAt, tTryN⟩
    refine ⟨_, _, rdy_t2 hp, rdy_t2 hq, rfl, rfl, ?_⟩
    rw [eqv_t2, decide_eq_false hn]
    o_head ⟨tRaiseN, tAt, tTryN, id⟩
   ·rintro σ H' ⟨rfl, rfl⟩
    o_head ⟨tRaiseN, tAt, tTryN, gSeqF, gCons, gNil, hp, hq, sp_line_of⟩
    refine ⟨.left (by decide) (by decide), .left (by decide) (by decide), (by first | exact CMulA.left (by decide) (by decide) | exact CMulA.right (by decide) (by decide) | (apply CMulA.of; (repeat (first | assumption | apply Bd.mul | apply Bd.sub | apply Bd.add | apply Bd.neg | apply Bd.sq)); all_goals decide)), (by first | exact CMulA.left (by decide) (by decide) | exact CMulA.right (by decide) (by decide) | (apply CMulA.of; (repeat (first | assumption | apply Bd.mul | apply Bd.sub | apply Bd.add | apply Bd.neg | apply Bd.sq)); all_goals decide)), (by first | exact CMulA.left (by decide) (by decide) | exact CMulA.right (by decide) (by decide) | (apply CMulA.of; (repeat (first | assumption | apply Bd.mul | apply Bd.sub | apply Bd.add | apply Bd.neg | apply Bd.sq)); all_goals decide)), (by first | exact CMulA.left (by decide) (by decide) | exact CMulA.right (by decide) (by decide) | (apply CMulA.of; (repeat (first | assumption | apply Bd.mul | apply Bd.sub | apply Bd.add | apply Bd.neg | apply Bd.sq)); all_goals decide)), fun z => hn ⟨by omega, by omega⟩, ?_, ?_, ?_, fun t x y z ht hl => ?_⟩
    ·exact ((Bd.of_le (n := 2) 2 (by decide) (by decide) (by decide)).mul (b3.sub b1)).mono (by decide)
    ·exact ((Bd.of_le (n := 2) 2 (by decide) (by decide) (by decide)).mul (b4.sub b2)).mono (by decide)
    ·exact ((((b3.mul b3).add (b4.mul b4)).sub (b1.mul b1)).sub (b2.mul b2)).mono (by decide)
    ·obtain ⟨e1, e2, e3⟩ := isLn_eq hl
     have q := h t ht
     unfold lnB at q
     dsimp only at q
     rw [← e1, ← e2, ← e3] at q
     exact q
end
end LW
namespace LW
open PySem L2 MA PyProof.Rows MC
section
variable {P : Program} {w : World} {K : PySem.W.Frag} {mg : Str → Option Value} {base : Heap}
theorem sc_meet : FnScope ["one", "other", "a", "b", "c", "d", "e", "f"] ["one", "other"] (defScope s_meet) := ⟨rfl, rfl, rfl, by decide +kernel, rfl, by decide +kernel, by decide +kernel⟩
set_option maxHeartbeats 0 in
theorem ok_meet {C : Cz} {f : Addr} {fd : FuncData} (F : Fun K "meet" "meet" s_meet f fd) (T : Txt P K mg C) (F_point_of : FnB P w K mg base (CXE P w) 2 "point_of" ["x", "y", "w"] sp_point_of) : FnOk P w K mg base (CXE P w) 3 f fd ["one", "other"] sp_meet := by
 refine okN F (k := 2) sc_meet (fun vs H Q E h => ?_) (fun cdv A outer s H vs Q E hr h => ?_)
 ·obtain ⟨p, q, rfl, _⟩ := h
  rfl
 ·obtain ⟨p, q, rfl, h⟩ := h
  refine' ⟨_, ?main, ?rest⟩
  case main =>
   refine' pss_cons ?c1 ?c2
   case' c1 => refine' ps_asg (pvF 0) ?c3
   case' c3 => refine' pg_F (n := 3) rfl ?c4
   case' c4 => refine' pgs_consF (pg_name (i := 2) sc_meet.nd rfl (Or.inl rfl)) ?c5
   case' c5 => refine' pgs_consF (pg_name (i := 3) sc_meet.nd rfl (Or.inl rfl)) ?c6
   case' c6 => exact (pgs_consF (pg_name (i := 4) sc_meet.nd rfl (Or.inl rfl)) pgs_nilF)
   case' c2 => refine' pss_cons ?c7 ?c8
   case' c7 => refine' ps_asg (pvF 1) ?c9
   case' c9 => refine' pg_F (n := 3) rfl ?c10
   case' c10 => refine' pgs_consF (pg_name (i := 5) sc_meet.nd rfl (Or.inl rfl)) ?c11
   case' c11 => refine' pgs_consF (pg_name (i := 6) sc_meet.nd rfl (Or.inl rfl)) ?c12
   case' c12 => exact (pgs_consF (pg_name (i := 7) sc_meet.nd rfl (Or.inl rfl)) pgs_nilF)
   case' c8 => refine' pss_cons ?c13 ?c14
   case' c13 => refine' ps_if ?c15 ?c16 pss_nil
   case' c15 => exact (pt_cmpF op_eqI (pe_op (OpR.f op_mulA) (pvF 2) (pvF 6)) (pe_op (OpR.f op_mulA) (pvF 3) (pvF 5)) (nomark _))
   case' c16 => refine' pss_one ?c17
   case' c17 => exact (ps_ret pe_non)
   case' c14 => refine' pss_one ?c18
   case' c18 => refine' ps_ret ?c19
   case' c19 => refine' pe_fn ?c20 ?c21 ?c22 ?c23 ?c24
   case c20 => exact F_point_of
   case c21 => exact (hr.mono (by decide))
   case c22 => exact rfl
   case c23 => exact passE0
   case' c24 => refine' pa_cons ?c25 ?c26
   case' c25 => exact (pe_op (OpR.f0 op_sub) (pe_op (OpR.f op_mulA) (pvF 4) (pvF 6)) (pe_op (OpR.f op_mulA) (pvF 3) (pvF 7)))
   case' c26 => refine' pa_cons ?c27 ?c28
   case' c27 => exact (pe_op (OpR.f0 op_sub) (pe_op (OpR.f op_mulA) (pvF 2) (pvF 7)) (pe_op (OpR.f op_mulA) (pvF 4) (pvF 5)))
   case' c28 => refine' pa_cons ?c29 pa_nil
   case' c29 => exact (pe_op (OpR.f0 op_sub) (pe_op (OpR.f op_mulA) (pvF 2) (pvF 6)) (pe_op (OpR.f op_mulA) (pvF 3) (pvF 5)))
  case rest =>
   obtain ⟨⟨a, b, c⟩, hp, h⟩ := optK_elim h
   obtain ⟨⟨d, e, f⟩, hq, ⟨b1, b2, b3⟩, ⟨b4, b5, b6⟩, h1, h2⟩ := optK_elim h
   replace hp := tup3_eq hp
   replace hq := tup3_eq hq
   dsimp only at hp hq b1 b2 b3 b4 b5 b6 h1 h2
   simp only [L2.start, List.map_cons, List.map_nil, List.length_cons, List.length_nil, Nat.reduceAdd, Nat.reduceSub, List.replicate_succ, List.replicate_zero, List.cons_append, List.nil_append, List.append_nil]
   o_head ⟨tRaiseN, tAt, tTryN, gSeqF, gCons, gNil, hp, hq, sp_point_of⟩
   refine ⟨(by first | exact CMulA.left (by decide) (by decide) | exact CMulA.right (by decide) (by decide) | (apply CMulA.of; (repeat (first | assumption | apply Bd.mul | apply Bd.sub | apply Bd.add | apply Bd.neg | apply Bd.sq)); all_goals decide)), (by first | exact CMulA.left (by decide) (by decide) | exact CMulA.right (by decide) (by decide) | (apply CMulA.of; (repeat (first | assumption | apply Bd.mul | apply Bd.sub | apply Bd.add | apply Bd.neg | apply Bd.sq)); all_goals decide)), ?_⟩
   by_cases z : a * e = b * d
   ·rw [if_pos z]
    exact h1 z
   ·rw [if_neg z]
    refine ⟨(by first | exact CMulA.left (by decide) (by decide) | exact CMulA.right (by decide) (by decide) | (apply CMulA.of; (repeat (first | assumption | apply Bd.mul | apply Bd.sub | apply Bd.add | apply Bd.neg | apply Bd.sq)); all_goals decide)), (by first | exact CMulA.left (by decide) (by decide) | exact CMulA.right (by decide) (by decide) | (apply CMulA.of; (repeat (first | assumption | apply Bd.mul | apply Bd.sub | apply Bd.add | apply Bd.neg | apply Bd.sq)); all_goals decide)), (by first | exact CMulA.left (by decide) (by decide) | exact CMulA.right (by decide) (by decide) | (apply CMulA.of; (repeat (first | assumption | apply Bd.mul | apply Bd.sub | apply Bd.add | apply Bd.neg | apply Bd.sq)); all_goals decide)), (by first | exact CMulA.left (by decide) (by decide) | exact CMulA.right (by decide) (by decide) | (apply CMulA.of; (repeat (first | assumption | apply Bd.mul | apply Bd.sub | apply Bd.add | apply Bd.neg | apply Bd.sq)); all_goals decide)), (by first | exact CMulA.left (by decide) (by decide) | exact CMulA.right (by decide) (by decide) | (apply CMulA.of; (repeat (first | assumption | apply Bd.mul | apply Bd.sub | apply Bd.add | apply Bd.neg | apply Bd.sq)); all_goals decide)), (by first | exact CMulA.left (by decide) (by decide) | exact CMulA.right (by decide) (by decide) | (apply CMulA.of; (repeat (first | assumption | apply Bd.mul | apply Bd.sub | apply Bd.add | apply Bd.neg | apply Bd.sq)); all_goals decide)), by omega, ?_, fun t x y w' ht hpt => h2 z t x y w' ht hpt⟩
    exact ((b1.mul b5).sub (b2.mul b4)).mono (by decide)
end
end LW
namespace LW
open PySem L2 MA PyProof.Rows MC
section
variable {P : Program} {w : World} {K : PySem.W.Frag} {mg : Str → Option Value} {base : Heap}
theorem sc_check_count : FnScope ["spots"] ["spots"] (defScope s_check_count) := ⟨rfl, rfl, rfl, by decide +kernel, rfl, by decide +kernel, by decide +kernel⟩
set_option maxHeartbeats 0 in
theorem ok_check_count {C : Cz} {f : Addr} {fd : FuncData} (F : Fun K "check_count" "check_count" s_check_count f fd) (T : Txt P K mg C)  : FnOk P w K mg base (CXE P w) 1 f fd ["spots"] (sp_check_countE C) := by
 refine okE F (k := 0) sc_check_count (fun vs H Q E h => ?_) (fun cdv A outer s H vs Q E hr h => ?_)
 ·obtain ⟨l, xs, rfl, _⟩ := h
  rfl
 ·obtain ⟨l, xs, rfl, h⟩ := h
  refine' ⟨_, ?main, ?rest⟩
  case main =>
   refine' pss_one ?c1
   case' c1 => refine' ps_if ?c2 ?c3 ?c4
   case' c2 => refine' PW.pt ?c5
   case' c5 => refine' pw_or ?c6 ?c7
   case' c6 => refine' pt_cmpF op_eqI ?c8 pe_int (nomark _)
   case' c8 => refine' pe_callB call_lenF (by rfl) T.b_len PySem.boot_len ?c9
   case' c9 => exact (pa_cons (pvF 0) pa_nil)
   case' c7 => refine' pw_or1 ?c10
   case' c10 => refine' pt_cmpF (OpR.f0 op_gt) ?c11 (pe_globI rfl T.n_MOST_SPOTS) (nomark _)
   case' c11 => refine' pe_callB call_lenF (by rfl) T.b_len PySem.boot_len ?c12
   case' c12 => exact (pa_cons (pvF 0) pa_nil)
   case' c3 => refine' pss_one ?c13
   case' c13 => refine' ps_raise (K := K) rfl madeE T.x_TooMany rfl T.g_TooMany ?c14
   case' c14 => exact (pa_cons pe_str pa_nil)
   case c4 => exact pss_nil
  case rest =>
   obtain ⟨hl, h⟩ := h
   simp only [L2.start, List.map_cons, List.map_nil, List.length_cons, List.length_nil, Nat.reduceAdd, Nat.reduceSub, List.replicate_succ, List.replicate_zero, List.cons_append, List.nil_append, List.append_nil]
   o_head ⟨tRaiseN, tAt, tTryN, hl⟩
   rcases h with ⟨h0, h12, h⟩ | ⟨hn, h⟩
   ·rw [if_neg (by omega), if_neg (by omega)]
    exact h
   ·by_cases z : xs.length = 0
    ·rw [if_pos (by omega)]
     exact ⟨by decide, h⟩
    ·rw [if_neg (by omega), if_pos (by omega)]
     exact ⟨by decide, h⟩
end
end LW
namespace LW
open PySem L2 MA PyProof.Rows MC
section
variable {P : Program} {w : World} {K : PySem.W.Frag} {mg : Str → Option Value} {base : Heap}
theorem sc_check_spots : FnScope ["spots", "number", "spot"] ["spots"] (defScope s_check_spots) := ⟨rfl, rfl, rfl, by decide +kernel, rfl, by decide +kernel, by decide +kernel⟩
set_option maxHeartbeats 0 in
theorem ok_check_spots {C : Cz} {f : Addr} {fd : FuncData} (F : Fun K "check_spots" "check_spots" s_check_spots f fd) (T : Txt P K mg C) (F_check_count : FnB P w K mg base (CXE P w) 1 "check_count" ["spots"] (sp_check_countE C)) : FnOk P w K mg base (CXE P w) 2 f fd ["spots"] (sp_csE K C) := by
 refine okE F (k := 1) sc_check_spots (fun vs H Q E h => ?_) (fun cdv A outer s H vs Q E hr h => ?_)
 ·obtain ⟨l, qs, rs, rfl, _⟩ := h
  rfl
 ·obtain ⟨l, qs, rs, rfl, h⟩ := h
  refine' ⟨_, ?main, ?rest⟩
  case main =>
   refine' pss_cons ?c1 ?c2
   case' c1 => refine' ps_expr ?c3
   case' c3 => refine' pe_fn F_check_count (hr.mono (by decide)) rfl passE ?c4
   case' c4 => exact (pa_cons (pvF 0) pa_nil)
   case' c2 => refine' pss_one ?c5
   case' c5 => refine' ps_for ?c6 ?c7 ?c8 ?c9 ?c10
   case c6 => exact PassesOwn.leaving
   case c7 => exact rfl
   case' c8 => refine' pi_enum (K := K) rfl rfl T.b_enumerate ?c11
   case' c11 => exact (pa_cons (pvF 0) pa_nil)
   case' c9 => refine' pg_F (n := 2) rfl ?c12
   case' c12 => refine' pgs_consF (pg_name (i := 1) sc_check_spots.nd rfl (Or.inl rfl)) ?c13
   case' c13 => exact (pgs_consF (pg_name (i := 2) sc_check_spots.nd rfl (Or.inl rfl)) pgs_nilF)
   case' c10 => refine' pss_one ?c14
   case' c14 => refine' ps_if ?c15 ?c16 ?c17
   case' c15 => refine' pt_cmpF (op_inDK (K := K) rfl (hu65 hr)) (pvF 2) ?c18 (by with_unfolding_all rfl)
   case' c18 => exact (pe_slice sl_F (pvF 0) po_none (po_some (pvF 1)))
   case' c16 => refine' pss_one ?c19
   case' c19 => refine' ps_raiseN (K := K) rfl madeN T.n_NoSpot T.kp_NoSpot rfl T.g_NoSpot T.b_super hr ?c20
   case' c20 => exact (pa_cons (pvF 1) pa_nil)
   case c17 => exact pss_nil
  case rest =>
   obtain ⟨sp, at_, hT, h⟩ := h
   have lq : (qs.map V.ref).length = rs.length := by rw [List.length_map, at_.1]
   simp only [L2.start, List.map_cons, List.map_nil, List.length_cons, List.length_nil, Nat.reduceAdd, Nat.reduceSub, List.replicate_succ, List.replicate_zero, List.cons_append, List.nil_append, List.append_nil]
   o_head ⟨tRaiseN, tAt, tTryN, sp_check_countE⟩
   by_cases hn : 0 < rs.length ∧ rs.length ≤ 12
   rotate_left
   ·exact ⟨_, sp, .inr ⟨by rw [lq]; exact hn, hT hn⟩⟩
   obtain ⟨n0, n12⟩ := hn
   replace h := h n0 n12
   refine ⟨_, sp, .inl ⟨by rw [lq]; exact n0, by rw [lq]; exact n12, ?_⟩⟩
   refine tfor_enum (fun a' H1 => a' = l ∧ H1 = H) ?_ ?_
   ·intro R hR
    o_head ⟨tRaiseN, tAt, tTryN⟩
    exact hR _ _ ⟨rfl, rfl⟩
   ·rintro _ _ ⟨rfl, rfl⟩
    refine ⟨qs.map V.ref, fun i σ H' => ∃ o2 o3 : Option V, σ = [some (.ref _), o2, o3] ∧ Ext _ H' ∧ (rs.take i).Nodup, ⟨_, _, rfl, .refl _, by simp⟩, ?_, ?_, ?_⟩
    ·rintro i σ H' _ ⟨o2, o3, rfl, x', _⟩
     exact SqL.of (x' _ _ sp)
    ·rintro i w1 t σ H' hi ⟨o2, o3, rfl, x', nd⟩ ht
     obtain ⟨q, hq, rfl⟩ := refs_get hi
     obtain ⟨r, hr1, hr2⟩ := at_.at hq
     have xt := x'.then (o := .tup [.int (i : Int), .ref q]) ht
     have et := upd_same (H := H') (a := t) (o := .tup [.int (i : Int), .ref q])
     generalize upd H' t (.tup [.int (i : Int), .ref q]) = H2 at xt et ⊢
     o_head ⟨tRaiseN, tAt, tTryN, gSeqF, gCons, gNil, et, xt _ _ sp⟩
     rw [cut_to]
     refine fun s1 h1 => ?_
     have x4 := xt.then (o := .lst ((qs.map V.ref).take i)) h1
     refine ⟨t2d r, (rs.take i).map t2d, rdy_t2 (upd_f h1 (xt _ _ hr2)), .lst (xs := (qs.take i).map V.ref) (SqL.of ?_) (rdy_rs ((at_.ext x4).take i)), shaped_t2 r, shaped_rs _, ?_, ?_⟩
     ·rw [upd_same, List.map_take]
     ·intro y hy
      obtain ⟨z', _, rfl⟩ := List.mem_map.mp hy
      exact nomix_t2 z' r
     ·rw [mem_before]
      by_cases hm : r ∈ rs.take i
      ·rw [decide_eq_true hm]
       o_head ⟨tRaiseN, tAt, tTryN⟩
       exact fun dx hdx => (h _ x4).2 i dx ⟨nd, r, hr1, hm⟩ hdx
      ·rw [decide_eq_false hm]
       o_head ⟨tRaiseN, tAt, tTryN⟩
       exact ⟨x4, nodup_take nd hr1 hm⟩
    ·rintro σ H' ⟨o2, o3, rfl, x', nd⟩
     rw [lq, List.take_length] at nd
     exact (h _ x').1 nd
end
end LW
namespace LW
open PySem L2 MA PyProof.Rows MC
section
variable {P : Program} {w : World} {K : PySem.W.Frag} {mg : Str → Option Value} {base : Heap}
theorem sc_farthest : FnScope ["spots", "point"] ["spots", "point"] (defScope s_farthest) := ⟨rfl, rfl, rfl, by decide +kernel, rfl, by decide +kernel, by decide +kernel⟩
set_option maxHeartbeats 0 in
theorem ok_farthest {C : Cz} {f : Addr} {fd : FuncData} (F : Fun K "farthest" "farthest" s_farthest f fd) (T : Txt P K mg C) (F_scaled_square : FnB P w K mg base (CXE P w) 1 "scaled_square" ["point", "spot"] sp_scaled_square) : FnOk P w K mg base (CXE P w) 2 f fd ["spots", "point"] (sp_farthest K) := by
 refine okN F (k := 1) sc_farthest (fun vs H Q E h => ?_) (fun cdv A outer s H vs Q E hr h => ?_)
 ·obtain ⟨l, p, qs, rs, z, rfl, _⟩ := h
  rfl
 ·obtain ⟨l, p, qs, rs, z, rfl, h⟩ := h
  refine' ⟨_, ?main, ?rest⟩
  case main =>
   refine' pss_one ?c1
   case' c1 => refine' ps_ret ?c2
   case' c2 => refine' pe_tup ?c3
   case' c3 => refine' pa_cons ?c4 ?c5
   case' c4 => refine' pe_callB ?c6 ?c7 ?c8 ?c9 ?c10
   case c6 => exact (call_maxL (K := K) rfl rfl)
   case c7 => exact (by rfl)
   case c8 => exact T.b_max
   case c9 => exact boot_max
   case' c10 => refine' pa_cons ?c11 ?c12
   case' c11 => refine' pe_lc (CScope.of_ok (dsc := defScope s_farthest) (N0 := ["spots", "point"]) (N := ["spot", "point"]) (k := 1) (js := [1]) rfl rfl (by decide +kernel)) rfl (pi_listK (K := K) rfl (pvF 0)) ?c13 ?c14 ?c15
   case' c13 => intro _ _ _ _ _ _; exact (pg_name (i := 0) (by show List.Nodup (["spot", "point"] : List Str); decide +kernel) rfl (Or.inl rfl))
   case' c14 => intro _ _ _ _ _ _; exact pifs_nil
   case' c15 => intro _ _ _ _ _ _; refine' pe_fn F_scaled_square (hr.mono (by decide)) rfl passE0 ?c16
   case' c16 => refine' pa_cons (pvF 1) ?c17
   case' c17 => exact (pa_cons (pvF 0) pa_nil)
   case c12 => exact pa_nil
   case' c5 => refine' pa_cons ?c18 pa_nil
   case' c18 => refine' pe_op (OpR.f op_powB) ?c19 pe_int
   case' c19 => exact (pe_ix ix_F (pvF 1) pe_int (fun _ _ => rfl))
  case rest =>
   obtain ⟨ok, hp, bz, h⟩ := h
   have lq : (qs.map V.ref).length = rs.length := by rw [List.length_map, ok.at_.1]
   have n12 := ok.n12
   simp only [L2.start, List.map_cons, List.map_nil, List.length_cons, List.length_nil, Nat.reduceAdd, Nat.reduceSub, List.replicate_succ, List.replicate_zero, List.cons_append, List.nil_append, List.append_nil]
   o_head ⟨tRaiseN, tAt, tTryN⟩
   refine tlc_list_map (K := K) (a := l) (xs := qs.map V.ref) (fun R h => by o_head ⟨tRaiseN, tAt, tTryN⟩; exact h) (SqL.of ok.sp) (by rw [lq]; omega) (sqV H z) ?_ ?_
   ·intro D' x ys' R R' hD' hx hR
    obtain ⟨j, hj⟩ := List.getElem?_of_mem hx
    obtain ⟨q, hq, rfl⟩ := refs_get hj
    obtain ⟨r, hr1, hr2⟩ := ok.at_.at hq
    have b := ok.sz r (List.mem_of_getElem? hr1)
    have es : sqV H z (.ref q) = .int (sqr z r) := by simp only [sqV, hr2]
    rw [es] at hR
    o_head ⟨tRaiseN, tAt, tTryN, sp_scaled_square, upd_f hD' hp, upd_f hD' hr2⟩
    exact ⟨bz, ⟨b.1.mono (by decide), b.2.mono (by decide)⟩, hR⟩
   ·intro D1 hD1
    rw [sqV_map z ok.at_]
    have lw : (rs.map (sqr z)).length = rs.length := List.length_map _
    refine ⟨D1, rs.map (sqr z), rfl, SqL.of upd_same, by rw [lw]; exact ok.n0, fun M hM hle => ?_⟩
    have x1 := Ext.upd (o := .lst ((rs.map (sqr z)).map V.int)) hD1
    generalize upd H D1 _ = H1 at x1 ⊢
    o_head ⟨tRaiseN, tAt, tTryN, x1 _ _ hp⟩
    refine ⟨bz.2.2.mono (by decide), by decide, fun t ht => h t M _ (x1.then ht) (LW.Ext.none x1 ht) upd_same ⟨?_, fun r hr => hle _ (List.mem_map.mpr ⟨r, hr, rfl⟩)⟩⟩
    obtain ⟨r, hr, e⟩ := List.mem_map.mp hM
    exact ⟨r, hr, e.symm⟩
end
end LW
namespace LW
open PySem L2 MA PyProof.Rows MC
section
variable {P : Program} {w : World} {K : PySem.W.Frag} {mg : Str → Option Value} {base : Heap}
theorem sc_middle : FnScope ["one", "other"] ["one", "other"] (defScope s_middle) := ⟨rfl, rfl, rfl, by decide +kernel, rfl, by decide +kernel, by decide +kernel⟩
set_option maxHeartbeats 0 in
theorem ok_middle {C : Cz} {f : Addr} {fd : FuncData} (F : Fun K "middle" "middle" s_middle f fd) (T : Txt P K mg C) (F_point_of : FnB P w K mg base (CXE P w) 2 "point_of" ["x", "y", "w"] sp_point_of) : FnOk P w K mg base (CXE P w) 3 f fd ["one", "other"] sp_middle := by
 refine okN F (k := 2) sc_middle (fun vs H Q E h => ?_) (fun cdv A outer s H vs Q E hr h => ?_)
 ·obtain ⟨p, q, rfl, _⟩ := h
  rfl
 ·obtain ⟨p, q, rfl, h⟩ := h
  refine' ⟨_, ?main, ?rest⟩
  case main =>
   refine' pss_one ?c1
   case' c1 => refine' ps_ret ?c2
   case' c2 => refine' pe_fn ?c3 ?c4 ?c5 ?c6 ?c7
   case c3 => exact F_point_of
   case c4 => exact (hr.mono (by decide))
   case c5 => exact rfl
   case c6 => exact passE0
   case' c7 => refine' pa_cons ?c8 ?c9
   case' c8 => refine' pe_op (OpR.f0 op_add) ?c10 ?c11
   case' c10 => exact (pe_ix ix_F (pvF 0) pe_int (fun _ _ => rfl))
   case' c11 => exact (pe_ix ix_F (pvF 1) pe_int (fun _ _ => rfl))
   case' c9 => refine' pa_cons ?c12 ?c13
   case' c12 => refine' pe_op (OpR.f0 op_add) ?c14 ?c15
   case' c14 => exact (pe_ix ix_F (pvF 0) pe_int (fun _ _ => rfl))
   case' c15 => exact (pe_ix ix_F (pvF 1) pe_int (fun _ _ => rfl))
   case' c13 => exact (pa_cons pe_int pa_nil)
  case rest =>
   obtain ⟨⟨x1, x2⟩, hp, h⟩ := optK_elim h
   obtain ⟨⟨y1, y2⟩, hq, h⟩ := optK_elim h
   replace hp := tup2_eq hp
   replace hq := tup2_eq hq
   dsimp only at hp hq
   simp only [L2.start, List.map_cons, List.map_nil, List.length_cons, List.length_nil, Nat.reduceAdd, Nat.reduceSub, List.replicate_succ, List.replicate_zero, List.cons_append, List.nil_append, List.append_nil]
   o_head ⟨tRaiseN, tAt, tTryN, hp, hq, sp_point_of⟩
   exact ⟨show Bd 8000 (2 : Int) from (Bd.of_le (n := 3) 2 (by decide) (by decide) (by decide)).mono (by decide), h⟩
end
end LW
namespace LW
open PySem L2 MA PyProof.Rows MC
section
variable {P : Program} {w : World} {K : PySem.W.Frag} {mg : Str → Option Value} {base : Heap}
theorem sc_ring_centres : FnScope ["spots", "centres", "one", "other", "third", "centre"] ["spots"] (defScope s_ring_centres) := ⟨rfl, rfl, rfl, by decide +kernel, rfl, by decide +kernel, by decide +kernel⟩
set_option maxHeartbeats 0 in
theorem ok_ring_centres {C : Cz} {f : Addr} {fd : FuncData} (F : Fun K "ring_centres" "ring_centres" s_ring_centres f fd) (T : Txt P K mg C) (F_between : FnB P w K mg base (CXE P w) 3 "between" ["one", "other"] sp_between) (F_meet : FnB P w K mg base (CXE P w) 3 "meet" ["one", "other"] sp_meet) (F_middle : FnB P w K mg base (CXE P w) 3 "middle" ["one", "other"] sp_middle) (F_spot_point : FnB P w K mg base (CXE P w) 1 "spot_point" ["spot"] sp_spot_point) : FnOk P w K mg base (CXE P w) 4 f fd ["spots"] (sp_centres K) := by
 refine okN F (k := 3) sc_ring_centres (fun vs H Q E h => ?_) (fun cdv A outer s H vs Q E hr h => ?_)
 ·obtain ⟨l, qs, rs, rfl, _⟩ := h
  rfl
 ·obtain ⟨l, qs, rs, rfl, h⟩ := h
  refine' ⟨_, ?main, ?rest⟩
  case main =>
   refine' pss_cons ?c1 ?c2
   case' c1 => refine' ps_set (i := 1) sc_ring_centres.nd rfl (Or.inl rfl) ?c3
   case' c3 => refine' pe_lst ?c4
   case' c4 => refine' pa_cons ?c5 pa_nil
   case' c5 => refine' pe_fn F_spot_point (hr.mono (by decide)) rfl passE0 ?c6
   case' c6 => refine' pa_cons ?c7 pa_nil
   case' c7 => exact (pe_ix ix_F (pvF 0) pe_int (fun _ _ => rfl))
   case' c2 => refine' pss_cons ?c8 ?c9
   case' c8 => refine' ps_for ?c10 ?c11 ?c12 ?c13 ?c14
   case c10 => exact PassesOwn.never
   case c11 => exact rfl
   case' c12 => refine' pi_range1 rfl T.b_range ?c15
   case' c15 => refine' pa_cons ?c16 pa_nil
   case' c16 => refine' pe_callB call_lenF (by rfl) T.b_len PySem.boot_len ?c17
   case' c17 => exact (pa_cons (pvF 0) pa_nil)
   case c13 => exact (pg_name (i := 2) sc_ring_centres.nd rfl (Or.inl rfl))
   case' c14 => refine' pss_one ?c18
   case' c18 => refine' ps_for ?c19 ?c20 ?c21 ?c22 ?c23
   case c19 => exact PassesOwn.never
   case c20 => exact rfl
   case' c21 => refine' pi_range1 rfl T.b_range ?c24
   case' c24 => exact (pa_cons (pvF 2) pa_nil)
   case c22 => exact (pg_name (i := 3) sc_ring_centres.nd rfl (Or.inl rfl))
   case' c23 => refine' pss_cut ?c25 ?c26
   case' c25 => refine' ps_expr ?c27
   case' c27 => refine' pe_app (pvF 1) ?c28
   case' c28 => refine' pa_cons ?c29 pa_nil
   case' c29 => refine' pe_fn F_middle (hr.mono (by decide)) rfl passE0 ?c30
   case' c30 => refine' pa_cons (pe_ix ix_F (pvF 0) (pvF 2) (fun _ _ => rfl)) ?c31
   case' c31 => exact (pa_cons (pe_ix ix_F (pvF 0) (pvF 3) (fun _ _ => rfl)) pa_nil)
   case' c26 => refine' pss_one ?c32
   case' c32 => refine' ps_for ?c33 ?c34 ?c35 ?c36 ?c37
   case c33 => exact PassesOwn.never
   case c34 => exact rfl
   case' c35 => refine' pi_range1 rfl T.b_range ?c38
   case' c38 => exact (pa_cons (pvF 3) pa_nil)
   case c36 => exact (pg_name (i := 4) sc_ring_centres.nd rfl (Or.inl rfl))
   case' c37 => refine' pss_cut ?c39 ?c40
   case' c39 => refine' ps_set (i := 5) ?c41 ?c42 ?c43 ?c44
   case c41 => exact sc_ring_centres.nd
   case c42 => exact rfl
   case c43 => exact (Or.inl rfl)
   case' c44 => refine' pe_fn ?c45 ?c46 ?c47 ?c48 ?c49
   case c45 => exact F_meet
   case c46 => exact (hr.mono (by decide))
   case c47 => exact rfl
   case c48 => exact passE0
   case' c49 => refine' pa_cons ?c50 ?c51
   case' c50 => refine' pe_fn F_between (hr.mono (by decide)) rfl passE0 ?c52
   case' c52 => refine' pa_cons (pe_ix ix_F (pvF 0) (pvF 2) (fun _ _ => rfl)) ?c53
   case' c53 => exact (pa_cons (pe_ix ix_F (pvF 0) (pvF 3) (fun _ _ => rfl)) pa_nil)
   case' c51 => refine' pa_cons ?c54 pa_nil
   case' c54 => refine' pe_fn F_between (hr.mono (by decide)) rfl passE0 ?c55
   case' c55 => refine' pa_cons (pe_ix ix_F (pvF 0) (pvF 2) (fun _ _ => rfl)) ?c56
   case' c56 => exact (pa_cons (pe_ix ix_F (pvF 0) (pvF 4) (fun _ _ => rfl)) pa_nil)
   case' c40 => refine' pss_one ?c57
   case' c57 => refine' ps_if ?c58 ?c59 pss_nil
   case' c58 => exact (pt_cmp (pc_notN (pvF 5)))
   case' c59 => refine' pss_one ?c60
   case' c60 => refine' ps_expr ?c61
   case' c61 => refine' pe_app (pvF 1) ?c62
   case' c62 => exact (pa_cons (pvF 5) pa_nil)
   case' c9 => exact (pss_one (ps_ret (pvF 1)))
  case rest =>
   obtain ⟨ok, h⟩ := h
   have lq : (qs.map V.ref).length = rs.length := by rw [List.length_map, ok.at_.1]
   have n12 := ok.n12
   have n0 := ok.n0
   obtain ⟨q0, hq0, e0, a0, b0⟩ := ok.get (rf_at0 n0)
   simp only [L2.start, List.map_cons, List.map_nil, List.length_cons, List.length_nil, Nat.reduceAdd, Nat.reduceSub, List.replicate_succ, List.replicate_zero, List.cons_append, List.nil_append, List.append_nil]
   o_head ⟨tRaiseN, tAt, tTryN, ok.sp, sp_spot_point⟩
   rw [show atI (qs.map V.ref) 0 = some (.ref q0) from a0, optK_some]
   o_head ⟨tRaiseN, tAt, tTryN, e0⟩
   refine ⟨_, _, rfl, fun t0 ht0 => ⟨by decide, fun D hD => ?_⟩⟩
   have x0 := (Ext.upd (o := .tup [.int rs[0].1, .int rs[0].2, .int 1]) ht0).then (o := .lst [.ref t0]) hD
   have hDn : H D = none := LW.Ext.none (Ext.upd (o := .tup [.int rs[0].1, .int rs[0].2, .int 1]) ht0) hD
   have rc0 : RcAt rs H (upd (upd H t0 (.tup [.int rs[0].1, .int rs[0].2, .int 1])) D (.lst [.ref t0])) D 0 0 0 0 1 := ⟨[t0], [(rs[0].1, rs[0].2, 1)], x0, upd_same, ⟨rfl, fun i q z g1 g2 => by
    match i, g1, g2 with
    | 0, g1, g2 => cases g1; cases g2; exact upd_f hD upd_same⟩, ⟨fun c hc => by
     rw [List.mem_singleton] at hc
     rw [hc]
     exact isC_of (c := (rs[0].1, rs[0].2, 1)) Int.one_pos (by simp) ⟨b0.1.mono (by decide), b0.2.mono (by decide), show Bd 1100 1 from Bd.mono (m := 10) (Bd.of_le 1 (by decide) (by decide) (by decide)) (by decide)⟩, fun r hr => by rw [rf_at0 n0] at hr; cases hr; simp, fun i j p q a => absurd a (by unfold PA; omega), fun i j k p q s b => absurd b (by unfold PB; omega)⟩, Nat.le_refl _⟩
   generalize upd (upd H t0 _) D _ = H0 at x0 rc0 ⊢
   refine tfor_range rs.length (fun R hR => by o_head ⟨tRaiseN, tAt, tTryN, x0 _ _ ok.sp, lq⟩; exact hR) (by omega) (fun i σ H' => ∃ o2 o3 o4 o5 : Option V, σ = [some (.ref l), some (.ref D), o2, o3, o4, o5] ∧ RcAt rs H H' D i 0 0 0 (1 + 160 * i)) ⟨_, _, _, _, rfl, rc0⟩ ?_ ?_
   ·rintro i σ H1 hi ⟨o2, o3, o4, o5, rfl, rc1⟩
    obtain ⟨ri, hri⟩ : ∃ r, rs[i]? = some r := ⟨_, List.getElem?_eq_getElem hi⟩
    obtain ⟨qi, hqi, ei, ai, bi⟩ := ok.get hri
    o_head ⟨tRaiseN, tAt, tTryN⟩
    refine tfor_range i (fun R hR => by o_head ⟨tRaiseN, tAt, tTryN⟩; rw [Int.zero_add]; exact hR) (by omega) (fun j σ H' => ∃ o3 o4 o5 : Option V, σ = [some (.ref l), some (.ref D), some (.int (0 + (i : Int))), o3, o4, o5] ∧ RcAt rs H H' D i j j 0 (1 + 160 * i + 13 * j)) ⟨_, _, _, rfl, rc1⟩ ?_ ?_
    ·rintro j σ H2 hj ⟨o3, o4, o5, rfl, rc2⟩
     obtain ⟨rj, hrj⟩ : ∃ r, rs[j]? = some r := ⟨_, List.getElem?_eq_getElem (by omega)⟩
     obtain ⟨qj, hqj, ej, aj, bj⟩ := ok.get hrj
     have ai' : atI (qs.map V.ref) (0 + (i : Int)) = some (.ref qi) := by rw [Int.zero_add]; exact ai
     have aj' : atI (qs.map V.ref) (0 + (j : Int)) = some (.ref qj) := by rw [Int.zero_add]; exact aj
     o_head ⟨tRaiseN, tAt, tTryN⟩
     refine ⟨fun σ H' => σ = [some (.ref l), some (.ref D), some (.int (0 + (i : Int))), some (.int (0 + (j : Int))), o4, o5] ∧ RcAt rs H H' D i (j + 1) j 0 (1 + 160 * i + 13 * j + 1), ?_, ?_⟩
     ·obtain ⟨ts, cs, x2, eD, hcs, cen, lc⟩ := rc2
      o_head ⟨tRaiseN, tAt, tTryN, eD, x2 _ _ ok.sp, ai', aj', sp_middle, x2 _ _ ei, x2 _ _ ej⟩
      intro t a b c ht hp
      rw [upd_f ht eD, lstOf_l, optK_some]
      have b2 : Bd 1100 2 := Bd.mono (m := 10) (Bd.of_le 2 (by decide) (by decide) (by decide)) (by decide)
      refine ⟨by rw [List.length_map, hcs.1]; omega, ts ++ [t], cs ++ [(a, b, c)], (x2.then ht).set hDn, by rw [List.map_append]; exact upd_same, ((hcs.ext (Ext.upd ht)).snoc (v := (a, b, c)) upd_same).setL (upd_f ht eD), cen.put (isC_of hp.pos hp.low ⟨Nat.lt_of_le_of_lt hp.la ((bi.1.add bj.1).mono (by decide)), Nat.lt_of_le_of_lt hp.lb ((bi.2.add bj.2).mono (by decide)), Nat.lt_of_le_of_lt hp.lc b2⟩) (fun i' j' p q a1 e1 e2 => ?_) (fun i' j' k' p q s b1 _ _ _ => .inl b1), by rw [List.length_append, List.length_singleton]; omega⟩
      by_cases z : i' = i ∧ j' = j
      ·obtain ⟨rfl, rfl⟩ := z
       rw [hri] at e1
       rw [hrj] at e2
       cases e1
       cases e2
       exact .inr hp
      ·refine .inl ?_
       unfold PA at a1 ⊢
       omega
     ·rintro σ H3 ⟨rfl, rc3⟩
      refine tfor_range j (fun R hR => by o_head ⟨tRaiseN, tAt, tTryN⟩; rw [Int.zero_add]; exact hR) (by omega) (fun k σ H' => ∃ o4 o5 : Option V, σ = [some (.ref l), some (.ref D), some (.int (0 + (i : Int))), some (.int (0 + (j : Int))), o4, o5] ∧ RcAt rs H H' D i (j + 1) j k (1 + 160 * i + 13 * j + 1 + k)) ⟨_, _, rfl, rc3⟩ ?_ ?_
      ·rintro k σ H4 hk ⟨o4, o5, rfl, rc4⟩
       obtain ⟨rk, hrk⟩ : ∃ r, rs[k]? = some r := ⟨_, List.getElem?_eq_getElem (by omega)⟩
       obtain ⟨qk, hqk, ek, ak, bk⟩ := ok.get hrk
       have ak' : atI (qs.map V.ref) (0 + (k : Int)) = some (.ref qk) := by rw [Int.zero_add]; exact ak
       have nij : ¬ ri = rj := nodup_ne ok.nd hri hrj (by omega)
       have nik : ¬ ri = rk := nodup_ne ok.nd hri hrk (by omega)
       o_head ⟨tRaiseN, tAt, tTryN⟩
       obtain ⟨ts, cs, x4, eD, hcs, cen, lc⟩ := rc4
       refine ⟨fun σ H' => ∃ w : V, σ = [some (.ref l), some (.ref D), some (.int (0 + (i : Int))), some (.int (0 + (j : Int))), some (.int (0 + (k : Int))), some w] ∧ Ext H4 H' ∧ CtrOk H' ri rj rk w, ?_, ?_⟩
       ·o_head ⟨tRaiseN, tAt, tTryN, x4 _ _ ok.sp, ai', aj', ak', sp_between, x4 _ _ ei, x4 _ _ ej⟩
        refine ⟨⟨bi.1.mono (by decide), bi.2.mono (by decide)⟩, ⟨bj.1.mono (by decide), bj.2.mono (by decide)⟩, nij, fun t1 h1 => ?_⟩
        have x5 := Ext.upd (o := .tup [.int (lnB ri rj).1, .int (lnB ri rj).2.1, .int (lnB ri rj).2.2]) h1
        have e5 := upd_same (H := H4) (a := t1) (o := .tup [.int (lnB ri rj).1, .int (lnB ri rj).2.1, .int (lnB ri rj).2.2])
        generalize upd H4 t1 _ = H5 at x5 e5 ⊢
        have x45 := x4.trans x5
        o_head ⟨tRaiseN, tAt, tTryN, x45 _ _ ok.sp, ai', ak', x45 _ _ ei, x45 _ _ ek⟩
        refine ⟨⟨bi.1.mono (by decide), bi.2.mono (by decide)⟩, ⟨bk.1.mono (by decide), bk.2.mono (by decide)⟩, nik, fun t2 h2 => ?_⟩
        have x6 := Ext.upd (o := .tup [.int (lnB ri rk).1, .int (lnB ri rk).2.1, .int (lnB ri rk).2.2]) h2
        have e6 := upd_same (H := H5) (a := t2) (o := .tup [.int (lnB ri rk).1, .int (lnB ri rk).2.1, .int (lnB ri rk).2.2])
        generalize upd H5 t2 _ = H6 at x6 e6 ⊢
        o_head ⟨tRaiseN, tAt, tTryN, sp_meet, x6 _ _ e5, e6⟩
        have l1 := lnB_bd (n := 130) bi.1 bi.2 bj.1 bj.2 nij
        have l2 := lnB_bd (n := 130) bi.1 bi.2 bk.1 bk.2 nik
        refine ⟨⟨l1.1.mono (by decide), l1.2.1.mono (by decide), l1.2.2.mono (by decide)⟩, ⟨l2.1.mono (by decide), l2.2.1.mono (by decide), l2.2.2.mono (by decide)⟩, fun z => ⟨x5.trans x6, .inl ⟨rfl, (lnB_par nij nik).mp z⟩⟩, fun n t a b c ht hp => ⟨(x5.trans x6).then ht, .inr ⟨t, (a, b, c), rfl, upd_same, isC_of hp.pos hp.low ⟨Nat.lt_of_le_of_lt hp.la (((l1.2.2.mul l2.2.1).sub (l1.2.1.mul l2.2.2)).mono (by decide)), Nat.lt_of_le_of_lt hp.lb (((l1.1.mul l2.2.2).sub (l1.2.2.mul l2.1)).mono (by decide)), Nat.lt_of_le_of_lt hp.lc (((l1.1.mul l2.2.1).sub (l1.2.1.mul l2.1)).mono (by decide))⟩, ?_, ?_⟩⟩⟩
        ·exact (lnB_sgn nij (p := (a, b, c)) hp.pos).2.2.mp (meet_on (x := lnB ri rj) (y := lnB ri rk) n hp).1
        ·exact (lnB_sgn nik (p := (a, b, c)) hp.pos).2.2.mp (meet_on (x := lnB ri rj) (y := lnB ri rk) n hp).2
       ·rintro σ H5 ⟨w, rfl, x5, cw⟩
        have eD5 := x5 _ _ eD
        have hcs5 := hcs.ext x5
        rcases cw with ⟨rfl, col⟩ | ⟨t, c, rfl, et, ic, s1, s2⟩
        ·o_head ⟨tRaiseN, tAt, tTryN⟩
         refine ⟨⟨_, rfl⟩, ts, cs, x4.trans x5, eD5, hcs5, ⟨cen.ok, cen.one, cen.two, fun i' j' k' p q s b1 e1 e2 e3 n => ?_⟩, by omega⟩
         by_cases z : i' = i ∧ j' = j ∧ k' = k
         ·obtain ⟨rfl, rfl, rfl⟩ := z
          rw [hri] at e1
          rw [hrj] at e2
          rw [hrk] at e3
          cases e1
          cases e2
          cases e3
          exact absurd col n
         ·exact cen.three i' j' k' p q s (by unfold PB at b1 ⊢; omega) e1 e2 e3 n
        ·o_head ⟨tRaiseN, tAt, tTryN, eD5⟩
         refine ⟨by rw [List.length_map, hcs5.1]; omega, ⟨_, rfl⟩, ts ++ [t], cs ++ [c], (x4.trans x5).set hDn, by rw [List.map_append]; exact upd_same, (hcs5.snoc (v := c) et).setL eD5, cen.put ic (fun i' j' p q a1 _ _ => .inl a1) (fun i' j' k' p q s b1 e1 e2 e3 => ?_), by rw [List.length_append, List.length_singleton]; omega⟩
         by_cases z : i' = i ∧ j' = j ∧ k' = k
         ·obtain ⟨rfl, rfl, rfl⟩ := z
          rw [hri] at e1
          rw [hrj] at e2
          rw [hrk] at e3
          cases e1
          cases e2
          cases e3
          exact .inr ⟨s1, s2⟩
         ·exact .inl (by unfold PB at b1 ⊢; omega)
      ·rintro σ H4 ⟨o4, o5, rfl, rc4⟩
       o_head ⟨tRaiseN, tAt, tTryN⟩
       refine ⟨⟨_, rfl⟩, rc4.mono (fun a b => ?_) (fun a b c => ?_) (by omega)⟩
       ·unfold PA; omega
       ·unfold PB; omega
    ·rintro σ H2 ⟨o3, o4, o5, rfl, rc2⟩
     o_head ⟨tRaiseN, tAt, tTryN⟩
     refine ⟨⟨_, rfl⟩, rc2.mono (fun a b => ?_) (fun a b c => ?_) (by omega)⟩
     ·unfold PA; omega
     ·unfold PB; omega
   ·rintro σ H1 ⟨o2, o3, o4, o5, rfl, ts, cs, x1, eD, hcs, cen, lc⟩
    o_head ⟨tRaiseN, tAt, tTryN⟩
    exact h D ts cs H1 x1 hDn eD hcs cen (by omega)
end
end LW
namespace LW
open PySem L2 MA PyProof.Rows MC
section
variable {P : Program} {w : World} {K : PySem.W.Frag} {mg : Str → Option Value} {base : Heap}
theorem sc_least_ring : FnScope ["spots", "rows", "least", "row", "centre", "ways", "on"] ["spots"] (defScope s_least_ring) := ⟨rfl, rfl, rfl, by decide +kernel, rfl, by decide +kernel, by decide +kernel⟩
set_option maxHeartbeats 0 in
theorem ok_least_ring {C : Cz} {f : Addr} {fd : FuncData} (F : Fun K "least_ring" "least_ring" s_least_ring f fd) (T : Txt P K mg C) (F_square : FnB P w K mg base (CXE P w) 3 "square" ["point", "spot"] sp_square) (F_scaled_square : FnB P w K mg base (CXE P w) 1 "scaled_square" ["point", "spot"] sp_scaled_square) (F_less : FnB P w K mg base (CXE P w) 1 "less" ["one", "other"] sp_less) (F_ring_centres : FnB P w K mg base (CXE P w) 4 "ring_centres" ["spots"] (sp_centres K)) (F_farthest : FnB P w K mg base (CXE P w) 2 "farthest" ["spots", "point"] (sp_farthest K)) (F_check_spots : FnB P w K mg base (CXE P w) 2 "check_spots" ["spots"] (sp_csE K C)) : FnOk P w K mg base (CXE P w) 5 f fd ["spots"] (sp_ringE K C) := by
 refine okE F (k := 4) sc_least_ring (fun vs H Q E h => ?_) (fun cdv A outer s H vs Q E hr h => ?_)
 ·obtain ⟨l, qs, rs, rfl, _⟩ := h
  rfl
 ·obtain ⟨l, qs, rs, rfl, h⟩ := h
  refine' ⟨_, ?main, ?rest⟩
  case main =>
   refine' pss_cut ?c1 ?c2
   case' c1 => refine' ps_expr ?c3
   case' c3 => refine' pe_fn F_check_spots (hr.mono (by decide)) rfl passE ?c4
   case' c4 => exact (pa_cons (pvF 0) pa_nil)
   case' c2 => refine' pss_cut ?c5 ?c6
   case' c5 => refine' ps_lc (i := 1) ?c7 ?c8 ?c9 ?c10 ?c11 ?c12 ?c13 ?c14 ?c15
   case c7 => exact (CScope.of_ok (dsc := defScope s_least_ring) (N0 := ["spots", "rows", "least", "row", "centre", "ways", "on"]) (N := ["centre", "spots"]) (k := 1) (js := [0]) rfl rfl (by decide +kernel))
   case c8 => exact rfl
   case' c9 => refine' pi_listK (K := K) rfl ?c16
   case' c16 => refine' PE.up ?c17
   case' c17 => refine' pe_fn F_ring_centres (hr.mono (by decide)) rfl passE0 ?c18
   case' c18 => exact (pa_cons (pvF 0) pa_nil)
   case' c10 => intro _ _ _ _ _ _; exact (pg_name (i := 0) (by show List.Nodup (["centre", "spots"] : List Str); decide +kernel) rfl (Or.inl rfl))
   case' c11 => intro _ _ _ _ _ _; exact pifs_nil
   case' c12 => intro _ _ _ _ _ _; refine' pe_tup ?c19
   case' c19 => refine' pa_cons (pvF 0) ?c20
   case' c20 => refine' pa_cons ?c21 pa_nil
   case' c21 => refine' pe_fn F_farthest (hr.mono (by decide)) rfl passE0 ?c22
   case' c22 => refine' pa_cons (pvF 1) ?c23
   case' c23 => exact (pa_cons (pvF 0) pa_nil)
   case c13 => exact sc_least_ring.nd
   case c14 => exact rfl
   case c15 => exact rfl
   case' c6 => refine' pss_cut ?c24 ?c25
   case' c24 => refine' ps_set (i := 2) sc_least_ring.nd rfl (Or.inl rfl) ?c26
   case' c26 => exact (pe_ix ix_F (pvF 1) pe_int (fun _ _ => rfl))
   case' c25 => refine' pss_cut ?c27 ?c28
   case' c27 => refine' ps_for ?c29 ?c30 ?c31 ?c32 ?c33
   case c29 => exact PassesOwn.leaving
   case c30 => exact rfl
   case c31 => exact (pi_listK (K := K) rfl (pvF 1))
   case c32 => exact (pg_name (i := 3) sc_least_ring.nd rfl (Or.inl rfl))
   case' c33 => refine' pss_one ?c34
   case' c34 => refine' ps_if ?c35 ?c36 ?c37
   case' c35 => refine' pt_valF ?c38
   case' c38 => refine' pe_fn F_less (hr.mono (by decide)) rfl passE0 ?c39
   case' c39 => refine' pa_cons ?c40 ?c41
   case' c40 => exact (pe_ix ix_F (pvF 3) pe_int (fun _ _ => rfl))
   case' c41 => refine' pa_cons ?c42 pa_nil
   case' c42 => exact (pe_ix ix_F (pvF 2) pe_int (fun _ _ => rfl))
   case' c36 => exact (pss_one (ps_set (i := 2) sc_least_ring.nd rfl (Or.inl rfl) (pvF 3)))
   case c37 => exact pss_nil
   case' c28 => refine' pss_cons ?c43 ?c44
   case' c43 => refine' ps_set (i := 4) sc_least_ring.nd rfl (Or.inr rfl) ?c45
   case' c45 => exact (pe_ix ix_F (pvF 2) pe_int (fun _ _ => rfl))
   case' c44 => refine' pss_cut ?c46 ?c47
   case' c46 => refine' ps_set (i := 5) ?c48 ?c49 ?c50 ?c51
   case c48 => exact sc_least_ring.nd
   case c49 => exact rfl
   case c50 => exact (Or.inr rfl)
   case' c51 => refine' pe_lc (CScope.of_ok (dsc := defScope s_least_ring) (N0 := ["spots", "rows", "least", "row", "centre", "ways", "on"]) (N := ["spot", "centre"]) (k := 1) (js := [4]) rfl rfl (by decide +kernel)) rfl (pi_listK (K := K) rfl (pvF 0)) ?c52 ?c53 ?c54
   case' c52 => intro _ _ _ _ _ _; exact (pg_name (i := 0) (by show List.Nodup (["spot", "centre"] : List Str); decide +kernel) rfl (Or.inl rfl))
   case' c53 => intro _ _ _ _ _ _; exact pifs_nil
   case' c54 => intro _ _ _ _ _ _; refine' pe_fn F_scaled_square (hr.mono (by decide)) rfl passE0 ?c55
   case' c55 => refine' pa_cons (pvF 1) ?c56
   case' c56 => exact (pa_cons (pvF 0) pa_nil)
   case' c47 => refine' pss_cut ?c57 ?c58
   case' c57 => refine' ps_lc (i := 6) ?c59 ?c60 ?c61 ?c62 ?c63 ?c64 ?c65 ?c66 ?c67
   case c59 => exact (CScope.of_ok (dsc := defScope s_least_ring) (N0 := ["spots", "rows", "least", "row", "centre", "ways", "on"]) (N := ["number", "way", "ways"]) (k := 2) (js := [5]) rfl rfl (by decide +kernel))
   case c60 => exact rfl
   case' c61 => refine' pi_enum (K := K) rfl rfl T.b_enumerate ?c68
   case' c68 => exact (pa_cons (pvF 5) pa_nil)
   case' c62 => intro _ _ _ _ _ _; refine' pg_F (n := 2) rfl ?c69
   case' c69 => refine' pgs_consF (pg_name (i := 0) (by show List.Nodup (["number", "way", "ways"] : List Str); decide +kernel) rfl (Or.inl rfl)) ?c70
   case' c70 => exact (pgs_consF (pg_name (i := 1) (by show List.Nodup (["number", "way", "ways"] : List Str); decide +kernel) rfl (Or.inl rfl)) pgs_nilF)
   case' c63 => intro _ _ _ _ _ _; refine' pifs_one ?c71
   case' c71 => refine' pt_cmpF op_eqI (pvF 1) ?c72 (nomark _)
   case' c72 => refine' pe_callB (call_maxL (K := K) rfl rfl) (by rfl) T.b_max boot_max ?c73
   case' c73 => exact (pa_cons (pvF 2) pa_nil)
   case c64 => exact (fun _ _ _ _ _ _ => (pvF 0))
   case c65 => exact sc_least_ring.nd
   case c66 => exact rfl
   case c67 => exact rfl
   case' c58 => refine' pss_one ?c74
   case' c74 => refine' ps_ret ?c75
   case' c75 => refine' pe_tup ?c76
   case' c76 => refine' pa_cons ?c77 ?c78
   case c77 => exact (pvF 4)
   case' c78 => refine' pa_cons ?c79 ?c80
   case' c79 => refine' pe_fn F_square (hr.mono (by decide)) rfl passE0 ?c81
   case' c81 => refine' pa_cons (pvF 4) ?c82
   case' c82 => refine' pa_cons ?c83 pa_nil
   case' c83 => refine' pe_ix ix_F (pvF 0) ?c84 (fun _ _ => rfl)
   case' c84 => exact (pe_ix ix_F (pvF 6) pe_int (fun _ _ => rfl))
   case' c80 => exact (pa_cons (pvF 6) pa_nil)
  case rest =>
   obtain ⟨hl, hr, sz, h1, h2, h3⟩ := h
   simp only [L2.start, List.map_cons, List.map_nil, List.length_cons, List.length_nil, Nat.reduceAdd, Nat.reduceSub, List.replicate_succ, List.replicate_zero, List.cons_append, List.nil_append, List.append_nil]
   refine ⟨fun σ H' => σ = [some (.ref l), none, none, none, none, none, none] ∧ Ext H H' ∧ (0 < rs.length ∧ rs.length ≤ 12 ∧ rs.Nodup), ?_, ?_⟩
   ·o_head ⟨tRaiseN, tAt, tTryN, sp_csE⟩
    exact ⟨qs, hl, rs, hr, h1, fun g0 g12 H' x => ⟨fun nd => ⟨x, g0, g12, nd⟩, fun i dx fd hd => h2 g0 g12 H' x i dx fd hd⟩⟩
   ·rintro σ H1 ⟨rfl, x1, n0, n12, nd⟩
    have h := h3 n0 n12 nd
    have ok : LpOk H l qs rs := ⟨hl, hr, nd, n0, n12, sz⟩
    have lq : (qs.map V.ref).length = rs.length := by rw [List.length_map, ok.at_.1]
    replace ok := ok.ext x1
    refine ⟨fun σ H' => ∃ (W : Addr) (ts : List Addr) (cs : List P3), σ = [some (.ref l), some (.ref W), none, none, none, none, none] ∧ Ext H1 H' ∧ H' W = some (.lst (ts.map V.ref)) ∧ RowsAt H' rs ts cs ∧ CenOk rs (PA rs.length 0) (PB rs.length 0 0) cs ∧ 0 < cs.length ∧ cs.length ≤ 2000, ?_, ?_⟩
    ·o_head ⟨tRaiseN, tAt, tTryN⟩
     refine tlc_list_up (fun w H' => ∃ D ts cs, w = .ref D ∧ Ext H1 H' ∧ H1 D = none ∧ H' D = some (.lst (ts.map V.ref)) ∧ CsAt H' ts cs ∧ CenOk rs (PA rs.length 0) (PB rs.length 0 0) cs ∧ cs.length ≤ 2000) ?_ ?_
     ·o_head ⟨tRaiseN, tAt, tTryN, sp_centres⟩
      exact ⟨qs, rs, ok, fun t ts cs H' x2 h2 e2 c2 cen l2 => ⟨x2, h2, ts, e2, cs, c2, cen, l2⟩⟩
     ·rintro w1 H2 ⟨o, ts, cs, rfl, x2, ho0, ho, hcs, cen, lc⟩
      have lt : (ts.map V.ref).length = cs.length := by rw [List.length_map, hcs.1]
      refine ⟨o, ts.map V.ref, rfl, SqL.of ho, by rw [lt]; omega, fun D k ys H' => ∃ us : List Addr, ys = us.map V.ref ∧ RowsAt H' rs us (cs.take k) ∧ H' D = some (.lst ys) ∧ Ext H2 H', ?_, ?_, ?_, ?_⟩
      ·intro D hD
       exact ⟨[], rfl, ⟨rfl, fun k t z g1 => by simp at g1⟩, upd_same, .upd hD⟩
      ·rintro D k ys H3 _ ⟨us, rfl, r3, e3, x3⟩
       refine ⟨e3, ?_, SqL.of (x3 _ _ ho)⟩
       rw [List.length_map, r3.1, List.length_take]
       omega
      ·rintro D k w1 ys H3 hD hk ⟨us, rfl, r3, e3, x3⟩
       obtain ⟨q, hq, rfl⟩ := refs_get hk
       obtain ⟨z, hz⟩ : ∃ z, cs[k]? = some z := ⟨_, List.getElem?_eq_getElem (by rw [← hcs.1]; exact (List.getElem?_eq_some_iff.mp hq).1)⟩
       have ez := x3 _ _ (hcs.2 k q z hq hz)
       have ic := cen.ok z (List.mem_of_getElem? hz)
       o_head ⟨tRaiseN, tAt, tTryN, sp_farthest⟩
       refine ⟨qs, rs, ok.ext (x2.trans x3), z, ez, ic.2.2.1, fun t M H4 x4 ht e4 fm => ?_⟩
       refine ⟨by decide, fun t5 h5 => ⟨upd_f h5 (x4 _ _ e3), us ++ [t5], by rw [List.map_append]; rfl, ?_, ((x3.trans x4).then h5).set hD⟩⟩
       rw [List.take_succ, hz]
       exact (((r3.ext x4).ext (Ext.upd h5)).snoc upd_same (upd_f h5 (x4 _ _ ez)) (upd_f h5 e4) fm).setL (upd_f h5 (x4 _ _ e3))
      ·rintro D ys H3 hD ⟨us, rfl, r3, e3, x3⟩
       rw [lt, List.take_length] at r3
       o_head ⟨tRaiseN, tAt, tTryN⟩
       exact ⟨x2.trans x3, us, e3, cs, r3, cen, List.length_pos_of_mem (cen.one _ (rf_at0 n0)), lc⟩
    ·rintro σ H2 ⟨W, ts, cs, rfl, x2, eW, rows, cen, c0, lc⟩
     replace ok := ok.ext x2
     obtain ⟨z0, hz0⟩ : ∃ z, cs[0]? = some z := ⟨_, List.getElem?_eq_getElem c0⟩
     obtain ⟨t0, ht0⟩ : ∃ t, ts[0]? = some t := ⟨_, List.getElem?_eq_getElem (by rw [rows.1]; exact c0)⟩
     have at0 : atI (ts.map V.ref) 0 = some (.ref t0) := atI_nat (j := 0) (by rw [List.getElem?_map, ht0]; rfl)
     obtain ⟨cA, fA, M0, q1, q2, q3, fm0⟩ := rows.2 0 t0 z0 ht0 hz0
     refine ⟨fun σ H' => σ = [some (.ref l), some (.ref W), some (.ref t0), none, none, none, none] ∧ H' = H2, ?_, ?_⟩
     ·o_head ⟨tRaiseN, tAt, tTryN, eW, at0⟩
     ·rintro σ H3 ⟨rfl, rfl⟩
      have lst0 : Lst H3 rs cs 0 t0 := ⟨z0, cA, fA, M0, q1, q2, q3, List.mem_of_getElem? hz0, fm0, fun k _ _ hk => absurd hk (Nat.not_lt_zero _)⟩
      have lt : (ts.map V.ref).length = cs.length := by rw [List.length_map, rows.1]
      refine ⟨fun σ H' => ∃ (o3 : Option V) (tl : Addr), σ = [some (.ref l), some (.ref W), some (.ref tl), o3, none, none, none] ∧ H' = H3 ∧ Lst H3 rs cs cs.length tl, ?_, ?_⟩
      ·refine tfor_list (K := K) (a := W) (xs := ts.map V.ref) (fun R h => by o_head ⟨tRaiseN, tAt, tTryN⟩; exact h) (fun i σ H' => ∃ (o3 : Option V) (tl : Addr), σ = [some (.ref l), some (.ref W), some (.ref tl), o3, none, none, none] ∧ H' = H3 ∧ Lst H3 rs cs i tl) ⟨_, t0, rfl, rfl, lst0⟩ ?_ ?_ ?_
       ·rintro i σ H4 _ ⟨o3, tl, rfl, rfl, ls⟩
        exact SqL.of eW
       ·rintro i w1 σ H4 hi ⟨o3, tl, rfl, rfl, z, c, f, M, p1, p2, p3, lo⟩
        obtain ⟨t, ht, rfl⟩ := refs_get hi
        obtain ⟨z', hz'⟩ : ∃ z, cs[i]? = some z := ⟨_, List.getElem?_eq_getElem (by rw [← rows.1]; exact (List.getElem?_eq_some_iff.mp ht).1)⟩
        obtain ⟨c', f', N, g1, g2, g3, fmN⟩ := rows.2 i t z' ht hz'
        have ic := cen.ok z lo.1
        have ic' := cen.ok z' (List.mem_of_getElem? hz')
        have bM : Bd 20000 M := by
         obtain ⟨⟨r, hr, e⟩, _⟩ := lo.2.1
         rw [e]
         exact sqr_bd ic.2.2.1 (ok.sz r hr).1 (ok.sz r hr).2
        have bN : Bd 20000 N := by
         obtain ⟨⟨r, hr, e⟩, _⟩ := fmN
         rw [e]
         exact sqr_bd ic'.2.2.1 (ok.sz r hr).1 (ok.sz r hr).2
        o_head ⟨tRaiseN, tAt, tTryN, g1, p1, sp_less⟩
        refine ⟨_, _, g3, _, _, p3, bN, ic'.2.2.1.2.2.sq.mono (by decide), bM, ic.2.2.1.2.2.sq.mono (by decide), ?_⟩
        split
        ·rename_i q
         exact ⟨z', c', f', N, g1, g2, g3, lo.take ic.1 hz' fmN ic'.1 q⟩
        ·rename_i q
         exact ⟨z, c, f, M, p1, p2, p3, lo.keep hz' fmN q⟩
       ·rintro σ H4 ⟨o3, tl, rfl, rfl, ls⟩
        rw [lt] at ls
        exact ⟨o3, tl, rfl, rfl, ls⟩
      ·rintro σ H4 ⟨o3, tl, rfl, rfl, z, c, f, M, p1, p2, p3, lo⟩
       have ic := cen.ok z lo.1
       have lw : (rs.map (sqr z)).length = rs.length := List.length_map _
       have lwi : ((rs.map (sqr z)).map V.int).length = rs.length := by rw [List.length_map, lw]
       o_head ⟨tRaiseN, tAt, tTryN, p1⟩
       refine ⟨fun σ H' => ∃ D : Addr, σ = [some (.ref l), some (.ref W), some (.ref tl), o3, some (.ref c), some (.ref D), none] ∧ Ext H4 H' ∧ H' D = some (.lst ((rs.map (sqr z)).map V.int)), ?_, ?_⟩
       ·o_head ⟨tRaiseN, tAt, tTryN⟩
        refine tlc_list_map (K := K) (a := l) (xs := qs.map V.ref) (fun R h => by o_head ⟨tRaiseN, tAt, tTryN⟩; exact h) (SqL.of ok.sp) (by rw [lq]; omega) (sqV H4 z) ?_ ?_
        ·intro D' x ys' R R' hD' hx hR
         obtain ⟨j, hj⟩ := List.getElem?_of_mem hx
         obtain ⟨q, hq, rfl⟩ := refs_get hj
         obtain ⟨r, hr1, hr2⟩ := ok.at_.at hq
         have b := ok.sz r (List.mem_of_getElem? hr1)
         have es : sqV H4 z (.ref q) = .int (sqr z r) := by simp only [sqV, hr2]
         rw [es] at hR
         o_head ⟨tRaiseN, tAt, tTryN, sp_scaled_square, upd_f hD' p2, upd_f hD' hr2⟩
         exact ⟨ic.2.2.1, ⟨b.1.mono (by decide), b.2.mono (by decide)⟩, hR⟩
        ·intro D1 hD1
         rw [sqV_map z ok.at_]
         o_head ⟨tRaiseN, tAt, tTryN⟩
         exact .upd hD1
       ·rintro σ H5 ⟨D, rfl, x5, e5⟩
        refine ⟨fun σ H' => ∃ O : Addr, σ = [some (.ref l), some (.ref W), some (.ref tl), o3, some (.ref c), some (.ref D), some (.ref O)] ∧ H5 O = none ∧ Ext H5 H' ∧ H' O = some (.lst ((mostOf (rs.map (sqr z)) rs.length).map V.int)), ?_, ?_⟩
        ·o_head ⟨tRaiseN, tAt, tTryN⟩
         refine tlc_enum (K := K) (a := D) (xs := (rs.map (sqr z)).map V.int) (fun R hR => by o_head ⟨tRaiseN, tAt, tTryN⟩; exact hR) (SqL.of e5) (by rw [lwi]; omega) (fun D' i ys H' => ys = (mostOf (rs.map (sqr z)) i).map V.int ∧ H' D' = some (.lst ys) ∧ Ext H5 H') ?_ ?_ ?_ ?_
         ·intro D' hD'
          exact ⟨rfl, upd_same, .upd hD'⟩
         ·rintro D' i ys H6 _ ⟨rfl, e6, x6⟩
          refine ⟨e6, ?_, SqL.of (x6 _ _ e5)⟩
          unfold mostOf
          rw [List.length_map, List.length_map]
          exact Nat.le_trans (List.length_filter_le _ _) (by rw [List.length_range]; exact Nat.le_refl _)
         ·rintro D' i w1 t ys H6 hD' hi ⟨rfl, e6, x6⟩ ht
          have li : i < (rs.map (sqr z)).length := by
           have := (List.getElem?_eq_some_iff.mp hi).1
           rw [lwi] at this
           omega
          have ew : w1 = .int ((rs.map (sqr z)).getD i 0) := by
           rw [List.getElem?_map, List.getElem?_eq_getElem li] at hi
           rw [List.getD_eq_getElem?_getD, List.getElem?_eq_getElem li]
           exact (Option.some.inj hi).symm
          subst ew
          have et := upd_same (H := H6) (a := t) (o := .tup [.int (i : Int), .int ((rs.map (sqr z)).getD i 0)])
          have e6t := upd_f (o := .tup [.int (i : Int), .int ((rs.map (sqr z)).getD i 0)]) ht e6
          have x6t := x6.then (o := .tup [.int (i : Int), .int ((rs.map (sqr z)).getD i 0)]) ht
          generalize upd H6 t (.tup [.int (i : Int), .int ((rs.map (sqr z)).getD i 0)]) = H7 at et e6t x6t ⊢
          o_head ⟨tRaiseN, tAt, tTryN, gSeqF, gCons, gNil, et⟩
          refine ⟨D, rs.map (sqr z), rfl, SqL.of (x6t _ _ e5), by rw [lw]; exact n0, fun M' hM' hlM' => ?_⟩
          o_head ⟨tRaiseN, tAt, tTryN⟩
          rw [mostOf_succ]
          by_cases cc : (rs.map (sqr z)).getD i 0 = M'
          ·rw [if_pos cc, if_pos ((most_iff hM' hlM' li).mp cc)]
           refine ⟨e6t, ?_, x6t.set hD'⟩
           rw [List.map_append]
           rfl
          ·rw [if_neg cc, if_neg (fun q => cc ((most_iff hM' hlM' li).mpr q))]
           exact ⟨rfl, e6t, x6t⟩
         ·rintro D' ys H6 hD' ⟨rfl, e6, x6⟩
          rw [lwi] at e6
          o_head ⟨tRaiseN, tAt, tTryN⟩
          exact ⟨hD', x6, e6⟩
        ·rintro σ H6 ⟨O, rfl, nO, x6, e6⟩
         obtain ⟨i0, r0, hi0, er0, hm0⟩ := most_head n0 lo.2.1
         have ok6 := (ok.ext x5).ext x6
         obtain ⟨q0, hq0, e0, a0, b0⟩ := ok6.get hi0
         o_head ⟨tRaiseN, tAt, tTryN, e6, ok6.sp⟩
         rw [hm0]
         o_head ⟨tRaiseN, tAt, tTryN, a0, sp_square, x6 _ _ (x5 _ _ p2), e0⟩
         rw [ok6.sp, seqOf_l, optK_some, a0, optK_some]
         refine ⟨q0, rfl, ?_⟩
         o_head ⟨tRaiseN, tAt, tTryN, e0⟩
         refine ⟨ic.2.2.1, ⟨b0.1.mono (by decide), b0.2.mono (by decide)⟩, ic.1, fun t a b ht k => ⟨by decide, fun p hp => ?_⟩⟩
         have xx := ((Ext.upd (o := .tup [.int a, .int b]) ht).then (o := .tup [.ref c, .ref t, .ref O]) hp)
         have k' : IsFr M (z.2.2 ^ 2) a b := by rw [← er0]; exact k
         have w2 : z.2.2 ^ 2 ≠ 0 := by
          rw [show z.2.2 ^ 2 = z.2.2 * z.2.2 by grind]
          exact Int.ne_of_gt (Int.mul_pos ic.1 ic.1)
         have eR : (a : Rat) / (b : Rat) = (M : Rat) / ((z.2.2 ^ 2 : Int) : Rat) := fr_eq k' w2
         refine h p c t O z a b _ ((((x1.trans x2).trans x5).trans x6).trans xx) upd_same (xx _ _ (x6 _ _ (x5 _ _ p2))) (upd_f hp upd_same) (xx _ _ e6) ⟨ic, ?_, k.pos, k.low, Nat.lt_of_le_of_lt k.la (sqr_bd (r := r0) ic.2.2.1 b0.1 b0.2), Nat.lt_of_le_of_lt k.lc (ic.2.2.1.2.2.sq.mono (by decide))⟩ (LW.Ext.none ((x1.trans x2).trans x5) nO)
         rw [eR]
         exact least_is ok.nd n0 cen lo
end
end LW
namespace LW
open PySem L2 MA PyProof.Rows MC
section
variable {P : Program} {w : World} {K : PySem.W.Frag} {mg : Str → Option Value} {base : Heap}
theorem sc__law_feed : FnScope ["_law_script"] ["_law_script"] (defScope s__law_feed) := ⟨rfl, rfl, rfl, by decide +kernel, rfl, by decide +kernel, by decide +kernel⟩
set_option maxHeartbeats 0 in
theorem ok__law_feed {C : Cz} {f : Addr} {fd : FuncData} (F : Fun K "_law_feed" "_law_feed" s__law_feed f fd) (T : Txt P K mg C)  : FnOk P w K mg base (CXE P w) 1 f fd ["_law_script"] (sp_feed K) := by
 refine okN F (k := 0) sc__law_feed (fun vs H Q E h => ?_) (fun cdv A outer s H vs Q E hr h => ?_)
 ·obtain ⟨a, ns, rfl, _⟩ := h
  rfl
 ·obtain ⟨a, ns, rfl, h⟩ := h
  refine' ⟨_, ?main, ?rest⟩
  case main =>
   refine' pss_one ?c1
   case' c1 => refine' ps_ret ?c2
   case' c2 => refine' pe_disp ?c3 rfl rfl (by decide) (by decide)
   case' c3 => refine' pps_cons pe_str ?c4 ?c5
   case' c4 => refine' pe_callTy call_listF (by rfl) T.b_list boot_list ?c6
   case' c6 => refine' pa_cons ?c7 pa_nil
   case' c7 => refine' pe_slice (sl_listK (K := K) rfl) (pvF 0) po_none ?c8
   case' c8 => exact (po_some pe_int)
   case' c5 => refine' pps_cons pe_str pe_int ?c9
   case' c9 => exact (pps_cons pe_str pe_int pps_nil)
  case rest =>
   obtain ⟨hS, hl, h⟩ := h
   simp only [L2.start, List.map_cons, List.map_nil, List.length_cons, List.length_nil, Nat.reduceAdd, Nat.reduceSub, List.replicate_succ, List.replicate_zero, List.cons_append, List.nil_append, List.append_nil]
   o_head ⟨tRaiseN, tAt, tTryN⟩
   intro p hp
   refine ⟨a, _, rfl, (Ext.upd hp).sqL hS, fun l1 h1 => ?_⟩
   o_head ⟨tRaiseN, tAt, tTryN⟩
   intro l2 h2
   have e1 : cutV (ns.map V.int) none (some 63) = (ns.take 63).map V.int := by
    have := cut_to (ns.map V.int) 63
    rw [← List.map_take] at this
    exact this
   refine ⟨upd_f h2 (upd_f h1 upd_same), [(Sum.inr "cells", .ref l2), (Sum.inr "at", .int 0), (Sum.inr "left", .int 0)], rfl, (by show 3 ≤ 15; decide), ?_⟩
   rw [e1] at h2 ⊢
   refine h p l2 _ ((((Ext.upd (o := .dK []) hp).then h1).then h2).set hp) hp ⟨ns.take 63, 0, 0, upd_same, ?_, by rw [List.length_take]; omega, Nat.le_refl _⟩
   rw [upd_ne (ne_of_none (upd_f h1 upd_same) h2).symm]
   exact upd_same
end
end LW
namespace LW
open PySem L2 MA PyProof.Rows MC
section
variable {P : Program} {w : World} {K : PySem.W.Frag} {mg : Str → Option Value} {base : Heap}
theorem sc__law_draw : FnScope ["_law_feed_here", "_law_many", "_law_found", "_law_at", "_law_cell", "_law_number"] ["_law_feed_here", "_law_many"] (defScope s__law_draw) := ⟨rfl, rfl, rfl, by decide +kernel, rfl, by decide +kernel, by decide +kernel⟩
set_option maxHeartbeats 0 in
theorem ok__law_draw {C : Cz} {f : Addr} {fd : FuncData} (F : Fun K "_law_draw" "_law_draw" s__law_draw f fd) (T : Txt P K mg C)  : FnOk P w K mg base (CXE P w) 1 f fd ["_law_feed_here", "_law_many"] sp_draw := by
 refine okN F (k := 0) sc__law_draw (fun vs H Q E h => ?_) (fun cdv A outer s H vs Q E hr h => ?_)
 ·obtain ⟨p, m, c, b, rfl, _⟩ := h
  rfl
 ·obtain ⟨p, m, c, b, rfl, h⟩ := h
  refine' ⟨_, ?main, ?rest⟩
  case main =>
   refine' pss_cons ?c1 ?c2
   case' c1 => refine' ps_if ?c3 ?c4 ?c5
   case' c3 => refine' pt_cmpF (OpR.f0 op_gt) ?c6 pe_int (nomark _)
   case' c6 => exact (pe_dgS (hu_of hr) (pvF 0) pe_str (fun _ _ => rfl))
   case' c4 => refine' pss_cons ?c7 ?c8
   case' c7 => refine' ps_set (i := 2) sc__law_draw.nd rfl (Or.inl rfl) ?c9
   case' c9 => refine' pe_op (OpR.f op_mod) ?c10 (pvF 1)
   case' c10 => exact (pe_dgS (hu_of hr) (pvF 0) pe_str (fun _ _ => rfl))
   case' c8 => refine' pss_cons ?c11 ?c12
   case' c11 => refine' ps_dpS (hu_of hr) (pvF 0) pe_str ?c13 rfl
   case' c13 => refine' pe_op (OpR.f op_fdivB) ?c14 (pvF 1)
   case' c14 => exact (pe_dgS (hu_of hr) (pvF 0) pe_str (fun _ _ => rfl))
   case' c12 => exact (pss_one (ps_ret (pvF 2)))
   case c5 => exact pss_nil
   case' c2 => refine' pss_cons ?c15 ?c16
   case' c15 => refine' ps_set (i := 3) sc__law_draw.nd rfl (Or.inl rfl) ?c17
   case' c17 => exact (pe_dgS (hu_of hr) (pvF 0) pe_str (fun _ _ => rfl))
   case' c16 => refine' pss_cons ?c18 ?c19
   case' c18 => refine' ps_dpS (hu_of hr) (pvF 0) pe_str ?c20 rfl
   case' c20 => exact (pe_op (OpR.f0 op_add) (pvF 3) pe_int)
   case' c19 => refine' pss_cons (ps_set (i := 4) sc__law_draw.nd rfl (Or.inl rfl) (pvF 3)) ?c21
   case' c21 => refine' pss_cons ?c22 ?c23
   case' c22 => refine' ps_if ?c24 ?c25 ?c26
   case' c24 => refine' pt_cmpF (OpR.f0 op_gt) ?c27 pe_int (nomark _)
   case' c27 => refine' pe_callB call_lenF (by rfl) T.b_len PySem.boot_len ?c28
   case' c28 => refine' pa_cons ?c29 pa_nil
   case' c29 => exact (pe_dgS (hu_of hr) (pvF 0) pe_str (fun _ _ => rfl))
   case' c25 => refine' pss_one ?c30
   case' c30 => refine' ps_set (i := 4) ?c31 ?c32 ?c33 ?c34
   case c31 => exact sc__law_draw.nd
   case c32 => exact rfl
   case c33 => exact (Or.inl rfl)
   case' c34 => refine' pe_ix ix_F ?c35 ?c36 (fun _ _ => rfl)
   case' c35 => exact (pe_dgS (hu_of hr) (pvF 0) pe_str (fun _ _ => rfl))
   case' c36 => refine' pe_op (OpR.f op_mod) (pvF 3) ?c37
   case' c37 => refine' pe_callB call_lenF (by rfl) T.b_len PySem.boot_len ?c38
   case' c38 => refine' pa_cons ?c39 pa_nil
   case' c39 => exact (pe_dgS (hu_of hr) (pvF 0) pe_str (fun _ _ => rfl))
   case c26 => exact pss_nil
   case' c23 => refine' pss_cons ?c40 ?c41
   case' c40 => refine' ps_if ?c42 ?c43 ?c44
   case' c42 => refine' PW.pt ?c45
   case' c45 => refine' pw_and ?c46 ?c47
   case' c46 => refine' pt_cmpF (OpR.f0 op_ge) (pvF 4) ?c48 (nomark _)
   case' c48 => exact (pe_op (OpR.f op_powB) pe_int pe_int)
   case' c47 => refine' pw_and1 ?c49
   case' c49 => refine' pt_cmpF (OpR.f0 op_lt) (pvF 3) ?c50 (nomark _)
   case' c50 => refine' pe_callB call_lenF (by rfl) T.b_len PySem.boot_len ?c51
   case' c51 => refine' pa_cons ?c52 pa_nil
   case' c52 => exact (pe_dgS (hu_of hr) (pvF 0) pe_str (fun _ _ => rfl))
   case' c43 => refine' pss_cons ?c53 ?c54
   case' c53 => exact (ps_dpS (hu_of hr) (pvF 0) pe_str (pe_op (OpR.f op_fdivB) (pvF 4) (pvF 1)) rfl)
   case' c54 => refine' pss_one ?c55
   case' c55 => exact (ps_ret (pe_op (OpR.f op_mod) (pvF 4) (pvF 1)))
   case c44 => exact pss_nil
   case' c41 => refine' pss_cons ?c56 ?c57
   case' c56 => refine' ps_set (i := 5) ?c58 ?c59 ?c60 ?c61
   case c58 => exact sc__law_draw.nd
   case c59 => exact rfl
   case c60 => exact (Or.inl rfl)
   case' c61 => refine' pe_op ?c62 ?c63 ?c64
   case c62 => exact (OpR.f op_mod)
   case' c63 => refine' pe_op ?c65 ?c66 ?c67
   case c65 => exact (OpR.f op_mulA)
   case' c66 => refine' pe_op ?c68 ?c69 ?c70
   case c68 => exact (OpR.f0 op_add)
   case' c69 => refine' pe_op (OpR.f0 op_add) ?c71 ?c72
   case' c71 => refine' pe_op (OpR.f0 op_add) ?c73 ?c74
   case' c73 => exact (pe_op (OpR.f op_mod) (pvF 4) pe_int)
   case' c74 => refine' pe_op (OpR.f op_mulA) ?c75 (pvF 3)
   case' c75 => exact (pe_op (OpR.f op_mulA) pe_int (pvF 3))
   case' c72 => exact (pe_op (OpR.f op_mulA) pe_int (pvF 3))
   case c70 => exact pe_int
   case c67 => exact pe_int
   case c64 => exact pe_int
   case' c57 => refine' pss_one ?c76
   case' c76 => refine' ps_ret ?c77
   case' c77 => refine' pe_op ?c78 ?c79 ?c80
   case c78 => exact (OpR.f op_mod)
   case' c79 => refine' pe_op ?c81 ?c82 ?c83
   case c81 => exact (OpR.f op_fdivB)
   case' c82 => refine' pe_op ?c84 ?c85 ?c86
   case c84 => exact (OpR.f op_mod)
   case' c85 => refine' pe_op (OpR.f op_mulA) ?c87 pe_int
   case' c87 => refine' pe_op (OpR.f op_mod) ?c88 pe_int
   case' c88 => refine' pe_op (OpR.f0 op_add) ?c89 ?c90
   case' c89 => exact (pe_op (OpR.f op_mulA) (pvF 5) pe_int)
   case' c90 => exact (pe_op (OpR.f op_mulA) pe_int (pvF 3))
   case c86 => exact pe_int
   case c83 => exact pe_int
   case c80 => exact (pvF 1)
  case rest =>
   obtain ⟨⟨ns, n, l, e1, e2, hl, hn⟩, hb, h0, h1, h⟩ := h
   simp only [L2.start, List.map_cons, List.map_nil, List.length_cons, List.length_nil, Nat.reduceAdd, Nat.reduceSub, List.replicate_succ, List.replicate_zero, List.cons_append, List.nil_append, List.append_nil]
   have hcp : c ≠ p := ne_of e2 e1 (by intro z; cases z)
   have e2x : ∀ kvs, upd H p (.dK kvs) c = some (.lst (ns.map V.int)) := fun kvs => (upd_ne hcp).trans e2
   have kp : ∀ kvs q o, q ≠ p → H q = some o → upd H p (.dK kvs) q = some o := fun kvs q o hq e => (upd_ne hq).trans e
   have bm : Bd 9000 m := Bd.of_le 100000 (by omega) (by omega) (by decide)
   o_head ⟨tRaiseN, tAt, tTryN, e1, fd_left, fd_at, fd_cells, fd_putat, fd_putleft, e2x, upd_upd, List.length_map⟩
   by_cases hL : 0 < l
   ·rw [if_pos hL]
    refine ⟨h0, by omega, bm, h _ _ (Int.emod_nonneg _ (by omega)) (Int.emod_lt_of_pos _ h0) ⟨⟨ns, n, _, upd_same, e2x _, hl, by omega⟩, kp _⟩⟩
   ·rw [if_neg hL]
    by_cases hL2 : 0 < (ns.length : Int)
    ·rw [if_pos hL2]
     refine ⟨hL2, ?_⟩
     obtain ⟨x, hx, _⟩ := atI_mod (xs := ns) (k := (n : Int)) (by omega)
     rw [hx]
     o_head ⟨tRaiseN, tAt, tTryN⟩
     repeat' split
     all_goals first
      | exact ⟨by omega, bm, h0, h _ _ (Int.emod_nonneg _ (by omega)) (Int.emod_lt_of_pos _ h0) ⟨⟨ns, n + 1, _, upd_same, e2x _, hl, by omega⟩, kp _⟩⟩
      | exact ⟨.left (by decide) (by decide), .right (by omega) (by omega), .left (by decide) (by decide), .right (by decide) (by decide), .right (by decide) (by decide), .left (by decide) (by decide), .right (by decide) (by decide), Bd.lit (by decide) (by decide), h0, h _ _ (Int.emod_nonneg _ (by omega)) (Int.emod_lt_of_pos _ h0) ⟨⟨ns, n + 1, _, upd_same, e2x _, hl, by omega⟩, kp _⟩⟩
    ·rw [if_neg hL2]
     split
     ·split
      ·exact ⟨by omega, bm, h0, h _ _ (Int.emod_nonneg _ (by omega)) (Int.emod_lt_of_pos _ h0) ⟨⟨ns, n + 1, _, upd_same, e2x _, hl, by omega⟩, kp _⟩⟩
      ·exact ⟨.left (by decide) (by decide), .right (by omega) (by omega), .left (by decide) (by decide), .right (by decide) (by decide), .right (by decide) (by decide), .left (by decide) (by decide), .right (by decide) (by decide), Bd.lit (by decide) (by decide), h0, h _ _ (Int.emod_nonneg _ (by omega)) (Int.emod_lt_of_pos _ h0) ⟨⟨ns, n + 1, _, upd_same, e2x _, hl, by omega⟩, kp _⟩⟩
     ·exact ⟨.left (by decide) (by decide), .right (by omega) (by omega), .left (by decide) (by decide), .right (by decide) (by decide), .right (by decide) (by decide), .left (by decide) (by decide), .right (by decide) (by decide), Bd.lit (by decide) (by decide), h0, h _ _ (Int.emod_nonneg _ (by omega)) (Int.emod_lt_of_pos _ h0) ⟨⟨ns, n + 1, _, upd_same, e2x _, hl, by omega⟩, kp _⟩⟩
end
end LW
namespace LW
open PySem L2 MA PyProof.Rows MC
section
variable {P : Program} {w : World} {K : PySem.W.Frag} {mg : Str → Option Value} {base : Heap}
theorem sc__law_great : FnScope ["_law_feed_here", "_law_pieces", "_law_number", "_law_k"] ["_law_feed_here", "_law_pieces"] (defScope s__law_great) := ⟨rfl, rfl, rfl, by decide +kernel, rfl, by decide +kernel, by decide +kernel⟩
set_option maxHeartbeats 0 in
theorem ok__law_great {C : Cz} {f : Addr} {fd : FuncData} (F : Fun K "_law_great" "_law_great" s__law_great f fd) (T : Txt P K mg C) (F__law_draw : FnB P w K mg base (CXE P w) 1 "_law_draw" ["_law_feed_here", "_law_many"] sp_draw) : FnOk P w K mg base (CXE P w) 2 f fd ["_law_feed_here", "_law_pieces"] sp_great := by
 refine okN F (k := 1) sc__law_great (fun vs H Q E h => ?_) (fun cdv A outer s H vs Q E hr h => ?_)
 ·obtain ⟨p, k, c, b, rfl, _⟩ := h
  rfl
 ·obtain ⟨p, k, c, b, rfl, h⟩ := h
  refine' ⟨_, ?main, ?rest⟩
  case main =>
   refine' pss_cons ?c1 ?c2
   case' c1 => exact (ps_set (i := 2) sc__law_great.nd rfl (Or.inl rfl) pe_int)
   case' c2 => refine' pss_cons ?c3 ?c4
   case' c3 => refine' ps_for ?c5 ?c6 ?c7 ?c8 ?c9
   case c5 => exact PassesOwn.never
   case c6 => exact rfl
   case' c7 => refine' pi_range1 rfl T.b_range ?c10
   case' c10 => exact (pa_cons (pvF 1) pa_nil)
   case c8 => exact (pg_name (i := 3) sc__law_great.nd rfl (Or.inl rfl))
   case' c9 => refine' pss_one ?c11
   case' c11 => refine' ps_set (i := 2) sc__law_great.nd rfl (Or.inl rfl) ?c12
   case' c12 => refine' pe_op (OpR.f0 op_add) ?c13 ?c14
   case' c13 => exact (pe_op (OpR.f op_mulA) (pvF 2) pe_int)
   case' c14 => refine' pe_fn F__law_draw (hr.mono (by decide)) rfl passE0 ?c15
   case' c15 => refine' pa_cons (pvF 0) ?c16
   case' c16 => exact (pa_cons pe_int pa_nil)
   case' c4 => exact (pss_one (ps_ret (pvF 2)))
  case rest =>
   obtain ⟨hF, hb, hk, h⟩ := h
   simp only [L2.start, List.map_cons, List.map_nil, List.length_cons, List.length_nil, Nat.reduceAdd, Nat.reduceSub, List.replicate_succ, List.replicate_zero, List.cons_append, List.nil_append, List.append_nil]
   o_head ⟨tRaiseN, tAt, tTryN⟩
   refine tfor_range k (fun R hR => by o_head ⟨tRaiseN, tAt, tTryN⟩; exact hR) (by omega) (fun i σ H' => ∃ (r : Int) (o3 : Option V), σ = [some (.ref p), some (.int k), some (.int r), o3] ∧ 0 ≤ r ∧ r < 100000 ^ i ∧ DX c (b + i) p H H') ⟨0, _, rfl, by decide, by decide, .refl hF⟩ ?_ ?_
   ·rintro i σ H' hi ⟨r, o3, rfl, r0, r1, dx⟩
    o_head ⟨tRaiseN, tAt, tTryN, sp_draw⟩
    refine ⟨.right (by decide) (by decide), _, _, dx.feed, by omega, fun r' H2 a1 a2 d2 => ?_⟩
    refine ⟨by omega, ?_, dx.trans (d2.mono (by omega))⟩
    rw [Int.pow_succ]
    generalize (100000 : Int) ^ i = N at r1 ⊢
    omega
   ·rintro σ H' ⟨r, o3, rfl, r0, r1, dx⟩
    o_head ⟨tRaiseN, tAt, tTryN⟩
    exact h r H' r0 r1 dx
end
end LW
namespace LW
open PySem L2 MA PyProof.Rows MC
section
variable {P : Program} {w : World} {K : PySem.W.Frag} {mg : Str → Option Value} {base : Heap}
theorem sc__law_scale : FnScope ["_law_feed_here", "_law_way_here"] ["_law_feed_here"] (defScope s__law_scale) := ⟨rfl, rfl, rfl, by decide +kernel, rfl, by decide +kernel, by decide +kernel⟩
set_option maxHeartbeats 0 in
theorem ok__law_scale {C : Cz} {f : Addr} {fd : FuncData} (F : Fun K "_law_scale" "_law_scale" s__law_scale f fd) (T : Txt P K mg C) (F__law_great : FnB P w K mg base (CXE P w) 2 "_law_great" ["_law_feed_here", "_law_pieces"] sp_great) (F__law_draw : FnB P w K mg base (CXE P w) 1 "_law_draw" ["_law_feed_here", "_law_many"] sp_draw) : FnOk P w K mg base (CXE P w) 3 f fd ["_law_feed_here"] sp_scale := by
 refine okN F (k := 2) sc__law_scale (fun vs H Q E h => ?_) (fun cdv A outer s H vs Q E hr h => ?_)
 ·obtain ⟨p, c, b, rfl, _⟩ := h
  rfl
 ·obtain ⟨p, c, b, rfl, h⟩ := h
  refine' ⟨_, ?main, ?rest⟩
  case main =>
   refine' pss_cons ?c1 ?c2
   case' c1 => refine' ps_set (i := 1) sc__law_scale.nd rfl (Or.inl rfl) ?c3
   case' c3 => refine' pe_fn F__law_draw (hr.mono (by decide)) rfl passE0 ?c4
   case' c4 => refine' pa_cons (pvF 0) ?c5
   case' c5 => exact (pa_cons pe_int pa_nil)
   case' c2 => refine' pss_cons ?c6 ?c7
   case' c6 => refine' ps_if ?c8 ?c9 ?c10
   case' c8 => exact (pt_cmpF (OpR.f0 op_lt) (pvF 1) pe_int (nomark _))
   case' c9 => refine' pss_one ?c11
   case' c11 => refine' ps_ret ?c12
   case' c12 => refine' pe_tup ?c13
   case' c13 => refine' pa_cons pe_int ?c14
   case' c14 => refine' pa_cons pe_int ?c15
   case' c15 => exact (pa_cons pe_int pa_nil)
   case c10 => exact pss_nil
   case' c7 => refine' pss_cons ?c16 ?c17
   case' c16 => refine' ps_if ?c18 ?c19 ?c20
   case' c18 => exact (pt_cmpF op_eqI (pvF 1) pe_int (nomark _))
   case' c19 => refine' pss_one ?c21
   case' c21 => refine' ps_ret ?c22
   case' c22 => refine' pe_tup ?c23
   case' c23 => refine' pa_cons ?c24 ?c25
   case' c24 => refine' pe_op (OpR.f0 op_add) pe_int ?c26
   case' c26 => refine' pe_fn F__law_draw (hr.mono (by decide)) rfl passE0 ?c27
   case' c27 => refine' pa_cons (pvF 0) ?c28
   case' c28 => exact (pa_cons pe_int pa_nil)
   case' c25 => refine' pa_cons ?c29 ?c30
   case' c29 => refine' pe_op (OpR.f0 op_sub) ?c31 pe_int
   case' c31 => refine' pe_fn F__law_draw (hr.mono (by decide)) rfl passE0 ?c32
   case' c32 => refine' pa_cons (pvF 0) ?c33
   case' c33 => exact (pa_cons pe_int pa_nil)
   case' c30 => refine' pa_cons ?c34 pa_nil
   case' c34 => refine' pe_op (OpR.f0 op_sub) ?c35 pe_int
   case' c35 => refine' pe_fn F__law_draw (hr.mono (by decide)) rfl passE0 ?c36
   case' c36 => refine' pa_cons (pvF 0) ?c37
   case' c37 => exact (pa_cons pe_int pa_nil)
   case c20 => exact pss_nil
   case' c17 => refine' pss_one ?c38
   case' c38 => refine' ps_ret ?c39
   case' c39 => refine' pe_tup ?c40
   case' c40 => refine' pa_cons ?c41 ?c42
   case' c41 => refine' pe_op (OpR.f0 op_add) pe_int ?c43
   case' c43 => refine' pe_fn F__law_great (hr.mono (by decide)) rfl passE0 ?c44
   case' c44 => refine' pa_cons (pvF 0) ?c45
   case' c45 => exact (pa_cons pe_int pa_nil)
   case' c42 => refine' pa_cons ?c46 ?c47
   case' c46 => refine' pe_op ?c48 ?c49 ?c50
   case c48 => exact (OpR.f0 op_sub)
   case' c49 => refine' pe_fn F__law_great (hr.mono (by decide)) rfl passE0 ?c51
   case' c51 => refine' pa_cons (pvF 0) ?c52
   case' c52 => exact (pa_cons pe_int pa_nil)
   case' c50 => refine' pe_fn F__law_great (hr.mono (by decide)) rfl passE0 ?c53
   case' c53 => refine' pa_cons (pvF 0) ?c54
   case' c54 => exact (pa_cons pe_int pa_nil)
   case' c47 => refine' pa_cons ?c55 ?c56
   case' c55 => refine' pe_op ?c57 ?c58 ?c59
   case c57 => exact (OpR.f0 op_sub)
   case' c58 => refine' pe_fn F__law_great (hr.mono (by decide)) rfl passE0 ?c60
   case' c60 => refine' pa_cons (pvF 0) ?c61
   case' c61 => exact (pa_cons pe_int pa_nil)
   case' c59 => refine' pe_fn F__law_great (hr.mono (by decide)) rfl passE0 ?c62
   case' c62 => refine' pa_cons (pvF 0) ?c63
   case' c63 => exact (pa_cons pe_int pa_nil)
   case c56 => exact pa_nil
  case rest =>
   obtain ⟨hF, hb, h⟩ := h
   simp only [L2.start, List.map_cons, List.map_nil, List.length_cons, List.length_nil, Nat.reduceAdd, Nat.reduceSub, List.replicate_succ, List.replicate_zero, List.cons_append, List.nil_append, List.append_nil]
   o_head ⟨tRaiseN, tAt, tTryN, sp_draw⟩
   refine ⟨c, b, hF, by omega, fun r H1 a1 a2 d1 => ?_⟩
   split
   ·refine ⟨by decide, fun t ht => ?_⟩
    exact h t _ _ _ _ ((d1.upd ht).mono (by omega)) upd_same (by decide) (by decide) (by decide)
   ·split
    ·refine ⟨c, _, d1.feed, by omega, fun r2 H2 a3 a4 d2 => ⟨c, _, d2.feed, by omega, fun r3 H3 a5 a6 d3 => ⟨c, _, d3.feed, by omega, fun r4 H4 a7 a8 d4 => ⟨by decide, fun t ht => ?_⟩⟩⟩⟩
     exact h t _ _ _ _ ((((((d1.trans d2).trans d3).trans d4)).upd ht).mono (by omega)) upd_same (by omega) (by omega) (by omega)
    ·have p4 : (100000 : Int) ^ 4 = 10 ^ 20 := by decide
     have p5 : (100000 : Int) ^ 5 = 10 ^ 25 := by decide
     o_head ⟨tRaiseN, tAt, tTryN, sp_great⟩
     refine ⟨4, rfl, c, _, d1.feed, by omega, by decide, fun r2 H2 a3 a4 d2 => ⟨5, rfl, c, _, d2.feed, by omega, by decide, fun r3 H3 a5 a6 d3 => ⟨5, rfl, c, _, d3.feed, by omega, by decide, fun r4 H4 a7 a8 d4 => ⟨5, rfl, c, _, d4.feed, by omega, by decide, fun r5 H5 a9 a10 d5 => ⟨5, rfl, c, _, d5.feed, by omega, by decide, fun r6 H6 a11 a12 d6 => ⟨by decide, fun t ht => ?_⟩⟩⟩⟩⟩⟩
     rw [p4] at a4
     rw [p5] at a6 a8 a10 a12
     exact h t _ _ _ _ ((((((((d1.trans d2).trans d3).trans d4).trans d5).trans d6)).upd ht).mono (by omega)) upd_same (by omega) (by omega) (by omega)
end
end LW
namespace LW
open PySem L2 MA PyProof.Rows MC
section
variable {P : Program} {w : World} {K : PySem.W.Frag} {mg : Str → Option Value} {base : Heap}
theorem sc__law_spot : FnScope ["_law_feed_here", "_law_style", "_law_k"] ["_law_feed_here", "_law_style"] (defScope s__law_spot) := ⟨rfl, rfl, rfl, by decide +kernel, rfl, by decide +kernel, by decide +kernel⟩
set_option maxHeartbeats 0 in
theorem ok__law_spot {C : Cz} {f : Addr} {fd : FuncData} (F : Fun K "_law_spot" "_law_spot" s__law_spot f fd) (T : Txt P K mg C) (F__law_draw : FnB P w K mg base (CXE P w) 1 "_law_draw" ["_law_feed_here", "_law_many"] sp_draw) : FnOk P w K mg base (CXE P w) 2 f fd ["_law_feed_here", "_law_style"] sp_spot := by
 refine okN F (k := 1) sc__law_spot (fun vs H Q E h => ?_) (fun cdv A outer s H vs Q E hr h => ?_)
 ·obtain ⟨p, st, c, b, rfl, _⟩ := h
  rfl
 ·obtain ⟨p, st, c, b, rfl, h⟩ := h
  refine' ⟨_, ?main, ?rest⟩
  case main =>
   refine' pss_cons ?c1 ?c2
   case' c1 => refine' ps_if ?c3 ?c4 ?c5
   case' c3 => exact (pt_cmpF op_eqI (pvF 1) pe_int (nomark _))
   case' c4 => refine' pss_one ?c6
   case' c6 => refine' ps_ret ?c7
   case' c7 => refine' pe_tup ?c8
   case' c8 => refine' pa_cons ?c9 ?c10
   case' c9 => refine' pe_fn F__law_draw (hr.mono (by decide)) rfl passE0 ?c11
   case' c11 => refine' pa_cons (pvF 0) ?c12
   case' c12 => exact (pa_cons pe_int pa_nil)
   case' c10 => refine' pa_cons ?c13 pa_nil
   case' c13 => refine' pe_fn F__law_draw (hr.mono (by decide)) rfl passE0 ?c14
   case' c14 => refine' pa_cons (pvF 0) ?c15
   case' c15 => exact (pa_cons pe_int pa_nil)
   case c5 => exact pss_nil
   case' c2 => refine' pss_cons ?c16 ?c17
   case' c16 => refine' ps_if ?c18 ?c19 ?c20
   case' c18 => exact (pt_cmpF op_eqI (pvF 1) pe_int (nomark _))
   case' c19 => refine' pss_one ?c21
   case' c21 => refine' ps_ret ?c22
   case' c22 => refine' pe_tup ?c23
   case' c23 => refine' pa_cons ?c24 ?c25
   case' c24 => refine' pe_fn F__law_draw (hr.mono (by decide)) rfl passE0 ?c26
   case' c26 => refine' pa_cons (pvF 0) ?c27
   case' c27 => exact (pa_cons pe_int pa_nil)
   case' c25 => refine' pa_cons ?c28 pa_nil
   case' c28 => refine' pe_fn F__law_draw (hr.mono (by decide)) rfl passE0 ?c29
   case' c29 => refine' pa_cons (pvF 0) ?c30
   case' c30 => exact (pa_cons pe_int pa_nil)
   case c20 => exact pss_nil
   case' c17 => refine' pss_cons ?c31 ?c32
   case' c31 => refine' ps_set (i := 2) sc__law_spot.nd rfl (Or.inl rfl) ?c33
   case' c33 => refine' pe_fn F__law_draw (hr.mono (by decide)) rfl passE0 ?c34
   case' c34 => refine' pa_cons (pvF 0) ?c35
   case' c35 => exact (pa_cons pe_int pa_nil)
   case' c32 => refine' pss_cons ?c36 ?c37
   case' c36 => refine' ps_if ?c38 ?c39 ?c40
   case' c38 => exact (pt_cmpF op_eqI (pvF 1) pe_int (nomark _))
   case' c39 => refine' pss_one ?c41
   case' c41 => refine' ps_ret ?c42
   case' c42 => refine' pe_tup ?c43
   case' c43 => refine' pa_consS ?c44 ?c45
   case' c44 => refine' pe_ix ?c46 ?c47 ?c48 ?c49
   case c46 => exact ix_F
   case' c47 => refine' pe_lst ?c50
   case' c50 => refine' pa_cons ?c51 ?c52
   case c51 => exact pe_int
   case' c52 => refine' pa_cons ?c53 ?c54
   case c53 => exact pe_int
   case' c54 => refine' pa_cons ?c55 ?c56
   case c55 => exact pe_int
   case' c56 => refine' pa_cons ?c57 ?c58
   case c57 => exact pe_int
   case' c58 => refine' pa_cons ?c59 ?c60
   case c59 => exact pe_int
   case' c60 => refine' pa_cons ?c61 ?c62
   case c61 => exact pe_int
   case' c62 => refine' pa_cons ?c63 ?c64
   case c63 => exact pe_int
   case' c64 => refine' pa_cons ?c65 ?c66
   case c65 => exact pe_int
   case' c66 => refine' pa_cons pe_int ?c67
   case' c67 => refine' pa_cons pe_int ?c68
   case' c68 => refine' pa_cons pe_int ?c69
   case' c69 => exact (pa_cons pe_int pa_nil)
   case c48 => exact (pvF 2)
   case c49 => exact (fun _ _ => rfl)
   case' c45 => refine' pa_consS ?c70 ?c71
   case' c70 => refine' pe_ix ?c72 ?c73 ?c74 ?c75
   case c72 => exact ix_F
   case' c73 => refine' pe_lst ?c76
   case' c76 => refine' pa_cons ?c77 ?c78
   case c77 => exact pe_int
   case' c78 => refine' pa_cons ?c79 ?c80
   case c79 => exact pe_int
   case' c80 => refine' pa_cons ?c81 ?c82
   case c81 => exact pe_int
   case' c82 => refine' pa_cons ?c83 ?c84
   case c83 => exact pe_int
   case' c84 => refine' pa_cons ?c85 ?c86
   case c85 => exact pe_int
   case' c86 => refine' pa_cons ?c87 ?c88
   case c87 => exact pe_int
   case' c88 => refine' pa_cons ?c89 ?c90
   case c89 => exact pe_int
   case' c90 => refine' pa_cons ?c91 ?c92
   case c91 => exact pe_int
   case' c92 => refine' pa_cons pe_int ?c93
   case' c93 => refine' pa_cons pe_int ?c94
   case' c94 => refine' pa_cons pe_int ?c95
   case' c95 => exact (pa_cons pe_int pa_nil)
   case c74 => exact (pvF 2)
   case c75 => exact (fun _ _ => rfl)
   case c71 => exact pa_nil
   case c40 => exact pss_nil
   case' c37 => refine' pss_one ?c96
   case' c96 => refine' ps_ret ?c97
   case' c97 => refine' pe_ix ?c98 ?c99 ?c100 ?c101
   case c98 => exact ix_F
   case' c99 => refine' pe_lst ?c102
   case' c102 => refine' pa_cons ?c103 ?c104
   case' c103 => refine' pe_tup ?c105
   case' c105 => refine' pa_cons (pvF 2) ?c106
   case' c106 => exact (pa_cons pe_int pa_nil)
   case' c104 => refine' pa_cons ?c107 ?c108
   case' c107 => refine' pe_tup ?c109
   case' c109 => refine' pa_cons pe_int ?c110
   case' c110 => exact (pa_cons (pvF 2) pa_nil)
   case' c108 => refine' pa_cons ?c111 pa_nil
   case' c111 => refine' pe_tup ?c112
   case' c112 => refine' pa_cons (pvF 2) ?c113
   case' c113 => exact (pa_cons (pvF 2) pa_nil)
   case' c100 => exact (pe_op (OpR.f0 op_sub) (pvF 1) pe_int)
   case c101 => exact (fun _ _ => rfl)
  case rest =>
   obtain ⟨hF, hb, s0, s5, h⟩ := h
   simp only [L2.start, List.map_cons, List.map_nil, List.length_cons, List.length_nil, Nat.reduceAdd, Nat.reduceSub, List.replicate_succ, List.replicate_zero, List.cons_append, List.nil_append, List.append_nil]
   o_head ⟨tRaiseN, tAt, tTryN, sp_draw⟩
   split
   ·refine ⟨c, b, hF, by omega, fun r1 H1 a1 a2 d1 => ⟨c, _, d1.feed, by omega, fun r2 H2 a3 a4 d2 => ⟨by decide, fun t ht => ?_⟩⟩⟩
    exact h t _ _ _ (((d1.trans d2).upd ht).mono (by omega)) upd_same (by omega) (by omega)
   ·split
    ·refine ⟨c, b, hF, by omega, fun r1 H1 a1 a2 d1 => ⟨c, _, d1.feed, by omega, fun r2 H2 a3 a4 d2 => ⟨by decide, fun t ht => ?_⟩⟩⟩
     exact h t _ _ _ (((d1.trans d2).upd ht).mono (by omega)) upd_same (by omega) (by omega)
    ·refine ⟨c, b, hF, by omega, fun r1 H1 a1 a2 d1 => ?_⟩
     split
     ·obtain ⟨x, hx, mx⟩ := atI_lt (xs := [10, 9, 8, 5, 2, 1, 0, 1, 2, 5, 8, 9]) a1 a2
      obtain ⟨y, hy, my⟩ := atI_lt (xs := [5, 8, 9, 10, 9, 8, 5, 2, 1, 0, 1, 2]) a1 a2
      have bx : ∀ x ∈ ([10, 9, 8, 5, 2, 1, 0, 1, 2, 5, 8, 9] : List Int), 0 ≤ x ∧ x ≤ 12 := by decide
      have bY : ∀ x ∈ ([5, 8, 9, 10, 9, 8, 5, 2, 1, 0, 1, 2] : List Int), 0 ≤ x ∧ x ≤ 12 := by decide
      simp only [List.map_cons, List.map_nil] at hx hy
      refine ⟨by decide, fun t1 h1 => ?_⟩
      rw [hx, optK_some]
      refine ⟨by decide, fun t2 h2 => ?_⟩
      rw [hy, optK_some]
      exact ⟨by decide, fun t3 h3 => h t3 x y _ ((((d1.upd h1).upd h2).upd h3).mono (by omega)) upd_same (bx x mx) (bY y my)⟩
     ·refine ⟨by decide, fun t1 h1 => ⟨by decide, fun t2 h2 => ⟨by decide, fun t3 h3 => ⟨by decide, fun t4 h4 => ?_⟩⟩⟩⟩
      have dd := ((((d1.upd (o := .tup [.int r1, .int 4]) h1).upd (o := .tup [.int 5, .int r1]) h2).upd (o := .tup [.int r1, .int r1]) h3).upd (o := .lst [.ref t1, .ref t2, .ref t3]) h4).mono (show b + 1 ≤ b + 2 by omega)
      have : st = 3 ∨ st = 4 ∨ st = 5 := by omega
      rcases this with rfl | rfl | rfl
      ·exact h t1 _ _ _ dd (upd_f h4 (upd_f h3 (upd_f h2 upd_same))) (by omega) (by omega)
      ·exact h t2 _ _ _ dd (upd_f h4 (upd_f h3 upd_same)) (by omega) (by omega)
      ·exact h t3 _ _ _ dd (upd_f h4 upd_same) (by omega) (by omega)
end
end LW
namespace LW
open PySem L2 MA PyProof.Rows MC
section
variable {P : Program} {w : World} {K : PySem.W.Frag} {mg : Str → Option Value} {base : Heap}
theorem sc__law_dozen : FnScope ["_law_feed_here", "_law_way_here", "_law_found", "_law_k", "_law_at"] ["_law_feed_here"] (defScope s__law_dozen) := ⟨rfl, rfl, rfl, by decide +kernel, rfl, by decide +kernel, by decide +kernel⟩
set_option maxHeartbeats 0 in
theorem ok__law_dozen {C : Cz} {f : Addr} {fd : FuncData} (F : Fun K "_law_dozen" "_law_dozen" s__law_dozen f fd) (T : Txt P K mg C) (F__law_draw : FnB P w K mg base (CXE P w) 1 "_law_draw" ["_law_feed_here", "_law_many"] sp_draw) : FnOk P w K mg base (CXE P w) 2 f fd ["_law_feed_here"] sp_dozen := by
 refine okN F (k := 1) sc__law_dozen (fun vs H Q E h => ?_) (fun cdv A outer s H vs Q E hr h => ?_)
 ·obtain ⟨p, c, b, rfl, _⟩ := h
  rfl
 ·obtain ⟨p, c, b, rfl, h⟩ := h
  refine' ⟨_, ?main, ?rest⟩
  case main =>
   refine' pss_cons ?c1 ?c2
   case' c1 => refine' ps_set (i := 1) sc__law_dozen.nd rfl (Or.inl rfl) ?c3
   case' c3 => refine' pe_fn F__law_draw (hr.mono (by decide)) rfl passE0 ?c4
   case' c4 => refine' pa_cons (pvF 0) ?c5
   case' c5 => exact (pa_cons pe_int pa_nil)
   case' c2 => refine' pss_cons ?c6 ?c7
   case' c6 => refine' ps_set (i := 2) sc__law_dozen.nd rfl (Or.inl rfl) ?c8
   case' c8 => exact (pe_lst pa_nil)
   case' c7 => refine' pss_cut ?c9 ?c10
   case' c9 => refine' ps_for ?c11 ?c12 ?c13 ?c14 ?c15
   case c11 => exact PassesOwn.never
   case c12 => exact rfl
   case' c13 => refine' pi_range1 rfl T.b_range ?c16
   case' c16 => refine' pa_cons ?c17 pa_nil
   case' c17 => refine' pe_op (OpR.f0 op_add) pe_int ?c18
   case' c18 => refine' pe_fn F__law_draw (hr.mono (by decide)) rfl passE0 ?c19
   case' c19 => refine' pa_cons (pvF 0) ?c20
   case' c20 => exact (pa_cons pe_int pa_nil)
   case c14 => exact (pg_name (i := 3) sc__law_dozen.nd rfl (Or.inl rfl))
   case' c15 => refine' pss_one ?c21
   case' c21 => refine' ps_if ?c22 ?c23 ?c24
   case' c22 => exact (pt_cmpF op_eqI (pvF 1) pe_int (nomark _))
   case' c23 => refine' pss_one ?c25
   case' c25 => refine' ps_expr ?c26
   case' c26 => refine' pe_app ?c27 ?c28
   case c27 => exact (pvF 2)
   case' c28 => refine' pa_cons ?c29 ?c30
   case' c29 => refine' pe_tup ?c31
   case' c31 => refine' pa_cons ?c32 ?c33
   case' c32 => exact (pe_op (OpR.f op_mod) (pvF 3) pe_int)
   case' c33 => refine' pa_cons ?c34 pa_nil
   case' c34 => exact (pe_op (OpR.f op_fdivB) (pvF 3) pe_int)
   case c30 => exact pa_nil
   case' c24 => refine' pss_one ?c35
   case' c35 => refine' ps_if ?c36 ?c37 ?c38
   case' c36 => exact (pt_cmpF op_eqI (pvF 1) pe_int (nomark _))
   case' c37 => refine' pss_one ?c39
   case' c39 => refine' ps_expr ?c40
   case' c40 => refine' pe_app ?c41 ?c42
   case c41 => exact (pvF 2)
   case' c42 => refine' pa_cons ?c43 ?c44
   case' c43 => refine' pe_tup ?c45
   case' c45 => refine' pa_consS ?c46 ?c47
   case' c46 => refine' pe_ix ?c48 ?c49 ?c50 ?c51
   case c48 => exact ix_F
   case' c49 => refine' pe_lst ?c52
   case' c52 => refine' pa_cons ?c53 ?c54
   case c53 => exact pe_int
   case' c54 => refine' pa_cons ?c55 ?c56
   case c55 => exact pe_int
   case' c56 => refine' pa_cons ?c57 ?c58
   case c57 => exact pe_int
   case' c58 => refine' pa_cons ?c59 ?c60
   case c59 => exact pe_int
   case' c60 => refine' pa_cons ?c61 ?c62
   case c61 => exact pe_int
   case' c62 => refine' pa_cons ?c63 ?c64
   case c63 => exact pe_int
   case' c64 => refine' pa_cons ?c65 ?c66
   case c65 => exact pe_int
   case' c66 => refine' pa_cons ?c67 ?c68
   case c67 => exact pe_int
   case' c68 => refine' pa_cons pe_int ?c69
   case' c69 => refine' pa_cons pe_int ?c70
   case' c70 => refine' pa_cons pe_int ?c71
   case' c71 => exact (pa_cons pe_int pa_nil)
   case c50 => exact (pvF 3)
   case c51 => exact (fun _ _ => rfl)
   case' c47 => refine' pa_consS ?c72 ?c73
   case' c72 => refine' pe_ix ?c74 ?c75 ?c76 ?c77
   case c74 => exact ix_F
   case' c75 => refine' pe_lst ?c78
   case' c78 => refine' pa_cons ?c79 ?c80
   case c79 => exact pe_int
   case' c80 => refine' pa_cons ?c81 ?c82
   case c81 => exact pe_int
   case' c82 => refine' pa_cons ?c83 ?c84
   case c83 => exact pe_int
   case' c84 => refine' pa_cons ?c85 ?c86
   case c85 => exact pe_int
   case' c86 => refine' pa_cons ?c87 ?c88
   case c87 => exact pe_int
   case' c88 => refine' pa_cons ?c89 ?c90
   case c89 => exact pe_int
   case' c90 => refine' pa_cons ?c91 ?c92
   case c91 => exact pe_int
   case' c92 => refine' pa_cons ?c93 ?c94
   case c93 => exact pe_int
   case' c94 => refine' pa_cons pe_int ?c95
   case' c95 => refine' pa_cons pe_int ?c96
   case' c96 => refine' pa_cons pe_int ?c97
   case' c97 => exact (pa_cons pe_int pa_nil)
   case c76 => exact (pvF 3)
   case c77 => exact (fun _ _ => rfl)
   case c73 => exact pa_nil
   case c44 => exact pa_nil
   case' c38 => refine' pss_one ?c98
   case' c98 => refine' ps_expr ?c99
   case' c99 => refine' pe_app ?c100 ?c101
   case c100 => exact (pvF 2)
   case' c101 => refine' pa_cons ?c102 ?c103
   case' c102 => refine' pe_tup ?c104
   case' c104 => refine' pa_cons ?c105 ?c106
   case c105 => exact (pvF 3)
   case' c106 => refine' pa_consS ?c107 ?c108
   case' c107 => refine' pe_ix ?c109 ?c110 ?c111 ?c112
   case c109 => exact ix_F
   case' c110 => refine' pe_lst ?c113
   case' c113 => refine' pa_cons pe_int ?c114
   case' c114 => refine' pa_cons ?c115 pa_nil
   case' c115 => refine' pe_fn F__law_draw (hr.mono (by decide)) rfl passE0 ?c116
   case' c116 => refine' pa_cons (pvF 0) ?c117
   case' c117 => exact (pa_cons pe_int pa_nil)
   case' c111 => exact (pe_op (OpR.f0 op_sub) (pvF 1) pe_int)
   case c112 => exact (fun _ _ => rfl)
   case c108 => exact pa_nil
   case c103 => exact pa_nil
   case' c10 => refine' pss_cons ?c118 ?c119
   case' c118 => refine' ps_set (i := 4) sc__law_dozen.nd rfl (Or.inl rfl) ?c120
   case' c120 => refine' pe_fn F__law_draw (hr.mono (by decide)) rfl passE0 ?c121
   case' c121 => refine' pa_cons (pvF 0) ?c122
   case' c122 => refine' pa_cons ?c123 pa_nil
   case' c123 => refine' pe_callB call_lenF (by rfl) T.b_len PySem.boot_len ?c124
   case' c124 => exact (pa_cons (pvF 2) pa_nil)
   case' c119 => refine' pss_one ?c125
   case' c125 => refine' ps_ret ?c126
   case' c126 => refine' pe_op op_catF ?c127 ?c128
   case' c127 => exact (pe_slice sl_F (pvF 2) (po_some (pvF 4)) po_none)
   case' c128 => exact (pe_slice sl_F (pvF 2) po_none (po_some (pvF 4)))
  case rest =>
   obtain ⟨hF, hb, h⟩ := h
   simp only [L2.start, List.map_cons, List.map_nil, List.length_cons, List.length_nil, Nat.reduceAdd, Nat.reduceSub, List.replicate_succ, List.replicate_zero, List.cons_append, List.nil_append, List.append_nil]
   o_head ⟨tRaiseN, tAt, tTryN, sp_draw⟩
   refine ⟨c, b, hF, by omega, fun way H1 w1 w2 d1 => ?_⟩
   refine ⟨by decide, fun L hL => ?_⟩
   have dL := d1.upd (o := .lst []) hL
   have nLp := d1.feed.ne hL
   refine ⟨fun σ H' => ∃ (qs : List Addr) (rs : List P2) (o3 : Option V), σ = [some (.ref p), some (.int way), some (.ref L), o3, none] ∧ H' L = some (.lst (qs.map V.ref)) ∧ R2At H' qs rs ∧ (∀ i r, rs[i]? = some r → DzOk way i r) ∧ 10 ≤ rs.length ∧ rs.length ≤ 12 ∧ DX c (b + 14) p H H', ?_, ?_⟩
   ·refine tfor_rangeH (fun n H' => 10 ≤ n ∧ n ≤ 12 ∧ H' L = some (.lst []) ∧ DX c (b + 2) p H H') ?_ ?_
    ·intro R hR
     o_head ⟨tRaiseN, tAt, tTryN, sp_draw⟩
     refine ⟨c, _, dL.feed, by omega, fun r H2 a1 a2 d2 => ?_⟩
     have := hR (10 + r.toNat) H2 ⟨by omega, by omega, d2.keep _ _ nLp upd_same, dL.trans d2⟩
     rw [show ((10 + r.toNat : Nat) : Int) = 10 + r by omega] at this
     exact this
    ·rintro n H2 ⟨n10, n12, eL, d2⟩
     refine ⟨by omega, fun i σ H' => ∃ (qs : List Addr) (rs : List P2) (o3 : Option V), σ = [some (.ref p), some (.int way), some (.ref L), o3, none] ∧ H' L = some (.lst (qs.map V.ref)) ∧ R2At H' qs rs ∧ (∀ i r, rs[i]? = some r → DzOk way i r) ∧ rs.length = i ∧ DX c (b + 2 + i) p H H', ⟨[], [], _, rfl, eL, ⟨rfl, fun i q z a => by simp at a⟩, fun i r a => by simp at a, rfl, d2⟩, ?_, ?_⟩
     ·rintro i σ H3 hi ⟨qs, rs, o3, rfl, eL, r2, dz, rfl, d3⟩
      have lq := r2.1
      have fin : ∀ (H4 : Hp) (t : Addr) (x y : Int), DX c (b + 2 + (rs.length + 1)) p H H4 → H4 L = some (.lst (qs.map V.ref)) → R2At H4 qs rs → H4 t = none → DzOk way rs.length (x, y) →
        optK (lstOf (upd H4 t (.tup [.int x, .int y]) L)) fun xs => xs.length < 1000000 ∧ ∃ qs', HO.lst (xs ++ [.ref t]) = HO.lst (qs'.map V.ref) ∧ ∃ rs', R2At (upd (upd H4 t (.tup [.int x, .int y])) L (.lst (xs ++ [.ref t]))) qs' rs' ∧ (∀ i r, rs'[i]? = some r → DzOk way i r) ∧ rs'.length = rs.length + 1 ∧ DX c (b + 2 + (rs.length + 1)) p H (upd (upd H4 t (.tup [.int x, .int y])) L (.lst (xs ++ [.ref t]))) := by
       intro H4 t x y d4 e4 r4 ht hz
       have e' := upd_f (o := .tup [.int x, .int y]) ht e4
       rw [e', lstOf_l, optK_some]
       refine ⟨by rw [List.length_map]; omega, qs ++ [t], by rw [List.map_append]; rfl, rs ++ [(x, y)], R2At.setL ((r4.ext (Ext.upd ht)).append (R2At.one (r := (x, y)) upd_same)) e', fun i r' hi' => ?_, by rw [List.length_append]; rfl, (d4.upd ht).set (d1.none hL) hF⟩
       by_cases hlt : i < rs.length
       ·rw [List.getElem?_append_left hlt] at hi'
        exact dz i r' hi'
       ·have : i = rs.length := by
         have := (List.getElem?_eq_some_iff.mp hi').1
         rw [List.length_append] at this
         simp only [List.length_cons, List.length_nil] at this
         omega
        subst this
        rw [List.getElem?_append_right (Nat.le_refl _), Nat.sub_self] at hi'
        cases hi'
        exact hz
      have cs : ((0 : Int) + (rs.length : Int)) = (rs.length : Int) := Int.zero_add _
      have d3' := d3.mono (show b + 2 + rs.length ≤ b + 2 + (rs.length + 1) by omega)
      by_cases w0 : way = 0
      ·subst w0
       o_head ⟨tRaiseN, tAt, tTryN, eL⟩
       refine ⟨by decide, fun t ht => ?_⟩
       rw [cs, Int.fdiv_eq_ediv_of_nonneg _ (by decide)]
       exact fin H3 t _ _ d3' eL r2 ht (by unfold DzOk; rw [if_pos rfl])
      ·by_cases w1 : way = 1
       ·subst w1
        obtain ⟨x, hx, mx⟩ := atI_get (xs := dzX) (n := rs.length) (by show rs.length < 12; omega)
        obtain ⟨y, hy, my⟩ := atI_get (xs := dzY) (n := rs.length) (by show rs.length < 12; omega)
        simp only [dzX, List.map_cons, List.map_nil] at hx
        simp only [dzY, List.map_cons, List.map_nil] at hy
        o_head ⟨tRaiseN, tAt, tTryN, eL, cs, hx, hy⟩
        refine ⟨by decide, fun t1 h1 => ⟨by decide, fun t2 h2 => ⟨by decide, fun t3 h3 => ?_⟩⟩⟩
        have xx : Ext H3 _ := (Ext.upd (o := .lst [.int 10, .int 9, .int 8, .int 5, .int 2, .int 1, .int 0, .int 1, .int 2, .int 5, .int 8, .int 9]) h1).then (o := .lst [.int 5, .int 8, .int 9, .int 10, .int 9, .int 8, .int 5, .int 2, .int 1, .int 0, .int 1, .int 2]) h2
        exact fin _ t3 x y (d3'.ext xx) (xx _ _ eL) (r2.ext xx) h3 (by unfold DzOk; rw [if_neg (by decide), if_pos rfl]; exact ⟨mx, my⟩)
       ·have : way = 2 ∨ way = 3 := by omega
        rcases this with rfl | rfl
        ·o_head ⟨tRaiseN, tAt, tTryN, eL, sp_draw, cs⟩
         refine ⟨c, _, d3.feed, by omega, fun r H4 a1 a2 d4 => ⟨by decide, fun t1 h1 => ⟨by decide, fun t2 h2 => ?_⟩⟩⟩
         have xx := Ext.upd (o := .lst [.int 4, .int r]) h1
         exact fin _ t2 _ _ (((d3.trans d4).ext xx).mono (by omega)) (xx _ _ (d4.keep _ _ nLp eL)) ((r2.dx d3.feed d4).ext xx) h2 (by unfold DzOk; rw [if_neg (by decide), if_neg (by decide)]; exact ⟨rfl, show (0 : Int) ≤ 4 by decide, show (4 : Int) ≤ 10 by decide⟩)
        ·o_head ⟨tRaiseN, tAt, tTryN, eL, sp_draw, cs⟩
         refine ⟨c, _, d3.feed, by omega, fun r H4 a1 a2 d4 => ⟨by decide, fun t1 h1 => ⟨by decide, fun t2 h2 => ?_⟩⟩⟩
         have xx := Ext.upd (o := .lst [.int 4, .int r]) h1
         exact fin _ t2 _ _ (((d3.trans d4).ext xx).mono (by omega)) (xx _ _ (d4.keep _ _ nLp eL)) ((r2.dx d3.feed d4).ext xx) h2 (by unfold DzOk; rw [if_neg (by decide), if_neg (by decide)]; exact ⟨rfl, a1, by dsimp only; omega⟩)
     ·rintro σ H3 ⟨qs, rs, o3, rfl, eL, r2, dz, rfl, d3⟩
      exact ⟨qs, rs, o3, rfl, eL, r2, dz, n10, n12, d3.mono (by omega)⟩
   ·rintro σ H2 ⟨qs, rs, o3, rfl, eL, r2, dz, l10, l12, d2⟩
    have lq : (qs.map V.ref).length = rs.length := by rw [List.length_map, r2.1]
    o_head ⟨tRaiseN, tAt, tTryN, eL, lq, sp_draw⟩
    refine ⟨c, _, d2.feed, by omega, by omega, by omega, fun r H3 a1 a2 d3 => ?_⟩
    obtain ⟨k, rfl⟩ := Int.eq_ofNat_of_zero_le a1
    have eL3 := d3.keep _ _ nLp eL
    rw [eL3, lstOf_l, optK_some, cut_from]
    intro t1 h1
    rw [upd_f h1 eL3, lstOf_l, optK_some, cut_to]
    intro t2 h2
    rw [upd_f h2 upd_same, lstOf_l, optK_some]
    refine ⟨by rw [List.length_drop, List.length_take, List.length_map, r2.1]; omega, fun t3 h3 => ?_⟩
    have dd := ((((d2.trans d3).upd (o := .lst ((qs.map V.ref).drop k)) h1).upd (o := .lst ((qs.map V.ref).take k)) h2)).upd (o := .lst ((qs.map V.ref).drop k ++ (qs.map V.ref).take k)) h3
    have xx := ((Ext.upd (o := .lst ((qs.map V.ref).drop k)) h1).then (o := .lst ((qs.map V.ref).take k)) h2).then (o := .lst ((qs.map V.ref).drop k ++ (qs.map V.ref).take k)) h3
    have r3 := (r2.dx d2.feed d3).ext xx
    have h3' := (d2.trans d3).none (((Ext.upd (o := .lst ((qs.map V.ref).drop k)) h1).then (o := .lst ((qs.map V.ref).take k)) h2).none h3)
    refine h t3 (qs.drop k ++ qs.take k) (rs.drop k ++ rs.take k) _ (dd.mono (by omega)) h3' (by rw [upd_same, List.map_append, List.map_drop, List.map_take]) ((r3.drop k).append (r3.take k)) (nodup_rot (nodup_of_at dz fun i j r hi hj => DzOk.inj (by omega) (by omega)) k) ?_ ?_ ?_
    ·rw [List.length_append, List.length_drop, List.length_take]
     omega
    ·rw [List.length_append, List.length_drop, List.length_take]
     omega
    ·intro r hr'
     have hm : r ∈ rs := by
      rcases List.mem_append.mp hr' with q | q
      ·exact List.mem_of_mem_drop q
      ·exact List.mem_of_mem_take q
     obtain ⟨i, hi⟩ := List.getElem?_of_mem hm
     exact (dz i r hi).bd (by have := (List.getElem?_eq_some_iff.mp hi).1; omega)
end
end LW
namespace LW
open PySem L2 MA PyProof.Rows MC
section
variable {P : Program} {w : World} {K : PySem.W.Frag} {mg : Str → Option Value} {base : Heap}
theorem sc__law_spots : FnScope ["_law_feed_here", "_law_least", "_law_most", "_law_style", "_law_found", "_law_k", "_law_kind", "_law_spot_here"] ["_law_feed_here", "_law_least", "_law_most"] (defScope s__law_spots) := ⟨rfl, rfl, rfl, by decide +kernel, rfl, by decide +kernel, by decide +kernel⟩
set_option maxHeartbeats 0 in
theorem ok__law_spots {C : Cz} {f : Addr} {fd : FuncData} (F : Fun K "_law_spots" "_law_spots" s__law_spots f fd) (T : Txt P K mg C) (F__law_draw : FnB P w K mg base (CXE P w) 1 "_law_draw" ["_law_feed_here", "_law_many"] sp_draw) (F__law_spot : FnB P w K mg base (CXE P w) 2 "_law_spot" ["_law_feed_here", "_law_style"] sp_spot) (F__law_dozen : FnB P w K mg base (CXE P w) 2 "_law_dozen" ["_law_feed_here"] sp_dozen) : FnOk P w K mg base (CXE P w) 3 f fd ["_law_feed_here", "_law_least", "_law_most"] (sp_spots K) := by
 refine okN F (k := 2) sc__law_spots (fun vs H Q E h => ?_) (fun cdv A outer s H vs Q E hr h => ?_)
 ·obtain ⟨p, n0, m0, c, b, rfl, _⟩ := h
  rfl
 ·obtain ⟨p, n0, m0, c, b, rfl, h⟩ := h
  refine' ⟨_, ?main, ?rest⟩
  case main =>
   refine' pss_cut ?c1 ?c2
   case' c1 => refine' ps_if ?c3 ?c4 ?c5
   case' c3 => refine' PW.pt ?c6
   case' c6 => refine' pw_and ?c7 ?c8
   case' c7 => exact (pt_cmpF (OpR.f0 op_gt) (pvF 2) pe_int (nomark _))
   case' c8 => refine' pw_and1 ?c9
   case' c9 => refine' pt_cmpF op_eqI ?c10 pe_int (nomark _)
   case' c10 => refine' pe_fn F__law_draw (hr.mono (by decide)) rfl passE0 ?c11
   case' c11 => refine' pa_cons (pvF 0) ?c12
   case' c12 => exact (pa_cons pe_int pa_nil)
   case' c4 => refine' pss_one ?c13
   case' c13 => refine' ps_ret ?c14
   case' c14 => refine' pe_fn F__law_dozen (hr.mono (by decide)) rfl passE0 ?c15
   case' c15 => exact (pa_cons (pvF 0) pa_nil)
   case c5 => exact pss_nil
   case' c2 => refine' pss_cons ?c16 ?c17
   case' c16 => refine' ps_set (i := 3) sc__law_spots.nd rfl (Or.inl rfl) ?c18
   case' c18 => refine' pe_fn F__law_draw (hr.mono (by decide)) rfl passE0 ?c19
   case' c19 => refine' pa_cons (pvF 0) ?c20
   case' c20 => exact (pa_cons pe_int pa_nil)
   case' c17 => refine' pss_cons ?c21 ?c22
   case' c21 => refine' ps_set (i := 4) sc__law_spots.nd rfl (Or.inl rfl) ?c23
   case' c23 => exact (pe_lst pa_nil)
   case' c22 => refine' pss_cut ?c24 ?c25
   case' c24 => refine' ps_for ?c26 ?c27 ?c28 ?c29 ?c30
   case c26 => exact PassesOwn.never
   case c27 => exact rfl
   case' c28 => refine' pi_range1 rfl T.b_range ?c31
   case' c31 => refine' pa_cons ?c32 ?c33
   case' c32 => refine' pe_op (OpR.f0 op_add) (pvF 1) ?c34
   case' c34 => refine' pe_fn F__law_draw (hr.mono (by decide)) rfl passE0 ?c35
   case' c35 => refine' pa_cons (pvF 0) ?c36
   case' c36 => refine' pa_cons ?c37 pa_nil
   case' c37 => exact (pe_op (OpR.f0 op_add) (pe_op (OpR.f0 op_sub) (pvF 2) (pvF 1)) pe_int)
   case c33 => exact pa_nil
   case c29 => exact (pg_name (i := 5) sc__law_spots.nd rfl (Or.inl rfl))
   case' c30 => refine' pss_cons (ps_set (i := 6) sc__law_spots.nd rfl (Or.inl rfl) (pvF 3)) ?c38
   case' c38 => refine' pss_cut ?c39 ?c40
   case' c39 => refine' ps_if ?c41 ?c42 ?c43
   case' c41 => exact (pt_cmpF op_eqI (pvF 3) pe_int (nomark _))
   case' c42 => refine' pss_one ?c44
   case' c44 => refine' ps_set (i := 6) sc__law_spots.nd rfl (Or.inl rfl) ?c45
   case' c45 => refine' pe_fn F__law_draw (hr.mono (by decide)) rfl passE0 ?c46
   case' c46 => refine' pa_cons (pvF 0) ?c47
   case' c47 => exact (pa_cons pe_int pa_nil)
   case c43 => exact pss_nil
   case' c40 => refine' pss_cons ?c48 ?c49
   case' c48 => refine' ps_set (i := 7) sc__law_spots.nd rfl (Or.inl rfl) ?c50
   case' c50 => refine' pe_fn F__law_spot (hr.mono (by decide)) rfl passE0 ?c51
   case' c51 => refine' pa_cons (pvF 0) ?c52
   case' c52 => exact (pa_cons (pvF 6) pa_nil)
   case' c49 => refine' pss_one ?c53
   case' c53 => refine' ps_if (pt_cmpF (op_notInDK (K := K) rfl (hu65 hr)) (pvF 7) (pvF 4) (by with_unfolding_all rfl)) ?c54 pss_nil
   case' c54 => refine' pss_one ?c55
   case' c55 => refine' ps_expr ?c56
   case' c56 => refine' pe_app (pvF 4) ?c57
   case' c57 => exact (pa_cons (pvF 7) pa_nil)
   case' c25 => refine' pss_cons ?c58 ?c59
   case' c58 => refine' ps_while ?c60 ?c61 ?c62
   case c60 => exact PassesOwn.never
   case' c61 => refine' pt_cmpF (OpR.f0 op_lt) ?c63 (pvF 1) (nomark _)
   case' c63 => refine' pe_callB call_lenF (by rfl) T.b_len PySem.boot_len ?c64
   case' c64 => exact (pa_cons (pvF 4) pa_nil)
   case' c62 => refine' pss_one ?c65
   case' c65 => refine' ps_expr ?c66
   case' c66 => refine' pe_app ?c67 ?c68
   case c67 => exact (pvF 4)
   case' c68 => refine' pa_cons ?c69 ?c70
   case' c69 => refine' pe_tup ?c71
   case' c71 => refine' pa_cons ?c72 ?c73
   case' c72 => refine' pe_op ?c74 ?c75 ?c76
   case c74 => exact (OpR.f0 op_add)
   case c75 => exact pe_int
   case' c76 => refine' pe_callB ?c77 ?c78 ?c79 ?c80 ?c81
   case c77 => exact (call_maxL (K := K) rfl rfl)
   case c78 => exact (by rfl)
   case c79 => exact T.b_max
   case c80 => exact boot_max
   case' c81 => refine' pa_cons ?c82 ?c83
   case' c82 => refine' pe_lc (CScope.of_ok (dsc := defScope s__law_spots) (N0 := ["_law_feed_here", "_law_least", "_law_most", "_law_style", "_law_found", "_law_k", "_law_kind", "_law_spot_here"]) (N := ["_law_x", "_law_y"]) (k := 2) (js := []) rfl rfl (by decide +kernel)) rfl (pi_listK (K := K) rfl (pvF 4)) ?c84 ?c85 (fun _ _ _ _ _ _ => (pvF 0))
   case' c84 => intro _ _ _ _ _ _; refine' pg_F (n := 2) rfl ?c86
   case' c86 => refine' pgs_consF (pg_name (i := 0) (by show List.Nodup (["_law_x", "_law_y"] : List Str); decide +kernel) rfl (Or.inl rfl)) ?c87
   case' c87 => exact (pgs_consF (pg_name (i := 1) (by show List.Nodup (["_law_x", "_law_y"] : List Str); decide +kernel) rfl (Or.inl rfl)) pgs_nilF)
   case' c85 => intro _ _ _ _ _ _; exact pifs_nil
   case c83 => exact pa_nil
   case' c73 => refine' pa_cons ?c88 pa_nil
   case' c88 => refine' pe_ix ix_F ?c89 pe_int (fun _ _ => rfl)
   case' c89 => exact (pe_ix ix_F (pvF 4) pe_int (fun _ _ => rfl))
   case c70 => exact pa_nil
   case' c59 => exact (pss_one (ps_ret (pvF 4)))
  case rest =>
   obtain ⟨hF, hb, h1, h6, hnm, hm, h⟩ := h
   simp only [L2.start, List.map_cons, List.map_nil, List.length_cons, List.length_nil, Nat.reduceAdd, Nat.reduceSub, List.replicate_succ, List.replicate_zero, List.cons_append, List.nil_append, List.append_nil]
   refine ⟨fun σ H' => σ = [some (.ref p), some (.int n0), some (.int m0), none, none, none, none, none] ∧ DX c (b + 1) p H H', ?_, ?_⟩
   ·o_head ⟨tRaiseN, tAt, tTryN, sp_draw, sp_dozen⟩
    split
    ·refine ⟨c, _, hF, by omega, fun r H1 a1 a2 d1 => ?_⟩
     split
     ·refine ⟨c, _, d1.feed, by omega, fun D qs rs H2 d2 hD eD r2 nd l10 l12 bd => ?_⟩
      exact h D qs rs H2 ((d1.trans d2).mono (by omega)) (d1.none hD) eD r2 nd (by omega) l12 fun r hr' => by have := bd r hr'; omega
     ·exact d1
    ·exact (DX.refl hF).mono (by omega)
   ·rintro σ H1 ⟨rfl, d1⟩
    o_head ⟨tRaiseN, tAt, tTryN, sp_draw⟩
    refine ⟨c, _, d1.feed, by omega, fun st H2 s1 s2 d2 => ⟨by decide, fun L hL => ?_⟩⟩
    have dL := (d1.trans d2).upd (o := .lst []) hL
    have hL0 := (d1.trans d2).none hL
    have nLp := d2.feed.ne hL
    refine ⟨fun σ H' => ∃ (qs : List Addr) (rs : List P2) (o5 o6 o7 : Option V), σ = [some (.ref p), some (.int n0), some (.int m0), some (.int st), some (.ref L), o5, o6, o7] ∧ H' L = some (.lst (qs.map V.ref)) ∧ R2At H' qs rs ∧ rs.Nodup ∧ 0 < rs.length ∧ rs.length ≤ 12 ∧ WBd 12 rs ∧ DX c (b + 50) p H H', ?_, ?_⟩
    ·refine tfor_rangeH (fun n H' => n0 ≤ n ∧ n ≤ m0 ∧ H' L = some (.lst []) ∧ DX c (b + 4) p H H') ?_ ?_
     ·intro R hR
      o_head ⟨tRaiseN, tAt, tTryN, sp_draw⟩
      refine ⟨c, _, dL.feed, by omega, by omega, by omega, fun r H3 a1 a2 d3 => ?_⟩
      have := hR (n0 + r.toNat) H3 ⟨by omega, by omega, d3.keep _ _ nLp upd_same, (dL.trans d3).mono (by omega)⟩
      rw [show ((n0 + r.toNat : Nat) : Int) = n0 + r by omega] at this
      exact this
     ·rintro n H3 ⟨n1, n2, eL, d3⟩
      refine ⟨by omega, fun i σ H' => ∃ (qs : List Addr) (rs : List P2) (o5 o6 o7 : Option V), σ = [some (.ref p), some (.int n0), some (.int m0), some (.int st), some (.ref L), o5, o6, o7] ∧ H' L = some (.lst (qs.map V.ref)) ∧ R2At H' qs rs ∧ rs.Nodup ∧ (0 < i → 0 < rs.length) ∧ rs.length ≤ i ∧ WBd 12 rs ∧ DX c (b + 4 + 3 * i) p H H', ⟨[], [], _, _, _, rfl, eL, ⟨rfl, fun i q z a => by simp at a⟩, List.nodup_nil, fun z => absurd z (Nat.lt_irrefl _), Nat.le_refl _, fun r hr' => absurd hr' List.not_mem_nil, d3⟩, ?_, ?_⟩
      ·rintro i σ H4 hi ⟨qs, rs, o5, o6, o7, rfl, eL, r2, nd, z0, li, bd, d4⟩
       o_head ⟨tRaiseN, tAt, tTryN⟩
       refine ⟨fun σ H' => ∃ kd : Int, σ = [some (.ref p), some (.int n0), some (.int m0), some (.int st), some (.ref L), some (.int (0 + (i : Int))), some (.int kd), o7] ∧ 0 ≤ kd ∧ kd ≤ 5 ∧ H' L = some (.lst (qs.map V.ref)) ∧ R2At H' qs rs ∧ DX c (b + 4 + 3 * i + 1) p H H', ?_, ?_⟩
       ·o_head ⟨tRaiseN, tAt, tTryN, sp_draw⟩
        split
        ·exact ⟨c, _, d4.feed, by omega, fun r H5 a1 a2 d5 => ⟨a1, by omega, d5.keep _ _ nLp eL, r2.dx d4.feed d5, d4.trans d5⟩⟩
        ·exact ⟨s1, by omega, eL, r2, d4.mono (by omega)⟩
       ·rintro σ H5 ⟨kd, rfl, k0, k5, eL, r2, d5⟩
        o_head ⟨tRaiseN, tAt, tTryN, sp_spot⟩
        refine ⟨c, _, d5.feed, by omega, k0, k5, fun t x y H6 d6 et hx hy => ?_⟩
        have eL6 := d6.keep _ _ nLp eL
        have r6 := r2.dx d5.feed d6
        refine ⟨t2d (x, y), rs.map t2d, rdy_t2 et, .lst (SqL.of eL6) (rdy_rs r6), shaped_t2 _, shaped_rs _, fun y' hy' => ?_, ?_⟩
        ·obtain ⟨z, _, rfl⟩ := List.mem_map.mp hy'
         exact nomix_t2 _ _
        ·rw [inD_rs]
         dsimp only
         have d56 := d5.trans d6
         by_cases hm' : (x, y) ∈ rs
         ·rw [decide_eq_true hm', if_neg (by simp)]
          exact ⟨⟨_, rfl⟩, qs, eL6, rs, r6, nd, fun _ => List.length_pos_of_mem hm', by omega, bd, d56.mono (by omega)⟩
         ·rw [decide_eq_false hm', if_pos (by simp), eL6, lstOf_l, optK_some]
          refine ⟨rfl, by rw [List.length_map, r6.1]; omega, ⟨_, rfl⟩, qs ++ [t], by rw [List.map_append]; rfl, rs ++ [(x, y)], (r6.append (R2At.one et)).setL eL6, nodup_snoc nd hm', fun _ => by rw [List.length_append]; exact Nat.succ_pos _, ?_, bd.snoc ⟨hx, hy⟩, (d56.mono (by omega)).set hL0 hF⟩
          rw [List.length_append]
          show _ + 1 ≤ _
          omega
      ·rintro σ H4 ⟨qs, rs, o5, o6, o7, rfl, eL, r2, nd, z0, li, bd, d4⟩
       exact ⟨qs, rs, o5, o6, o7, rfl, eL, r2, nd, z0 (by omega), by omega, bd, d4.mono (by omega)⟩
    ·rintro σ H3 ⟨qs, rs, o5, o6, o7, rfl, eL, r2, nd, z0, li, bd, d3⟩
     o_head ⟨tRaiseN, tAt, tTryN⟩
     refine ⟨fun m σ H' => ∃ (qs : List Addr) (rs : List P2), σ = [some (.ref p), some (.int n0), some (.int m0), some (.int st), some (.ref L), o5, o6, o7] ∧ H' L = some (.lst (qs.map V.ref)) ∧ R2At H' qs rs ∧ rs.Nodup ∧ 0 < rs.length ∧ rs.length ≤ 12 ∧ WBd (12 + rs.length) rs ∧ DX c (b + 50) p H H' ∧ m = 12 - rs.length, ⟨_, qs, rs, rfl, eL, r2, nd, z0, li, bd.mono (by omega), d3, rfl⟩, ?_⟩
     rintro m σ H4 ⟨qs, rs, rfl, eL, r2, nd, z0, li, bd, d4, rfl⟩
     have lq : (qs.map V.ref).length = rs.length := by rw [List.length_map, r2.1]
     o_head ⟨tRaiseN, tAt, tTryN, eL, lq⟩
     by_cases hlt : (rs.length : Int) < n0
     ·rw [if_pos hlt]
      refine ⟨fun σ' H' => ∃ (qs' : List Addr) (rs' : List P2), σ' = [some (.ref p), some (.int n0), some (.int m0), some (.int st), some (.ref L), o5, o6, o7] ∧ H' L = some (.lst (qs'.map V.ref)) ∧ R2At H' qs' rs' ∧ rs'.Nodup ∧ 0 < rs'.length ∧ rs'.length ≤ 12 ∧ WBd (12 + rs'.length) rs' ∧ DX c (b + 50) p H H' ∧ rs'.length = rs.length + 1, ?_, ?_⟩
      ·rintro σ' H' ⟨qs', rs', rfl, g1, g2, g3, g4, g5, g6, g7, g8⟩
       exact ⟨12 - rs'.length, by omega, rfl, qs', g1, rs', g2, g3, g4, g5, g6, g7, rfl⟩
      ·refine tlc_list (K := K) (a := L) (xs := qs.map V.ref) (fun R h => by o_head ⟨tRaiseN, tAt, tTryN⟩; exact h) (SqL.of eL) (by omega) (fun D i ys H' => ys = ((rs.take i).map (·.1)).map V.int ∧ H' D = some (.lst ys) ∧ Ext H4 H') ?_ ?_ ?_ ?_
       ·intro D hD
        exact ⟨rfl, upd_same, .upd hD⟩
       ·rintro D i ys H5 _ ⟨rfl, e5, x5⟩
        refine ⟨e5, ?_, SqL.of (x5 _ _ eL)⟩
        rw [List.length_map, List.length_map, List.length_take]
        omega
       ·rintro D i w1 ys H5 hD hi ⟨rfl, e5, x5⟩
        obtain ⟨q, hq, rfl⟩ := refs_get hi
        obtain ⟨r, hr1, hr2⟩ := r2.at hq
        o_head ⟨tRaiseN, tAt, tTryN, gSeqF, gCons, gNil, x5 _ _ hr2⟩
        refine ⟨e5, ?_, x5.set hD⟩
        rw [List.take_succ, hr1, List.map_append, List.map_append]
        rfl
       ·rintro D ys H5 hD ⟨rfl, e5, x5⟩
        rw [lq, List.take_length] at e5
        refine ⟨D, rs.map (·.1), rfl, SqL.of e5, by rw [List.length_map]; exact z0, fun M hM hmax => ?_⟩
        obtain ⟨r0, hr0⟩ : ∃ r, rs[0]? = some r := ⟨_, List.getElem?_eq_getElem z0⟩
        obtain ⟨q0, hq0⟩ : ∃ q, qs[0]? = some q := ⟨_, List.getElem?_eq_getElem (by rw [r2.1]; exact z0)⟩
        have e0 := x5 _ _ (r2.2 0 q0 r0 hq0 hr0)
        have a0 : atI (qs.map V.ref) 0 = some (.ref q0) := atI_nat (j := 0) (by rw [List.getElem?_map, hq0]; rfl)
        o_head ⟨tRaiseN, tAt, tTryN, x5 _ _ eL, a0, e0⟩
        refine ⟨by decide, fun t ht => ?_⟩
        have e6 := upd_f (o := .tup [.int (1 + M), .int r0.2]) ht (x5 _ _ eL)
        rw [e6, lstOf_l, optK_some]
        have nin : (1 + M, r0.2) ∉ rs := fun z => by
         have := hmax (1 + M) (List.mem_map.mpr ⟨_, z, rfl⟩)
         omega
        obtain ⟨rM, hrM, eM⟩ := List.mem_map.mp hM
        have bM := bd rM hrM
        have b0 := bd r0 (List.mem_of_getElem? hr0)
        have ll : (rs ++ [(1 + M, r0.2)]).length = rs.length + 1 := by rw [List.length_append]; rfl
        have W : WBd (12 + ((rs ++ [(1 + M, r0.2)]).length : Int)) (rs ++ [(1 + M, r0.2)]) := by
         rw [ll]
         exact (bd.mono (by omega)).snoc ⟨by dsimp only; omega, by dsimp only; omega⟩
        refine ⟨by rw [List.length_map, r2.1]; omega, qs ++ [t], by rw [List.map_append]; rfl, rs ++ [(1 + M, r0.2)], ((((r2.ext x5).ext (Ext.upd ht)).append (R2At.one (r := (1 + M, r0.2)) upd_same)).setL e6), nodup_snoc nd nin, by omega, by omega, W, ((d4.ext x5).upd ht).set hL0 hF, ll⟩
     ·rw [if_neg hlt]
      exact h L qs rs H4 (d4.mono (by omega)) hL0 eL r2 nd (by omega) li (bd.mono (by omega))
end
end LW
namespace LW
open PySem L2 MA PyProof.Rows MC
section
variable {P : Program} {w : World} {K : PySem.W.Frag} {mg : Str → Option Value} {base : Heap}
theorem sc__law_world : FnScope ["_law_feed_here", "_law_least", "_law_most", "_law_small", "_law_times", "_law_right_here", "_law_up", "_law_edge", "_law_xs", "_law_ys", "_law_wide", "_law_high", "_law_box"] ["_law_feed_here", "_law_least", "_law_most"] (defScope s__law_world) := ⟨rfl, rfl, rfl, by decide +kernel, rfl, by decide +kernel, by decide +kernel⟩
set_option maxHeartbeats 0 in
theorem ok__law_world {C : Cz} {f : Addr} {fd : FuncData} (F : Fun K "_law_world" "_law_world" s__law_world f fd) (T : Txt P K mg C) (F__law_draw : FnB P w K mg base (CXE P w) 1 "_law_draw" ["_law_feed_here", "_law_many"] sp_draw) (F__law_scale : FnB P w K mg base (CXE P w) 3 "_law_scale" ["_law_feed_here"] sp_scale) (F__law_spots : FnB P w K mg base (CXE P w) 3 "_law_spots" ["_law_feed_here", "_law_least", "_law_most"] (sp_spots K)) : FnOk P w K mg base (CXE P w) 4 f fd ["_law_feed_here", "_law_least", "_law_most"] (sp_world K) := by
 refine okN F (k := 3) sc__law_world (fun vs H Q E h => ?_) (fun cdv A outer s H vs Q E hr h => ?_)
 ·obtain ⟨p, n0, m0, c, b, rfl, _⟩ := h
  rfl
 ·obtain ⟨p, n0, m0, c, b, rfl, h⟩ := h
  refine' ⟨_, ?main, ?rest⟩
  case main =>
   refine' pss_cons ?c1 ?c2
   case' c1 => refine' ps_set (i := 3) sc__law_world.nd rfl (Or.inl rfl) ?c3
   case' c3 => refine' pe_fn F__law_spots (hr.mono (by decide)) rfl passE0 ?c4
   case' c4 => refine' pa_cons (pvF 0) ?c5
   case' c5 => refine' pa_cons (pvF 1) ?c6
   case' c6 => exact (pa_cons (pvF 2) pa_nil)
   case' c2 => refine' pss_cut ?c7 ?c8
   case' c7 => refine' ps_asg ?c9 ?c10
   case' c9 => refine' pe_fn F__law_scale (hr.mono (by decide)) rfl passE0 ?c11
   case' c11 => exact (pa_cons (pvF 0) pa_nil)
   case' c10 => refine' pg_F (n := 3) rfl ?c12
   case' c12 => refine' pgs_consF (pg_name (i := 4) sc__law_world.nd rfl (Or.inr rfl)) ?c13
   case' c13 => refine' pgs_consF (pg_name (i := 5) sc__law_world.nd rfl (Or.inr rfl)) ?c14
   case' c14 => exact (pgs_consF (pg_name (i := 6) sc__law_world.nd rfl (Or.inr rfl)) pgs_nilF)
   case' c8 => refine' pss_cut ?c15 ?c16
   case' c15 => refine' ps_lc (i := 7) ?c17 ?c18 ?c19 ?c20 ?c21 ?c22 ?c23 ?c24 ?c25
   case c17 => exact (CScope.of_ok (dsc := defScope s__law_world) (N0 := ["_law_feed_here", "_law_least", "_law_most", "_law_small", "_law_times", "_law_right_here", "_law_up", "_law_edge", "_law_xs", "_law_ys", "_law_wide", "_law_high", "_law_box"]) (N := ["_law_k", "_law_feed_here"]) (k := 1) (js := [0]) rfl rfl (by decide +kernel))
   case c18 => exact rfl
   case' c19 => refine' pi_range1 rfl T.b_range ?c26
   case' c26 => exact (pa_cons pe_int pa_nil)
   case' c20 => intro _ _ _ _ _ _; exact (pg_name (i := 0) (by show List.Nodup (["_law_k", "_law_feed_here"] : List Str); decide +kernel) rfl (Or.inl rfl))
   case' c21 => intro _ _ _ _ _ _; exact pifs_nil
   case' c22 => intro _ _ _ _ _ _; refine' pe_ix ?c27 ?c28 ?c29 ?c30
   case c27 => exact ix_F
   case' c28 => refine' pe_lst ?c31
   case' c31 => refine' pa_cons pe_int ?c32
   case' c32 => refine' pa_cons pe_int ?c33
   case' c33 => refine' pa_cons pe_int ?c34
   case' c34 => exact (pa_cons pe_int pa_nil)
   case' c29 => refine' pe_fn F__law_draw (hr.mono (by decide)) rfl passE0 ?c35
   case' c35 => refine' pa_cons (pvF 1) ?c36
   case' c36 => exact (pa_cons pe_int pa_nil)
   case c30 => exact (fun _ _ => rfl)
   case c23 => exact sc__law_world.nd
   case c24 => exact rfl
   case c25 => exact rfl
   case' c16 => refine' pss_cut ?c37 ?c38
   case' c37 => refine' ps_lc (i := 8) ?c39 ?c40 ?c41 ?c42 ?c43 ?c44 ?c45 ?c46 ?c47
   case c39 => exact (CScope.of_ok (dsc := defScope s__law_world) (N0 := ["_law_feed_here", "_law_least", "_law_most", "_law_small", "_law_times", "_law_right_here", "_law_up", "_law_edge", "_law_xs", "_law_ys", "_law_wide", "_law_high", "_law_box"]) (N := ["_law_x", "_law_y"]) (k := 2) (js := []) rfl rfl (by decide +kernel))
   case c40 => exact rfl
   case c41 => exact (pi_listK (K := K) rfl (pvF 3))
   case' c42 => intro _ _ _ _ _ _; refine' pg_F (n := 2) rfl ?c48
   case' c48 => refine' pgs_consF (pg_name (i := 0) (by show List.Nodup (["_law_x", "_law_y"] : List Str); decide +kernel) rfl (Or.inl rfl)) ?c49
   case' c49 => exact (pgs_consF (pg_name (i := 1) (by show List.Nodup (["_law_x", "_law_y"] : List Str); decide +kernel) rfl (Or.inl rfl)) pgs_nilF)
   case' c43 => intro _ _ _ _ _ _; exact pifs_nil
   case c44 => exact (fun _ _ _ _ _ _ => (pvF 0))
   case c45 => exact sc__law_world.nd
   case c46 => exact rfl
   case c47 => exact rfl
   case' c38 => refine' pss_cut ?c50 ?c51
   case' c50 => refine' ps_lc (i := 9) ?c52 ?c53 ?c54 ?c55 ?c56 ?c57 ?c58 ?c59 ?c60
   case c52 => exact (CScope.of_ok (dsc := defScope s__law_world) (N0 := ["_law_feed_here", "_law_least", "_law_most", "_law_small", "_law_times", "_law_right_here", "_law_up", "_law_edge", "_law_xs", "_law_ys", "_law_wide", "_law_high", "_law_box"]) (N := ["_law_x", "_law_y"]) (k := 2) (js := []) rfl rfl (by decide +kernel))
   case c53 => exact rfl
   case c54 => exact (pi_listK (K := K) rfl (pvF 3))
   case' c55 => intro _ _ _ _ _ _; refine' pg_F (n := 2) rfl ?c61
   case' c61 => refine' pgs_consF (pg_name (i := 0) (by show List.Nodup (["_law_x", "_law_y"] : List Str); decide +kernel) rfl (Or.inl rfl)) ?c62
   case' c62 => exact (pgs_consF (pg_name (i := 1) (by show List.Nodup (["_law_x", "_law_y"] : List Str); decide +kernel) rfl (Or.inl rfl)) pgs_nilF)
   case' c56 => intro _ _ _ _ _ _; exact pifs_nil
   case c57 => exact (fun _ _ _ _ _ _ => (pvF 1))
   case c58 => exact sc__law_world.nd
   case c59 => exact rfl
   case c60 => exact rfl
   case' c51 => refine' pss_cut ?c63 ?c64
   case' c63 => refine' ps_set (i := 10) ?c65 ?c66 ?c67 ?c68
   case c65 => exact sc__law_world.nd
   case c66 => exact rfl
   case c67 => exact (Or.inl rfl)
   case' c68 => refine' pe_op ?c69 ?c70 ?c71
   case c69 => exact (OpR.f0 op_add)
   case' c70 => refine' pe_op (OpR.f0 op_add) ?c72 ?c73
   case' c72 => refine' pe_callB (call_maxL (K := K) rfl rfl) (by rfl) T.b_max boot_max ?c74
   case' c74 => exact (pa_cons (pvF 8) pa_nil)
   case' c73 => exact (pe_ix ix_F (pvF 7) pe_int (fun _ _ => rfl))
   case' c71 => refine' pe_callTy ?c75 ?c76 ?c77 ?c78 ?c79
   case c75 => exact call_int1
   case c76 => exact (by rfl)
   case c77 => exact T.b_int
   case c78 => exact boot_int
   case' c79 => refine' pa_cons ?c80 ?c81
   case' c80 => refine' pe_cmpR ?c82 ?c83 ?c84 ?c85
   case c82 => exact op_eqI
   case' c83 => refine' pe_op (OpR.f0 op_add) ?c86 ?c87
   case' c86 => refine' pe_callB (call_maxL (K := K) rfl rfl) (by rfl) T.b_max boot_max ?c88
   case' c88 => exact (pa_cons (pvF 8) pa_nil)
   case' c87 => exact (pe_ix ix_F (pvF 7) pe_int (fun _ _ => rfl))
   case' c84 => refine' pe_op (OpR.f0 op_sub) ?c89 ?c90
   case' c89 => refine' pe_callB (call_minL (K := K) rfl rfl) (by rfl) T.b_min boot_min ?c91
   case' c91 => exact (pa_cons (pvF 8) pa_nil)
   case' c90 => exact (pe_ix ix_F (pvF 7) pe_int (fun _ _ => rfl))
   case c85 => exact (nomark _)
   case c81 => exact pa_nil
   case' c64 => refine' pss_cut ?c92 ?c93
   case' c92 => refine' ps_set (i := 11) ?c94 ?c95 ?c96 ?c97
   case c94 => exact sc__law_world.nd
   case c95 => exact rfl
   case c96 => exact (Or.inl rfl)
   case' c97 => refine' pe_op ?c98 ?c99 ?c100
   case c98 => exact (OpR.f0 op_add)
   case' c99 => refine' pe_op (OpR.f0 op_add) ?c101 ?c102
   case' c101 => refine' pe_callB (call_maxL (K := K) rfl rfl) (by rfl) T.b_max boot_max ?c103
   case' c103 => exact (pa_cons (pvF 9) pa_nil)
   case' c102 => exact (pe_ix ix_F (pvF 7) pe_int (fun _ _ => rfl))
   case' c100 => refine' pe_callTy ?c104 ?c105 ?c106 ?c107 ?c108
   case c104 => exact call_int1
   case c105 => exact (by rfl)
   case c106 => exact T.b_int
   case c107 => exact boot_int
   case' c108 => refine' pa_cons ?c109 ?c110
   case' c109 => refine' pe_cmpR ?c111 ?c112 ?c113 ?c114
   case c111 => exact op_eqI
   case' c112 => refine' pe_op (OpR.f0 op_add) ?c115 ?c116
   case' c115 => refine' pe_callB (call_maxL (K := K) rfl rfl) (by rfl) T.b_max boot_max ?c117
   case' c117 => exact (pa_cons (pvF 9) pa_nil)
   case' c116 => exact (pe_ix ix_F (pvF 7) pe_int (fun _ _ => rfl))
   case' c113 => refine' pe_op (OpR.f0 op_sub) ?c118 ?c119
   case' c118 => refine' pe_callB (call_minL (K := K) rfl rfl) (by rfl) T.b_min boot_min ?c120
   case' c120 => exact (pa_cons (pvF 9) pa_nil)
   case' c119 => exact (pe_ix ix_F (pvF 7) pe_int (fun _ _ => rfl))
   case c114 => exact (nomark _)
   case c110 => exact pa_nil
   case' c93 => refine' pss_cut ?c121 ?c122
   case' c121 => refine' ps_set (i := 12) ?c123 ?c124 ?c125 ?c126
   case c123 => exact sc__law_world.nd
   case c124 => exact rfl
   case c125 => exact (Or.inl rfl)
   case' c126 => refine' pe_tup ?c127
   case' c127 => refine' pa_cons ?c128 ?c129
   case' c128 => refine' pe_op (OpR.f0 op_add) ?c130 (pvF 5)
   case' c130 => refine' pe_op (OpR.f op_mulA) ?c131 (pvF 4)
   case' c131 => refine' pe_op (OpR.f0 op_sub) ?c132 ?c133
   case' c132 => refine' pe_callB (call_minL (K := K) rfl rfl) (by rfl) T.b_min boot_min ?c134
   case' c134 => exact (pa_cons (pvF 8) pa_nil)
   case' c133 => exact (pe_ix ix_F (pvF 7) pe_int (fun _ _ => rfl))
   case' c129 => refine' pa_cons ?c135 ?c136
   case' c135 => refine' pe_op (OpR.f0 op_add) ?c137 (pvF 6)
   case' c137 => refine' pe_op (OpR.f op_mulA) ?c138 (pvF 4)
   case' c138 => refine' pe_op (OpR.f0 op_sub) ?c139 ?c140
   case' c139 => refine' pe_callB (call_minL (K := K) rfl rfl) (by rfl) T.b_min boot_min ?c141
   case' c141 => exact (pa_cons (pvF 9) pa_nil)
   case' c140 => exact (pe_ix ix_F (pvF 7) pe_int (fun _ _ => rfl))
   case' c136 => refine' pa_cons ?c142 ?c143
   case' c142 => exact (pe_op (OpR.f0 op_add) (pe_op (OpR.f op_mulA) (pvF 10) (pvF 4)) (pvF 5))
   case' c143 => refine' pa_cons ?c144 pa_nil
   case' c144 => exact (pe_op (OpR.f0 op_add) (pe_op (OpR.f op_mulA) (pvF 11) (pvF 4)) (pvF 6))
   case' c122 => refine' pss_one ?c145
   case' c145 => refine' ps_ret ?c146
   case' c146 => refine' pe_tup ?c147
   case' c147 => refine' pa_cons ?c148 ?c149
   case c148 => exact (pvF 12)
   case' c149 => refine' pa_cons ?c150 ?c151
   case' c150 => refine' pe_lc (CScope.of_ok (dsc := defScope s__law_world) (N0 := ["_law_feed_here", "_law_least", "_law_most", "_law_small", "_law_times", "_law_right_here", "_law_up", "_law_edge", "_law_xs", "_law_ys", "_law_wide", "_law_high", "_law_box"]) (N := ["_law_x", "_law_y", "_law_right_here", "_law_up", "_law_times"]) (k := 2) (js := [5, 6, 4]) rfl rfl (by decide +kernel)) rfl (pi_listK (K := K) rfl (pvF 3)) ?c152 ?c153 ?c154
   case' c152 => intro _ _ _ _ _ _; refine' pg_F (n := 2) rfl ?c155
   case' c155 => refine' pgs_consF (pg_name (i := 0) (by show List.Nodup (["_law_x", "_law_y", "_law_right_here", "_law_up", "_law_times"] : List Str); decide +kernel) rfl (Or.inl rfl)) ?c156
   case' c156 => exact (pgs_consF (pg_name (i := 1) (by show List.Nodup (["_law_x", "_law_y", "_law_right_here", "_law_up", "_law_times"] : List Str); decide +kernel) rfl (Or.inl rfl)) pgs_nilF)
   case' c153 => intro _ _ _ _ _ _; exact pifs_nil
   case' c154 => intro _ _ _ _ _ _; refine' pe_tup ?c157
   case' c157 => refine' pa_cons ?c158 ?c159
   case' c158 => exact (pe_op (OpR.f0 op_add) (pe_op (OpR.f op_mulA) (pvF 0) (pvF 4)) (pvF 2))
   case' c159 => refine' pa_cons ?c160 pa_nil
   case' c160 => exact (pe_op (OpR.f0 op_add) (pe_op (OpR.f op_mulA) (pvF 1) (pvF 4)) (pvF 3))
   case c151 => exact pa_nil
  case rest =>
   obtain ⟨hF, hb, h1, h6, hnm, hm, h⟩ := h
   simp only [L2.start, List.map_cons, List.map_nil, List.length_cons, List.length_nil, Nat.reduceAdd, Nat.reduceSub, List.replicate_succ, List.replicate_zero, List.cons_append, List.nil_append, List.append_nil]
   o_head ⟨tRaiseN, tAt, tTryN, sp_spots⟩
   refine ⟨n0, rfl, m0, rfl, c, b, hF, by omega, h1, h6, hnm, hm, fun L qs rs H1 d1 hL eL r2 nd l0 l12 bd => ?_⟩
   have lq : (qs.map V.ref).length = rs.length := by rw [List.length_map, r2.1]
   have nLp := d1.feed.lst eL
   refine ⟨fun σ H' => ∃ m r u : Int, σ = [some (.ref p), some (.int n0), some (.int m0), some (.ref L), some (.int m), some (.int r), some (.int u), none, none, none, none, none, none] ∧ H' L = some (.lst (qs.map V.ref)) ∧ R2At H' qs rs ∧ (1 ≤ m ∧ m ≤ 10 ^ 20) ∧ (-(10 ^ 25) ≤ r ∧ r ≤ 10 ^ 25) ∧ (-(10 ^ 25) ≤ u ∧ u ≤ 10 ^ 25) ∧ DX c (b + 85) p H H', ?_, ?_⟩
   ·o_head ⟨tRaiseN, tAt, tTryN, sp_scale⟩
    refine ⟨c, _, d1.feed, by omega, fun t m r u H2 d2 et hm' hr' hu => ?_⟩
    o_head ⟨tRaiseN, tAt, tTryN, gSeqF, gCons, gNil, et⟩
    exact ⟨d2.keep _ _ nLp eL, r2.dx d1.feed d2, hm'.1, hm'.2, hr'.1, hr'.2, hu.1, hu.2, (d1.trans d2).mono (by omega)⟩
   ·rintro σ H2 ⟨m, r, u, rfl, eL, r2, ⟨m1, m2⟩, hr', hu, d2⟩
    refine ⟨fun σ H' => ∃ (E : Addr) (e0 e1 e2 e3 : Int), σ = [some (.ref p), some (.int n0), some (.int m0), some (.ref L), some (.int m), some (.int r), some (.int u), some (.ref E), none, none, none, none, none] ∧ H' E = some (.lst [.int e0, .int e1, .int e2, .int e3]) ∧ ((0 ≤ e0 ∧ e0 ≤ 7) ∧ (0 ≤ e1 ∧ e1 ≤ 7) ∧ (0 ≤ e2 ∧ e2 ≤ 7) ∧ (0 ≤ e3 ∧ e3 ≤ 7)) ∧ H' L = some (.lst (qs.map V.ref)) ∧ R2At H' qs rs ∧ DX c (b + 90) p H H', ?_, ?_⟩
    ·o_head ⟨tRaiseN, tAt, tTryN⟩
     refine tlc_range 4 (fun R h => h) (by decide) (fun D i ys H' => H' D = some (.lst ys) ∧ ys.length = i ∧ D ≠ p ∧ (∀ v ∈ ys, ∃ e : Int, v = .int e ∧ 0 ≤ e ∧ e ≤ 7) ∧ DX c (b + 85 + i) p H2 H') ?_ ?_ ?_ ?_
     ·intro D hD
      exact ⟨upd_same, rfl, d2.feed.ne hD, fun v hv => absurd hv List.not_mem_nil, (DX.refl d2.feed).upd hD⟩
     ·rintro D i ys H3 _ ⟨e3, l3, _⟩
      exact ⟨e3, by omega⟩
     ·rintro D i ys H3 hD hi ⟨e3, l3, nD, hv, d3⟩
      o_head ⟨tRaiseN, tAt, tTryN, sp_draw⟩
      refine ⟨by decide, fun t ht => ⟨c, _, d3.feed.upd ht, by omega, fun k H4 a1 a2 d4 => ?_⟩⟩
      have et := d4.keep t _ (d3.feed.ne ht) upd_same
      have eD := d4.keep D _ nD (upd_f ht e3)
      obtain ⟨x, hx, hp1, hp2⟩ := atI_four (a := 0) (b := 1) (c := 0) (d := 7) (fun x => 0 ≤ x ∧ x ≤ 7) (by decide) (by decide) (by decide) (by decide) a1 a2
      o_head ⟨tRaiseN, tAt, tTryN, et, hx⟩
      refine ⟨eD, by rw [List.length_append, l3]; rfl, nD, fun v hv' => ?_, (((d3.upd ht).trans d4).mono (by omega)).set hD d2.feed⟩
      rcases List.mem_append.mp hv' with q | q
      ·exact hv v q
      ·exact ⟨x, by simpa using q, hp1, hp2⟩
     ·rintro D ys H3 hD ⟨e3, l3, nD, hv, d3⟩
      obtain ⟨e0, e1, e2, e3', rfl, f0, f1, f2, f3⟩ := four_ints l3 hv
      o_head ⟨tRaiseN, tAt, tTryN⟩
      exact ⟨e0, e1, e2, e3', e3, f0.1, f0.2, f1.1, f1.2, f2.1, f2.2, f3.1, f3.2, d3.keep _ _ (d2.feed.lst eL) eL, r2.dx d2.feed d3, (d2.trans d3).mono (by omega)⟩
    ·rintro σ H3 ⟨E, e0, e1, e2, e3, rfl, eE, ⟨f0, f1, f2, f3⟩, eL, r2, d3⟩
     refine ⟨fun σ H' => ∃ X : Addr, σ = [some (.ref p), some (.int n0), some (.int m0), some (.ref L), some (.int m), some (.int r), some (.int u), some (.ref E), some (.ref X), none, none, none, none] ∧ H' X = some (.lst ((rs.map (·.1)).map V.int)) ∧ Ext H3 H', ?_, ?_⟩
     ·o_head ⟨tRaiseN, tAt, tTryN⟩
      refine tlc_list (K := K) (a := L) (xs := qs.map V.ref) (fun R h => by o_head ⟨tRaiseN, tAt, tTryN⟩; exact h) (SqL.of eL) (by rw [lq]; omega) (fun D i ys H' => ys = ((rs.take i).map (·.1)).map V.int ∧ H' D = some (.lst ys) ∧ Ext H3 H') ?_ ?_ ?_ ?_
      ·intro D hD
       exact ⟨rfl, upd_same, .upd hD⟩
      ·rintro D i ys H5 _ ⟨rfl, e5, x5⟩
       refine ⟨e5, ?_, SqL.of (x5 _ _ eL)⟩
       rw [List.length_map, List.length_map, List.length_take]
       omega
      ·rintro D i w1 ys H5 hD hi ⟨rfl, e5, x5⟩
       obtain ⟨q, hq, rfl⟩ := refs_get hi
       obtain ⟨z, hr1, hr2⟩ := r2.at hq
       o_head ⟨tRaiseN, tAt, tTryN, gSeqF, gCons, gNil, x5 _ _ hr2⟩
       refine ⟨e5, ?_, x5.set hD⟩
       rw [List.take_succ, hr1, List.map_append, List.map_append]
       rfl
      ·rintro D ys H5 hD ⟨rfl, e5, x5⟩
       rw [lq, List.take_length] at e5
       o_head ⟨tRaiseN, tAt, tTryN⟩
       exact ⟨e5, x5⟩
     ·rintro σ H4 ⟨X, rfl, eX, x4⟩
      replace eL := x4 _ _ eL
      replace r2 := r2.ext x4
      refine ⟨fun σ H' => ∃ Y : Addr, σ = [some (.ref p), some (.int n0), some (.int m0), some (.ref L), some (.int m), some (.int r), some (.int u), some (.ref E), some (.ref X), some (.ref Y), none, none, none] ∧ H' Y = some (.lst ((rs.map (·.2)).map V.int)) ∧ Ext H4 H', ?_, ?_⟩
      ·o_head ⟨tRaiseN, tAt, tTryN⟩
       refine tlc_list (K := K) (a := L) (xs := qs.map V.ref) (fun R h => by o_head ⟨tRaiseN, tAt, tTryN⟩; exact h) (SqL.of eL) (by rw [lq]; omega) (fun D i ys H' => ys = ((rs.take i).map (·.2)).map V.int ∧ H' D = some (.lst ys) ∧ Ext H4 H') ?_ ?_ ?_ ?_
       ·intro D hD
        exact ⟨rfl, upd_same, .upd hD⟩
       ·rintro D i ys H5 _ ⟨rfl, e5, x5⟩
        refine ⟨e5, ?_, SqL.of (x5 _ _ eL)⟩
        rw [List.length_map, List.length_map, List.length_take]
        omega
       ·rintro D i w1 ys H5 hD hi ⟨rfl, e5, x5⟩
        obtain ⟨q, hq, rfl⟩ := refs_get hi
        obtain ⟨z, hr1, hr2⟩ := r2.at hq
        o_head ⟨tRaiseN, tAt, tTryN, gSeqF, gCons, gNil, x5 _ _ hr2⟩
        refine ⟨e5, ?_, x5.set hD⟩
        rw [List.take_succ, hr1, List.map_append, List.map_append]
        rfl
       ·rintro D ys H5 hD ⟨rfl, e5, x5⟩
        rw [lq, List.take_length] at e5
        o_head ⟨tRaiseN, tAt, tTryN⟩
        exact ⟨e5, x5⟩
      ·rintro σ H5 ⟨Y, rfl, eY, x5⟩
       replace eL := x5 _ _ eL
       replace r2 := r2.ext x5
       replace eX := x5 _ _ eX
       replace eE := x5 _ _ (x4 _ _ eE)
       have n1 : 0 < (rs.map (·.1)).length := by rw [List.length_map]; omega
       have n2 : 0 < (rs.map (·.2)).length := by rw [List.length_map]; omega
       have mx : ∀ M, M ∈ rs.map (·.1) → 0 ≤ M ∧ M ≤ 24 := fun M hM => by
        obtain ⟨z, hz, rfl⟩ := List.mem_map.mp hM
        exact (bd z hz).1
       have my : ∀ M, M ∈ rs.map (·.2) → 0 ≤ M ∧ M ≤ 12 := fun M hM => by
        obtain ⟨z, hz, rfl⟩ := List.mem_map.mp hM
        exact (bd z hz).2
       refine ⟨fun σ H' => ∃ wd : Int, σ = [some (.ref p), some (.int n0), some (.int m0), some (.ref L), some (.int m), some (.int r), some (.int u), some (.ref E), some (.ref X), some (.ref Y), some (.int wd), none, none] ∧ H' = H5 ∧ (∀ a ∈ rs.map (·.1), a ≤ wd) ∧ (∀ N ∈ rs.map (·.1), (∀ a ∈ rs.map (·.1), N ≤ a) → N - e0 < wd) ∧ wd ≤ 40, ?_, ?_⟩
       ·o_head ⟨tRaiseN, tAt, tTryN, eE⟩
        refine ⟨X, _, rfl, SqL.of eX, n1, fun M hM hmax => ?_⟩
        o_head ⟨tRaiseN, tAt, tTryN, eE⟩
        refine ⟨X, _, rfl, SqL.of eX, n1, fun M2 hM2 hmax2 => ?_⟩
        o_head ⟨tRaiseN, tAt, tTryN, eE⟩
        refine ⟨X, _, rfl, SqL.of eX, n1, fun N hN hmin => ?_⟩
        o_head ⟨tRaiseN, tAt, tTryN, eE⟩
        have e12 : M2 = M := by have := hmax M2 hM2; have := hmax2 M hM; omega
        subst e12
        have bM := mx M2 hM
        refine ⟨fun a ha => ?_, fun N' hN' hmin' => ?_, ?_⟩
        ·have := hmax a ha
         split <;> omega
        ·have := hmin' N hN
         have := hmin N' hN'
         have := hmax N' hN'
         split <;> omega
        ·split <;> omega
       ·rintro σ H6 ⟨wd, rfl, rfl, wmax, wmin, w40⟩
        refine ⟨fun σ H' => ∃ hg : Int, σ = [some (.ref p), some (.int n0), some (.int m0), some (.ref L), some (.int m), some (.int r), some (.int u), some (.ref E), some (.ref X), some (.ref Y), some (.int wd), some (.int hg), none] ∧ H' = H6 ∧ (∀ a ∈ rs.map (·.2), a ≤ hg) ∧ (∀ N ∈ rs.map (·.2), (∀ a ∈ rs.map (·.2), N ≤ a) → N - e1 < hg) ∧ hg ≤ 40, ?_, ?_⟩
        ·o_head ⟨tRaiseN, tAt, tTryN, eE⟩
         refine ⟨Y, _, rfl, SqL.of eY, n2, fun M hM hmax => ?_⟩
         o_head ⟨tRaiseN, tAt, tTryN, eE⟩
         refine ⟨Y, _, rfl, SqL.of eY, n2, fun M2 hM2 hmax2 => ?_⟩
         o_head ⟨tRaiseN, tAt, tTryN, eE⟩
         refine ⟨Y, _, rfl, SqL.of eY, n2, fun N hN hmin => ?_⟩
         o_head ⟨tRaiseN, tAt, tTryN, eE⟩
         have e12 : M2 = M := by have := hmax M2 hM2; have := hmax2 M hM; omega
         subst e12
         have bM := my M2 hM
         refine ⟨fun a ha => ?_, fun N' hN' hmin' => ?_, ?_⟩
         ·have := hmax a ha
          split <;> omega
         ·have := hmin' N hN
          have := hmin N' hN'
          have := hmax N' hN'
          split <;> omega
         ·split <;> omega
        ·rintro σ H7 ⟨hg, rfl, rfl, hgmax, hgmin, h40⟩
         have b70 : Bd 70 m := Bd.of_le (10 ^ 20) (by omega) (by omega) (by decide)
         have sm : ∀ k : Int, -10 ≤ k → k ≤ 50 → Bd 10 k := fun k a1 a2 => Bd.of_le 50 (by omega) (by omega) (by decide)
         have xpos : ∀ z ∈ rs, 0 ≤ wd := fun z hz => by have := wmax z.1 (List.mem_map.mpr ⟨z, hz, rfl⟩); have := bd z hz; omega
         have z0 : ∃ z, z ∈ rs := by
          obtain ⟨z, hz⟩ : ∃ z, rs[0]? = some z := ⟨_, List.getElem?_eq_getElem (by omega)⟩
          exact ⟨z, List.mem_of_getElem? hz⟩
         obtain ⟨zz, hzz⟩ := z0
         have w0 := xpos zz hzz
         have g0 : 0 ≤ hg := by have := hgmax zz.2 (List.mem_map.mpr ⟨zz, hzz, rfl⟩); have := bd zz hzz; omega
         refine ⟨fun σ H' => ∃ (B : Addr) (N N' : Int), σ = [some (.ref p), some (.int n0), some (.int m0), some (.ref L), some (.int m), some (.int r), some (.int u), some (.ref E), some (.ref X), some (.ref Y), some (.int wd), some (.int hg), some (.ref B)] ∧ H' B = some (.tup [.int ((N - e0) * m + r), .int ((N' - e1) * m + u), .int (wd * m + r), .int (hg * m + u)]) ∧ Ext H7 H' ∧ (N ∈ rs.map (·.1) ∧ ∀ a ∈ rs.map (·.1), N ≤ a) ∧ (N' ∈ rs.map (·.2) ∧ ∀ a ∈ rs.map (·.2), N' ≤ a), ?_, ?_⟩
         ·o_head ⟨tRaiseN, tAt, tTryN, eE⟩
          refine ⟨X, _, rfl, SqL.of eX, n1, fun N hN hmin => ?_⟩
          have bN := mx N hN
          o_head ⟨tRaiseN, tAt, tTryN, eE⟩
          refine ⟨.of (sm _ (by omega) (by omega)) b70 (by decide) (by decide), ?_⟩
          refine ⟨Y, _, rfl, SqL.of eY, n2, fun N' hN' hmin' => ?_⟩
          have bN' := my N' hN'
          o_head ⟨tRaiseN, tAt, tTryN, eE⟩
          refine ⟨.of (sm _ (by omega) (by omega)) b70 (by decide) (by decide), .of (sm _ (by omega) (by omega)) b70 (by decide) (by decide), .of (sm _ (by omega) (by omega)) b70 (by decide) (by decide), by decide, fun B hB => ?_⟩
          exact ⟨N, N', rfl, .upd hB, hN, hmin, hN', hmin'⟩
         ·rintro σ H8 ⟨B, N, N', rfl, eB, x8, ⟨hN, hmin⟩, hN', hmin'⟩
          have bN := mx N hN
          have bN' := my N' hN'
          o_head ⟨tRaiseN, tAt, tTryN⟩
          refine tlc_list (K := K) (a := L) (xs := qs.map V.ref) (fun R h => by o_head ⟨tRaiseN, tAt, tTryN⟩; exact h) (SqL.of (x8 _ _ eL)) (by rw [lq]; omega) (fun D i ys H' => ∃ qs' : List Addr, ys = qs'.map V.ref ∧ R2At H' qs' ((rs.take i).map fun z => (z.1 * m + r, z.2 * m + u)) ∧ H' D = some (.lst ys) ∧ Ext H8 H') ?_ ?_ ?_ ?_
          ·intro D hD
           exact ⟨[], rfl, ⟨rfl, fun i q z a => by simp at a⟩, upd_same, .upd hD⟩
          ·rintro D i ys H9 _ ⟨qs', rfl, r9, e9, x9⟩
           refine ⟨e9, ?_, SqL.of (x9 _ _ (x8 _ _ eL))⟩
           rw [List.length_map, r9.1, List.length_map, List.length_take]
           omega
          ·rintro D i w1 ys H9 hD hi ⟨qs', rfl, r9, e9, x9⟩
           obtain ⟨q, hq, rfl⟩ := refs_get hi
           obtain ⟨z, hr1, hr2⟩ := r2.at hq
           have bz := bd z (List.mem_of_getElem? hr1)
           o_head ⟨tRaiseN, tAt, tTryN, gSeqF, gCons, gNil, x9 _ _ (x8 _ _ hr2)⟩
           refine ⟨.of (sm _ (by omega) (by omega)) b70 (by decide) (by decide), .of (sm _ (by omega) (by omega)) b70 (by decide) (by decide), by decide, fun t ht => ?_⟩
           have e9' := upd_f (o := .tup [.int (z.1 * m + r), .int (z.2 * m + u)]) ht e9
           refine ⟨e9', qs' ++ [t], by rw [List.map_append]; rfl, ?_, (x9.then ht).set hD⟩
           rw [List.take_succ, hr1, List.map_append]
           exact ((r9.ext (Ext.upd ht)).append (R2At.one (r := (z.1 * m + r, z.2 * m + u)) upd_same)).setL e9'
          ·rintro D ys H9 hD ⟨qs', rfl, r9, e9, x9⟩
           rw [lq, List.take_length] at r9
           refine ⟨by decide, fun t ht => ?_⟩
           have xt := x9.trans (Ext.upd (o := .tup [.ref B, .ref D]) ht)
           have xa := ((x4.trans x5).trans x8).trans xt
           have q1 := sc_bd (k := N - e0) (by omega) (by omega) m1 m2
           have q2 := sc_bd (k := N' - e1) (by omega) (by omega) m1 m2
           have q3 := sc_bd (k := wd) (by omega) (by omega) m1 m2
           have q4 := sc_bd (k := hg) (by omega) (by omega) m1 m2
           refine h t B D ((N - e0) * m + r) ((N' - e1) * m + u) (wd * m + r) (hg * m + u) qs' (rs.map fun z => (z.1 * m + r, z.2 * m + u)) _ (d3.ext xa) upd_same ⟨xt _ _ eB, upd_f ht e9, r9.ext (Ext.upd ht), sc_lt (wmin N hN hmin) m1, sc_lt (hgmin N' hN' hmin') m1, ?_, nodup_sc nd m1, by rw [List.length_map]; omega, by rw [List.length_map]; exact l12, by omega⟩ (by rw [List.length_map]; exact l0) (by omega) (by omega)
           intro w' hw'
           obtain ⟨z, hz, rfl⟩ := List.mem_map.mp hw'
           have k1 := hmin z.1 (List.mem_map.mpr ⟨z, hz, rfl⟩)
           have k2 := hmin' z.2 (List.mem_map.mpr ⟨z, hz, rfl⟩)
           have k3 := wmax z.1 (List.mem_map.mpr ⟨z, hz, rfl⟩)
           have k4 := hgmax z.2 (List.mem_map.mpr ⟨z, hz, rfl⟩)
           exact ⟨sc_le (by omega) m1, sc_le k3 m1, sc_le (by omega) m1, sc_le k4 m1⟩
end
end LW
namespace LW
open PySem L2 MA PyProof.Rows MC
section
variable {P : Program} {w : World} {K : PySem.W.Frag} {mg : Str → Option Value} {base : Heap}
theorem sc__law_frac : FnScope ["_law_top", "_law_bottom", "_law_one", "_law_other"] ["_law_top", "_law_bottom"] (defScope s__law_frac) := ⟨rfl, rfl, rfl, by decide +kernel, rfl, by decide +kernel, by decide +kernel⟩
set_option maxHeartbeats 0 in
theorem ok__law_frac {C : Cz} {f : Addr} {fd : FuncData} (F : Fun K "_law_frac" "_law_frac" s__law_frac f fd) (T : Txt P K mg C)  : FnOk P w K mg base (CXE P w) 1 f fd ["_law_top", "_law_bottom"] sp_frac := by
 refine okN F (k := 0) sc__law_frac (fun vs H Q E h => ?_) (fun cdv A outer s H vs Q E hr h => ?_)
 ·obtain ⟨x, y, rfl, _⟩ := h
  rfl
 ·obtain ⟨x, y, rfl, h⟩ := h
  refine' ⟨_, ?main, ?rest⟩
  case main =>
   refine' pss_cons ?c1 ?c2
   case' c1 => refine' ps_set (i := 2) sc__law_frac.nd rfl (Or.inl rfl) ?c3
   case' c3 => refine' pe_callB call_abs (by rfl) T.b_abs boot_abs ?c4
   case' c4 => exact (pa_cons (pvF 0) pa_nil)
   case' c2 => refine' pss_cons (ps_set (i := 3) sc__law_frac.nd rfl (Or.inl rfl) (pvF 1)) ?c5
   case' c5 => refine' pss_cons ?c6 ?c7
   case' c6 => refine' ps_while PassesOwn.never ?c8 ?c9
   case' c8 => exact (pt_cmpF (OpR.f0 op_gt) (pvF 3) pe_int (nomark _))
   case' c9 => refine' pss_one ?c10
   case' c10 => refine' ps_par (i := 2) (j := 3) rfl sc__law_frac.nd rfl rfl (by decide) rfl rfl ?c11 rfl
   case' c11 => refine' pa_cons (pvF 3) ?c12
   case' c12 => exact (pa_cons (pe_op (OpR.f op_mod) (pvF 2) (pvF 3)) pa_nil)
   case' c7 => refine' pss_one ?c13
   case' c13 => refine' ps_ret ?c14
   case' c14 => refine' pe_tup ?c15
   case' c15 => refine' pa_cons (pe_op (OpR.f op_fdivB) (pvF 0) (pvF 2)) ?c16
   case' c16 => exact (pa_cons (pe_op (OpR.f op_fdivB) (pvF 1) (pvF 2)) pa_nil)
  case rest =>
   obtain ⟨hy, hb, h⟩ := h
   simp only [L2.start, List.map_cons, List.map_nil, List.length_cons, List.length_nil, Nat.reduceAdd, Nat.reduceSub, List.replicate_succ, List.replicate_zero, List.cons_append, List.nil_append, List.append_nil]
   o_head ⟨tRaiseN, tAt, tTryN⟩
   refine ⟨fun m σ H' => ∃ u v : Int, σ = [some (.int x), some (.int y), some (.int u), some (.int v)] ∧ H' = H ∧ 0 ≤ u ∧ 0 ≤ v ∧ Int.gcd u v = Int.gcd x y ∧ m = v.toNat, ⟨_, _, _, rfl, rfl, ?_, ?_, ?_, rfl⟩, ?_⟩
   ·show 0 ≤ ab x
    rw [ab_eq]; omega
   ·omega
   ·show Int.gcd (ab x) y = _
    rw [ab_eq, gcd_abs_left]
   ·rintro m σ H' ⟨u, v, rfl, rfl, hu, hv, hg, rfl⟩
    o_head ⟨tRaiseN, tAt, tTryN⟩
    by_cases hv0 : v = 0
    ·subst hv0
     rw [if_neg (by decide)]
     have e := gcd_zero hu
     rw [hg] at e
     have hc : (Int.gcd y x : Int) * sgn y = u := by rw [sgn_pos hy, Int.mul_one, Int.gcd_comm, e]
     have hf := isFr_of (x := x) (show y ≠ 0 by omega)
     rw [hc] at hf
     have hu0 : u ≠ 0 := by
      rw [← e]
      have : Int.gcd x y ≠ 0 := by
       intro z
       rw [Int.gcd_eq_zero_iff] at z
       omega
      omega
     have bu : Bd 9000 u := by
      refine Bd.mono (m := 8000) ?_ (by decide)
      rw [← e]
      exact Nat.lt_of_le_of_lt (Nat.le_of_dvd (by omega) (by rw [Int.natAbs_natCast]; exact Int.natAbs_dvd_natAbs.mpr (Int.gcd_dvd_right x y) |> fun q => by simpa using q)) hb
     exact ⟨hu0, bu, hu0, bu, by decide, fun p hp => h p _ _ hp hf⟩
    ·rw [if_pos (by omega)]
     have hp : 0 < v := by omega
     refine ⟨fun σ' H1 => ∃ x' y' : Int, σ' = [some (.int x), some (.int y), some (.int x'), some (.int y')] ∧ H1 = H' ∧ 0 ≤ x' ∧ 0 ≤ y' ∧ Int.gcd x' y' = Int.gcd x y ∧ y' < v, ?_, ?_⟩
     ·rintro σ' H1 ⟨x', y', rfl, rfl, h1, h2, h3, h4⟩
      exact ⟨y'.toNat, by omega, x', y', rfl, rfl, h1, h2, h3, rfl⟩
     ·o_head ⟨tRaiseN, tAt, tTryN⟩
      exact ⟨hp, hv, Int.emod_nonneg _ hv0, by rw [gcd_step hp]; exact hg, Int.emod_lt_of_pos _ hp⟩
end
end LW
namespace LW
open PySem L2 MA PyProof.Rows MC
section
variable {P : Program} {w : World} {K : PySem.W.Frag} {mg : Str → Option Value} {base : Heap}
theorem sc__law_whole : FnScope ["_law_thing"] ["_law_thing"] (defScope s__law_whole) := ⟨rfl, rfl, rfl, by decide +kernel, rfl, by decide +kernel, by decide +kernel⟩
set_option maxHeartbeats 0 in
theorem ok__law_whole {C : Cz} {f : Addr} {fd : FuncData} (F : Fun K "_law_whole" "_law_whole" s__law_whole f fd) (T : Txt P K mg C)  : FnOk P w K mg base (CXE P w) 1 f fd ["_law_thing"] sp__law_whole := by
 refine okN F (k := 0) sc__law_whole (fun vs H Q E h => ?_) (fun cdv A outer s H vs Q E hr h => ?_)
 ·obtain ⟨i, rfl, _⟩ := h
  rfl
 ·obtain ⟨i, rfl, h⟩ := h
  refine' ⟨_, ?main, ?rest⟩
  case main =>
   refine' pss_one ?c1
   case' c1 => refine' ps_ret ?c2
   case' c2 => refine' pe_and ?c3 ?c4
   case' c3 => refine' pe_callB call_isiF (by rfl) T.b_isinstance boot_isinstance ?c5
   case' c5 => refine' pa_cons (pvF 0) ?c6
   case' c6 => exact (pa_cons (pe_bltn (v := V.ty "int") rfl T.b_int boot_int rfl) pa_nil)
   case' c4 => refine' pe_one ?c7
   case' c7 => refine' pe_not ?c8
   case' c8 => refine' pe_callB call_isiF (by rfl) T.b_isinstance boot_isinstance ?c9
   case' c9 => refine' pa_cons (pvF 0) ?c10
   case' c10 => exact (pa_cons (pe_bltn (v := V.ty "bool") rfl T.b_bool boot_bool rfl) pa_nil)
  case rest =>
   simp only [L2.start, List.map_cons, List.map_nil, List.length_cons, List.length_nil, Nat.reduceAdd, Nat.reduceSub, List.replicate_succ, List.replicate_zero, List.cons_append, List.nil_append, List.append_nil]
   o_head ⟨tRaiseN, tAt, tTryN⟩
   exact h
end
end LW
namespace LW
open PySem L2 MA PyProof.Rows MC
section
variable {P : Program} {w : World} {K : PySem.W.Frag} {mg : Str → Option Value} {base : Heap}
theorem sc__law_divisor : FnScope ["_law_one", "_law_other"] ["_law_one", "_law_other"] (defScope s__law_divisor) := ⟨rfl, rfl, rfl, by decide +kernel, rfl, by decide +kernel, by decide +kernel⟩
set_option maxHeartbeats 0 in
theorem ok__law_divisor {C : Cz} {f : Addr} {fd : FuncData} (F : Fun K "_law_divisor" "_law_divisor" s__law_divisor f fd) (T : Txt P K mg C)  : FnOk P w K mg base (CXE P w) 1 f fd ["_law_one", "_law_other"] sp__law_divisor := by
 refine okN F (k := 0) sc__law_divisor (fun vs H Q E h => ?_) (fun cdv A outer s H vs Q E hr h => ?_)
 ·obtain ⟨a, b, rfl, _⟩ := h
  rfl
 ·obtain ⟨a, b, rfl, h⟩ := h
  refine' ⟨_, ?main, ?rest⟩
  case main =>
   refine' pss_cons ?c1 ?c2
   case' c1 => refine' ps_set (i := 0) sc__law_divisor.nd rfl (Or.inl rfl) ?c3
   case' c3 => refine' pe_callB call_abs (by rfl) T.b_abs boot_abs ?c4
   case' c4 => exact (pa_cons (pvF 0) pa_nil)
   case' c2 => refine' pss_cons ?c5 ?c6
   case' c5 => refine' ps_set (i := 1) sc__law_divisor.nd rfl (Or.inl rfl) ?c7
   case' c7 => refine' pe_callB call_abs (by rfl) T.b_abs boot_abs ?c8
   case' c8 => exact (pa_cons (pvF 1) pa_nil)
   case' c6 => refine' pss_cons ?c9 ?c10
   case' c9 => refine' ps_while PassesOwn.never ?c11 ?c12
   case' c11 => exact (pt_cmpF (OpR.f0 op_gt) (pvF 1) pe_int (nomark _))
   case' c12 => refine' pss_one ?c13
   case' c13 => refine' ps_par (i := 0) (j := 1) rfl sc__law_divisor.nd rfl rfl (by decide) rfl rfl ?c14 rfl
   case' c14 => refine' pa_cons (pvF 1) ?c15
   case' c15 => exact (pa_cons (pe_op (OpR.f op_mod) (pvF 0) (pvF 1)) pa_nil)
   case' c10 => exact (pss_one (ps_ret (pvF 0)))
  case rest =>
   simp only [L2.start, List.map_cons, List.map_nil, List.length_cons, List.length_nil, Nat.reduceAdd, Nat.reduceSub, List.replicate_succ, List.replicate_zero, List.cons_append, List.nil_append, List.append_nil]
   o_head ⟨tRaiseN, tAt, tTryN⟩
   refine ⟨fun m σ H' => ∃ x y : Int, σ = [some (.int x), some (.int y)] ∧ H' = H ∧ 0 ≤ x ∧ 0 ≤ y ∧ Int.gcd x y = Int.gcd a b ∧ m = y.toNat, ⟨_, _, _, rfl, rfl, ?_, ?_, ?_, rfl⟩, ?_⟩
   ·show 0 ≤ ab a
    rw [ab_eq]; omega
   ·show 0 ≤ ab b
    rw [ab_eq]; omega
   ·show Int.gcd (ab a) (ab b) = _
    rw [ab_eq, ab_eq, gcd_abs_left, gcd_abs_right]
   ·rintro m σ H' ⟨x, y, rfl, rfl, hx, hy, hg, rfl⟩
    o_head ⟨tRaiseN, tAt, tTryN⟩
    by_cases hy0 : y = 0
    ·subst hy0
     rw [if_neg (by simp)]
     have e := gcd_zero hx
     rw [hg] at e
     rw [e] at h
     exact h
    ·rw [if_pos (by omega)]
     have hp : 0 < y := by omega
     refine ⟨fun σ' H1 => ∃ x y' : Int, σ' = [some (.int x), some (.int y')] ∧ H1 = H' ∧ 0 ≤ x ∧ 0 ≤ y' ∧ Int.gcd x y' = Int.gcd a b ∧ y' < y, ?_, ?_⟩
     ·rintro σ' H1 ⟨x, y', rfl, rfl, h1, h2, h3, h4⟩
      exact ⟨y'.toNat, by omega, x, y', rfl, rfl, h1, h2, h3, rfl⟩
     ·o_head ⟨tRaiseN, tAt, tTryN⟩
      exact ⟨hp, hy, Int.emod_nonneg _ hy0, by rw [gcd_step hp]; exact hg, Int.emod_lt_of_pos _ hp⟩
end
end LW
namespace LW
open PySem L2 MA PyProof.Rows MC
section
variable {P : Program} {w : World} {K : PySem.W.Frag} {mg : Str → Option Value} {base : Heap}
theorem sc__law_is_point : FnScope ["_law_thing"] ["_law_thing"] (defScope s__law_is_point) := ⟨rfl, rfl, rfl, by decide +kernel, rfl, by decide +kernel, by decide +kernel⟩
set_option maxHeartbeats 0 in
theorem ok__law_is_point {C : Cz} {f : Addr} {fd : FuncData} (F : Fun K "_law_is_point" "_law_is_point" s__law_is_point f fd) (T : Txt P K mg C) (F__law_divisor : FnB P w K mg base (CXE P w) 1 "_law_divisor" ["_law_one", "_law_other"] sp__law_divisor) (F__law_whole : FnB P w K mg base (CXE P w) 1 "_law_whole" ["_law_thing"] sp__law_whole) : FnOk P w K mg base (CXE P w) 2 f fd ["_law_thing"] (sp_ispt K) := by
 refine okN F (k := 1) sc__law_is_point (fun vs H Q E h => ?_) (fun cdv A outer s H vs Q E hr h => ?_)
 ·obtain ⟨p, z, rfl, _⟩ := h
  rfl
 ·obtain ⟨p, z, rfl, h⟩ := h
  refine' ⟨_, ?main, ?rest⟩
  case main =>
   refine' pss_cons ?c1 ?c2
   case' c1 => refine' ps_if ?c3 ?c4 ?c5
   case' c3 => refine' PW.pt ?c6
   case' c6 => refine' pw_or ?c7 ?c8
   case' c7 => refine' pt_not ?c9
   case' c9 => refine' pt_valF ?c10
   case' c10 => refine' pe_callB call_isiF (by rfl) T.b_isinstance boot_isinstance ?c11
   case' c11 => refine' pa_cons (pvF 0) ?c12
   case' c12 => exact (pa_cons (pe_bltn (v := V.ty "tuple") rfl T.b_tuple boot_tuple rfl) pa_nil)
   case' c8 => refine' pw_or ?c13 ?c14
   case' c13 => refine' pt_cmpF op_neI ?c15 pe_int (nomark _)
   case' c15 => refine' pe_callB call_lenF (by rfl) T.b_len PySem.boot_len ?c16
   case' c16 => exact (pa_cons (pvF 0) pa_nil)
   case' c14 => refine' pw_or1 ?c17
   case' c17 => refine' pt_not ?c18
   case' c18 => refine' pt_valF ?c19
   case' c19 => refine' pe_callB ?c20 ?c21 ?c22 ?c23 ?c24
   case c20 => exact (call_allK (K := K) rfl rfl)
   case c21 => exact (by rfl)
   case c22 => exact T.b_all
   case c23 => exact boot_all
   case' c24 => refine' pa_cons ?c25 ?c26
   case' c25 => refine' pe_lc (CScope.of_ok (dsc := defScope s__law_is_point) (N0 := ["_law_thing"]) (N := ["_law_number"]) (k := 1) (js := []) rfl rfl (by decide +kernel)) rfl (pi_tupK (K := K) rfl (pvF 0)) ?c27 ?c28 ?c29
   case' c27 => intro _ _ _ _ _ _; exact (pg_name (i := 0) (by show List.Nodup (["_law_number"] : List Str); decide +kernel) rfl (Or.inl rfl))
   case' c28 => intro _ _ _ _ _ _; exact pifs_nil
   case' c29 => intro _ _ _ _ _ _; refine' pe_fn F__law_whole (hr.mono (by decide)) rfl passE0 ?c30
   case' c30 => exact (pa_cons (pvF 0) pa_nil)
   case c26 => exact pa_nil
   case' c4 => refine' pss_one ?c31
   case' c31 => exact (ps_ret pe_bl)
   case c5 => exact pss_nil
   case' c2 => refine' pss_one ?c32
   case' c32 => refine' ps_ret ?c33
   case' c33 => refine' pe_and ?c34 ?c35
   case' c34 => refine' pe_cmpR (OpR.f0 op_gt) ?c36 pe_int (nomark _)
   case' c36 => exact (pe_ix ix_F (pvF 0) pe_int (fun _ _ => rfl))
   case' c35 => refine' pe_one ?c37
   case' c37 => refine' pe_cmpR ?c38 ?c39 ?c40 ?c41
   case c38 => exact op_eqI
   case' c39 => refine' pe_fn ?c42 ?c43 ?c44 ?c45 ?c46
   case c42 => exact F__law_divisor
   case c43 => exact (hr.mono (by decide))
   case c44 => exact rfl
   case c45 => exact passE0
   case' c46 => refine' pa_cons ?c47 ?c48
   case' c47 => refine' pe_fn F__law_divisor (hr.mono (by decide)) rfl passE0 ?c49
   case' c49 => refine' pa_cons ?c50 ?c51
   case' c50 => exact (pe_ix ix_F (pvF 0) pe_int (fun _ _ => rfl))
   case' c51 => refine' pa_cons ?c52 pa_nil
   case' c52 => exact (pe_ix ix_F (pvF 0) pe_int (fun _ _ => rfl))
   case' c48 => refine' pa_cons ?c53 pa_nil
   case' c53 => exact (pe_ix ix_F (pvF 0) pe_int (fun _ _ => rfl))
   case c40 => exact pe_int
   case c41 => exact (nomark _)
  case rest =>
   obtain ⟨hp, h0, hg, h⟩ := h
   simp only [L2.start, List.map_cons, List.map_nil, List.length_cons, List.length_nil, Nat.reduceAdd, Nat.reduceSub, List.replicate_succ, List.replicate_zero, List.cons_append, List.nil_append, List.append_nil]
   o_head ⟨tRaiseN, tAt, tTryN, hp⟩
   refine tlc_tup_map (K := K) (a := p) (xs := [.int z.1, .int z.2.1, .int z.2.2]) (fun R h => h) (SqT.of hp) (show 3 < 1000000 by decide) (fun _ => .bl true) ?_ ?_
   ·intro D v ys R R' hD hv hR
    obtain ⟨i, rfl⟩ : ∃ i, v = .int i := by
     simp only [List.mem_cons, List.not_mem_nil, or_false] at hv
     rcases hv with rfl | rfl | rfl <;> exact ⟨_, rfl⟩
    o_head ⟨tRaiseN, tAt, tTryN, sp__law_whole⟩
    exact hR
   ·intro D hD
    have t2 := upd_f (o := .lst [.bl true, .bl true, .bl true]) hD hp
    have x2 := Ext.upd (o := .lst [.bl true, .bl true, .bl true]) hD
    have e2 := upd_same (H := H) (a := D) (o := .lst [.bl true, .bl true, .bl true])
    refine ⟨D, [true, true, true], rfl, SqL.of e2, ?_⟩
    o_head ⟨tRaiseN, tAt, tTryN, List.all_cons, List.all_nil, id, Bool.and_true⟩
    generalize upd H D _ = H2 at t2 x2 e2 ⊢
    o_head ⟨tRaiseN, tAt, tTryN, t2, sp__law_divisor⟩
    rw [if_pos (by omega), hg]
    exact h _ x2
end
end LW
namespace LW
open PySem L2 MA PyProof.Rows MC
section
variable {P : Program} {w : World} {K : PySem.W.Frag} {mg : Str → Option Value} {base : Heap}
theorem sc__law_way : FnScope ["_law_point", "_law_spot_here", "_law_x", "_law_y", "_law_w"] ["_law_point", "_law_spot_here"] (defScope s__law_way) := ⟨rfl, rfl, rfl, by decide +kernel, rfl, by decide +kernel, by decide +kernel⟩
set_option maxHeartbeats 0 in
theorem ok__law_way {C : Cz} {f : Addr} {fd : FuncData} (F : Fun K "_law_way" "_law_way" s__law_way f fd) (T : Txt P K mg C)  : FnOk P w K mg base (CXE P w) 1 f fd ["_law_point", "_law_spot_here"] sp_way := by
 refine okN F (k := 0) sc__law_way (fun vs H Q E h => ?_) (fun cdv A outer s H vs Q E hr h => ?_)
 ·obtain ⟨p, q, z, r, rfl, _⟩ := h
  rfl
 ·obtain ⟨p, q, z, r, rfl, h⟩ := h
  refine' ⟨_, ?main, ?rest⟩
  case main =>
   refine' pss_cons ?c1 ?c2
   case' c1 => refine' ps_asg (pvF 0) ?c3
   case' c3 => refine' pg_F (n := 3) rfl ?c4
   case' c4 => refine' pgs_consF (pg_name (i := 2) sc__law_way.nd rfl (Or.inl rfl)) ?c5
   case' c5 => refine' pgs_consF (pg_name (i := 3) sc__law_way.nd rfl (Or.inl rfl)) ?c6
   case' c6 => exact (pgs_consF (pg_name (i := 4) sc__law_way.nd rfl (Or.inl rfl)) pgs_nilF)
   case' c2 => refine' pss_one ?c7
   case' c7 => refine' ps_ret ?c8
   case' c8 => refine' pe_op ?c9 ?c10 ?c11
   case c9 => exact (OpR.f0 op_add)
   case' c10 => refine' pe_op (OpR.f op_powB) ?c12 pe_int
   case' c12 => refine' pe_op (OpR.f0 op_sub) (pvF 2) ?c13
   case' c13 => refine' pe_op (OpR.f op_mulA) ?c14 (pvF 4)
   case' c14 => exact (pe_ix ix_F (pvF 1) pe_int (fun _ _ => rfl))
   case' c11 => refine' pe_op (OpR.f op_powB) ?c15 pe_int
   case' c15 => refine' pe_op (OpR.f0 op_sub) (pvF 3) ?c16
   case' c16 => refine' pe_op (OpR.f op_mulA) ?c17 (pvF 4)
   case' c17 => exact (pe_ix ix_F (pvF 1) pe_int (fun _ _ => rfl))
  case rest =>
   obtain ⟨hp, hq, bz, br, h⟩ := h
   simp only [L2.start, List.map_cons, List.map_nil, List.length_cons, List.length_nil, Nat.reduceAdd, Nat.reduceSub, List.replicate_succ, List.replicate_zero, List.cons_append, List.nil_append, List.append_nil]
   o_head ⟨tRaiseN, tAt, tTryN, gSeqF, gCons, gNil, hp, hq⟩
   exact ⟨.of br.1 bz.2.2 (by decide) (by decide), ((bz.1).sub (br.1.mul bz.2.2)).mono (by decide), .of br.2 bz.2.2 (by decide) (by decide), ((bz.2.1).sub (br.2.mul bz.2.2)).mono (by decide), h⟩
end
end LW
namespace LW
open PySem L2 MA PyProof.Rows MC
section
variable {P : Program} {w : World} {K : PySem.W.Frag} {mg : Str → Option Value} {base : Heap}
theorem sc__law_side : FnScope ["_law_one", "_law_other", "_law_third", "_law_found"] ["_law_one", "_law_other", "_law_third"] (defScope s__law_side) := ⟨rfl, rfl, rfl, by decide +kernel, rfl, by decide +kernel, by decide +kernel⟩
set_option maxHeartbeats 0 in
theorem ok__law_side {C : Cz} {f : Addr} {fd : FuncData} (F : Fun K "_law_side" "_law_side" s__law_side f fd) (T : Txt P K mg C)  : FnOk P w K mg base (CXE P w) 1 f fd ["_law_one", "_law_other", "_law_third"] sp_side := by
 refine okN F (k := 0) sc__law_side (fun vs H Q E h => ?_) (fun cdv A outer s H vs Q E hr h => ?_)
 ·obtain ⟨p, q, r, A, B, D, rfl, _⟩ := h
  rfl
 ·obtain ⟨p, q, r, A, B, D, rfl, h⟩ := h
  refine' ⟨_, ?main, ?rest⟩
  case main =>
   refine' pss_cons ?c1 ?c2
   case' c1 => refine' ps_set (i := 3) ?c3 ?c4 ?c5 ?c6
   case c3 => exact sc__law_side.nd
   case c4 => exact rfl
   case c5 => exact (Or.inl rfl)
   case' c6 => refine' pe_op ?c7 ?c8 ?c9
   case c7 => exact (OpR.f op_mulA)
   case' c8 => exact (pe_ix ix_F (pvF 0) pe_int (fun _ _ => rfl))
   case' c9 => refine' pe_op ?c10 ?c11 ?c12
   case c10 => exact (OpR.f0 op_sub)
   case' c11 => refine' pe_op (OpR.f op_mulA) ?c13 ?c14
   case' c13 => exact (pe_ix ix_F (pvF 1) pe_int (fun _ _ => rfl))
   case' c14 => exact (pe_ix ix_F (pvF 2) pe_int (fun _ _ => rfl))
   case' c12 => refine' pe_op (OpR.f op_mulA) ?c15 ?c16
   case' c15 => exact (pe_ix ix_F (pvF 2) pe_int (fun _ _ => rfl))
   case' c16 => exact (pe_ix ix_F (pvF 1) pe_int (fun _ _ => rfl))
   case' c2 => refine' pss_cons ?c17 ?c18
   case' c17 => refine' ps_set (i := 3) ?c19 ?c20 ?c21 ?c22
   case c19 => exact sc__law_side.nd
   case c20 => exact rfl
   case c21 => exact (Or.inl rfl)
   case' c22 => refine' pe_op ?c23 ?c24 ?c25
   case c23 => exact (OpR.f0 op_sub)
   case c24 => exact (pvF 3)
   case' c25 => refine' pe_op ?c26 ?c27 ?c28
   case c26 => exact (OpR.f op_mulA)
   case' c27 => exact (pe_ix ix_F (pvF 0) pe_int (fun _ _ => rfl))
   case' c28 => refine' pe_op ?c29 ?c30 ?c31
   case c29 => exact (OpR.f0 op_sub)
   case' c30 => refine' pe_op (OpR.f op_mulA) ?c32 ?c33
   case' c32 => exact (pe_ix ix_F (pvF 1) pe_int (fun _ _ => rfl))
   case' c33 => exact (pe_ix ix_F (pvF 2) pe_int (fun _ _ => rfl))
   case' c31 => refine' pe_op (OpR.f op_mulA) ?c34 ?c35
   case' c34 => exact (pe_ix ix_F (pvF 2) pe_int (fun _ _ => rfl))
   case' c35 => exact (pe_ix ix_F (pvF 1) pe_int (fun _ _ => rfl))
   case' c18 => refine' pss_one ?c36
   case' c36 => refine' ps_ret ?c37
   case' c37 => refine' pe_op ?c38 ?c39 ?c40
   case c38 => exact (OpR.f0 op_add)
   case c39 => exact (pvF 3)
   case' c40 => refine' pe_op ?c41 ?c42 ?c43
   case c41 => exact (OpR.f op_mulA)
   case' c42 => exact (pe_ix ix_F (pvF 0) pe_int (fun _ _ => rfl))
   case' c43 => refine' pe_op ?c44 ?c45 ?c46
   case c44 => exact (OpR.f0 op_sub)
   case' c45 => refine' pe_op (OpR.f op_mulA) ?c47 ?c48
   case' c47 => exact (pe_ix ix_F (pvF 1) pe_int (fun _ _ => rfl))
   case' c48 => exact (pe_ix ix_F (pvF 2) pe_int (fun _ _ => rfl))
   case' c46 => refine' pe_op (OpR.f op_mulA) ?c49 ?c50
   case' c49 => exact (pe_ix ix_F (pvF 2) pe_int (fun _ _ => rfl))
   case' c50 => exact (pe_ix ix_F (pvF 1) pe_int (fun _ _ => rfl))
  case rest =>
   obtain ⟨hp, hq, hr', ⟨a1, a2, a3⟩, ⟨b1, b2, b3⟩, ⟨c1, c2, c3⟩, h⟩ := h
   simp only [L2.start, List.map_cons, List.map_nil, List.length_cons, List.length_nil, Nat.reduceAdd, Nat.reduceSub, List.replicate_succ, List.replicate_zero, List.cons_append, List.nil_append, List.append_nil]
   o_head ⟨tRaiseN, tAt, tTryN, hp, hq, hr'⟩
   have e : A.1 * (B.2.1 * D.2.2 - D.2.1 * B.2.2) - A.2.1 * (B.1 * D.2.2 - D.1 * B.2.2) + A.2.2 * (B.1 * D.2.1 - D.1 * B.2.1) = dt A B D := by unfold dt; grind
   rw [e]
   exact ⟨(by first | exact CMulA.left (by decide) (by decide) | exact CMulA.right (by decide) (by decide) | (apply CMulA.of; (repeat (first | assumption | apply Bd.mul | apply Bd.sub | apply Bd.add | apply Bd.neg | apply Bd.sq)); all_goals decide)), (by first | exact CMulA.left (by decide) (by decide) | exact CMulA.right (by decide) (by decide) | (apply CMulA.of; (repeat (first | assumption | apply Bd.mul | apply Bd.sub | apply Bd.add | apply Bd.neg | apply Bd.sq)); all_goals decide)), (by first | exact CMulA.left (by decide) (by decide) | exact CMulA.right (by decide) (by decide) | (apply CMulA.of; (repeat (first | assumption | apply Bd.mul | apply Bd.sub | apply Bd.add | apply Bd.neg | apply Bd.sq)); all_goals decide)), (by first | exact CMulA.left (by decide) (by decide) | exact CMulA.right (by decide) (by decide) | (apply CMulA.of; (repeat (first | assumption | apply Bd.mul | apply Bd.sub | apply Bd.add | apply Bd.neg | apply Bd.sq)); all_goals decide)), (by first | exact CMulA.left (by decide) (by decide) | exact CMulA.right (by decide) (by decide) | (apply CMulA.of; (repeat (first | assumption | apply Bd.mul | apply Bd.sub | apply Bd.add | apply Bd.neg | apply Bd.sq)); all_goals decide)), (by first | exact CMulA.left (by decide) (by decide) | exact CMulA.right (by decide) (by decide) | (apply CMulA.of; (repeat (first | assumption | apply Bd.mul | apply Bd.sub | apply Bd.add | apply Bd.neg | apply Bd.sq)); all_goals decide)), (by first | exact CMulA.left (by decide) (by decide) | exact CMulA.right (by decide) (by decide) | (apply CMulA.of; (repeat (first | assumption | apply Bd.mul | apply Bd.sub | apply Bd.add | apply Bd.neg | apply Bd.sq)); all_goals decide)), (by first | exact CMulA.left (by decide) (by decide) | exact CMulA.right (by decide) (by decide) | (apply CMulA.of; (repeat (first | assumption | apply Bd.mul | apply Bd.sub | apply Bd.add | apply Bd.neg | apply Bd.sq)); all_goals decide)), (by first | exact CMulA.left (by decide) (by decide) | exact CMulA.right (by decide) (by decide) | (apply CMulA.of; (repeat (first | assumption | apply Bd.mul | apply Bd.sub | apply Bd.add | apply Bd.neg | apply Bd.sq)); all_goals decide)), h⟩
end
end LW
namespace LW
open PySem L2 MA PyProof.Rows MC
section
variable {P : Program} {w : World} {K : PySem.W.Frag} {mg : Str → Option Value} {base : Heap}
theorem sc__law_held : FnScope ["_law_spots_here", "_law_centre", "_law_on", "_law_places", "_law_x", "_law_y", "_law_w", "_law_i", "_law_j", "_law_across", "_law_upward", "_law_k", "_law_a", "_law_b", "_law_c", "_law_left", "_law_right_here", "_law_last"] ["_law_spots_here", "_law_centre", "_law_on"] (defScope s__law_held) := ⟨rfl, rfl, rfl, by decide +kernel, rfl, by decide +kernel, by decide +kernel⟩
set_option maxHeartbeats 0 in
theorem ok__law_held {C : Cz} {f : Addr} {fd : FuncData} (F : Fun K "_law_held" "_law_held" s__law_held f fd) (T : Txt P K mg C) (F__law_side : FnB P w K mg base (CXE P w) 1 "_law_side" ["_law_one", "_law_other", "_law_third"] sp_side) : FnOk P w K mg base (CXE P w) 2 f fd ["_law_spots_here", "_law_centre", "_law_on"] (sp_held K) := by
 refine okN F (k := 1) sc__law_held (fun vs H Q E h => ?_) (fun cdv A outer s H vs Q E hr h => ?_)
 ·obtain ⟨l, c, o, qs, rs, z, a, b, rfl, _⟩ := h
  rfl
 ·obtain ⟨l, c, o, qs, rs, z, a, b, rfl, h⟩ := h
  refine' ⟨_, ?main, ?rest⟩
  case main =>
   refine' pss_cut ?c1 ?c2
   case' c1 => refine' ps_lc (i := 3) ?c3 ?c4 ?c5 ?c6 ?c7 ?c8 ?c9 ?c10 ?c11
   case c3 => exact (CScope.of_ok (dsc := defScope s__law_held) (N0 := ["_law_spots_here", "_law_centre", "_law_on", "_law_places", "_law_x", "_law_y", "_law_w", "_law_i", "_law_j", "_law_across", "_law_upward", "_law_k", "_law_a", "_law_b", "_law_c", "_law_left", "_law_right_here", "_law_last"]) (N := ["_law_k", "_law_spots_here"]) (k := 1) (js := [0]) rfl rfl (by decide +kernel))
   case c4 => exact rfl
   case c5 => exact (pi_listK (K := K) rfl (pvF 2))
   case' c6 => intro _ _ _ _ _ _; exact (pg_name (i := 0) (by show List.Nodup (["_law_k", "_law_spots_here"] : List Str); decide +kernel) rfl (Or.inl rfl))
   case' c7 => intro _ _ _ _ _ _; exact pifs_nil
   case' c8 => intro _ _ _ _ _ _; refine' pe_tup ?c12
   case' c12 => refine' pa_cons ?c13 ?c14
   case' c13 => exact (pe_ix ix_F (pe_ix ix_F (pvF 1) (pvF 0) (fun _ _ => rfl)) pe_int (fun _ _ => rfl))
   case' c14 => refine' pa_cons ?c15 ?c16
   case' c15 => exact (pe_ix ix_F (pe_ix ix_F (pvF 1) (pvF 0) (fun _ _ => rfl)) pe_int (fun _ _ => rfl))
   case' c16 => exact (pa_cons pe_int pa_nil)
   case c9 => exact sc__law_held.nd
   case c10 => exact rfl
   case c11 => exact rfl
   case' c2 => refine' pss_cons ?c17 ?c18
   case' c17 => refine' ps_asg (pvF 1) ?c19
   case' c19 => refine' pg_F (n := 3) rfl ?c20
   case' c20 => refine' pgs_consF (pg_name (i := 4) sc__law_held.nd rfl (Or.inl rfl)) ?c21
   case' c21 => refine' pgs_consF (pg_name (i := 5) sc__law_held.nd rfl (Or.inl rfl)) ?c22
   case' c22 => exact (pgs_consF (pg_name (i := 6) sc__law_held.nd rfl (Or.inl rfl)) pgs_nilF)
   case' c18 => refine' pss_cons ?c23 ?c24
   case' c23 => refine' ps_for ?c25 ?c26 ?c27 ?c28 ?c29
   case c25 => exact PassesOwn.never
   case c26 => exact rfl
   case' c27 => refine' pi_range1 rfl T.b_range ?c30
   case' c30 => refine' pa_cons ?c31 pa_nil
   case' c31 => refine' pe_callB call_lenF (by rfl) T.b_len PySem.boot_len ?c32
   case' c32 => exact (pa_cons (pvF 2) pa_nil)
   case c28 => exact (pg_name (i := 7) sc__law_held.nd rfl (Or.inl rfl))
   case' c29 => refine' pss_one ?c33
   case' c33 => refine' ps_for ?c34 ?c35 ?c36 ?c37 ?c38
   case c34 => exact PassesOwn.never
   case c35 => exact rfl
   case' c36 => refine' pi_range1 rfl T.b_range ?c39
   case' c39 => refine' pa_cons ?c40 pa_nil
   case' c40 => exact (pe_op (OpR.f0 op_add) (pvF 7) pe_int)
   case c37 => exact (pg_name (i := 8) sc__law_held.nd rfl (Or.inl rfl))
   case' c38 => refine' pss_cons ?c41 ?c42
   case' c41 => refine' ps_set (i := 9) sc__law_held.nd rfl (Or.inl rfl) ?c43
   case' c43 => refine' pe_op (OpR.f op_mulA) ?c44 (pvF 6)
   case' c44 => refine' pe_op (OpR.f0 op_add) ?c45 ?c46
   case' c45 => exact (pe_ix ix_F (pe_ix ix_F (pvF 3) (pvF 7) (fun _ _ => rfl)) pe_int (fun _ _ => rfl))
   case' c46 => exact (pe_ix ix_F (pe_ix ix_F (pvF 3) (pvF 8) (fun _ _ => rfl)) pe_int (fun _ _ => rfl))
   case' c42 => refine' pss_cons ?c47 ?c48
   case' c47 => refine' ps_set (i := 10) sc__law_held.nd rfl (Or.inl rfl) ?c49
   case' c49 => refine' pe_op (OpR.f op_mulA) ?c50 (pvF 6)
   case' c50 => refine' pe_op (OpR.f0 op_add) ?c51 ?c52
   case' c51 => exact (pe_ix ix_F (pe_ix ix_F (pvF 3) (pvF 7) (fun _ _ => rfl)) pe_int (fun _ _ => rfl))
   case' c52 => exact (pe_ix ix_F (pe_ix ix_F (pvF 3) (pvF 8) (fun _ _ => rfl)) pe_int (fun _ _ => rfl))
   case' c48 => refine' pss_cut ?c53 ?c54
   case' c53 => refine' ps_if ?c55 ?c56 ?c57
   case' c55 => refine' PW.pt ?c58
   case' c58 => refine' pw_and ?c59 ?c60
   case' c59 => refine' pt_cmpF op_eqI (pvF 9) ?c61 (nomark _)
   case' c61 => exact (pe_op (OpR.f op_mulA) pe_int (pvF 4))
   case' c60 => refine' pw_and1 ?c62
   case' c62 => refine' pt_cmpF op_eqI (pvF 10) ?c63 (nomark _)
   case' c63 => exact (pe_op (OpR.f op_mulA) pe_int (pvF 5))
   case' c56 => refine' pss_one ?c64
   case' c64 => exact (ps_ret pe_bl)
   case c57 => exact pss_nil
   case' c54 => refine' pss_one ?c65
   case' c65 => refine' ps_for ?c66 ?c67 ?c68 ?c69 ?c70
   case c66 => exact PassesOwn.never
   case c67 => exact rfl
   case' c68 => refine' pi_range1 rfl T.b_range ?c71
   case' c71 => exact (pa_cons (pvF 8) pa_nil)
   case c69 => exact (pg_name (i := 11) sc__law_held.nd rfl (Or.inl rfl))
   case' c70 => refine' pss_cons ?c72 ?c73
   case' c72 => refine' ps_par3 (i := 12) (j := 13) (k := 14) rfl sc__law_held.nd rfl rfl rfl (by decide) (by decide) (by decide) rfl rfl rfl ?c74 rfl
   case' c74 => refine' pa_cons (pe_ix ix_F (pvF 3) (pvF 7) (fun _ _ => rfl)) ?c75
   case' c75 => refine' pa_cons (pe_ix ix_F (pvF 3) (pvF 8) (fun _ _ => rfl)) ?c76
   case' c76 => exact (pa_cons (pe_ix ix_F (pvF 3) (pvF 11) (fun _ _ => rfl)) pa_nil)
   case' c73 => refine' pss_cons ?c77 ?c78
   case' c77 => refine' ps_set (i := 15) sc__law_held.nd rfl (Or.inl rfl) ?c79
   case' c79 => refine' pe_fn F__law_side (hr.mono (by decide)) rfl passE0 ?c80
   case' c80 => refine' pa_cons (pvF 12) ?c81
   case' c81 => refine' pa_cons (pvF 13) ?c82
   case' c82 => exact (pa_cons (pvF 1) pa_nil)
   case' c78 => refine' pss_cons ?c83 ?c84
   case' c83 => refine' ps_set (i := 16) sc__law_held.nd rfl (Or.inl rfl) ?c85
   case' c85 => refine' pe_fn F__law_side (hr.mono (by decide)) rfl passE0 ?c86
   case' c86 => refine' pa_cons (pvF 13) ?c87
   case' c87 => refine' pa_cons (pvF 14) ?c88
   case' c88 => exact (pa_cons (pvF 1) pa_nil)
   case' c84 => refine' pss_cons ?c89 ?c90
   case' c89 => refine' ps_set (i := 17) sc__law_held.nd rfl (Or.inl rfl) ?c91
   case' c91 => refine' pe_fn F__law_side (hr.mono (by decide)) rfl passE0 ?c92
   case' c92 => refine' pa_cons (pvF 14) ?c93
   case' c93 => refine' pa_cons (pvF 12) ?c94
   case' c94 => exact (pa_cons (pvF 1) pa_nil)
   case' c90 => refine' pss_one ?c95
   case' c95 => refine' ps_if ?c96 ?c97 ?c98
   case' c96 => refine' PW.pt ?c99
   case' c99 => refine' pw_or ?c100 ?c101
   case' c100 => refine' pt_cmpF (OpR.f0 op_gt) ?c102 pe_int (nomark _)
   case' c102 => refine' pe_callB (call_min3 rfl) (by rfl) T.b_min boot_min ?c103
   case' c103 => refine' pa_cons (pvF 15) ?c104
   case' c104 => refine' pa_cons (pvF 16) ?c105
   case' c105 => exact (pa_cons (pvF 17) pa_nil)
   case' c101 => refine' pw_or1 ?c106
   case' c106 => refine' pt_cmpF (OpR.f0 op_lt) ?c107 pe_int (nomark _)
   case' c107 => refine' pe_callB (call_max3 rfl) (by rfl) T.b_max boot_max ?c108
   case' c108 => refine' pa_cons (pvF 15) ?c109
   case' c109 => refine' pa_cons (pvF 16) ?c110
   case' c110 => exact (pa_cons (pvF 17) pa_nil)
   case' c97 => refine' pss_one ?c111
   case' c111 => exact (ps_ret pe_bl)
   case c98 => exact pss_nil
   case' c24 => refine' pss_one ?c112
   case' c112 => exact (ps_ret pe_bl)
  case rest =>
   obtain ⟨ok, hc, ho, ring, h⟩ := h
   have lq : (qs.map V.ref).length = rs.length := by rw [List.length_map, ok.at_.1]
   have n12 := ok.n12
   have fin := held_on ring
   have ic := ring.isC
   have eN : (mostOf (rs.map (sqr z)) rs.length).map V.int = (mostN (rs.map (sqr z)) rs.length).map fun i : Nat => V.int (i : Int) := by unfold mostOf; rw [List.map_map]; rfl
   have nb : ∀ i ∈ mostN (rs.map (sqr z)) rs.length, i < rs.length := fun i hi => List.mem_range.mp (List.mem_filter.mp hi).1
   have eP : onP rs z = (mostN (rs.map (sqr z)) rs.length).map fun i => toP (rs.getD i (0, 0)) := rfl
   have lN : (mostN (rs.map (sqr z)) rs.length).length ≤ 12 := Nat.le_trans (List.length_filter_le _ _) (by rw [List.length_range]; exact n12)
   rw [eN] at ho
   generalize mostN (rs.map (sqr z)) rs.length = N at ho nb eP lN
   have lo : (N.map fun i : Nat => V.int (i : Int)).length = N.length := List.length_map _
   simp only [L2.start, List.map_cons, List.map_nil, List.length_cons, List.length_nil, Nat.reduceAdd, Nat.reduceSub, List.replicate_succ, List.replicate_zero, List.cons_append, List.nil_append, List.append_nil]
   refine ⟨fun σ H' => ∃ (P' : Addr) (ts : List Addr), σ = [some (.ref l), some (.ref c), some (.ref o), some (.ref P'), none, none, none, none, none, none, none, none, none, none, none, none, none, none] ∧ Ext H H' ∧ H' P' = some (.lst (ts.map V.ref)) ∧ CsAt H' ts (onP rs z), ?_, ?_⟩
   ·o_head ⟨tRaiseN, tAt, tTryN⟩
    refine tlc_list (K := K) (a := o) (xs := N.map fun i : Nat => V.int (i : Int)) (fun R h => by o_head ⟨tRaiseN, tAt, tTryN⟩; exact h) (SqL.of ho) (by rw [lo]; omega) (fun D i ys H' => ∃ ts : List Addr, ys = ts.map V.ref ∧ CsAt H' ts ((onP rs z).take i) ∧ H' D = some (.lst ys) ∧ Ext H H') ?_ ?_ ?_ ?_
    ·intro D hD
     exact ⟨[], rfl, ⟨rfl, fun k t z g1 => by simp at g1⟩, upd_same, .upd hD⟩
    ·rintro D i ys H1 _ ⟨ts, rfl, c1, e1, x1⟩
     refine ⟨e1, ?_, SqL.of (x1 _ _ ho)⟩
     rw [List.length_map, c1.1, List.length_take]
     omega
    ·rintro D i w1 ys H1 hD hi ⟨ts, rfl, c1, e1, x1⟩
     rw [List.getElem?_map] at hi
     obtain ⟨n, hn, rfl⟩ := Option.map_eq_some_iff.mp hi
     obtain ⟨r, hr'⟩ : ∃ r, rs[n]? = some r := ⟨_, List.getElem?_eq_getElem (nb n (List.mem_of_getElem? hn))⟩
     obtain ⟨q, hq, eq, aq, bq⟩ := (ok.ext x1).get hr'
     o_head ⟨tRaiseN, tAt, tTryN, (ok.ext x1).sp, aq, eq⟩
     refine ⟨by decide, fun p hp => ⟨upd_f hp e1, ts ++ [p], by rw [List.map_append]; rfl, ?_, (x1.then hp).set hD⟩⟩
     have g : (onP rs z)[i]? = some (toP r) := by
      rw [eP, List.getElem?_map, hn]
      show some (toP (rs.getD n (0, 0))) = _
      rw [List.getD_eq_getElem?_getD, hr']
      rfl
     rw [List.take_succ, g]
     exact ((c1.ext (Ext.upd hp)).snoc (v := toP r) upd_same).setL (upd_f hp e1)
    ·rintro D ys H1 hD ⟨ts, rfl, c1, e1, x1⟩
     rw [lo, show N.length = (onP rs z).length by rw [eP, List.length_map], List.take_length] at c1
     o_head ⟨tRaiseN, tAt, tTryN⟩
     exact ⟨x1, ts, e1, c1⟩
   ·rintro σ H1 ⟨P', ts, rfl, x1, eP', cs1⟩
    have lP : (onP rs z).length = N.length := by rw [eP, List.length_map]
    have lts : ts.length = N.length := cs1.1.trans lP
    have bP : ∀ A ∈ onP rs z, Bd 130 A.1 ∧ Bd 130 A.2.1 ∧ A.2.2 = 1 := fun A hA => by
     rw [eP] at hA
     obtain ⟨n, hn, rfl⟩ := List.mem_map.mp hA
     obtain ⟨r, hr'⟩ : ∃ r, rs[n]? = some r := ⟨_, List.getElem?_eq_getElem (nb n hn)⟩
     have b := ok.sz r (List.mem_of_getElem? hr')
     rw [List.getD_eq_getElem?_getD, hr']
     exact ⟨b.1, b.2, rfl⟩
    have b3 : ∀ A ∈ onP rs z, B3 2000 A := fun A hA => by
     obtain ⟨b1, b2, e⟩ := bP A hA
     exact ⟨b1.mono (by decide), b2.mono (by decide), by rw [e]; exact bd29 (by omega) (by omega) 2000⟩
    have get : ∀ {i : Nat}, i < N.length → ∃ q A, ts[i]? = some q ∧ (onP rs z)[i]? = some A ∧ H1 q = some (.tup [.int A.1, .int A.2.1, .int A.2.2]) ∧ atI (ts.map V.ref) (i : Int) = some (.ref q) ∧ Bd 130 A.1 ∧ Bd 130 A.2.1 ∧ B3 2000 A := fun {i} hi => by
     obtain ⟨q, hq⟩ : ∃ q, ts[i]? = some q := ⟨_, List.getElem?_eq_getElem (by omega)⟩
     obtain ⟨A, hA, e⟩ := cs1.at hq
     have m := List.mem_of_getElem? hA
     exact ⟨q, A, hq, hA, e, atI_nat (by rw [List.getElem?_map, hq]; rfl), (bP A m).1, (bP A m).2.1, b3 A m⟩
    have hc1 := x1 _ _ hc
    have zb := ic.2.2.1
    have zb1 : Bd 2000 z.1 := zb.1
    have zb2 : Bd 2000 z.2.1 := zb.2.1
    have zb3 : Bd 2000 z.2.2 := zb.2.2
    o_head ⟨tRaiseN, tAt, tTryN, gSeqF, gCons, gNil, hc1⟩
    refine tfor_range N.length (fun R hR => by o_head ⟨tRaiseN, tAt, tTryN, x1 _ _ ho, lo⟩; exact hR) (by omega) (fun i σ H' => ∃ o7 o8 o9 o10 o11 o12 o13 o14 o15 o16 o17 : Option V, σ = [some (.ref l), some (.ref c), some (.ref o), some (.ref P'), some (.int z.1), some (.int z.2.1), some (.int z.2.2), o7, o8, o9, o10, o11, o12, o13, o14, o15, o16, o17] ∧ H' = H1 ∧ AllN (onP rs z) z i) ⟨_, _, _, _, _, _, _, _, _, _, _, rfl, rfl, fun i' l => absurd l (Nat.not_lt_zero _)⟩ ?_ ?_
    ·rintro i σ H2 hi ⟨o7, o8, o9, o10, o11, o12, o13, o14, o15, o16, o17, rfl, rfl, all⟩
     rw [Int.zero_add]
     o_head ⟨tRaiseN, tAt, tTryN⟩
     refine tfor_range (i + 1) (fun R hR => by o_head ⟨tRaiseN, tAt, tTryN⟩; exact hR) (by omega) (fun j σ H' => ∃ o8 o9 o10 o11 o12 o13 o14 o15 o16 o17 : Option V, σ = [some (.ref l), some (.ref c), some (.ref o), some (.ref P'), some (.int z.1), some (.int z.2.1), some (.int z.2.2), some (.int (i : Int)), o8, o9, o10, o11, o12, o13, o14, o15, o16, o17] ∧ H' = H2 ∧ RowN (onP rs z) z i j) ⟨_, _, _, _, _, _, _, _, _, _, rfl, rfl, fun i' l => absurd l (Nat.not_lt_zero _)⟩ ?_ ?_
     ·rintro j σ H3 hj ⟨o8, o9, o10, o11, o12, o13, o14, o15, o16, o17, rfl, rfl, row⟩
      rw [Int.zero_add]
      obtain ⟨qi, A, hqi, hA, eA, aA, bA1, bA2, bA⟩ := get hi
      obtain ⟨qj, B, hqj, hB, eB, aB, bB1, bB2, bB⟩ := get (i := j) (by omega)
      o_head ⟨tRaiseN, tAt, tTryN, eP', aA, aB, eA, eB⟩
      have d1 := (bA1.add bB1).mono (n := 2000) (by decide)
      have d2 := (bA2.add bB2).mono (n := 2000) (by decide)
      have d3 : Bd 2000 (2 : Int) := bd29 (by omega) (by omega) 2000
      refine ⟨(by first | exact CMulA.left (by decide) (by decide) | exact CMulA.right (by decide) (by decide) | (apply CMulA.of; (repeat (first | assumption | apply Bd.mul | apply Bd.sub | apply Bd.add | apply Bd.neg | apply Bd.sq)); all_goals decide)), (by first | exact CMulA.left (by decide) (by decide) | exact CMulA.right (by decide) (by decide) | (apply CMulA.of; (repeat (first | assumption | apply Bd.mul | apply Bd.sub | apply Bd.add | apply Bd.neg | apply Bd.sq)); all_goals decide)), ?_⟩
      refine ⟨fun σ H' => σ = [some (.ref l), some (.ref c), some (.ref o), some (.ref P'), some (.int z.1), some (.int z.2.1), some (.int z.2.2), some (.int (i : Int)), some (.int (j : Int)), some (.int ((A.1 + B.1) * z.2.2)), some (.int ((A.2.1 + B.2.1) * z.2.2)), o11, o12, o13, o14, o15, o16, o17] ∧ H' = H3 ∧ ¬ Hold2 z A B, ?_, ?_⟩
      ·o_head ⟨tRaiseN, tAt, tTryN⟩
       refine ⟨(by first | exact CMulA.left (by decide) (by decide) | exact CMulA.right (by decide) (by decide) | (apply CMulA.of; (repeat (first | assumption | apply Bd.mul | apply Bd.sub | apply Bd.add | apply Bd.neg | apply Bd.sq)); all_goals decide)), ?_⟩
       split
       ·refine ⟨(by first | exact CMulA.left (by decide) (by decide) | exact CMulA.right (by decide) (by decide) | (apply CMulA.of; (repeat (first | assumption | apply Bd.mul | apply Bd.sub | apply Bd.add | apply Bd.neg | apply Bd.sq)); all_goals decide)), ?_⟩
        split
        ·exact h _ x1
        ·rename_i n
         exact fun q => n q.2
       ·rename_i n
        exact fun q => n q.1
      rintro σ H4 ⟨rfl, rfl, n2⟩
      have N2' : N2 (onP rs z) z i j := fun A' B' g1 g2 => by
       rw [hA] at g1
       rw [hB] at g2
       cases g1
       cases g2
       exact n2
      refine tfor_range j (fun R hR => by o_head ⟨tRaiseN, tAt, tTryN⟩; exact hR) (by omega) (fun k σ H' => ∃ o11 o12 o13 o14 o15 o16 o17 : Option V, σ = [some (.ref l), some (.ref c), some (.ref o), some (.ref P'), some (.int z.1), some (.int z.2.1), some (.int z.2.2), some (.int (i : Int)), some (.int (j : Int)), some (.int ((A.1 + B.1) * z.2.2)), some (.int ((A.2.1 + B.2.1) * z.2.2)), o11, o12, o13, o14, o15, o16, o17] ∧ H' = H4 ∧ ∀ k' < k, N3 (onP rs z) z i j k') ⟨_, _, _, _, _, _, _, rfl, rfl, fun i' l => absurd l (Nat.not_lt_zero _)⟩ ?_ ?_
      ·rintro k σ H5 hk ⟨o11, o12, o13, o14, o15, o16, o17, rfl, rfl, n3⟩
       rw [Int.zero_add]
       obtain ⟨qk, D, hqk, hD, eD, aD, bD1, bD2, bD⟩ := get (i := k) (by omega)
       o_head ⟨tRaiseN, tAt, tTryN, eP', aA, aB, aD, sp_side⟩
       refine ⟨A, eA, B, eB, z, hc1, bA, bB, zb, B, eB, D, eD, z, hc1, bB, bD, zb, D, eD, A, eA, z, hc1, bD, bA, zb, ?_⟩
       split
       ·exact h _ x1
       ·split
        ·exact h _ x1
        ·rename_i m1 m2
         intro k' hk' A' B' D' g1 g2 g3 hh
         by_cases e : k' = k
         ·subst e
          rw [hA] at g1
          rw [hB] at g2
          rw [hD] at g3
          cases g1
          cases g2
          cases g3
          unfold Hold3 at hh
          omega
         ·exact n3 k' (by omega) A' B' D' g1 g2 g3 hh
      ·rintro σ H5 ⟨o11, o12, o13, o14, o15, o16, o17, rfl, rfl, n3⟩
       exact ⟨⟨_, _, _, _, _, _, _, _, _, _, rfl⟩, rfl, row.succ N2' n3⟩
     ·rintro σ H3 ⟨o8, o9, o10, o11, o12, o13, o14, o15, o16, o17, rfl, rfl, row⟩
      exact ⟨⟨_, _, _, _, _, _, _, _, _, _, _, rfl⟩, rfl, all.succ row⟩
    ·rintro σ H2 ⟨o7, o8, o9, o10, o11, o12, o13, o14, o15, o16, o17, rfl, rfl, all⟩
     rw [← lP] at all
     exact (all.no fin).elim
end
end LW
namespace LW
open PySem L2 MA PyProof.Rows MC
section
variable {P : Program} {w : World} {K : PySem.W.Frag} {mg : Str → Option Value} {base : Heap}
theorem sc__law_right : FnScope ["_law_spots_here", "_law_handed", "_law_bout", "_law_found", "_law_centre", "_law_power", "_law_on", "_law_ways", "_law_some"] ["_law_spots_here"] (defScope s__law_right) := ⟨rfl, rfl, rfl, by decide +kernel, rfl, by decide +kernel, by decide +kernel⟩
set_option maxHeartbeats 0 in
theorem ok__law_right {C : Cz} {f : Addr} {fd : FuncData} (F : Fun K "_law_right" "_law_right" s__law_right f fd) (T : Txt P K mg C) (F__law_held : FnB P w K mg base (CXE P w) 2 "_law_held" ["_law_spots_here", "_law_centre", "_law_on"] (sp_held K)) (F__law_whole : FnB P w K mg base (CXE P w) 1 "_law_whole" ["_law_thing"] sp__law_whole) (F__law_frac : FnB P w K mg base (CXE P w) 1 "_law_frac" ["_law_top", "_law_bottom"] sp_frac) (F__law_way : FnB P w K mg base (CXE P w) 1 "_law_way" ["_law_point", "_law_spot_here"] sp_way) (F__law_is_point : FnB P w K mg base (CXE P w) 2 "_law_is_point" ["_law_thing"] (sp_ispt K)) (F_least_ring : FnB P w K mg base (CXE P w) 5 "least_ring" ["spots"] (sp_ring K)) : FnOk P w K mg base (CXE P w) 6 f fd ["_law_spots_here"] (sp_right K) := by
 refine okN F (k := 5) sc__law_right (fun vs H Q E h => ?_) (fun cdv A outer s H vs Q E hr h => ?_)
 ·obtain ⟨l, qs, rs, rfl, _⟩ := h
  rfl
 ·obtain ⟨l, qs, rs, rfl, h⟩ := h
  refine' ⟨_, ?main, ?rest⟩
  case main =>
   refine' pss_cut ?c1 ?c2
   case' c1 => refine' ps_set (i := 1) sc__law_right.nd rfl (Or.inl rfl) ?c3
   case' c3 => refine' pe_callTy call_listF (by rfl) T.b_list boot_list ?c4
   case' c4 => exact (pa_cons (pvF 0) pa_nil)
   case' c2 => refine' pss_cons ?c5 ?c6
   case' c5 => refine' ps_for ?c7 ?c8 ?c9 ?c10 ?c11
   case c7 => exact PassesOwn.never
   case c8 => exact rfl
   case' c9 => refine' pi_range1 rfl T.b_range ?c12
   case' c12 => exact (pa_cons pe_int pa_nil)
   case c10 => exact (pg_name (i := 2) sc__law_right.nd rfl (Or.inl rfl))
   case' c11 => refine' pss_cut ?c13 ?c14
   case' c13 => refine' ps_set (i := 3) sc__law_right.nd rfl (Or.inl rfl) ?c15
   case' c15 => refine' pe_fn F_least_ring (hr.mono (by decide)) rfl passE0 ?c16
   case' c16 => exact (pa_cons (pvF 1) pa_nil)
   case' c14 => refine' pss_cut ?c17 ?c18
   case' c17 => refine' ps_if ?c19 ?c20 ?c21
   case' c19 => refine' PW.pt ?c22
   case' c22 => refine' pw_or ?c23 ?c24
   case' c23 => refine' pt_not ?c25
   case' c25 => refine' pt_valF ?c26
   case' c26 => refine' pe_callB call_isiF (by rfl) T.b_isinstance boot_isinstance ?c27
   case' c27 => refine' pa_cons (pvF 3) ?c28
   case' c28 => exact (pa_cons (pe_bltn (v := V.ty "tuple") rfl T.b_tuple boot_tuple rfl) pa_nil)
   case' c24 => refine' pw_or ?c29 ?c30
   case' c29 => refine' pt_cmpF op_neI ?c31 pe_int (nomark _)
   case' c31 => refine' pe_callB call_lenF (by rfl) T.b_len PySem.boot_len ?c32
   case' c32 => exact (pa_cons (pvF 3) pa_nil)
   case' c30 => exact (pw_or1 (pt_cmpF (op_neDK (K := K) rfl (hu64 hr)) (pvF 1) (pvF 0) (nomark _)))
   case' c20 => refine' pss_one ?c33
   case' c33 => exact (ps_ret pe_bl)
   case c21 => exact pss_nil
   case' c18 => refine' pss_cut ?c34 ?c35
   case' c34 => refine' ps_if ?c36 ?c37 ?c38
   case' c36 => refine' pt_not ?c39
   case' c39 => refine' pt_valF ?c40
   case' c40 => refine' pe_fn F__law_is_point (hr.mono (by decide)) rfl passE0 ?c41
   case' c41 => refine' pa_cons ?c42 pa_nil
   case' c42 => exact (pe_ix ix_F (pvF 3) pe_int (fun _ _ => rfl))
   case' c37 => refine' pss_one ?c43
   case' c43 => exact (ps_ret pe_bl)
   case c38 => exact pss_nil
   case' c35 => refine' pss_cons ?c44 ?c45
   case' c44 => refine' ps_asg (pvF 3) ?c46
   case' c46 => refine' pg_F (n := 3) rfl ?c47
   case' c47 => refine' pgs_consF (pg_name (i := 4) sc__law_right.nd rfl (Or.inr rfl)) ?c48
   case' c48 => refine' pgs_consF (pg_name (i := 5) sc__law_right.nd rfl (Or.inl rfl)) ?c49
   case' c49 => exact (pgs_consF (pg_name (i := 6) sc__law_right.nd rfl (Or.inl rfl)) pgs_nilF)
   case' c45 => refine' pss_cut ?c50 ?c51
   case' c50 => refine' ps_set (i := 7) ?c52 ?c53 ?c54 ?c55
   case c52 => exact sc__law_right.nd
   case c53 => exact rfl
   case c54 => exact (Or.inr rfl)
   case' c55 => refine' pe_lc (CScope.of_ok (dsc := defScope s__law_right) (N0 := ["_law_spots_here", "_law_handed", "_law_bout", "_law_found", "_law_centre", "_law_power", "_law_on", "_law_ways", "_law_some"]) (N := ["_law_spot_here", "_law_centre"]) (k := 1) (js := [4]) rfl rfl (by decide +kernel)) rfl (pi_listK (K := K) rfl (pvF 0)) ?c56 ?c57 ?c58
   case' c56 => intro _ _ _ _ _ _; exact (pg_name (i := 0) (by show List.Nodup (["_law_spot_here", "_law_centre"] : List Str); decide +kernel) rfl (Or.inl rfl))
   case' c57 => intro _ _ _ _ _ _; exact pifs_nil
   case' c58 => intro _ _ _ _ _ _; refine' pe_fn F__law_way (hr.mono (by decide)) rfl passE0 ?c59
   case' c59 => refine' pa_cons (pvF 1) ?c60
   case' c60 => exact (pa_cons (pvF 0) pa_nil)
   case' c51 => refine' pss_cut ?c61 ?c62
   case' c61 => refine' ps_if ?c63 ?c64 ?c65
   case' c63 => refine' PW.pt ?c66
   case' c66 => refine' pw_or ?c67 ?c68
   case' c67 => refine' pt_cmpF (op_neDK (K := K) rfl (hu64 hr)) (pvF 5) ?c69 (nomark _)
   case' c69 => refine' pe_fn ?c70 ?c71 ?c72 ?c73 ?c74
   case c70 => exact F__law_frac
   case c71 => exact (hr.mono (by decide))
   case c72 => exact rfl
   case c73 => exact passE0
   case' c74 => refine' pa_cons ?c75 ?c76
   case' c75 => refine' pe_callB (call_maxL (K := K) rfl rfl) (by rfl) T.b_max boot_max ?c77
   case' c77 => exact (pa_cons (pvF 7) pa_nil)
   case' c76 => refine' pa_cons ?c78 pa_nil
   case' c78 => refine' pe_op (OpR.f op_mulA) ?c79 ?c80
   case' c79 => exact (pe_ix ix_F (pvF 4) pe_int (fun _ _ => rfl))
   case' c80 => exact (pe_ix ix_F (pvF 4) pe_int (fun _ _ => rfl))
   case' c68 => refine' pw_or1 ?c81
   case' c81 => refine' pt_not ?c82
   case' c82 => refine' pt_valF ?c83
   case' c83 => refine' pe_callB call_isiF (by rfl) T.b_isinstance boot_isinstance ?c84
   case' c84 => refine' pa_cons (pvF 5) ?c85
   case' c85 => exact (pa_cons (pe_bltn (v := V.ty "tuple") rfl T.b_tuple boot_tuple rfl) pa_nil)
   case' c64 => refine' pss_one ?c86
   case' c86 => exact (ps_ret pe_bl)
   case c65 => exact pss_nil
   case' c62 => refine' pss_cut ?c87 ?c88
   case' c87 => refine' ps_lc (i := 8) ?c89 ?c90 ?c91 ?c92 ?c93 ?c94 ?c95 ?c96 ?c97
   case c89 => exact (CScope.of_ok (dsc := defScope s__law_right) (N0 := ["_law_spots_here", "_law_handed", "_law_bout", "_law_found", "_law_centre", "_law_power", "_law_on", "_law_ways", "_law_some"]) (N := ["_law_k", "_law_ways"]) (k := 1) (js := [7]) rfl rfl (by decide +kernel))
   case c90 => exact rfl
   case' c91 => refine' pi_range1 rfl T.b_range ?c98
   case' c98 => refine' pa_cons ?c99 pa_nil
   case' c99 => refine' pe_callB call_lenF (by rfl) T.b_len PySem.boot_len ?c100
   case' c100 => exact (pa_cons (pvF 0) pa_nil)
   case' c92 => intro _ _ _ _ _ _; exact (pg_name (i := 0) (by show List.Nodup (["_law_k", "_law_ways"] : List Str); decide +kernel) rfl (Or.inl rfl))
   case' c93 => intro _ _ _ _ _ _; refine' pifs_one ?c101
   case' c101 => refine' pt_cmpF op_eqI (pe_ix ix_F (pvF 1) (pvF 0) (fun _ _ => rfl)) ?c102 (nomark _)
   case' c102 => refine' pe_callB (call_maxL (K := K) rfl rfl) (by rfl) T.b_max boot_max ?c103
   case' c103 => exact (pa_cons (pvF 1) pa_nil)
   case c94 => exact (fun _ _ _ _ _ _ => (pvF 0))
   case c95 => exact sc__law_right.nd
   case c96 => exact rfl
   case c97 => exact rfl
   case' c88 => refine' pss_cut ?c104 ?c105
   case' c104 => refine' ps_if ?c106 ?c107 ?c108
   case' c106 => refine' PW.pt ?c109
   case' c109 => refine' pw_or ?c110 ?c111
   case' c110 => refine' pt_not ?c112
   case' c112 => refine' pt_valF ?c113
   case' c113 => refine' pe_callB call_isiF (by rfl) T.b_isinstance boot_isinstance ?c114
   case' c114 => refine' pa_cons (pvF 6) ?c115
   case' c115 => exact (pa_cons (pe_bltn (v := V.ty "list") rfl T.b_list boot_list rfl) pa_nil)
   case' c111 => exact (pw_or1 (pt_cmpF (op_neDK (K := K) rfl (hu64 hr)) (pvF 6) (pvF 8) (nomark _)))
   case' c107 => refine' pss_one ?c116
   case' c116 => exact (ps_ret pe_bl)
   case c108 => exact pss_nil
   case' c105 => refine' pss_cut ?c117 ?c118
   case' c117 => refine' ps_if ?c119 ?c120 ?c121
   case' c119 => refine' pt_not ?c122
   case' c122 => refine' pt_valF ?c123
   case' c123 => refine' pe_callB ?c124 ?c125 ?c126 ?c127 ?c128
   case c124 => exact (call_allK (K := K) rfl rfl)
   case c125 => exact (by rfl)
   case c126 => exact T.b_all
   case c127 => exact boot_all
   case' c128 => refine' pa_cons ?c129 ?c130
   case' c129 => refine' pe_lc (CScope.of_ok (dsc := defScope s__law_right) (N0 := ["_law_spots_here", "_law_handed", "_law_bout", "_law_found", "_law_centre", "_law_power", "_law_on", "_law_ways", "_law_some"]) (N := ["_law_number"]) (k := 1) (js := []) rfl rfl (by decide +kernel)) rfl ?c131 ?c132 ?c133 ?c134
   case' c131 => refine' pi_listK (K := K) rfl ?c135
   case' c135 => refine' PE.up ?c136
   case' c136 => refine' pe_op op_catF (pvF 6) ?c137
   case' c137 => refine' pe_callTy call_listF (by rfl) T.b_list boot_list ?c138
   case' c138 => exact (pa_cons (pvF 5) pa_nil)
   case' c132 => intro _ _ _ _ _ _; exact (pg_name (i := 0) (by show List.Nodup (["_law_number"] : List Str); decide +kernel) rfl (Or.inl rfl))
   case' c133 => intro _ _ _ _ _ _; exact pifs_nil
   case' c134 => intro _ _ _ _ _ _; refine' pe_fn F__law_whole (hr.mono (by decide)) rfl passE0 ?c139
   case' c139 => exact (pa_cons (pvF 0) pa_nil)
   case c130 => exact pa_nil
   case' c120 => refine' pss_one ?c140
   case' c140 => exact (ps_ret pe_bl)
   case c121 => exact pss_nil
   case' c118 => refine' pss_cut ?c141 ?c142
   case' c141 => refine' ps_if ?c143 ?c144 ?c145
   case' c143 => refine' pt_not ?c146
   case' c146 => refine' pt_valF ?c147
   case' c147 => refine' pe_fn F__law_held (hr.mono (by decide)) rfl passE0 ?c148
   case' c148 => refine' pa_cons (pvF 0) ?c149
   case' c149 => refine' pa_cons (pvF 4) ?c150
   case' c150 => exact (pa_cons (pvF 6) pa_nil)
   case' c144 => refine' pss_one ?c151
   case' c151 => exact (ps_ret pe_bl)
   case c145 => exact pss_nil
   case' c142 => refine' pss_one ?c152
   case' c152 => exact (ps_expr (pe_clr0 (pvF 6)))
   case' c6 => refine' pss_one ?c153
   case' c153 => exact (ps_ret pe_bl)
  case rest =>
   obtain ⟨ok, h⟩ := h
   have lq : (qs.map V.ref).length = rs.length := by rw [List.length_map, ok.at_.1]
   have n12 := ok.n12
   have n0 := ok.n0
   simp only [L2.start, List.map_cons, List.map_nil, List.length_cons, List.length_nil, Nat.reduceAdd, Nat.reduceSub, List.replicate_succ, List.replicate_zero, List.cons_append, List.nil_append, List.append_nil]
   refine ⟨fun σ H' => ∃ g : Addr, σ = [some (.ref l), some (.ref g), none, none, none, none, none, none, none] ∧ Ext H H' ∧ H' g = some (.lst (qs.map V.ref)), ?_, ?_⟩
   ·o_head ⟨tRaiseN, tAt, tTryN, ok.sp⟩
    exact fun c hc => .upd hc
   rintro σ H0 ⟨g, rfl, x0, eg⟩
   have ok0 := ok.ext x0
   refine tfor_range 2 (fun R hR => by o_head ⟨tRaiseN, tAt, tTryN⟩; exact hR) (by decide) (fun i σ H' => ∃ o2 o3 o4 o5 o6 o7 o8 : Option V, σ = [some (.ref l), some (.ref g), o2, o3, o4, o5, o6, o7, o8] ∧ Ext H0 H') ⟨_, _, _, _, _, _, _, rfl, .refl _⟩ ?_ ?_
   rotate_left
   ·rintro σ H1 ⟨o2, o3, o4, o5, o6, o7, o8, rfl, x1⟩
    o_head ⟨tRaiseN, tAt, tTryN⟩
    exact h _ (x0.trans x1)
   rintro i σ H1 hi ⟨o2, o3, o4, o5, o6, o7, o8, rfl, x1⟩
   have ok1 := ok0.ext x1
   have eg1 := x1 _ _ eg
   refine ⟨fun σ H' => ∃ (f tc tp to : Addr) (z : P3) (a b : Int), σ = [some (.ref l), some (.ref g), some (.int (0 + (i : Int))), some (.ref f), o4, o5, o6, o7, o8] ∧ Ext H1 H' ∧ H' f = some (.tup [.ref tc, .ref tp, .ref to]) ∧ H' tc = some (.tup [.int z.1, .int z.2.1, .int z.2.2]) ∧ H' tp = some (.tup [.int a, .int b]) ∧ H' to = some (.lst ((mostOf (rs.map (sqr z)) rs.length).map V.int)) ∧ RingOk rs z a b ∧ H1 to = none, ?_, ?_⟩
   ·o_head ⟨tRaiseN, tAt, tTryN, sp_ring⟩
    refine ⟨qs, rs, ⟨eg1, ok1.at_, ok1.nd, ok1.n0, ok1.n12, ok1.sz⟩, ?_⟩
    intro t tc tp to z a b H' x' e1 e2 e3 e4 ro nt
    exact ⟨x', tc, tp, to, e1, z, e2, ⟨a, b, e3, e4, ro, nt⟩⟩
   rintro σ H2 ⟨f, tc, tp, to, z, a, b, rfl, x2, ef, ec, ep, eo, ro, nt⟩
   have ok2 := ok1.ext x2
   have eg2 := x2 _ _ eg1
   refine ⟨fun σ H' => σ = [some (.ref l), some (.ref g), some (.int (0 + (i : Int))), some (.ref f), o4, o5, o6, o7, o8] ∧ H' = H2, ?_, ?_⟩
   ·o_head ⟨tRaiseN, tAt, tTryN, ef⟩
    refine ⟨_, _, .lst (SqL.of eg2) (rdy_rs ok2.at_), .lst (SqL.of ok2.sp) (rdy_rs ok2.at_), shaped_rs _, shaped_rs _, ?_⟩
    rw [eqv_rs]
    rfl
   rintro σ H3 ⟨rfl, rfl⟩
   refine ⟨fun σ H' => σ = [some (.ref l), some (.ref g), some (.int (0 + (i : Int))), some (.ref f), o4, o5, o6, o7, o8] ∧ Ext H3 H', ?_, ?_⟩
   ·o_head ⟨tRaiseN, tAt, tTryN, ef, sp_ispt⟩
    exact ⟨z, ec, ro.isC.1, ro.isC.2.1, fun H' x => x⟩
   rintro σ H4 ⟨rfl, x4⟩
   o_head ⟨tRaiseN, tAt, tTryN, gSeqF, gCons, gNil, x4 _ _ ef⟩
   have ok4 := ok2.ext x4
   have ec4 := x4 _ _ ec
   have ep4 := x4 _ _ ep
   have eo4 := x4 _ _ eo
   have bz := ro.isC.2.2.1
   refine ⟨fun σ H' => ∃ W : Addr, σ = [some (.ref l), some (.ref g), some (.int (0 + (i : Int))), some (.ref f), some (.ref tc), some (.ref tp), some (.ref to), some (.ref W), o8] ∧ Ext H4 H' ∧ H' W = some (.lst ((rs.map (sqr z)).map V.int)), ?_, ?_⟩
   ·o_head ⟨tRaiseN, tAt, tTryN⟩
    refine tlc_list_map (K := K) (a := l) (xs := qs.map V.ref) (fun R h => by o_head ⟨tRaiseN, tAt, tTryN⟩; exact h) (SqL.of ok4.sp) (by rw [lq]; omega) (sqV H4 z) ?_ ?_
    ·intro D' x ys' R R' hD' hx hR
     obtain ⟨j, hj⟩ := List.getElem?_of_mem hx
     obtain ⟨q, hq, rfl⟩ := refs_get hj
     obtain ⟨r, hr1, hr2⟩ := ok4.at_.at hq
     have b := ok4.sz r (List.mem_of_getElem? hr1)
     have es : sqV H4 z (.ref q) = .int (sqr z r) := by simp only [sqV, hr2]
     rw [es] at hR
     o_head ⟨tRaiseN, tAt, tTryN, sp_way⟩
     exact ⟨z, upd_f hD' ec4, r, upd_f hD' hr2, bz, ⟨b.1.mono (by decide), b.2.mono (by decide)⟩, hR⟩
    ·intro D1 hD1
     rw [sqV_map z ok4.at_]
     o_head ⟨tRaiseN, tAt, tTryN⟩
     exact .upd hD1
   rintro σ H5 ⟨W, rfl, x5, eW⟩
   have ec5 := x5 _ _ ec4
   have ep5 := x5 _ _ ep4
   have eo5 := x5 _ _ eo4
   have ok5 := ok4.ext x5
   have lw : (rs.map (sqr z)).length = rs.length := List.length_map _
   obtain ⟨M, fm⟩ := FarM.ex n0 z
   have best : ∀ {M' : Int}, M' ∈ rs.map (sqr z) → (∀ a ∈ rs.map (sqr z), a ≤ M') → M' = M := fun {M'} h1 h2 => by
    obtain ⟨s, hs, rfl⟩ := List.mem_map.mp h1
    obtain ⟨⟨s2, hs2, e⟩, h3⟩ := fm
    have a1 := h3 s hs
    have a2 := h2 (sqr z s2) (List.mem_map.mpr ⟨s2, hs2, rfl⟩)
    omega
   refine ⟨fun σ H' => σ = [some (.ref l), some (.ref g), some (.int (0 + (i : Int))), some (.ref f), some (.ref tc), some (.ref tp), some (.ref to), some (.ref W), o8] ∧ Ext H5 H', ?_, ?_⟩
   ·o_head ⟨tRaiseN, tAt, tTryN, sp_frac, ec5⟩
    refine ⟨W, rs.map (sqr z), rfl, SqL.of eW, by rw [lw]; exact n0, fun M' hM' hl' => ?_⟩
    have eM := best hM' hl'
    subst eM
    o_head ⟨tRaiseN, tAt, tTryN, ec5⟩
    have z3 : Bd 2000 z.2.2 := bz.2.2
    refine ⟨(by first | exact CMulA.left (by decide) (by decide) | exact CMulA.right (by decide) (by decide) | (apply CMulA.of; (repeat (first | assumption | apply Bd.mul | apply Bd.sub | apply Bd.add | apply Bd.neg | apply Bd.sq)); all_goals decide)), Int.mul_pos ro.isC.1 ro.isC.1, (z3.mul z3).mono (by decide), fun p a2 b2 hp k => ?_⟩
    have p5 := upd_f (o := .tup [.int a2, .int b2]) hp ep5
    obtain ⟨rfl, rfl⟩ := isFr_same (show IsFr a b a b from ⟨ro.b0, rfl, ro.low, Nat.le_refl _, Nat.le_refl _⟩) k (Int.ne_of_gt ro.b0) (Int.ne_of_gt (Int.mul_pos ro.isC.1 ro.isC.1)) (ring_frac ro fm)
    refine ⟨_, _, rdy_t2 p5, rdy_t2 upd_same, rfl, rfl, ?_⟩
    rw [eqv_t2, decide_eq_true ⟨rfl, rfl⟩]
    o_head ⟨tRaiseN, tAt, tTryN, p5⟩
    exact .upd hp
   rintro σ H6 ⟨rfl, x6⟩
   have ec6 := x6 _ _ ec5
   have ep6 := x6 _ _ ep5
   have eo6 := x6 _ _ eo5
   have ok6 := ok5.ext x6
   have eW6 := x6 _ _ eW
   refine ⟨fun σ H' => ∃ S : Addr, σ = [some (.ref l), some (.ref g), some (.int (0 + (i : Int))), some (.ref f), some (.ref tc), some (.ref tp), some (.ref to), some (.ref W), some (.ref S)] ∧ Ext H6 H' ∧ H' S = some (.lst ((mostOf (rs.map (sqr z)) rs.length).map V.int)), ?_, ?_⟩
   ·o_head ⟨tRaiseN, tAt, tTryN⟩
    refine tlc_range rs.length (fun R hR => by o_head ⟨tRaiseN, tAt, tTryN, ok6.sp, lq⟩; exact hR) (by omega) (fun D i ys H' => ys = (mostOf (rs.map (sqr z)) i).map V.int ∧ H' D = some (.lst ys) ∧ Ext H6 H') ?_ ?_ ?_ ?_
    ·intro D hD
     exact ⟨rfl, upd_same, .upd hD⟩
    ·rintro D i ys H7 _ ⟨rfl, e7, x7⟩
     refine ⟨e7, ?_⟩
     unfold mostOf
     rw [List.length_map, List.length_map]
     exact Nat.le_trans (List.length_filter_le _ _) (by rw [List.length_range]; exact Nat.le_refl _)
    ·rintro D j ys H7 hD hj ⟨rfl, e7, x7⟩
     have li : j < (rs.map (sqr z)).length := by rw [lw]; exact hj
     have eW7 := x7 _ _ eW6
     have aw : atI ((rs.map (sqr z)).map V.int) (j : Int) = some (.int ((rs.map (sqr z)).getD j 0)) := atI_nat (by rw [List.getElem?_map, List.getElem?_eq_getElem li, List.getD_eq_getElem?_getD, List.getElem?_eq_getElem li]; rfl)
     rw [Int.zero_add]
     o_head ⟨tRaiseN, tAt, tTryN, eW7, aw⟩
     refine ⟨W, rs.map (sqr z), rfl, SqL.of eW7, by rw [lw]; exact n0, fun M' hM' hlM' => ?_⟩
     o_head ⟨tRaiseN, tAt, tTryN⟩
     rw [mostOf_succ]
     by_cases cc : (rs.map (sqr z)).getD j 0 = M'
     ·rw [if_pos cc, if_pos ((most_iff hM' hlM' li).mp cc)]
      refine ⟨e7, ?_, x7.set hD⟩
      rw [List.map_append]
      rfl
     ·rw [if_neg cc, if_neg (fun q => cc ((most_iff hM' hlM' li).mpr q))]
      exact ⟨rfl, e7, x7⟩
    ·rintro D ys H7 hD ⟨rfl, e7, x7⟩
     o_head ⟨tRaiseN, tAt, tTryN⟩
     exact ⟨x7, e7⟩
   rintro σ H7 ⟨S, rfl, x7, eS⟩
   have eo7 := x7 _ _ eo6
   have ep7 := x7 _ _ ep6
   have ec7 := x7 _ _ ec6
   have ok7 := ok6.ext x7
   refine ⟨fun σ H' => σ = [some (.ref l), some (.ref g), some (.int (0 + (i : Int))), some (.ref f), some (.ref tc), some (.ref tp), some (.ref to), some (.ref W), some (.ref S)] ∧ H' = H7, ?_, ?_⟩
   ·o_head ⟨tRaiseN, tAt, tTryN, eo7⟩
    refine ⟨_, _, .lst (SqL.of eo7) (rdy_es _), .lst (SqL.of eS) (rdy_es _), shaped_es _, shaped_es _, ?_⟩
    rw [eqv_pos (plain_es _) rfl]
    rfl
   rintro σ H8 ⟨rfl, rfl⟩
   refine ⟨fun σ H' => σ = [some (.ref l), some (.ref g), some (.int (0 + (i : Int))), some (.ref f), some (.ref tc), some (.ref tp), some (.ref to), some (.ref W), some (.ref S)] ∧ Ext H8 H', ?_, ?_⟩
   ·o_head ⟨tRaiseN, tAt, tTryN⟩
    have les : (mostOf (rs.map (sqr z)) rs.length).length ≤ 12 := by
     unfold mostOf
     rw [List.length_map]
     exact Nat.le_trans (List.length_filter_le _ _) (by rw [List.length_range]; exact n12)
    refine tlc_list_up (fun w H' => ∃ (D : Addr) (es : List Int), w = .ref D ∧ Ext H8 H' ∧ H' D = some (.lst (es.map V.int)) ∧ es.length ≤ 14) ?_ ?_
    ·o_head ⟨tRaiseN, tAt, tTryN, ep7, eo7⟩
     intro c hc
     rw [upd_f hc eo7, lstOf_l, optK_some]
     refine ⟨by rw [List.length_map]; omega, fun p hp => ⟨(Ext.upd hc).then hp, mostOf (rs.map (sqr z)) rs.length ++ [a, b], by rw [List.map_append]; rfl, by rw [List.length_append]; show _ + 2 ≤ 14; omega⟩⟩
    ·rintro w1 H9 ⟨o, es, rfl, x9, eo9, le⟩
     have lee : (es.map V.int).length = es.length := List.length_map _
     refine ⟨o, es.map V.int, rfl, SqL.of eo9, by rw [lee]; omega, fun D k ys H' => ys = (List.replicate k true).map V.bl ∧ H' D = some (.lst ys) ∧ Ext H9 H', ?_, ?_, ?_, ?_⟩
     ·intro D hD
      exact ⟨rfl, upd_same, .upd hD⟩
     ·rintro D k ys H10 _ ⟨rfl, e1, x1⟩
      exact ⟨e1, by rw [List.length_map, List.length_replicate]; exact Nat.le_refl _, SqL.of (x1 _ _ eo9)⟩
     ·rintro D k w1 ys H10 hD hk ⟨rfl, e1, x1⟩
      rw [List.getElem?_map] at hk
      obtain ⟨n, hn, rfl⟩ := Option.map_eq_some_iff.mp hk
      o_head ⟨tRaiseN, tAt, tTryN, sp__law_whole⟩
      exact ⟨e1, rep_bl k, x1.set hD⟩
     ·rintro D ys H10 hD ⟨rfl, e1, x1⟩
      refine ⟨D, _, rfl, SqL.of e1, ?_⟩
      show (if (List.replicate _ true).all id = false then _ else _)
      rw [if_neg (by rw [all_rep]; decide)]
      exact x9.trans x1
   rintro σ H9 ⟨rfl, x9⟩
   refine ⟨fun σ H' => σ = [some (.ref l), some (.ref g), some (.int (0 + (i : Int))), some (.ref f), some (.ref tc), some (.ref tp), some (.ref to), some (.ref W), some (.ref S)] ∧ Ext H9 H', ?_, ?_⟩
   ·o_head ⟨tRaiseN, tAt, tTryN, sp_held⟩
    exact ⟨qs, rs, ok7.ext x9, z, x9 _ _ ec7, x9 _ _ eo7, ⟨a, b, ro⟩, fun H' x => x⟩
   rintro σ H10 ⟨rfl, x10⟩
   have eo10 := x10 _ _ (x9 _ _ eo7)
   o_head ⟨tRaiseN, tAt, tTryN, eo10⟩
   exact ⟨⟨_, rfl⟩, ((((((((x1.trans x2).trans x4).trans x5).trans x6).trans x7).trans x9).trans x10).set (LW.Ext.none x1 nt))⟩
end
end LW
namespace LW
open PySem L2 MA PyProof.Rows MC
section
variable {P : Program} {w : World} {K : PySem.W.Frag} {mg : Str → Option Value} {base : Heap}
theorem sc__law_refused : FnScope ["_law_spots_here", "_law_told", "e"] ["_law_spots_here"] (defScope s__law_refused) := ⟨rfl, rfl, rfl, by decide +kernel, rfl, by decide +kernel, by decide +kernel⟩
set_option maxHeartbeats 0 in
theorem ok__law_refused {C : Cz} {f : Addr} {fd : FuncData} (F : Fun K "_law_refused" "_law_refused" s__law_refused f fd) (T : Txt P K mg C) (F_least_ring : FnB P w K mg base (CXE P w) 5 "least_ring" ["spots"] (sp_ringE K C)) : FnOk P w K mg base (CXE P w) 6 f fd ["_law_spots_here"] (sp_refused K) := by
 refine okN F (k := 5) sc__law_refused (fun vs H Q E h => ?_) (fun cdv A outer s H vs Q E hr h => ?_)
 ·obtain ⟨l, qs, rs, rfl, _⟩ := h
  rfl
 ·obtain ⟨l, qs, rs, rfl, h⟩ := h
  refine' ⟨_, ?main, ?rest⟩
  case main =>
   refine' pss_cons ?c1 ?c2
   case' c1 => refine' ps_set (i := 1) sc__law_refused.nd rfl (Or.inl rfl) ?c3
   case' c3 => refine' pe_tup ?c4
   case' c4 => exact (pa_cons pe_str pa_nil)
   case' c2 => refine' pss_cut ?c5 ?c6
   case' c5 => refine' ps_tryN (K := K) rfl ?c7 (PHs.cons (cD := C.TooMany) (i := 2) rfl rfl rfl T.g_TooMany (by decide) (fun ev => (pss_one (ps_set (i := 1) sc__law_refused.nd rfl (Or.inl rfl) (pe_tup (pa_cons pe_str (pa_cons (pe_callB (call_isiX (K := K) rfl) (by rfl) T.b_isinstance boot_isinstance (pa_cons (pvF 2) (pa_cons (pe_glob (v := V.ref C.NoSpot) rfl T.g_NoSpot rfl) pa_nil))) pa_nil)))))) (PHs.cons (cD := C.NoSpot) (i := 2) rfl rfl rfl T.g_NoSpot (by decide) (fun ev => (pss_one (ps_set (i := 1) sc__law_refused.nd rfl (Or.inl rfl) (pe_tup (pa_cons pe_str (pa_cons (pe_at (K := K) rfl (pvF 2) rfl) pa_nil)))))) PHs.nil)) sc__law_refused.nd
   case' c7 => exact (fun pn W E1 σ0 hx => (pss_one (ps_expr (pe_fnS F_least_ring (hr.mono (by decide)) rfl hx (pa_cons (pvF 0) pa_nil)))))
   case' c6 => exact (pss_one (ps_ret (pvF 1)))
  case rest =>
   obtain ⟨hl, hr, sz, h⟩ := h
   simp only [L2.start, List.map_cons, List.map_nil, List.length_cons, List.length_nil, Nat.reduceAdd, Nat.reduceSub, List.replicate_succ, List.replicate_zero, List.cons_append, List.nil_append, List.append_nil]
   o_head ⟨tRaiseN, tAt, tTryN⟩
   refine ⟨by decide, fun p0 h0 => ?_⟩
   have x0 := Ext.upd (o := .tup [.str "let"]) h0
   replace hl := x0 _ _ hl
   replace hr := hr.ext x0
   generalize upd H p0 (.tup [.str "let"]) = H0 at x0 hl hr ⊢
   refine ⟨fun σ H' => ∃ (t : Addr) (o2 : Option V), σ = [some (.ref l), some (.ref t), o2] ∧ Ext H0 H' ∧ ((¬ (0 < rs.length ∧ rs.length ≤ 12) ∧ H' t = some (.tup [.str "many", .bl false])) ∨ ((0 < rs.length ∧ rs.length ≤ 12) ∧ ∃ i, FirstDup rs i ∧ H' t = some (.tup [.str "spot", .int (i : Int)]))), ?_, ?_⟩
   ·o_head ⟨tRaiseN, tAt, tTryN, sp_ringE⟩
    refine ⟨qs, hl, rs, hr, sz, fun n => ⟨C.TooMany, rfl, T.x_TooMany.b, .inl ⟨T.m_TooMany_TooMany, fun e he => ?_⟩⟩, fun g0 g12 H' x i dx fd hd => ⟨C.NoSpot, rfl, T.eb_NoSpot, .inr ⟨T.m_NoSpot_TooMany, .inl ⟨T.m_NoSpot_NoSpot, fun e he => ?_⟩⟩⟩, fun g0 g12 nd => ?_⟩
    ·o_head ⟨tRaiseN, tAt, tTryN⟩
     refine rIsiX_c upd_same T.x_TooMany.b T.i_TooMany_NoSpot ?_
     exact ⟨by decide, fun p hp => ⟨⟨_, rfl⟩, (Ext.upd he).then hp, .inl ⟨n, rfl⟩⟩⟩
    ·o_head ⟨tRaiseN, tAt, tTryN⟩
     exact ⟨C.NoSpot, dx, rfl, T.eb_NoSpot, T.at_NoSpot, T.hd_NoSpot, _, upd_f he upd_same, _, rfl, by decide, fun p hp => ⟨⟨_, rfl⟩, ((x.then hd).then he).then hp, .inr ⟨g0, g12, i, fd, rfl⟩⟩⟩
    ·rcases h with ⟨n, _⟩ | ⟨_, i, fd, _⟩
     ·exact absurd ⟨g0, g12⟩ n
     ·exact (fd.no nd).elim
   ·rintro σ H1 ⟨t, o2, rfl, x1, hv⟩
    o_head ⟨tRaiseN, tAt, tTryN⟩
    rcases h with ⟨n, h⟩ | ⟨y, i, fd, h⟩
    ·rcases hv with ⟨_, e⟩ | ⟨y, _⟩
     ·exact h _ _ (x0.trans x1) e
     ·exact absurd y n
    ·rcases hv with ⟨n, e⟩ | ⟨_, j, fj, e⟩
     ·exact absurd y n
     ·rw [fj.uniq fd] at e
      exact h _ _ (x0.trans x1) e
end
end LW
namespace LW
open PySem L2 MA PyProof.Rows MC
section
variable {P : Program} {w : World} {K : PySem.W.Frag} {mg : Str → Option Value} {base : Heap}
theorem sc_law : FnScope ["_law_script", "_law_feed_here", "_law_box", "_law_spots_here", "_law_one", "_law_at", "_law_twice"] ["_law_script"] (defScope s_law) := ⟨rfl, rfl, rfl, by decide +kernel, rfl, by decide +kernel, by decide +kernel⟩
set_option maxHeartbeats 0 in
theorem ok_law {C : Cz} {f : Addr} {fd : FuncData} (F : Fun K "law" "law" s_law f fd) (T : Txt P K mg C) (F__law_refused : FnB P w K mg base (CXE P w) 6 "_law_refused" ["_law_spots_here"] (sp_refused K)) (F__law_draw : FnB P w K mg base (CXE P w) 1 "_law_draw" ["_law_feed_here", "_law_many"] sp_draw) (F__law_right : FnB P w K mg base (CXE P w) 6 "_law_right" ["_law_spots_here"] (sp_right K)) (F__law_world : FnB P w K mg base (CXE P w) 4 "_law_world" ["_law_feed_here", "_law_least", "_law_most"] (sp_world K)) (F__law_feed : FnB P w K mg base (CXE P w) 1 "_law_feed" ["_law_script"] (sp_feed K)) : FnOk P w K mg base (CXE P w) 7 f fd ["_law_script"] (sp_law K) := by
 refine okN F (k := 6) sc_law (fun vs H Q E h => ?_) (fun cdv A outer s H vs Q E hr h => ?_)
 ·obtain ⟨a, ns, rfl, _⟩ := h
  rfl
 ·obtain ⟨a, ns, rfl, h⟩ := h
  refine' ⟨_, ?main, ?rest⟩
  case main =>
   refine' pss_cons ?c1 ?c2
   case' c1 => refine' ps_set (i := 1) sc_law.nd rfl (Or.inl rfl) ?c3
   case' c3 => refine' pe_fn F__law_feed (hr.mono (by decide)) rfl passE0 ?c4
   case' c4 => exact (pa_cons (pvF 0) pa_nil)
   case' c2 => refine' pss_cut ?c5 ?c6
   case' c5 => refine' ps_asg ?c7 ?c8
   case' c7 => refine' pe_fn F__law_world (hr.mono (by decide)) rfl passE0 ?c9
   case' c9 => refine' pa_cons (pvF 1) ?c10
   case' c10 => refine' pa_cons pe_int ?c11
   case' c11 => exact (pa_cons pe_int pa_nil)
   case' c8 => refine' pg_F (n := 2) rfl ?c12
   case' c12 => refine' pgs_consF (pg_name (i := 2) sc_law.nd rfl (Or.inl rfl)) ?c13
   case' c13 => exact (pgs_consF (pg_name (i := 3) sc_law.nd rfl (Or.inl rfl)) pgs_nilF)
   case' c6 => refine' pss_cut ?c14 ?c15
   case' c14 => refine' ps_if ?c16 ?c17 ?c18
   case' c16 => refine' pt_not ?c19
   case' c19 => refine' pt_valF ?c20
   case' c20 => refine' pe_fn F__law_right (hr.mono (by decide)) rfl passE0 ?c21
   case' c21 => exact (pa_cons (pvF 3) pa_nil)
   case' c17 => refine' pss_one ?c22
   case' c22 => exact (ps_ret pe_bl)
   case c18 => exact pss_nil
   case' c15 => refine' pss_cut ?c23 ?c24
   case' c23 => refine' ps_if ?c25 ?c26 ?c27
   case' c25 => refine' pt_cmpF (op_neDK (K := K) rfl (hu64 hr)) ?c28 ?c29 (nomark _)
   case' c28 => refine' pe_fn F__law_refused (hr.mono (by decide)) rfl passE0 ?c30
   case' c30 => refine' pa_cons ?c31 pa_nil
   case' c31 => exact (pe_lst pa_nil)
   case' c29 => refine' pe_tup ?c32
   case' c32 => refine' pa_cons pe_str ?c33
   case' c33 => exact (pa_cons pe_bl pa_nil)
   case' c26 => refine' pss_one ?c34
   case' c34 => exact (ps_ret pe_bl)
   case c27 => exact pss_nil
   case' c24 => refine' pss_cut ?c35 ?c36
   case' c35 => refine' ps_if ?c37 ?c38 ?c39
   case' c37 => refine' pt_cmpF (op_neDK (K := K) rfl (hu64 hr)) ?c40 ?c41 (nomark _)
   case' c40 => refine' pe_fn ?c42 ?c43 ?c44 ?c45 ?c46
   case c42 => exact F__law_refused
   case c43 => exact (hr.mono (by decide))
   case c44 => exact rfl
   case c45 => exact passE0
   case' c46 => refine' pa_cons ?c47 ?c48
   case' c47 => refine' pe_lc (CScope.of_ok (dsc := defScope s_law) (N0 := ["_law_script", "_law_feed_here", "_law_box", "_law_spots_here", "_law_one", "_law_at", "_law_twice"]) (N := ["_law_k"]) (k := 1) (js := []) rfl rfl (by decide +kernel)) rfl ?c49 ?c50 ?c51 ?c52
   case' c49 => refine' pi_range1 rfl T.b_range ?c53
   case' c53 => exact (pa_cons pe_int pa_nil)
   case' c50 => intro _ _ _ _ _ _; exact (pg_name (i := 0) (by show List.Nodup (["_law_k"] : List Str); decide +kernel) rfl (Or.inl rfl))
   case' c51 => intro _ _ _ _ _ _; exact pifs_nil
   case' c52 => intro _ _ _ _ _ _; refine' pe_tup ?c54
   case' c54 => refine' pa_cons pe_int ?c55
   case' c55 => exact (pa_cons (pvF 0) pa_nil)
   case c48 => exact pa_nil
   case' c41 => refine' pe_tup ?c56
   case' c56 => refine' pa_cons pe_str ?c57
   case' c57 => exact (pa_cons pe_bl pa_nil)
   case' c38 => refine' pss_one ?c58
   case' c58 => exact (ps_ret pe_bl)
   case c39 => exact pss_nil
   case' c36 => refine' pss_cut ?c59 ?c60
   case' c59 => refine' ps_set (i := 3) sc_law.nd rfl (Or.inl rfl) ?c61
   case' c61 => refine' pe_slice sl_F (pvF 3) po_none ?c62
   case' c62 => exact (po_some pe_int)
   case' c60 => refine' pss_cut ?c63 ?c64
   case' c63 => refine' ps_set (i := 4) sc_law.nd rfl (Or.inl rfl) ?c65
   case' c65 => refine' pe_fn F__law_draw (hr.mono (by decide)) rfl passE0 ?c66
   case' c66 => refine' pa_cons (pvF 1) ?c67
   case' c67 => refine' pa_cons ?c68 pa_nil
   case' c68 => refine' pe_callB call_lenF (by rfl) T.b_len PySem.boot_len ?c69
   case' c69 => exact (pa_cons (pvF 3) pa_nil)
   case' c64 => refine' pss_cut ?c70 ?c71
   case' c70 => refine' ps_set (i := 5) ?c72 ?c73 ?c74 ?c75
   case c72 => exact sc_law.nd
   case c73 => exact rfl
   case c74 => exact (Or.inl rfl)
   case' c75 => refine' pe_op ?c76 ?c77 ?c78
   case c76 => exact (OpR.f0 op_add)
   case' c77 => exact (pe_op (OpR.f0 op_add) (pvF 4) pe_int)
   case' c78 => refine' pe_fn F__law_draw (hr.mono (by decide)) rfl passE0 ?c79
   case' c79 => refine' pa_cons (pvF 1) ?c80
   case' c80 => refine' pa_cons ?c81 pa_nil
   case' c81 => refine' pe_op (OpR.f0 op_sub) ?c82 (pvF 4)
   case' c82 => refine' pe_callB call_lenF (by rfl) T.b_len PySem.boot_len ?c83
   case' c83 => exact (pa_cons (pvF 3) pa_nil)
   case' c71 => refine' pss_cut ?c84 ?c85
   case' c84 => refine' ps_set (i := 6) ?c86 ?c87 ?c88 ?c89
   case c86 => exact sc_law.nd
   case c87 => exact rfl
   case c88 => exact (Or.inl rfl)
   case' c89 => refine' pe_op ?c90 ?c91 ?c92
   case c90 => exact op_catF
   case' c91 => refine' pe_op op_catF ?c93 ?c94
   case' c93 => exact (pe_slice sl_F (pvF 3) po_none (po_some (pvF 5)))
   case' c94 => refine' pe_lst ?c95
   case' c95 => exact (pa_cons (pe_ix ix_F (pvF 3) (pvF 4) (fun _ _ => rfl)) pa_nil)
   case' c92 => exact (pe_slice sl_F (pvF 3) (po_some (pvF 5)) po_none)
   case' c85 => refine' pss_one ?c96
   case' c96 => refine' ps_ret ?c97
   case' c97 => refine' pe_cmpR (op_eqDK (K := K) rfl (hu64 hr)) ?c98 ?c99 (nomark _)
   case' c98 => refine' pe_fn F__law_refused (hr.mono (by decide)) rfl passE0 ?c100
   case' c100 => exact (pa_cons (pvF 6) pa_nil)
   case' c99 => refine' pe_tup ?c101
   case' c101 => refine' pa_cons pe_str ?c102
   case' c102 => exact (pa_cons (pvF 5) pa_nil)
  case rest =>
   obtain ⟨hS, hl, h⟩ := h
   simp only [L2.start, List.map_cons, List.map_nil, List.length_cons, List.length_nil, Nat.reduceAdd, Nat.reduceSub, List.replicate_succ, List.replicate_zero, List.cons_append, List.nil_append, List.append_nil]
   o_head ⟨tRaiseN, tAt, tTryN, sp_feed⟩
   refine ⟨ns, hS, hl, fun p c H0 x0 hp0 hF0 => ?_⟩
   refine ⟨fun σ H' => ∃ (b l : Addr) (x y u v : Int) (qs : List Addr) (rs : List P2), σ = [some (.ref a), some (.ref p), some (.ref b), some (.ref l), none, none, none] ∧ DX c 90 p H0 H' ∧ SpOk H' b l x y u v qs rs ∧ (-(10 ^ 26) ≤ x ∧ u ≤ 10 ^ 26) ∧ (-(10 ^ 26) ≤ y ∧ v ≤ 10 ^ 26), ?_, ?_⟩
   ·o_head ⟨tRaiseN, tAt, tTryN, sp_world⟩
    refine ⟨1, rfl, 9, rfl, c, 0, hF0, by decide, by decide, by decide, by decide, by decide, fun t b l x y u v qs rs H1 d1 et ok _ bx by' => ?_⟩
    o_head ⟨tRaiseN, tAt, tTryN, gSeqF, gCons, gNil, et⟩
    exact ⟨d1, x, y, u, v, ⟨qs, rs, ok⟩, bx.1, bx.2, by'.1, by'.2⟩
   rintro σ H1 ⟨b, l, x, y, u, v, qs, rs, rfl, d1, ok, bx, by'⟩
   have lq : (qs.map V.ref).length = rs.length := by rw [List.length_map]; exact ok.at_.1
   have n12 := ok.n12
   have sm : ∀ r ∈ rs, (-(10 ^ 26) ≤ r.1 ∧ r.1 ≤ 10 ^ 26) ∧ (-(10 ^ 26) ≤ r.2 ∧ r.2 ≤ 10 ^ 26) := fun r hr => by
    have := ok.ins r hr
    omega
   have sz : ∀ r ∈ rs, Bd 130 r.1 ∧ Bd 130 r.2 := fun r hr => ⟨(Bd.of_le (n := 100) (10 ^ 26) (sm r hr).1.1 (sm r hr).1.2 (by decide)).mono (by decide), (Bd.of_le (n := 100) (10 ^ 26) (sm r hr).2.1 (sm r hr).2.2 (by decide)).mono (by decide)⟩
   have ok1 : LpOk H1 l qs rs := ⟨ok.sp, ok.at_, ok.nd, ok.n0, ok.n12, sz⟩
   refine ⟨fun σ H' => σ = [some (.ref a), some (.ref p), some (.ref b), some (.ref l), none, none, none] ∧ Ext H1 H', ?_, ?_⟩
   ·o_head ⟨tRaiseN, tAt, tTryN, sp_right⟩
    exact ⟨⟨qs, rs, ok1⟩, fun H' x => x⟩
   rintro σ H2 ⟨rfl, x2⟩
   refine ⟨fun σ H' => σ = [some (.ref a), some (.ref p), some (.ref b), some (.ref l), none, none, none] ∧ Ext H2 H', ?_, ?_⟩
   ·o_head ⟨tRaiseN, tAt, tTryN, sp_refused⟩
    refine ⟨by decide, fun c1 h1 => ⟨[], rfl, [], .none, fun r hr => absurd hr List.not_mem_nil, .inl ⟨by simp, fun t H' x' et => ⟨by decide, fun p1 hp1 => ?_⟩⟩⟩⟩
    refine ⟨_, _, rdy_many (upd_f hp1 et), rdy_many upd_same, sh_many, sh_many, ?_⟩
    rw [eq_many]
    exact ((Ext.upd h1).trans x').then hp1
   rintro σ H3 ⟨rfl, x3⟩
   refine ⟨fun σ H' => σ = [some (.ref a), some (.ref p), some (.ref b), some (.ref l), none, none, none] ∧ Ext H3 H', ?_, ?_⟩
   ·o_head ⟨tRaiseN, tAt, tTryN⟩
    refine tlc_range 13 (fun R hR => by o_head ⟨tRaiseN, tAt, tTryN⟩; exact hR) (by decide) (fun D i ys H' => ∃ ts : List Addr, ys = ts.map V.ref ∧ R2At H' ts (col13 i) ∧ H' D = some (.lst ys) ∧ Ext H3 H') ?_ ?_ ?_ ?_
    ·intro D hD
     exact ⟨[], rfl, .none, upd_same, .upd hD⟩
    ·rintro D i ys H5 _ ⟨ts, rfl, r5, e5, x5⟩
     exact ⟨e5, by rw [List.length_map, r5.1, col_len]; exact Nat.le_refl _⟩
    ·rintro D i ys H5 hD hi ⟨ts, rfl, r5, e5, x5⟩
     rw [Int.zero_add]
     o_head ⟨tRaiseN, tAt, tTryN⟩
     refine ⟨by decide, fun t5 h5 => ⟨upd_f h5 e5, ts ++ [t5], by rw [List.map_append]; rfl, ?_, (x5.then h5).set hD⟩⟩
     exact ((r5.ext (Ext.upd h5)).append (.one (r := (0, (i : Int))) upd_same)).setL (upd_f h5 e5)
    ·rintro D ys H5 hD ⟨ts, rfl, r5, e5, x5⟩
     o_head ⟨tRaiseN, tAt, tTryN, sp_refused⟩
     refine ⟨ts, e5, col13 13, r5, col_bd (by decide), .inl ⟨by rw [col_len]; decide, fun t H' x' et => ⟨by decide, fun p1 hp1 => ?_⟩⟩⟩
     refine ⟨_, _, rdy_many (upd_f hp1 et), rdy_many upd_same, sh_many, sh_many, ?_⟩
     rw [eq_many]
     exact (x5.trans x').then hp1
   rintro σ H4 ⟨rfl, x4⟩
   have ok4 := ((ok1.ext x2).ext x3).ext x4
   have d4 := ((d1.ext x2).ext x3).ext x4
   refine ⟨fun σ H' => ∃ l' : Addr, σ = [some (.ref a), some (.ref p), some (.ref b), some (.ref l'), none, none, none] ∧ Ext H4 H' ∧ H' l' = some (.lst ((qs.take 11).map V.ref)), ?_, ?_⟩
   ·o_head ⟨tRaiseN, tAt, tTryN, ok4.sp⟩
    intro c hc
    rw [show cutV (qs.map V.ref) none (some 11) = (qs.map V.ref).take 11 from cut_to _ 11, ← List.map_take]
    exact ⟨.upd hc, rfl⟩
   rintro σ H5 ⟨l', rfl, x5, el5⟩
   have lr : (rs.take 11).length ≤ 11 := by rw [List.length_take]; omega
   have lqt : ((qs.take 11).map V.ref).length = (rs.take 11).length := by rw [List.length_map, List.length_take, List.length_take, ok1.at_.1]
   have n0 : 0 < (rs.take 11).length := by rw [List.length_take]; have := ok1.n0; omega
   have at5 := (ok4.at_.ext x5).take 11
   have nd := (List.take_sublist 11 rs).nodup ok1.nd
   have sz5 : ∀ r ∈ rs.take 11, Bd 130 r.1 ∧ Bd 130 r.2 := fun r hr => sz r (List.mem_of_mem_take hr)
   have d5 := d4.ext x5
   generalize rs.take 11 = R at lr lqt n0 at5 nd sz5
   generalize qs.take 11 = S at lqt at5 el5
   refine ⟨fun σ H' => ∃ one : Nat, σ = [some (.ref a), some (.ref p), some (.ref b), some (.ref l'), some (.int (one : Int)), none, none] ∧ one < R.length ∧ DX c 91 p H5 H', ?_, ?_⟩
   ·o_head ⟨tRaiseN, tAt, tTryN, sp_draw, el5, lqt⟩
    refine ⟨_, _, d5.feed, by decide, by omega, by omega, fun r H' r0 r1 d => ?_⟩
    exact ⟨r.toNat, by omega, by omega, d⟩
   rintro σ H6 ⟨one, rfl, l1, d6⟩
   have kl : ∀ {H' : Hp} {n : Nat}, DX c n p H5 H' → H' l' = some (.lst (S.map V.ref)) ∧ R2At H' S R := fun d => ⟨d.keep _ _ (d5.feed.lst el5) el5, at5.1, fun i q z g1 g2 => d.keep _ _ (d5.feed.tup (at5.2 i q z g1 g2)) (at5.2 i q z g1 g2)⟩
   obtain ⟨el6, at6⟩ := kl d6
   refine ⟨fun σ H' => ∃ at' : Nat, σ = [some (.ref a), some (.ref p), some (.ref b), some (.ref l'), some (.int (one : Int)), some (.int (at' : Int)), none] ∧ one < at' ∧ at' ≤ R.length ∧ DX c 92 p H5 H', ?_, ?_⟩
   ·o_head ⟨tRaiseN, tAt, tTryN, sp_draw, el6, lqt⟩
    refine ⟨_, _, d6.feed, by decide, by omega, by omega, fun r H' r0 r1 d => ?_⟩
    exact ⟨one + 1 + r.toNat, by omega, by omega, by omega, d6.trans d⟩
   rintro σ H7 ⟨at', rfl, l2, l3, d7⟩
   obtain ⟨el7, at7⟩ := kl d7
   obtain ⟨r, hr'⟩ : ∃ r, R[one]? = some r := ⟨_, List.getElem?_eq_getElem l1⟩
   obtain ⟨q, hq⟩ : ∃ q, S[one]? = some q := ⟨_, List.getElem?_eq_getElem (by rw [at7.1]; exact l1)⟩
   have aq : atI (S.map V.ref) (one : Int) = some (.ref q) := atI_nat (by rw [List.getElem?_map, hq]; rfl)
   refine ⟨fun σ H' => ∃ t : Addr, σ = [some (.ref a), some (.ref p), some (.ref b), some (.ref l'), some (.int (one : Int)), some (.int (at' : Int)), some (.ref t)] ∧ Ext H7 H' ∧ H' t = some (.lst ((S.take at' ++ [q] ++ S.drop at').map V.ref)), ?_, ?_⟩
   ·o_head ⟨tRaiseN, tAt, tTryN, el7, aq⟩
    intro c1 h1
    rw [cut_to, upd_f h1 el7, seqOf_l, optK_some, aq, optK_some]
    refine ⟨by decide, fun c2 h2 => ?_⟩
    rw [upd_f h2 upd_same, lstOf_l, optK_some]
    refine ⟨by rw [List.length_take, List.length_map, at7.1]; omega, fun c3 h3 => ?_⟩
    rw [upd_f h3 (upd_f h2 (upd_f h1 el7)), lstOf_l, optK_some]
    intro c4 h4
    rw [upd_f h4 upd_same, lstOf_l, optK_some, cut_from]
    refine ⟨by rw [List.length_append, List.length_take, List.length_drop, List.length_map, at7.1]; show _ + 1 + _ < _; omega, fun c5 h5 => ?_⟩
    exact ⟨((((Ext.upd h1).then h2).then h3).then h4).then h5, by rw [List.map_append, List.map_append, List.map_take, List.map_drop]; rfl⟩
   rintro σ H8 ⟨t, rfl, x8, et⟩
   o_head ⟨tRaiseN, tAt, tTryN, sp_refused⟩
   have a8 := at7.ext x8
   have len := tw_len (rs := R) (r := r) l3
   refine ⟨_, et, tw R at' r, ((a8.take at').append (.one (x8 _ _ (at7.2 one q r hq hr')))).append (a8.drop at'), fun s hs => ?_, .inr ⟨by omega, by omega, at', tw_dup nd hr' l2 l3, fun t5 H9 x9 e9 => ⟨by decide, fun p1 hp1 => ?_⟩⟩⟩
   ·unfold tw at hs
    rcases List.mem_append.mp hs with g | g
    ·rcases List.mem_append.mp g with g | g
     ·exact sz5 s (List.mem_of_mem_take g)
     ·rw [List.mem_singleton.mp g]
      exact sz5 r (List.mem_of_getElem? hr')
    ·exact sz5 s (List.mem_of_mem_drop g)
   ·refine ⟨_, _, rdy_spot (upd_f hp1 e9), rdy_spot upd_same, sh_spot _, sh_spot _, ?_⟩
    rw [eq_spot]
    exact h _
end
end LW
namespace LW
open PySem L2 MA PyProof.Rows
theorem len_1 {us : List Value} (h : us.length = 1) : ∃ u0, us = [u0] := by
 obtain _ | ⟨u0, us⟩ := us
 ·cases h
 cases us with
 | nil => exact ⟨u0, rfl⟩
 | cons a r => simp at h
theorem len_2 {us : List Value} (h : us.length = 2) : ∃ u0 u1, us = [u0, u1] := by
 obtain _ | ⟨u0, us⟩ := us
 ·cases h
 obtain _ | ⟨u1, us⟩ := us
 ·cases h
 cases us with
 | nil => exact ⟨u0, u1, rfl⟩
 | cons a r => simp at h
theorem len_3 {us : List Value} (h : us.length = 3) : ∃ u0 u1 u2, us = [u0, u1, u2] := by
 obtain _ | ⟨u0, us⟩ := us
 ·cases h
 obtain _ | ⟨u1, us⟩ := us
 ·cases h
 obtain _ | ⟨u2, us⟩ := us
 ·cases h
 cases us with
 | nil => exact ⟨u0, u1, u2, rfl⟩
 | cons a r => simp at h
set_option maxHeartbeats 0 in
theorem all_mk {l : PySem.W.OpenLaw} {w : World} {K : PySem.W.Frag} {h : Heap} {mg : Str → Option Value} {fa : Addr} (X : K.In h) (G : h.Ns mainGlobals mg) (hfa : mg "law" = some (.ref fa))
  {f_divisor : Addr} {od_divisor an_divisor : Option Addr} {sl_divisor : Array (Option Value)} {oc_divisor kV_divisor dc_divisor pm_divisor cd_divisor ct_divisor : Value} {f_sign : Addr} {od_sign an_sign : Option Addr} {sl_sign : Array (Option Value)} {oc_sign kV_sign dc_sign pm_sign cd_sign ct_sign : Value} {f_point_of : Addr} {od_point_of an_point_of : Option Addr} {sl_point_of : Array (Option Value)} {oc_point_of kV_point_of dc_point_of pm_point_of cd_point_of ct_point_of : Value} {f_spot_point : Addr} {od_spot_point an_spot_point : Option Addr} {sl_spot_point : Array (Option Value)} {oc_spot_point kV_spot_point dc_spot_point pm_spot_point cd_spot_point ct_spot_point : Value} {f_fraction_of : Addr} {od_fraction_of an_fraction_of : Option Addr} {sl_fraction_of : Array (Option Value)} {oc_fraction_of kV_fraction_of dc_fraction_of pm_fraction_of cd_fraction_of ct_fraction_of : Value} {f_less : Addr} {od_less an_less : Option Addr} {sl_less : Array (Option Value)} {oc_less kV_less dc_less pm_less cd_less ct_less : Value} {f_scaled_square : Addr} {od_scaled_square an_scaled_square : Option Addr} {sl_scaled_square : Array (Option Value)} {oc_scaled_square kV_scaled_square dc_scaled_square pm_scaled_square cd_scaled_square ct_scaled_square : Value} {f_square : Addr} {od_square an_square : Option Addr} {sl_square : Array (Option Value)} {oc_square kV_square dc_square pm_square cd_square ct_square : Value} {f_line_of : Addr} {od_line_of an_line_of : Option Addr} {sl_line_of : Array (Option Value)} {oc_line_of kV_line_of dc_line_of pm_line_of cd_line_of ct_line_of : Value} {f_between : Addr} {od_between an_between : Option Addr} {sl_between : Array (Option Value)} {oc_between kV_between dc_between pm_between cd_between ct_between : Value} {f_meet : Addr} {od_meet an_meet : Option Addr} {sl_meet : Array (Option Value)} {oc_meet kV_meet dc_meet pm_meet cd_meet ct_meet : Value} {f_check_count : Addr} {od_check_count an_check_count : Option Addr} {sl_check_count : Array (Option Value)} {oc_check_count kV_check_count dc_check_count pm_check_count cd_check_count ct_check_count : Value} {f_check_spots : Addr} {od_check_spots an_check_spots : Option Addr} {sl_check_spots : Array (Option Value)} {oc_check_spots kV_check_spots dc_check_spots pm_check_spots cd_check_spots ct_check_spots : Value} {f_farthest : Addr} {od_farthest an_farthest : Option Addr} {sl_farthest : Array (Option Value)} {oc_farthest kV_farthest dc_farthest pm_farthest cd_farthest ct_farthest : Value} {f_middle : Addr} {od_middle an_middle : Option Addr} {sl_middle : Array (Option Value)} {oc_middle kV_middle dc_middle pm_middle cd_middle ct_middle : Value} {f_ring_centres : Addr} {od_ring_centres an_ring_centres : Option Addr} {sl_ring_centres : Array (Option Value)} {oc_ring_centres kV_ring_centres dc_ring_centres pm_ring_centres cd_ring_centres ct_ring_centres : Value} {f_least_ring : Addr} {od_least_ring an_least_ring : Option Addr} {sl_least_ring : Array (Option Value)} {oc_least_ring kV_least_ring dc_least_ring pm_least_ring cd_least_ring ct_least_ring : Value} {f__law_feed : Addr} {od__law_feed an__law_feed : Option Addr} {sl__law_feed : Array (Option Value)} {oc__law_feed kV__law_feed dc__law_feed pm__law_feed cd__law_feed ct__law_feed : Value} {f__law_draw : Addr} {od__law_draw an__law_draw : Option Addr} {sl__law_draw : Array (Option Value)} {oc__law_draw kV__law_draw dc__law_draw pm__law_draw cd__law_draw ct__law_draw : Value} {f__law_great : Addr} {od__law_great an__law_great : Option Addr} {sl__law_great : Array (Option Value)} {oc__law_great kV__law_great dc__law_great pm__law_great cd__law_great ct__law_great : Value} {f__law_scale : Addr} {od__law_scale an__law_scale : Option Addr} {sl__law_scale : Array (Option Value)} {oc__law_scale kV__law_scale dc__law_scale pm__law_scale cd__law_scale ct__law_scale : Value} {f__law_spot : Addr} {od__law_spot an__law_spot : Option Addr} {sl__law_spot : Array (Option Value)} {oc__law_spot kV__law_spot dc__law_spot pm__law_spot cd__law_spot ct__law_spot : Value} {f__law_dozen : Addr} {od__law_dozen an__law_dozen : Option Addr} {sl__law_dozen : Array (Option Value)} {oc__law_dozen kV__law_dozen dc__law_dozen pm__law_dozen cd__law_dozen ct__law_dozen : Value} {f__law_spots : Addr} {od__law_spots an__law_spots : Option Addr} {sl__law_spots : Array (Option Value)} {oc__law_spots kV__law_spots dc__law_spots pm__law_spots cd__law_spots ct__law_spots : Value} {f__law_world : Addr} {od__law_world an__law_world : Option Addr} {sl__law_world : Array (Option Value)} {oc__law_world kV__law_world dc__law_world pm__law_world cd__law_world ct__law_world : Value} {f__law_frac : Addr} {od__law_frac an__law_frac : Option Addr} {sl__law_frac : Array (Option Value)} {oc__law_frac kV__law_frac dc__law_frac pm__law_frac cd__law_frac ct__law_frac : Value} {f__law_whole : Addr} {od__law_whole an__law_whole : Option Addr} {sl__law_whole : Array (Option Value)} {oc__law_whole kV__law_whole dc__law_whole pm__law_whole cd__law_whole ct__law_whole : Value} {f__law_divisor : Addr} {od__law_divisor an__law_divisor : Option Addr} {sl__law_divisor : Array (Option Value)} {oc__law_divisor kV__law_divisor dc__law_divisor pm__law_divisor cd__law_divisor ct__law_divisor : Value} {f__law_is_point : Addr} {od__law_is_point an__law_is_point : Option Addr} {sl__law_is_point : Array (Option Value)} {oc__law_is_point kV__law_is_point dc__law_is_point pm__law_is_point cd__law_is_point ct__law_is_point : Value} {f__law_way : Addr} {od__law_way an__law_way : Option Addr} {sl__law_way : Array (Option Value)} {oc__law_way kV__law_way dc__law_way pm__law_way cd__law_way ct__law_way : Value} {f__law_side : Addr} {od__law_side an__law_side : Option Addr} {sl__law_side : Array (Option Value)} {oc__law_side kV__law_side dc__law_side pm__law_side cd__law_side ct__law_side : Value} {f__law_held : Addr} {od__law_held an__law_held : Option Addr} {sl__law_held : Array (Option Value)} {oc__law_held kV__law_held dc__law_held pm__law_held cd__law_held ct__law_held : Value} {f__law_right : Addr} {od__law_right an__law_right : Option Addr} {sl__law_right : Array (Option Value)} {oc__law_right kV__law_right dc__law_right pm__law_right cd__law_right ct__law_right : Value} {f__law_refused : Addr} {od__law_refused an__law_refused : Option Addr} {sl__law_refused : Array (Option Value)} {oc__law_refused kV__law_refused dc__law_refused pm__law_refused cd__law_refused ct__law_refused : Value} {f_law : Addr} {od_law an_law : Option Addr} {sl_law : Array (Option Value)} {oc_law kV_law dc_law pm_law cd_law ct_law : Value} {cl_TooMany : Addr} {cl_NoSpot : Addr} {cdt_TooMany : ClassData} {tk_MOST_SPOTS : Tok} {ynm yq yx yqual yfile : Str} {yn : Nat} {yN yD yfI ycc ycda : Addr} {ybs ysub : List Value} {ysn : List Str} {yab : Bool} {ycol : Option Bool} {ydd yod yan yccd ycdd : Option Addr} {yk0 yk1 yk2 yk3 yk5 : Option Value} {yosl yccs ycds : Array (Option Value)} {ykV ydoc ypm yct yccl ycdl : Value} {yvs : Array Value} {ytf : Tok} {ycdt : ClassData}
  (a_divisor : PySem.W.nsIn K mainGlobals "divisor" = some (some (.ref f_divisor)))
  (l_divisor : K.lookup f_divisor = some ⟨oc_divisor, od_divisor, .func (PySem.W.fnOf "divisor" "divisor" (defArgs s_divisor) (defBody s_divisor) (defScope s_divisor) .none kV_divisor dc_divisor pm_divisor an_divisor cd_divisor ct_divisor), sl_divisor⟩)
  (c_divisor : PySem.W.codeIn K cd_divisor "divisor" = true)
  (k_divisor : PySem.W.keepIn K (.ref f_divisor) = true)
  (a_sign : PySem.W.nsIn K mainGlobals "sign" = some (some (.ref f_sign)))
  (l_sign : K.lookup f_sign = some ⟨oc_sign, od_sign, .func (PySem.W.fnOf "sign" "sign" (defArgs s_sign) (defBody s_sign) (defScope s_sign) .none kV_sign dc_sign pm_sign an_sign cd_sign ct_sign), sl_sign⟩)
  (c_sign : PySem.W.codeIn K cd_sign "sign" = true)
  (k_sign : PySem.W.keepIn K (.ref f_sign) = true)
  (a_point_of : PySem.W.nsIn K mainGlobals "point_of" = some (some (.ref f_point_of)))
  (l_point_of : K.lookup f_point_of = some ⟨oc_point_of, od_point_of, .func (PySem.W.fnOf "point_of" "point_of" (defArgs s_point_of) (defBody s_point_of) (defScope s_point_of) .none kV_point_of dc_point_of pm_point_of an_point_of cd_point_of ct_point_of), sl_point_of⟩)
  (c_point_of : PySem.W.codeIn K cd_point_of "point_of" = true)
  (k_point_of : PySem.W.keepIn K (.ref f_point_of) = true)
  (a_spot_point : PySem.W.nsIn K mainGlobals "spot_point" = some (some (.ref f_spot_point)))
  (l_spot_point : K.lookup f_spot_point = some ⟨oc_spot_point, od_spot_point, .func (PySem.W.fnOf "spot_point" "spot_point" (defArgs s_spot_point) (defBody s_spot_point) (defScope s_spot_point) .none kV_spot_point dc_spot_point pm_spot_point an_spot_point cd_spot_point ct_spot_point), sl_spot_point⟩)
  (c_spot_point : PySem.W.codeIn K cd_spot_point "spot_point" = true)
  (k_spot_point : PySem.W.keepIn K (.ref f_spot_point) = true)
  (a_fraction_of : PySem.W.nsIn K mainGlobals "fraction_of" = some (some (.ref f_fraction_of)))
  (l_fraction_of : K.lookup f_fraction_of = some ⟨oc_fraction_of, od_fraction_of, .func (PySem.W.fnOf "fraction_of" "fraction_of" (defArgs s_fraction_of) (defBody s_fraction_of) (defScope s_fraction_of) .none kV_fraction_of dc_fraction_of pm_fraction_of an_fraction_of cd_fraction_of ct_fraction_of), sl_fraction_of⟩)
  (c_fraction_of : PySem.W.codeIn K cd_fraction_of "fraction_of" = true)
  (k_fraction_of : PySem.W.keepIn K (.ref f_fraction_of) = true)
  (a_less : PySem.W.nsIn K mainGlobals "less" = some (some (.ref f_less)))
  (l_less : K.lookup f_less = some ⟨oc_less, od_less, .func (PySem.W.fnOf "less" "less" (defArgs s_less) (defBody s_less) (defScope s_less) .none kV_less dc_less pm_less an_less cd_less ct_less), sl_less⟩)
  (c_less : PySem.W.codeIn K cd_less "less" = true)
  (k_less : PySem.W.keepIn K (.ref f_less) = true)
  (a_scaled_square : PySem.W.nsIn K mainGlobals "scaled_square" = some (some (.ref f_scaled_square)))
  (l_scaled_square : K.lookup f_scaled_square = some ⟨oc_scaled_square, od_scaled_square, .func (PySem.W.fnOf "scaled_square" "scaled_square" (defArgs s_scaled_square) (defBody s_scaled_square) (defScope s_scaled_square) .none kV_scaled_square dc_scaled_square pm_scaled_square an_scaled_square cd_scaled_square ct_scaled_square), sl_scaled_square⟩)
  (c_scaled_square : PySem.W.codeIn K cd_scaled_square "scaled_square" = true)
  (k_scaled_square : PySem.W.keepIn K (.ref f_scaled_square) = true)
  (a_square : PySem.W.nsIn K mainGlobals "square" = some (some (.ref f_square)))
  (l_square : K.lookup f_square = some ⟨oc_square, od_square, .func (PySem.W.fnOf "square" "square" (defArgs s_square) (defBody s_square) (defScope s_square) .none kV_square dc_square pm_square an_square cd_square ct_square), sl_square⟩)
  (c_square : PySem.W.codeIn K cd_square "square" = true)
  (k_square : PySem.W.keepIn K (.ref f_square) = true)
  (a_line_of : PySem.W.nsIn K mainGlobals "line_of" = some (some (.ref f_line_of)))
  (l_line_of : K.lookup f_line_of = some ⟨oc_line_of, od_line_of, .func (PySem.W.fnOf "line_of" "line_of" (defArgs s_line_of) (defBody s_line_of) (defScope s_line_of) .none kV_line_of dc_line_of pm_line_of an_line_of cd_line_of ct_line_of), sl_line_of⟩)
  (c_line_of : PySem.W.codeIn K cd_line_of "line_of" = true)
  (k_line_of : PySem.W.keepIn K (.ref f_line_of) = true)
  (a_between : PySem.W.nsIn K mainGlobals "between" = some (some (.ref f_between)))
  (l_between : K.lookup f_between = some ⟨oc_between, od_between, .func (PySem.W.fnOf "between" "between" (defArgs s_between) (defBody s_between) (defScope s_between) .none kV_between dc_between pm_between an_between cd_between ct_between), sl_between⟩)
  (c_between : PySem.W.codeIn K cd_between "between" = true)
  (k_between : PySem.W.keepIn K (.ref f_between) = true)
  (a_meet : PySem.W.nsIn K mainGlobals "meet" = some (some (.ref f_meet)))
  (l_meet : K.lookup f_meet = some ⟨oc_meet, od_meet, .func (PySem.W.fnOf "meet" "meet" (defArgs s_meet) (defBody s_meet) (defScope s_meet) .none kV_meet dc_meet pm_meet an_meet cd_meet ct_meet), sl_meet⟩)
  (c_meet : PySem.W.codeIn K cd_meet "meet" = true)
  (k_meet : PySem.W.keepIn K (.ref f_meet) = true)
  (a_check_count : PySem.W.nsIn K mainGlobals "check_count" = some (some (.ref f_check_count)))
  (l_check_count : K.lookup f_check_count = some ⟨oc_check_count, od_check_count, .func (PySem.W.fnOf "check_count" "check_count" (defArgs s_check_count) (defBody s_check_count) (defScope s_check_count) .none kV_check_count dc_check_count pm_check_count an_check_count cd_check_count ct_check_count), sl_check_count⟩)
  (c_check_count : PySem.W.codeIn K cd_check_count "check_count" = true)
  (k_check_count : PySem.W.keepIn K (.ref f_check_count) = true)
  (a_check_spots : PySem.W.nsIn K mainGlobals "check_spots" = some (some (.ref f_check_spots)))
  (l_check_spots : K.lookup f_check_spots = some ⟨oc_check_spots, od_check_spots, .func (PySem.W.fnOf "check_spots" "check_spots" (defArgs s_check_spots) (defBody s_check_spots) (defScope s_check_spots) .none kV_check_spots dc_check_spots pm_check_spots an_check_spots cd_check_spots ct_check_spots), sl_check_spots⟩)
  (c_check_spots : PySem.W.codeIn K cd_check_spots "check_spots" = true)
  (k_check_spots : PySem.W.keepIn K (.ref f_check_spots) = true)
  (a_farthest : PySem.W.nsIn K mainGlobals "farthest" = some (some (.ref f_farthest)))
  (l_farthest : K.lookup f_farthest = some ⟨oc_farthest, od_farthest, .func (PySem.W.fnOf "farthest" "farthest" (defArgs s_farthest) (defBody s_farthest) (defScope s_farthest) .none kV_farthest dc_farthest pm_farthest an_farthest cd_farthest ct_farthest), sl_farthest⟩)
  (c_farthest : PySem.W.codeIn K cd_farthest "farthest" = true)
  (k_farthest : PySem.W.keepIn K (.ref f_farthest) = true)
  (a_middle : PySem.W.nsIn K mainGlobals "middle" = some (some (.ref f_middle)))
  (l_middle : K.lookup f_middle = some ⟨oc_middle, od_middle, .func (PySem.W.fnOf "middle" "middle" (defArgs s_middle) (defBody s_middle) (defScope s_middle) .none kV_middle dc_middle pm_middle an_middle cd_middle ct_middle), sl_middle⟩)
  (c_middle : PySem.W.codeIn K cd_middle "middle" = true)
  (k_middle : PySem.W.keepIn K (.ref f_middle) = true)
  (a_ring_centres : PySem.W.nsIn K mainGlobals "ring_centres" = some (some (.ref f_ring_centres)))
  (l_ring_centres : K.lookup f_ring_centres = some ⟨oc_ring_centres, od_ring_centres, .func (PySem.W.fnOf "ring_centres" "ring_centres" (defArgs s_ring_centres) (defBody s_ring_centres) (defScope s_ring_centres) .none kV_ring_centres dc_ring_centres pm_ring_centres an_ring_centres cd_ring_centres ct_ring_centres), sl_ring_centres⟩)
  (c_ring_centres : PySem.W.codeIn K cd_ring_centres "ring_centres" = true)
  (k_ring_centres : PySem.W.keepIn K (.ref f_ring_centres) = true)
  (a_least_ring : PySem.W.nsIn K mainGlobals "least_ring" = some (some (.ref f_least_ring)))
  (l_least_ring : K.lookup f_least_ring = some ⟨oc_least_ring, od_least_ring, .func (PySem.W.fnOf "least_ring" "least_ring" (defArgs s_least_ring) (defBody s_least_ring) (defScope s_least_ring) .none kV_least_ring dc_least_ring pm_least_ring an_least_ring cd_least_ring ct_least_ring), sl_least_ring⟩)
  (c_least_ring : PySem.W.codeIn K cd_least_ring "least_ring" = true)
  (k_least_ring : PySem.W.keepIn K (.ref f_least_ring) = true)
  (a__law_feed : PySem.W.nsIn K mainGlobals "_law_feed" = some (some (.ref f__law_feed)))
  (l__law_feed : K.lookup f__law_feed = some ⟨oc__law_feed, od__law_feed, .func (PySem.W.fnOf "_law_feed" "_law_feed" (defArgs s__law_feed) (defBody s__law_feed) (defScope s__law_feed) .none kV__law_feed dc__law_feed pm__law_feed an__law_feed cd__law_feed ct__law_feed), sl__law_feed⟩)
  (c__law_feed : PySem.W.codeIn K cd__law_feed "_law_feed" = true)
  (k__law_feed : PySem.W.keepIn K (.ref f__law_feed) = true)
  (a__law_draw : PySem.W.nsIn K mainGlobals "_law_draw" = some (some (.ref f__law_draw)))
  (l__law_draw : K.lookup f__law_draw = some ⟨oc__law_draw, od__law_draw, .func (PySem.W.fnOf "_law_draw" "_law_draw" (defArgs s__law_draw) (defBody s__law_draw) (defScope s__law_draw) .none kV__law_draw dc__law_draw pm__law_draw an__law_draw cd__law_draw ct__law_draw), sl__law_draw⟩)
  (c__law_draw : PySem.W.codeIn K cd__law_draw "_law_draw" = true)
  (k__law_draw : PySem.W.keepIn K (.ref f__law_draw) = true)
  (a__law_great : PySem.W.nsIn K mainGlobals "_law_great" = some (some (.ref f__law_great)))
  (l__law_great : K.lookup f__law_great = some ⟨oc__law_great, od__law_great, .func (PySem.W.fnOf "_law_great" "_law_great" (defArgs s__law_great) (defBody s__law_great) (defScope s__law_great) .none kV__law_great dc__law_great pm__law_great an__law_great cd__law_great ct__law_great), sl__law_great⟩)
  (c__law_great : PySem.W.codeIn K cd__law_great "_law_great" = true)
  (k__law_great : PySem.W.keepIn K (.ref f__law_great) = true)
  (a__law_scale : PySem.W.nsIn K mainGlobals "_law_scale" = some (some (.ref f__law_scale)))
  (l__law_scale : K.lookup f__law_scale = some ⟨oc__law_scale, od__law_scale, .func (PySem.W.fnOf "_law_scale" "_law_scale" (defArgs s__law_scale) (defBody s__law_scale) (defScope s__law_scale) .none kV__law_scale dc__law_scale pm__law_scale an__law_scale cd__law_scale ct__law_scale), sl__law_scale⟩)
  (c__law_scale : PySem.W.codeIn K cd__law_scale "_law_scale" = true)
  (k__law_scale : PySem.W.keepIn K (.ref f__law_scale) = true)
  (a__law_spot : PySem.W.nsIn K mainGlobals "_law_spot" = some (some (.ref f__law_spot)))
  (l__law_spot : K.lookup f__law_spot = some ⟨oc__law_spot, od__law_spot, .func (PySem.W.fnOf "_law_spot" "_law_spot" (defArgs s__law_spot) (defBody s__law_spot) (defScope s__law_spot) .none kV__law_spot dc__law_spot pm__law_spot an__law_spot cd__law_spot ct__law_spot), sl__law_spot⟩)
  (c__law_spot : PySem.W.codeIn K cd__law_spot "_law_spot" = true)
  (k__law_spot : PySem.W.keepIn K (.ref f__law_spot) = true)
  (a__law_dozen : PySem.W.nsIn K mainGlobals "_law_dozen" = some (some (.ref f__law_dozen)))
  (l__law_dozen : K.lookup f__law_dozen = some ⟨oc__law_dozen, od__law_dozen, .func (PySem.W.fnOf "_law_dozen" "_law_dozen" (defArgs s__law_dozen) (defBody s__law_dozen) (defScope s__law_dozen) .none kV__law_dozen dc__law_dozen pm__law_dozen an__law_dozen cd__law_dozen ct__law_dozen), sl__law_dozen⟩)
  (c__law_dozen : PySem.W.codeIn K cd__law_dozen "_law_dozen" = true)
  (k__law_dozen : PySem.W.keepIn K (.ref f__law_dozen) = true)
  (a__law_spots : PySem.W.nsIn K mainGlobals "_law_spots" = some (some (.ref f__law_spots)))
  (l__law_spots : K.lookup f__law_spots = some ⟨oc__law_spots, od__law_spots, .func (PySem.W.fnOf "_law_spots" "_law_spots" (defArgs s__law_spots) (defBody s__law_spots) (defScope s__law_spots) .none kV__law_spots dc__law_spots pm__law_spots an__law_spots cd__law_spots ct__law_spots), sl__law_spots⟩)
  (c__law_spots : PySem.W.codeIn K cd__law_spots "_law_spots" = true)
  (k__law_spots : PySem.W.keepIn K (.ref f__law_spots) = true)
  (a__law_world : PySem.W.nsIn K mainGlobals "_law_world" = some (some (.ref f__law_world)))
  (l__law_world : K.lookup f__law_world = some ⟨oc__law_world, od__law_world, .func (PySem.W.fnOf "_law_world" "_law_world" (defArgs s__law_world) (defBody s__law_world) (defScope s__law_world) .none kV__law_world dc__law_world pm__law_world an__law_world cd__law_world ct__law_world), sl__law_world⟩)
  (c__law_world : PySem.W.codeIn K cd__law_world "_law_world" = true)
  (k__law_world : PySem.W.keepIn K (.ref f__law_world) = true)
  (a__law_frac : PySem.W.nsIn K mainGlobals "_law_frac" = some (some (.ref f__law_frac)))
  (l__law_frac : K.lookup f__law_frac = some ⟨oc__law_frac, od__law_frac, .func (PySem.W.fnOf "_law_frac" "_law_frac" (defArgs s__law_frac) (defBody s__law_frac) (defScope s__law_frac) .none kV__law_frac dc__law_frac pm__law_frac an__law_frac cd__law_frac ct__law_frac), sl__law_frac⟩)
  (c__law_frac : PySem.W.codeIn K cd__law_frac "_law_frac" = true)
  (k__law_frac : PySem.W.keepIn K (.ref f__law_frac) = true)
  (a__law_whole : PySem.W.nsIn K mainGlobals "_law_whole" = some (some (.ref f__law_whole)))
  (l__law_whole : K.lookup f__law_whole = some ⟨oc__law_whole, od__law_whole, .func (PySem.W.fnOf "_law_whole" "_law_whole" (defArgs s__law_whole) (defBody s__law_whole) (defScope s__law_whole) .none kV__law_whole dc__law_whole pm__law_whole an__law_whole cd__law_whole ct__law_whole), sl__law_whole⟩)
  (c__law_whole : PySem.W.codeIn K cd__law_whole "_law_whole" = true)
  (k__law_whole : PySem.W.keepIn K (.ref f__law_whole) = true)
  (a__law_divisor : PySem.W.nsIn K mainGlobals "_law_divisor" = some (some (.ref f__law_divisor)))
  (l__law_divisor : K.lookup f__law_divisor = some ⟨oc__law_divisor, od__law_divisor, .func (PySem.W.fnOf "_law_divisor" "_law_divisor" (defArgs s__law_divisor) (defBody s__law_divisor) (defScope s__law_divisor) .none kV__law_divisor dc__law_divisor pm__law_divisor an__law_divisor cd__law_divisor ct__law_divisor), sl__law_divisor⟩)
  (c__law_divisor : PySem.W.codeIn K cd__law_divisor "_law_divisor" = true)
  (k__law_divisor : PySem.W.keepIn K (.ref f__law_divisor) = true)
  (a__law_is_point : PySem.W.nsIn K mainGlobals "_law_is_point" = some (some (.ref f__law_is_point)))
  (l__law_is_point : K.lookup f__law_is_point = some ⟨oc__law_is_point, od__law_is_point, .func (PySem.W.fnOf "_law_is_point" "_law_is_point" (defArgs s__law_is_point) (defBody s__law_is_point) (defScope s__law_is_point) .none kV__law_is_point dc__law_is_point pm__law_is_point an__law_is_point cd__law_is_point ct__law_is_point), sl__law_is_point⟩)
  (c__law_is_point : PySem.W.codeIn K cd__law_is_point "_law_is_point" = true)
  (k__law_is_point : PySem.W.keepIn K (.ref f__law_is_point) = true)
  (a__law_way : PySem.W.nsIn K mainGlobals "_law_way" = some (some (.ref f__law_way)))
  (l__law_way : K.lookup f__law_way = some ⟨oc__law_way, od__law_way, .func (PySem.W.fnOf "_law_way" "_law_way" (defArgs s__law_way) (defBody s__law_way) (defScope s__law_way) .none kV__law_way dc__law_way pm__law_way an__law_way cd__law_way ct__law_way), sl__law_way⟩)
  (c__law_way : PySem.W.codeIn K cd__law_way "_law_way" = true)
  (k__law_way : PySem.W.keepIn K (.ref f__law_way) = true)
  (a__law_side : PySem.W.nsIn K mainGlobals "_law_side" = some (some (.ref f__law_side)))
  (l__law_side : K.lookup f__law_side = some ⟨oc__law_side, od__law_side, .func (PySem.W.fnOf "_law_side" "_law_side" (defArgs s__law_side) (defBody s__law_side) (defScope s__law_side) .none kV__law_side dc__law_side pm__law_side an__law_side cd__law_side ct__law_side), sl__law_side⟩)
  (c__law_side : PySem.W.codeIn K cd__law_side "_law_side" = true)
  (k__law_side : PySem.W.keepIn K (.ref f__law_side) = true)
  (a__law_held : PySem.W.nsIn K mainGlobals "_law_held" = some (some (.ref f__law_held)))
  (l__law_held : K.lookup f__law_held = some ⟨oc__law_held, od__law_held, .func (PySem.W.fnOf "_law_held" "_law_held" (defArgs s__law_held) (defBody s__law_held) (defScope s__law_held) .none kV__law_held dc__law_held pm__law_held an__law_held cd__law_held ct__law_held), sl__law_held⟩)
  (c__law_held : PySem.W.codeIn K cd__law_held "_law_held" = true)
  (k__law_held : PySem.W.keepIn K (.ref f__law_held) = true)
  (a__law_right : PySem.W.nsIn K mainGlobals "_law_right" = some (some (.ref f__law_right)))
  (l__law_right : K.lookup f__law_right = some ⟨oc__law_right, od__law_right, .func (PySem.W.fnOf "_law_right" "_law_right" (defArgs s__law_right) (defBody s__law_right) (defScope s__law_right) .none kV__law_right dc__law_right pm__law_right an__law_right cd__law_right ct__law_right), sl__law_right⟩)
  (c__law_right : PySem.W.codeIn K cd__law_right "_law_right" = true)
  (k__law_right : PySem.W.keepIn K (.ref f__law_right) = true)
  (a__law_refused : PySem.W.nsIn K mainGlobals "_law_refused" = some (some (.ref f__law_refused)))
  (l__law_refused : K.lookup f__law_refused = some ⟨oc__law_refused, od__law_refused, .func (PySem.W.fnOf "_law_refused" "_law_refused" (defArgs s__law_refused) (defBody s__law_refused) (defScope s__law_refused) .none kV__law_refused dc__law_refused pm__law_refused an__law_refused cd__law_refused ct__law_refused), sl__law_refused⟩)
  (c__law_refused : PySem.W.codeIn K cd__law_refused "_law_refused" = true)
  (k__law_refused : PySem.W.keepIn K (.ref f__law_refused) = true)
  (a_law : PySem.W.nsIn K mainGlobals "law" = some (some (.ref f_law)))
  (l_law : K.lookup f_law = some ⟨oc_law, od_law, .func (PySem.W.fnOf "law" "law" (defArgs s_law) (defBody s_law) (defScope s_law) .none kV_law dc_law pm_law an_law cd_law ct_law), sl_law⟩)
  (c_law : PySem.W.codeIn K cd_law "law" = true)
  (k_law : PySem.W.keepIn K (.ref f_law) = true)
  (z_abs : PySem.W.nsIn K mainGlobals "abs" = some none)
  (z_all : PySem.W.nsIn K mainGlobals "all" = some none)
  (z_bool : PySem.W.nsIn K mainGlobals "bool" = some none)
  (z_enumerate : PySem.W.nsIn K mainGlobals "enumerate" = some none)
  (z_int : PySem.W.nsIn K mainGlobals "int" = some none)
  (z_isinstance : PySem.W.nsIn K mainGlobals "isinstance" = some none)
  (z_len : PySem.W.nsIn K mainGlobals "len" = some none)
  (z_list : PySem.W.nsIn K mainGlobals "list" = some none)
  (z_max : PySem.W.nsIn K mainGlobals "max" = some none)
  (z_min : PySem.W.nsIn K mainGlobals "min" = some none)
  (z_range : PySem.W.nsIn K mainGlobals "range" = some none)
  (z_super : PySem.W.nsIn K mainGlobals "super" = some none)
  (z_tuple : PySem.W.nsIn K mainGlobals "tuple" = some none)
  (a_MOST_SPOTS : PySem.W.nsIn K mainGlobals "MOST_SPOTS" = some (some (.int 12 tk_MOST_SPOTS)))
  (a_TooMany : PySem.W.nsIn K mainGlobals "TooMany" = some (some (.ref cl_TooMany)))
  (a_NoSpot : PySem.W.nsIn K mainGlobals "NoSpot" = some (some (.ref cl_NoSpot)))
  (x1_TooMany : PySem.W.excIn K cl_TooMany [.type "ValueError", .type "Exception", .type "BaseException", .type "object"] "ValueError.__new__" = true)
  (x2_TooMany : PySem.W.findIn K (.ref cl_TooMany) "__getattribute__" = some (some (.builtin "BaseException.__getattribute__")))
  (x3_TooMany : PySem.W.findIn K (.ref cl_TooMany) "__getattr__" = some none)
  (x4_TooMany : PySem.W.findIn K (.ref cl_TooMany) "__class__" = some (some (.builtin "object.__class__")))
  (x5_TooMany : PySem.W.specialIn K (.builtin "object.__class__") "__get__" = some (some (.builtin "getset_descriptor.__get__")))
  (x6_TooMany : PySem.W.takesIn K (.builtin "object.__class__") = some true)
  (x7_TooMany : PySem.W.clsIn K cl_TooMany = some cdt_TooMany)
  (x8_TooMany : PySem.W.mroIn K cl_TooMany (.type "BaseException") = some true)
  (x9_TooMany : PySem.W.mroIn K cl_TooMany (.type "object") = some true)
  (y1_ : K.lookup cl_NoSpot = some (excClassObj ynm yq cl_NoSpot yN ybs (.ref yD :: veB) true ysn ysub yab ycol ydd yk0 yk1 yk2 yk3 yk5 "ValueError.__new__"))
  (y2_ : PySem.W.tailIn K veB (.ref yD :: veB) = true)
  (y3_ : PySem.W.nsOkIn K yN = true)
  (y4_ : PySem.W.nsIn K yN "__init__" = some (some (.ref yfI)))
  (y5_ : PySem.W.alongIn K "__init__" (.ref yD :: veB) = some (some veInit))
  (y6_ : K.lookup yfI = some ⟨.type "function", yod, .func (PySem.W.fnX "__init__" yqual (initParams ⟨12, 17, 12, 21⟩ ⟨12, 23, 12, 25⟩) (initBody yx yn ⟨13, 8, 13, 13⟩ ⟨13, 8, 13, 15⟩ ⟨13, 8, 13, 24⟩ ⟨13, 25, 13, 46⟩ ⟨13, 8, 13, 47⟩ ⟨13, 8, 13, 47⟩ ⟨14, 8, 14, 12⟩ ⟨14, 8, 14, 15⟩ ⟨14, 18, 14, 20⟩ ⟨14, 8, 14, 20⟩) initScope [("__class__", ycc)] .none ykV ydoc ypm yan (.ref ycda) yct), yosl⟩)
  (y7_ : PySem.W.codeIn K (.ref ycda) yqual = true)
  (y8_ : K.lookup ycc = some ⟨yccl, yccd, .cell (some (.ref cl_NoSpot)), yccs⟩)
  (y9_ : K.lookup ycda = some ⟨ycdl, ycdd, .fields yvs, ycds⟩)
  (y10_ : yvs[2]? = some (.str yfile ytf))
  (y11_ : (l.prog.main.file == yfile) = true)
  (y12_ : (l.prog.main.scope.names.lookup ("super" : Str)).isSome = false)
  (y14_ : PySem.W.nsIn K cStatics "thirdparty.any" = some none)
  (y15_ : PySem.W.mroIn K cl_NoSpot (.ref cl_NoSpot) = some true)
  (y16_ : PySem.W.mroIn K cl_NoSpot (.type "ValueError") = some true)
  (y17_ : PySem.W.mroIn K cl_NoSpot (.type "object") = some true)
  (y18_ : (PySem.W.findIn K (.ref cl_NoSpot) "__setattr__" = some (some (.builtin "object.__setattr__"))))
  (y19_ : (PySem.W.findIn K (.ref cl_NoSpot) "at" = some none))
  (y20_ : PySem.W.keepIn K (.ref cl_NoSpot) = true)
  (y21_ : (PySem.W.findIn K (.ref cl_NoSpot) "__getattribute__" = some (some (.builtin "BaseException.__getattribute__"))))
  (y22_ : (PySem.W.findIn K (.ref cl_NoSpot) "__getattr__" = some none))
  (y23_ : (PySem.W.findIn K (.ref cl_NoSpot) "__class__" = some (some (.builtin "object.__class__"))))
  (y24_ : PySem.W.specialIn K (.builtin "object.__class__") "__get__" = some (some (.builtin "getset_descriptor.__get__")))
  (y25_ : PySem.W.takesIn K (.builtin "object.__class__") = some true)
  (y26_ : PySem.W.clsIn K cl_NoSpot = some ycdt)
  (y27_ : PySem.W.mroIn K cl_NoSpot (.type "BaseException") = some true)
  (y28_ : PySem.W.hasDictIn K cl_NoSpot = true)
  (m_TooMany_TooMany : PySem.W.exmOne K (.ref cl_TooMany) (.ref cl_TooMany) = some true)
  (m_NoSpot_TooMany : PySem.W.exmOne K (.ref cl_NoSpot) (.ref cl_TooMany) = some false)
  (m_NoSpot_NoSpot : PySem.W.exmOne K (.ref cl_NoSpot) (.ref cl_NoSpot) = some true)
  (i_TooMany_NoSpot : PySem.W.kitOne K (.ref cl_TooMany) (.ref cl_NoSpot) = some false) :
  ∃ fd : FuncData, (∀ (s : Shared) (v : Value), BindsTo s fd ⟨[v], []⟩ [("_law_script", v)]) ∧ ∀ base : Heap, K.In base → base.Ns mainGlobals mg → FnOk l.prog w K mg base (CXE l.prog w) 7 fa fd ["_law_script"] (sp_law K) := by
 have e := hfa.symm.trans (PySem.W.mg_of X G a_law)
 cases e
 have T : Txt l.prog K mg ⟨cl_TooMany, cl_NoSpot⟩ := ⟨PySem.W.mg_none_of X G z_abs, PySem.W.mg_none_of X G z_all, PySem.W.mg_none_of X G z_bool, PySem.W.mg_none_of X G z_enumerate, PySem.W.mg_none_of X G z_int, PySem.W.mg_none_of X G z_isinstance, PySem.W.mg_none_of X G z_len, PySem.W.mg_none_of X G z_list, PySem.W.mg_none_of X G z_max, PySem.W.mg_none_of X G z_min, PySem.W.mg_none_of X G z_range, PySem.W.mg_none_of X G z_super, PySem.W.mg_none_of X G z_tuple, ⟨_, ⟨_, _, _, _, _, _, _, _, _, _, _, _, _, _, _, y1_, y2_, y3_, y4_, y5_⟩, ⟨_, ⟨12, 17, 12, 21⟩, ⟨12, 23, 12, 25⟩, _, _, ⟨13, 8, 13, 13⟩, ⟨13, 8, 13, 15⟩, ⟨13, 8, 13, 24⟩, ⟨13, 25, 13, 46⟩, ⟨13, 8, 13, 47⟩, ⟨13, 8, 13, 47⟩, ⟨14, 8, 14, 12⟩, ⟨14, 8, 14, 15⟩, ⟨14, 18, 14, 20⟩, ⟨14, 8, 14, 20⟩, _, _, _, _, _, _, _, _, _, _, _, _, _, _, _, _, _, _, y6_, y7_, y8_, y9_, y10_, y11_, y12_, rfl⟩, y14_, y15_, y16_, y17_, y18_, y19_⟩, y20_, ⟨y21_, y22_, y23_, y24_, y25_, by rw [y26_]; rfl, y27_, y17_⟩, y19_, y28_, PySem.W.mg_of X G a_TooMany, PySem.W.mg_of X G a_NoSpot, ⟨x1_TooMany, x2_TooMany, x3_TooMany, x4_TooMany, x5_TooMany, x6_TooMany, (by rw [x7_TooMany]; rfl), x8_TooMany, x9_TooMany⟩, ⟨_, PySem.W.mg_of X G a_MOST_SPOTS⟩, m_TooMany_TooMany, m_NoSpot_TooMany, m_NoSpot_NoSpot, i_TooMany_NoSpot⟩
 have U_divisor := fun_mk (st := s_divisor) l_divisor c_divisor k_divisor
 have B_divisor := U_divisor.binds (ps := ["one", "other"]) fun _ _ _ _ _ _ us hl => by obtain ⟨u0, u1, rfl⟩ := len_2 hl; rfl
 have U_sign := fun_mk (st := s_sign) l_sign c_sign k_sign
 have B_sign := U_sign.binds (ps := ["number"]) fun _ _ _ _ _ _ us hl => by obtain ⟨u0, rfl⟩ := len_1 hl; rfl
 have U_point_of := fun_mk (st := s_point_of) l_point_of c_point_of k_point_of
 have B_point_of := U_point_of.binds (ps := ["x", "y", "w"]) fun _ _ _ _ _ _ us hl => by obtain ⟨u0, u1, u2, rfl⟩ := len_3 hl; rfl
 have U_spot_point := fun_mk (st := s_spot_point) l_spot_point c_spot_point k_spot_point
 have B_spot_point := U_spot_point.binds (ps := ["spot"]) fun _ _ _ _ _ _ us hl => by obtain ⟨u0, rfl⟩ := len_1 hl; rfl
 have U_fraction_of := fun_mk (st := s_fraction_of) l_fraction_of c_fraction_of k_fraction_of
 have B_fraction_of := U_fraction_of.binds (ps := ["top", "bottom"]) fun _ _ _ _ _ _ us hl => by obtain ⟨u0, u1, rfl⟩ := len_2 hl; rfl
 have U_less := fun_mk (st := s_less) l_less c_less k_less
 have B_less := U_less.binds (ps := ["one", "other"]) fun _ _ _ _ _ _ us hl => by obtain ⟨u0, u1, rfl⟩ := len_2 hl; rfl
 have U_scaled_square := fun_mk (st := s_scaled_square) l_scaled_square c_scaled_square k_scaled_square
 have B_scaled_square := U_scaled_square.binds (ps := ["point", "spot"]) fun _ _ _ _ _ _ us hl => by obtain ⟨u0, u1, rfl⟩ := len_2 hl; rfl
 have U_square := fun_mk (st := s_square) l_square c_square k_square
 have B_square := U_square.binds (ps := ["point", "spot"]) fun _ _ _ _ _ _ us hl => by obtain ⟨u0, u1, rfl⟩ := len_2 hl; rfl
 have U_line_of := fun_mk (st := s_line_of) l_line_of c_line_of k_line_of
 have B_line_of := U_line_of.binds (ps := ["a", "b", "c"]) fun _ _ _ _ _ _ us hl => by obtain ⟨u0, u1, u2, rfl⟩ := len_3 hl; rfl
 have U_between := fun_mk (st := s_between) l_between c_between k_between
 have B_between := U_between.binds (ps := ["one", "other"]) fun _ _ _ _ _ _ us hl => by obtain ⟨u0, u1, rfl⟩ := len_2 hl; rfl
 have U_meet := fun_mk (st := s_meet) l_meet c_meet k_meet
 have B_meet := U_meet.binds (ps := ["one", "other"]) fun _ _ _ _ _ _ us hl => by obtain ⟨u0, u1, rfl⟩ := len_2 hl; rfl
 have U_check_count := fun_mk (st := s_check_count) l_check_count c_check_count k_check_count
 have B_check_count := U_check_count.binds (ps := ["spots"]) fun _ _ _ _ _ _ us hl => by obtain ⟨u0, rfl⟩ := len_1 hl; rfl
 have U_check_spots := fun_mk (st := s_check_spots) l_check_spots c_check_spots k_check_spots
 have B_check_spots := U_check_spots.binds (ps := ["spots"]) fun _ _ _ _ _ _ us hl => by obtain ⟨u0, rfl⟩ := len_1 hl; rfl
 have U_farthest := fun_mk (st := s_farthest) l_farthest c_farthest k_farthest
 have B_farthest := U_farthest.binds (ps := ["spots", "point"]) fun _ _ _ _ _ _ us hl => by obtain ⟨u0, u1, rfl⟩ := len_2 hl; rfl
 have U_middle := fun_mk (st := s_middle) l_middle c_middle k_middle
 have B_middle := U_middle.binds (ps := ["one", "other"]) fun _ _ _ _ _ _ us hl => by obtain ⟨u0, u1, rfl⟩ := len_2 hl; rfl
 have U_ring_centres := fun_mk (st := s_ring_centres) l_ring_centres c_ring_centres k_ring_centres
 have B_ring_centres := U_ring_centres.binds (ps := ["spots"]) fun _ _ _ _ _ _ us hl => by obtain ⟨u0, rfl⟩ := len_1 hl; rfl
 have U_least_ring := fun_mk (st := s_least_ring) l_least_ring c_least_ring k_least_ring
 have B_least_ring := U_least_ring.binds (ps := ["spots"]) fun _ _ _ _ _ _ us hl => by obtain ⟨u0, rfl⟩ := len_1 hl; rfl
 have U__law_feed := fun_mk (st := s__law_feed) l__law_feed c__law_feed k__law_feed
 have B__law_feed := U__law_feed.binds (ps := ["_law_script"]) fun _ _ _ _ _ _ us hl => by obtain ⟨u0, rfl⟩ := len_1 hl; rfl
 have U__law_draw := fun_mk (st := s__law_draw) l__law_draw c__law_draw k__law_draw
 have B__law_draw := U__law_draw.binds (ps := ["_law_feed_here", "_law_many"]) fun _ _ _ _ _ _ us hl => by obtain ⟨u0, u1, rfl⟩ := len_2 hl; rfl
 have U__law_great := fun_mk (st := s__law_great) l__law_great c__law_great k__law_great
 have B__law_great := U__law_great.binds (ps := ["_law_feed_here", "_law_pieces"]) fun _ _ _ _ _ _ us hl => by obtain ⟨u0, u1, rfl⟩ := len_2 hl; rfl
 have U__law_scale := fun_mk (st := s__law_scale) l__law_scale c__law_scale k__law_scale
 have B__law_scale := U__law_scale.binds (ps := ["_law_feed_here"]) fun _ _ _ _ _ _ us hl => by obtain ⟨u0, rfl⟩ := len_1 hl; rfl
 have U__law_spot := fun_mk (st := s__law_spot) l__law_spot c__law_spot k__law_spot
 have B__law_spot := U__law_spot.binds (ps := ["_law_feed_here", "_law_style"]) fun _ _ _ _ _ _ us hl => by obtain ⟨u0, u1, rfl⟩ := len_2 hl; rfl
 have U__law_dozen := fun_mk (st := s__law_dozen) l__law_dozen c__law_dozen k__law_dozen
 have B__law_dozen := U__law_dozen.binds (ps := ["_law_feed_here"]) fun _ _ _ _ _ _ us hl => by obtain ⟨u0, rfl⟩ := len_1 hl; rfl
 have U__law_spots := fun_mk (st := s__law_spots) l__law_spots c__law_spots k__law_spots
 have B__law_spots := U__law_spots.binds (ps := ["_law_feed_here", "_law_least", "_law_most"]) fun _ _ _ _ _ _ us hl => by obtain ⟨u0, u1, u2, rfl⟩ := len_3 hl; rfl
 have U__law_world := fun_mk (st := s__law_world) l__law_world c__law_world k__law_world
 have B__law_world := U__law_world.binds (ps := ["_law_feed_here", "_law_least", "_law_most"]) fun _ _ _ _ _ _ us hl => by obtain ⟨u0, u1, u2, rfl⟩ := len_3 hl; rfl
 have U__law_frac := fun_mk (st := s__law_frac) l__law_frac c__law_frac k__law_frac
 have B__law_frac := U__law_frac.binds (ps := ["_law_top", "_law_bottom"]) fun _ _ _ _ _ _ us hl => by obtain ⟨u0, u1, rfl⟩ := len_2 hl; rfl
 have U__law_whole := fun_mk (st := s__law_whole) l__law_whole c__law_whole k__law_whole
 have B__law_whole := U__law_whole.binds (ps := ["_law_thing"]) fun _ _ _ _ _ _ us hl => by obtain ⟨u0, rfl⟩ := len_1 hl; rfl
 have U__law_divisor := fun_mk (st := s__law_divisor) l__law_divisor c__law_divisor k__law_divisor
 have B__law_divisor := U__law_divisor.binds (ps := ["_law_one", "_law_other"]) fun _ _ _ _ _ _ us hl => by obtain ⟨u0, u1, rfl⟩ := len_2 hl; rfl
 have U__law_is_point := fun_mk (st := s__law_is_point) l__law_is_point c__law_is_point k__law_is_point
 have B__law_is_point := U__law_is_point.binds (ps := ["_law_thing"]) fun _ _ _ _ _ _ us hl => by obtain ⟨u0, rfl⟩ := len_1 hl; rfl
 have U__law_way := fun_mk (st := s__law_way) l__law_way c__law_way k__law_way
 have B__law_way := U__law_way.binds (ps := ["_law_point", "_law_spot_here"]) fun _ _ _ _ _ _ us hl => by obtain ⟨u0, u1, rfl⟩ := len_2 hl; rfl
 have U__law_side := fun_mk (st := s__law_side) l__law_side c__law_side k__law_side
 have B__law_side := U__law_side.binds (ps := ["_law_one", "_law_other", "_law_third"]) fun _ _ _ _ _ _ us hl => by obtain ⟨u0, u1, u2, rfl⟩ := len_3 hl; rfl
 have U__law_held := fun_mk (st := s__law_held) l__law_held c__law_held k__law_held
 have B__law_held := U__law_held.binds (ps := ["_law_spots_here", "_law_centre", "_law_on"]) fun _ _ _ _ _ _ us hl => by obtain ⟨u0, u1, u2, rfl⟩ := len_3 hl; rfl
 have U__law_right := fun_mk (st := s__law_right) l__law_right c__law_right k__law_right
 have B__law_right := U__law_right.binds (ps := ["_law_spots_here"]) fun _ _ _ _ _ _ us hl => by obtain ⟨u0, rfl⟩ := len_1 hl; rfl
 have U__law_refused := fun_mk (st := s__law_refused) l__law_refused c__law_refused k__law_refused
 have B__law_refused := U__law_refused.binds (ps := ["_law_spots_here"]) fun _ _ _ _ _ _ us hl => by obtain ⟨u0, rfl⟩ := len_1 hl; rfl
 have U_law := fun_mk (st := s_law) l_law c_law k_law
 refine ⟨PySem.W.fnOf "law" "law" (defArgs s_law) (defBody s_law) (defScope s_law) .none kV_law dc_law pm_law an_law cd_law ct_law, fun s v => .of_eq rfl, fun base _ _ => ?_⟩
 have F_divisor : FnB l.prog w K mg base (CXE l.prog w) 1 "divisor" ["one", "other"] sp_divisor := .of (ok_divisor U_divisor T ) (PySem.W.mg_of X G a_divisor) k_divisor B_divisor
 have F_sign : FnB l.prog w K mg base (CXE l.prog w) 1 "sign" ["number"] sp_sign := .of (ok_sign U_sign T ) (PySem.W.mg_of X G a_sign) k_sign B_sign
 have F_point_of : FnB l.prog w K mg base (CXE l.prog w) 2 "point_of" ["x", "y", "w"] sp_point_of := .of (ok_point_of U_point_of T F_divisor F_sign) (PySem.W.mg_of X G a_point_of) k_point_of B_point_of
 have F_spot_point : FnB l.prog w K mg base (CXE l.prog w) 1 "spot_point" ["spot"] sp_spot_point := .of (ok_spot_point U_spot_point T ) (PySem.W.mg_of X G a_spot_point) k_spot_point B_spot_point
 have F_fraction_of : FnB l.prog w K mg base (CXE l.prog w) 2 "fraction_of" ["top", "bottom"] sp_fraction_of := .of (ok_fraction_of U_fraction_of T F_divisor F_sign) (PySem.W.mg_of X G a_fraction_of) k_fraction_of B_fraction_of
 have F_less : FnB l.prog w K mg base (CXE l.prog w) 1 "less" ["one", "other"] sp_less := .of (ok_less U_less T ) (PySem.W.mg_of X G a_less) k_less B_less
 have F_scaled_square : FnB l.prog w K mg base (CXE l.prog w) 1 "scaled_square" ["point", "spot"] sp_scaled_square := .of (ok_scaled_square U_scaled_square T ) (PySem.W.mg_of X G a_scaled_square) k_scaled_square B_scaled_square
 have F_square : FnB l.prog w K mg base (CXE l.prog w) 3 "square" ["point", "spot"] sp_square := .of (ok_square U_square T F_scaled_square F_fraction_of) (PySem.W.mg_of X G a_square) k_square B_square
 have F_line_of : FnB l.prog w K mg base (CXE l.prog w) 2 "line_of" ["a", "b", "c"] sp_line_of := .of (ok_line_of U_line_of T F_divisor) (PySem.W.mg_of X G a_line_of) k_line_of B_line_of
 have F_between : FnB l.prog w K mg base (CXE l.prog w) 3 "between" ["one", "other"] sp_between := .of (ok_between U_between T F_line_of) (PySem.W.mg_of X G a_between) k_between B_between
 have F_meet : FnB l.prog w K mg base (CXE l.prog w) 3 "meet" ["one", "other"] sp_meet := .of (ok_meet U_meet T F_point_of) (PySem.W.mg_of X G a_meet) k_meet B_meet
 have F_check_count : FnB l.prog w K mg base (CXE l.prog w) 1 "check_count" ["spots"] (sp_check_countE ⟨cl_TooMany, cl_NoSpot⟩) := .of (ok_check_count U_check_count T ) (PySem.W.mg_of X G a_check_count) k_check_count B_check_count
 have F_check_spots : FnB l.prog w K mg base (CXE l.prog w) 2 "check_spots" ["spots"] (sp_csE K ⟨cl_TooMany, cl_NoSpot⟩) := .of (ok_check_spots U_check_spots T F_check_count) (PySem.W.mg_of X G a_check_spots) k_check_spots B_check_spots
 have F_farthest : FnB l.prog w K mg base (CXE l.prog w) 2 "farthest" ["spots", "point"] (sp_farthest K) := .of (ok_farthest U_farthest T F_scaled_square) (PySem.W.mg_of X G a_farthest) k_farthest B_farthest
 have F_middle : FnB l.prog w K mg base (CXE l.prog w) 3 "middle" ["one", "other"] sp_middle := .of (ok_middle U_middle T F_point_of) (PySem.W.mg_of X G a_middle) k_middle B_middle
 have F_ring_centres : FnB l.prog w K mg base (CXE l.prog w) 4 "ring_centres" ["spots"] (sp_centres K) := .of (ok_ring_centres U_ring_centres T F_between F_meet F_middle F_spot_point) (PySem.W.mg_of X G a_ring_centres) k_ring_centres B_ring_centres
 have F_least_ring : FnB l.prog w K mg base (CXE l.prog w) 5 "least_ring" ["spots"] (sp_ringE K ⟨cl_TooMany, cl_NoSpot⟩) := .of (ok_least_ring U_least_ring T F_square F_scaled_square F_less F_ring_centres F_farthest F_check_spots) (PySem.W.mg_of X G a_least_ring) k_least_ring B_least_ring
 have F__law_feed : FnB l.prog w K mg base (CXE l.prog w) 1 "_law_feed" ["_law_script"] (sp_feed K) := .of (ok__law_feed U__law_feed T ) (PySem.W.mg_of X G a__law_feed) k__law_feed B__law_feed
 have F__law_draw : FnB l.prog w K mg base (CXE l.prog w) 1 "_law_draw" ["_law_feed_here", "_law_many"] sp_draw := .of (ok__law_draw U__law_draw T ) (PySem.W.mg_of X G a__law_draw) k__law_draw B__law_draw
 have F__law_great : FnB l.prog w K mg base (CXE l.prog w) 2 "_law_great" ["_law_feed_here", "_law_pieces"] sp_great := .of (ok__law_great U__law_great T F__law_draw) (PySem.W.mg_of X G a__law_great) k__law_great B__law_great
 have F__law_scale : FnB l.prog w K mg base (CXE l.prog w) 3 "_law_scale" ["_law_feed_here"] sp_scale := .of (ok__law_scale U__law_scale T F__law_great F__law_draw) (PySem.W.mg_of X G a__law_scale) k__law_scale B__law_scale
 have F__law_spot : FnB l.prog w K mg base (CXE l.prog w) 2 "_law_spot" ["_law_feed_here", "_law_style"] sp_spot := .of (ok__law_spot U__law_spot T F__law_draw) (PySem.W.mg_of X G a__law_spot) k__law_spot B__law_spot
 have F__law_dozen : FnB l.prog w K mg base (CXE l.prog w) 2 "_law_dozen" ["_law_feed_here"] sp_dozen := .of (ok__law_dozen U__law_dozen T F__law_draw) (PySem.W.mg_of X G a__law_dozen) k__law_dozen B__law_dozen
 have F__law_spots : FnB l.prog w K mg base (CXE l.prog w) 3 "_law_spots" ["_law_feed_here", "_law_least", "_law_most"] (sp_spots K) := .of (ok__law_spots U__law_spots T F__law_draw F__law_spot F__law_dozen) (PySem.W.mg_of X G a__law_spots) k__law_spots B__law_spots
 have F__law_world : FnB l.prog w K mg base (CXE l.prog w) 4 "_law_world" ["_law_feed_here", "_law_least", "_law_most"] (sp_world K) := .of (ok__law_world U__law_world T F__law_draw F__law_scale F__law_spots) (PySem.W.mg_of X G a__law_world) k__law_world B__law_world
 have F__law_frac : FnB l.prog w K mg base (CXE l.prog w) 1 "_law_frac" ["_law_top", "_law_bottom"] sp_frac := .of (ok__law_frac U__law_frac T ) (PySem.W.mg_of X G a__law_frac) k__law_frac B__law_frac
 have F__law_whole : FnB l.prog w K mg base (CXE l.prog w) 1 "_law_whole" ["_law_thing"] sp__law_whole := .of (ok__law_whole U__law_whole T ) (PySem.W.mg_of X G a__law_whole) k__law_whole B__law_whole
 have F__law_divisor : FnB l.prog w K mg base (CXE l.prog w) 1 "_law_divisor" ["_law_one", "_law_other"] sp__law_divisor := .of (ok__law_divisor U__law_divisor T ) (PySem.W.mg_of X G a__law_divisor) k__law_divisor B__law_divisor
 have F__law_is_point : FnB l.prog w K mg base (CXE l.prog w) 2 "_law_is_point" ["_law_thing"] (sp_ispt K) := .of (ok__law_is_point U__law_is_point T F__law_divisor F__law_whole) (PySem.W.mg_of X G a__law_is_point) k__law_is_point B__law_is_point
 have F__law_way : FnB l.prog w K mg base (CXE l.prog w) 1 "_law_way" ["_law_point", "_law_spot_here"] sp_way := .of (ok__law_way U__law_way T ) (PySem.W.mg_of X G a__law_way) k__law_way B__law_way
 have F__law_side : FnB l.prog w K mg base (CXE l.prog w) 1 "_law_side" ["_law_one", "_law_other", "_law_third"] sp_side := .of (ok__law_side U__law_side T ) (PySem.W.mg_of X G a__law_side) k__law_side B__law_side
 have F__law_held : FnB l.prog w K mg base (CXE l.prog w) 2 "_law_held" ["_law_spots_here", "_law_centre", "_law_on"] (sp_held K) := .of (ok__law_held U__law_held T F__law_side) (PySem.W.mg_of X G a__law_held) k__law_held B__law_held
 have F__law_right : FnB l.prog w K mg base (CXE l.prog w) 6 "_law_right" ["_law_spots_here"] (sp_right K) := .of (ok__law_right U__law_right T F__law_held F__law_whole F__law_frac F__law_way F__law_is_point (F_least_ring.imp fun _ _ _ _ => ring_weak)) (PySem.W.mg_of X G a__law_right) k__law_right B__law_right
 have F__law_refused : FnB l.prog w K mg base (CXE l.prog w) 6 "_law_refused" ["_law_spots_here"] (sp_refused K) := .of (ok__law_refused U__law_refused T F_least_ring) (PySem.W.mg_of X G a__law_refused) k__law_refused B__law_refused
 exact ok_law U_law T F__law_refused F__law_draw F__law_right F__law_world F__law_feed
theorem walk {l : PySem.W.OpenLaw} {q : Program} {loose : List Str} {XP : (Str → Option Value) → Heap → Prop} {YP : World → Heap → Prop} {d : DefRec} {K : Params → PySem.W.Frag} (hn : l.most = some 63) (hdf : d.params.defaults = [])
  (hY : ∀ (w : World) (h : Heap), YP w h → (K w.params).In h)
  (F : ∀ (w : World) (mg : Str → Option Value) (fa : Addr) (h : Heap), (K w.params).In h → h.Ns mainGlobals mg → mg d.name = some (.ref fa) →
   ∃ fd : FuncData, (∀ (s : Shared) (u : Value), BindsTo s fd ⟨[u], []⟩ [("_law_script", u)]) ∧ ∀ base : Heap, (K w.params).In base → base.Ns mainGlobals mg → FnOk l.prog w (K w.params) mg base (CXE l.prog w) 7 fa fd ["_law_script"] (sp_law (K w.params))) :
  PySem.W.WalkO q loose XP YP l.row.toRowW d [] (fun f vs => PySem.call f vs) :=
 L2.walk_of (n := 63) (k := 7) (x := "_law_script") (CX := fun w => (CXE l.prog w)) (sp := fun w => sp_law (K w.params)) hn (by decide) hdf ⟨rfl, by decide, by decide⟩ hY F (fun _ _ a ns hl _ hS => ⟨a, ns, rfl, hS, hl, fun _ => rfl⟩) fun _ _ _ _ _ z => (by obtain ⟨_, _, _, _, _, _, _, _, _, _, _, _, _, _, _, hE⟩ := z; exact hE)
end LW
end
namespace LW
open PySem
noncomputable def isN : Stmt → Bool
 | .Assign [.Name x _] _ _ => x == ("__name__" : Str)
 | _ => false
noncomputable def qv : Program := { PySem.Challenge.pw_nearlands_k68_the_least_ring with main := { PySem.Challenge.pw_nearlands_k68_the_least_ring.main with body := PySem.Challenge.pw_nearlands_k68_the_least_ring.main.body.filter fun s => !isN s } }
end LW
open PySem PySem.W PyProof.Rows
local macro_rules | `(tactic| o_head $H) => `(tactic| (refine holds_open (q := LW.qv) (loose := []) (Xt := fun s => xlAt LW.qv [] s && recOk (RowW.records PySem.Challenge.rw_nearlands_k68_the_least_ring.row.toRowW) s) (XP := XL LW.qv []) (Yf := Hook.obs $H) (Ya := Hook.val $H) (YP := Hook.says $H) (N := 30000) ?hl (Hook.of $H) (Hook.keeps $H) (fun s e => xl_of s (Bool.and_eq_true_iff.mp e).1) XL.keeps (by rfl) (by rfl) (by rfl) (fun s e => recFacts_of (Bool.and_eq_true_iff.mp e).2) (by rfl) (by first | assumption | decide +kernel) (by decide +kernel) ⟨rfl, rfl, rfl, rfl, rfl, by decide +kernel⟩ ?hw ?hc))
set_option maxRecDepth 100000 in
set_option maxHeartbeats 0 in
theorem PySem.Challenge.cw_nearlands_k68_the_least_ring_holds : PySem.Challenge.rw_nearlands_k68_the_least_ring.Holds := by
 w_on; o_law; k_head
 case hl =>
  intro w
  unfold openEnds fencedOpening topFrom
  rw [Fast.te10274390034422433532, Fast.te14082659384304107361, Fast.te14289696077712309145, Fast.te4187177175401517315, Fast.te1435165496053646825, Fast.te14364793385576792824]
  kernel_rfl
 case hw => w_witness2
 k_fill
 refine LW.walk (l := PySem.Challenge.rw_nearlands_k68_the_least_ring) rfl rfl (fun w h Y => PySem.W.kIn_of Y) ?F
 case F =>
  intro w mg fa h KX G hmg
  refine' LW.all_mk KX G hmg ?a_divisor ?l_divisor ?c_divisor ?k_divisor ?a_sign ?l_sign ?c_sign ?k_sign ?a_point_of ?l_point_of ?c_point_of ?k_point_of ?a_spot_point ?l_spot_point ?c_spot_point ?k_spot_point ?a_fraction_of ?l_fraction_of ?c_fraction_of ?k_fraction_of ?a_less ?l_less ?c_less ?k_less ?a_scaled_square ?l_scaled_square ?c_scaled_square ?k_scaled_square ?a_square ?l_square ?c_square ?k_square ?a_line_of ?l_line_of ?c_line_of ?k_line_of ?a_between ?l_between ?c_between ?k_between ?a_meet ?l_meet ?c_meet ?k_meet ?a_check_count ?l_check_count ?c_check_count ?k_check_count ?a_check_spots ?l_check_spots ?c_check_spots ?k_check_spots ?a_farthest ?l_farthest ?c_farthest ?k_farthest ?a_middle ?l_middle ?c_middle ?k_middle ?a_ring_centres ?l_ring_centres ?c_ring_centres ?k_ring_centres ?a_least_ring ?l_least_ring ?c_least_ring ?k_least_ring ?a__law_feed ?l__law_feed ?c__law_feed ?k__law_feed ?a__law_draw ?l__law_draw ?c__law_draw ?k__law_draw ?a__law_great ?l__law_great ?c__law_great ?k__law_great ?a__law_scale ?l__law_scale ?c__law_scale ?k__law_scale ?a__law_spot ?l__law_spot ?c__law_spot ?k__law_spot ?a__law_dozen ?l__law_dozen ?c__law_dozen ?k__law_dozen ?a__law_spots ?l__law_spots ?c__law_spots ?k__law_spots ?a__law_world ?l__law_world ?c__law_world ?k__law_world ?a__law_frac ?l__law_frac ?c__law_frac ?k__law_frac ?a__law_whole ?l__law_whole ?c__law_whole ?k__law_whole ?a__law_divisor ?l__law_divisor ?c__law_divisor ?k__law_divisor ?a__law_is_point ?l__law_is_point ?c__law_is_point ?k__law_is_point ?a__law_way ?l__law_way ?c__law_way ?k__law_way ?a__law_side ?l__law_side ?c__law_side ?k__law_side ?a__law_held ?l__law_held ?c__law_held ?k__law_held ?a__law_right ?l__law_right ?c__law_right ?k__law_right ?a__law_refused ?l__law_refused ?c__law_refused ?k__law_refused ?a_law ?l_law ?c_law ?k_law ?z_abs ?z_all ?z_bool ?z_enumerate ?z_int ?z_isinstance ?z_len ?z_list ?z_max ?z_min ?z_range ?z_super ?z_tuple ?a_MOST_SPOTS ?a_TooMany ?a_NoSpot ?x1_TooMany ?x2_TooMany ?x3_TooMany ?x4_TooMany ?x5_TooMany ?x6_TooMany ?x7_TooMany ?x8_TooMany ?x9_TooMany ?y1_ ?y2_ ?y3_ ?y4_ ?y5_ ?y6_ ?y7_ ?y8_ ?y9_ ?y10_ ?y11_ ?y12_ ?y14_ ?y15_ ?y16_ ?y17_ ?y18_ ?y19_ ?y20_ ?y21_ ?y22_ ?y23_ ?y24_ ?y25_ ?y26_ ?y27_ ?y28_ ?m_TooMany_TooMany ?m_NoSpot_TooMany ?m_NoSpot_NoSpot ?i_TooMany_NoSpot
  (case a_divisor => k_is)
  (case l_divisor => k_is)
  (case c_divisor => k_is)
  (case k_divisor => k_is)
  (case a_sign => k_is)
  (case l_sign => k_is)
  (case c_sign => k_is)
  (case k_sign => k_is)
  (case a_point_of => k_is)
  (case l_point_of => k_is)
  (case c_point_of => k_is)
  (case k_point_of => k_is)
  (case a_spot_point => k_is)
  (case l_spot_point => k_is)
  (case c_spot_point => k_is)
  (case k_spot_point => k_is)
  (case a_fraction_of => k_is)
  (case l_fraction_of => k_is)
  (case c_fraction_of => k_is)
  (case k_fraction_of => k_is)
  (case a_less => k_is)
  (case l_less => k_is)
  (case c_less => k_is)
  (case k_less => k_is)
  (case a_scaled_square => k_is)
  (case l_scaled_square => k_is)
  (case c_scaled_square => k_is)
  (case k_scaled_square => k_is)
  (case a_square => k_is)
  (case l_square => k_is)
  (case c_square => k_is)
  (case k_square => k_is)
  (case a_line_of => k_is)
  (case l_line_of => k_is)
  (case c_line_of => k_is)
  (case k_line_of => k_is)
  (case a_between => k_is)
  (case l_between => k_is)
  (case c_between => k_is)
  (case k_between => k_is)
  (case a_meet => k_is)
  (case l_meet => k_is)
  (case c_meet => k_is)
  (case k_meet => k_is)
  (case a_check_count => k_is)
  (case l_check_count => k_is)
  (case c_check_count => k_is)
  (case k_check_count => k_is)
  (case a_check_spots => k_is)
  (case l_check_spots => k_is)
  (case c_check_spots => k_is)
  (case k_check_spots => k_is)
  (case a_farthest => k_is)
  (case l_farthest => k_is)
  (case c_farthest => k_is)
  (case k_farthest => k_is)
  (case a_middle => k_is)
  (case l_middle => k_is)
  (case c_middle => k_is)
  (case k_middle => k_is)
  (case a_ring_centres => k_is)
  (case l_ring_centres => k_is)
  (case c_ring_centres => k_is)
  (case k_ring_centres => k_is)
  (case a_least_ring => k_is)
  (case l_least_ring => k_is)
  (case c_least_ring => k_is)
  (case k_least_ring => k_is)
  (case a__law_feed => k_is)
  (case l__law_feed => k_is)
  (case c__law_feed => k_is)
  (case k__law_feed => k_is)
  (case a__law_draw => k_is)
  (case l__law_draw => k_is)
  (case c__law_draw => k_is)
  (case k__law_draw => k_is)
  (case a__law_great => k_is)
  (case l__law_great => k_is)
  (case c__law_great => k_is)
  (case k__law_great => k_is)
  (case a__law_scale => k_is)
  (case l__law_scale => k_is)
  (case c__law_scale => k_is)
  (case k__law_scale => k_is)
  (case a__law_spot => k_is)
  (case l__law_spot => k_is)
  (case c__law_spot => k_is)
  (case k__law_spot => k_is)
  (case a__law_dozen => k_is)
  (case l__law_dozen => k_is)
  (case c__law_dozen => k_is)
  (case k__law_dozen => k_is)
  (case a__law_spots => k_is)
  (case l__law_spots => k_is)
  (case c__law_spots => k_is)
  (case k__law_spots => k_is)
  (case a__law_world => k_is)
  (case l__law_world => k_is)
  (case c__law_world => k_is)
  (case k__law_world => k_is)
  (case a__law_frac => k_is)
  (case l__law_frac => k_is)
  (case c__law_frac => k_is)
  (case k__law_frac => k_is)
  (case a__law_whole => k_is)
  (case l__law_whole => k_is)
  (case c__law_whole => k_is)
  (case k__law_whole => k_is)
  (case a__law_divisor => k_is)
  (case l__law_divisor => k_is)
  (case c__law_divisor => k_is)
  (case k__law_divisor => k_is)
  (case a__law_is_point => k_is)
  (case l__law_is_point => k_is)
  (case c__law_is_point => k_is)
  (case k__law_is_point => k_is)
  (case a__law_way => k_is)
  (case l__law_way => k_is)
  (case c__law_way => k_is)
  (case k__law_way => k_is)
  (case a__law_side => k_is)
  (case l__law_side => k_is)
  (case c__law_side => k_is)
  (case k__law_side => k_is)
  (case a__law_held => k_is)
  (case l__law_held => k_is)
  (case c__law_held => k_is)
  (case k__law_held => k_is)
  (case a__law_right => k_is)
  (case l__law_right => k_is)
  (case c__law_right => k_is)
  (case k__law_right => k_is)
  (case a__law_refused => k_is)
  (case l__law_refused => k_is)
  (case c__law_refused => k_is)
  (case k__law_refused => k_is)
  (case a_law => k_is)
  (case l_law => k_is)
  (case c_law => k_is)
  (case k_law => k_is)
  (case z_abs => k_is)
  (case z_all => k_is)
  (case z_bool => k_is)
  (case z_enumerate => k_is)
  (case z_int => k_is)
  (case z_isinstance => k_is)
  (case z_len => k_is)
  (case z_list => k_is)
  (case z_max => k_is)
  (case z_min => k_is)
  (case z_range => k_is)
  (case z_super => k_is)
  (case z_tuple => k_is)
  (case a_MOST_SPOTS => k_is)
  (case a_TooMany => k_is)
  (case a_NoSpot => k_is)
  (case x1_TooMany => k_exc)
  (case x2_TooMany => k_is)
  (case x3_TooMany => k_is)
  (case x4_TooMany => k_is)
  (case x5_TooMany => k_is)
  (case x6_TooMany => k_is)
  (case x7_TooMany => k_is)
  (case x8_TooMany => k_is)
  (case x9_TooMany => k_is)
  (case y1_ => k_is)
  (case y2_ => kernel_rfl)
  (case y3_ => kernel_rfl)
  (case y4_ => k_is)
  (case y5_ => kernel_rfl)
  (case y6_ => k_is)
  (case y7_ => k_is)
  (case y8_ => k_is)
  (case y9_ => k_is)
  (case y10_ => rfl)
  (case y11_ => kernel_rfl)
  (case y12_ => kernel_rfl)
  (case y14_ => k_is)
  (case y15_ => k_is)
  (case y16_ => k_is)
  (case y17_ => k_is)
  (case y18_ => k_is)
  (case y19_ => k_is)
  (case y20_ => k_is)
  (case y21_ => k_is)
  (case y22_ => k_is)
  (case y23_ => k_is)
  (case y24_ => k_is)
  (case y25_ => k_is)
  (case y26_ => k_is)
  (case y27_ => k_is)
  (case y28_ => k_is)
  (case m_TooMany_TooMany => kts_exm)
  (case m_NoSpot_TooMany => kts_exm)
  (case m_NoSpot_NoSpot => kts_exm)
  (case i_TooMany_NoSpot => kit_is)
