import PyProof.Rows.All
import Wide.All
import OpenK.AllK
import Wide.FinOn
import Lean
import PyProof.EqAt
import PyProof.EqKinds
import PyProof.TupleCall
import PyProof.ExcArgsOwn
import PyProof.ExcAttrAll.ValueError
import KE.KTryMore
import PyProof.NsDelKeeps
import PyProof.ExcBaseAll.ValueError
import KE.RegKTryMore
import KE.RegKIsAll
import KE.KRevSl
import PyProof.ZipIter
import PyProof.DictIter
import KE.KDictIter
import KE.KDictList
import PyProof.EnumStmt
import PyProof.WalksEnum
import PyProof.EnumMake
import PyProof.Rows.EnumRows
import PyProof.Rows.InDataRows
import PyProof.SumWalk
import PyProof.Rows.SeqCalls
import PyProof.WalksMore
import PyProof.Rows.SetFrom
import PyProof.SetRoads
import PyProof.Rows.TupMore
import PyProof.Rows.SortWalk
import PyProof.TupleKey
import PyProof.WalksS
import PyProof.Walks
import PySem.Challenge.RW_nearlands_k09_whole_three_lines_meet
set_option genSizeOfSpec false
set_option genSizeOf false
set_option Elab.async false
set_option linter.all false
set_option maxRecDepth 100000
namespace L2
open PySem PySem.Spec PyProof.Rows
noncomputable abbrev Key := Sum Int Str
noncomputable def keyIs : Key → Value → Bool
  | .inl k, v => Value.isInt k v
  | .inr x, v => Value.isStrOf x v
noncomputable def keyH (w : World) : Key → Int
  | .inl k => hashInt k
  | .inr x => hashStr w x
theorem keyIs_shape : ∀ {k : Key} {v : Value}, keyIs k v = true → (∃ i t, k = Sum.inl i ∧ v = Value.int i t) ∨ (∃ x t, k = Sum.inr x ∧ v = Value.str x t)
  | .inl i, v, h => by
    obtain ⟨t, e⟩ := Value.isInt_shape (k := i) (v := v) h
    exact .inl ⟨i, t, rfl, e⟩
  | .inr x, v, h => by
    obtain ⟨t, e⟩ := Value.isStrOf_shape (x := x) (v := v) h
    exact .inr ⟨x, t, rfl, e⟩
theorem key_ll (a b : Int) : decide ((Sum.inl a : Key) = Sum.inl b) = (a == b) := by
  by_cases e : a = b
  · subst e; simp
  · have h : ¬ (Sum.inl a : Key) = Sum.inl b := fun q => e (Sum.inl.inj q)
    rw [decide_eq_false h]
    exact (beq_eq_false_iff_ne.mpr e).symm
theorem key_rr (a b : Str) : decide ((Sum.inr a : Key) = Sum.inr b) = decide (a = b) := by
  by_cases e : a = b
  · subst e; simp
  · have h : ¬ (Sum.inr a : Key) = Sum.inr b := fun q => e (Sum.inr.inj q)
    rw [decide_eq_false h, decide_eq_false e]
theorem key_lr (a : Int) (b : Str) : decide ((Sum.inl a : Key) = Sum.inr b) = false := decide_eq_false (fun q => nomatch q)
theorem key_rl (a : Str) (b : Int) : decide ((Sum.inr a : Key) = Sum.inl b) = false := decide_eq_false (fun q => nomatch q)
noncomputable def mixKind (prog : Program) (w : World) : PySem.KeyKind prog w Key where
  is := keyIs
  hash := keyH w
  inj := fun v a b ha hb => by
    rcases keyIs_shape ha with ⟨i, t, rfl, rfl⟩ | ⟨x, t, rfl, rfl⟩
    · rcases keyIs_shape hb with ⟨j, u, rfl, e⟩ | ⟨y, u, rfl, e⟩
      · injection e with e1 _; rw [e1]
      · exact nomatch e
    · rcases keyIs_shape hb with ⟨j, u, rfl, e⟩ | ⟨y, u, rfl, e⟩
      · exact nomatch e
      · injection e with e1 _; rw [e1]
  byValue := fun k v h => by
    rcases keyIs_shape h with ⟨i, t, rfl, rfl⟩ | ⟨x, t, rfl, rfl⟩ <;> rfl
  pyHash := fun hv h => by
    rcases keyIs_shape hv with ⟨i, t, rfl, rfl⟩ | ⟨x, t, rfl, rfl⟩
    · exact wpAny_pyHash_int h
    · exact wpAny_pyHash_str h
  eqBool := fun hu hv h => by
    rcases keyIs_shape hu with ⟨i, t, rfl, rfl⟩ | ⟨x, t, rfl, rfl⟩
    · rcases keyIs_shape hv with ⟨j, u, rfl, rfl⟩ | ⟨y, u, rfl, rfl⟩
      · rw [key_ll] at h; exact wpAny_eqBool_int h
      · rw [key_lr] at h; exact SeqAt.EqAt.int_str i t y u _ _ _ _ h
    · rcases keyIs_shape hv with ⟨j, u, rfl, rfl⟩ | ⟨y, u, rfl, rfl⟩
      · rw [key_rl] at h; exact SeqAt.EqAt.str_int x t j u _ _ _ _ h
      · rw [key_rr] at h; exact wpAny_eqBool_str h
  «strs» := fun k x t v h => by
    rcases keyIs_shape h with ⟨i, u, rfl, e⟩ | ⟨y, u, rfl, e⟩
    · exact nomatch e
    · injection e with e1 _
      subst e1
      cases v <;> rfl
end L2
namespace L2
open PySem PySem.Spec PyProof.Rows
inductive V where
  | non | bl (b : Bool) | int (i : Int) | str (x : Str) | byt (b : Array UInt8) | flt (b : UInt64) | ref (a : Addr) | ty (n : String)
  deriving DecidableEq
noncomputable def RelV : V → Value → Prop
  | .non, u => u = Value.none
  | .bl b, u => u = Value.bool b
  | .int i, u => ∃ t, u = Value.int i t
  | .str x, u => ∃ t, u = Value.str x t
  | .byt b, u => ∃ t, u = Value.bytes b t
  | .flt b, u => ∃ t, u = Value.float b t
  | .ref a, u => u = Value.ref a
  | .ty n, u => u = Value.type n
noncomputable abbrev Vals : List V → List Value → Prop := Paired RelV
theorem Vals.length {xs : List V} {us : List Value} (r : Vals xs us) : xs.length = us.length := Paired.length r
theorem Vals.get : ∀ {xs : List V} {us : List Value} {i : Nat} {x : V}, Vals xs us → xs[i]? = some x → ∃ u, us[i]? = some u ∧ RelV x u
  | _, _, _, _, .nil, e => by simp at e
  | _, _, 0, _, .cons r _, e => by simp at e; subst e; exact ⟨_, rfl, r⟩
  | _, _, i + 1, x, .cons _ t, e => by
    obtain ⟨u, h1, h2⟩ := Vals.get (i := i) (x := x) t (by simpa using e)
    exact ⟨u, by simpa using h1, h2⟩
theorem Vals.set {x : V} {u : Value} (r : RelV x u) : ∀ {xs : List V} {us : List Value} (i : Nat), Vals xs us → Vals (xs.set i x) (us.set i u)
  | _, _, _, .nil => .nil
  | _, _, 0, .cons _ t => .cons r t
  | _, _, i + 1, .cons q t => .cons q (Vals.set r i t)
theorem Vals.append : ∀ {xs ys : List V} {us ws : List Value}, Vals xs us → Vals ys ws → Vals (xs ++ ys) (us ++ ws)
  | _, _, _, _, .nil, s => s
  | _, _, _, _, .cons r t, s => .cons r (Vals.append t s)
theorem Vals.take : ∀ {xs : List V} {us : List Value} (n : Nat), Vals xs us → Vals (xs.take n) (us.take n)
  | _, _, 0, _ => .nil
  | _, _, _ + 1, .nil => .nil
  | _, _, n + 1, .cons r t => .cons r (Vals.take n t)
theorem Vals.drop : ∀ {xs : List V} {us : List Value} (n : Nat), Vals xs us → Vals (xs.drop n) (us.drop n)
  | _, _, 0, r => r
  | _, _, _ + 1, .nil => .nil
  | _, _, n + 1, .cons _ t => Vals.drop n t
noncomputable def RelO : Option V → Option Value → Prop
  | some v, some u => RelV v u
  | none, none => True
  | _, _ => False
noncomputable def KV {κ : Type} : List (κ × V) → List (κ × Value) → Prop := Paired fun (p : κ × V) (q : κ × Value) => p.1 = q.1 ∧ RelV p.2 q.2
noncomputable def kV : Key → V
  | .inl i => .int i
  | .inr x => .str x
inductive HO where
  | lst (xs : List V)
  | tup (xs : List V)
  | dK (kvs : List (Key × V)) | dT (kvs : List (List Key × V))
  | set (S : Int → Bool) (n : Nat)
  | ins (C dx : Addr) (fs : List (Str × V))
  | own (x : Addr)
  | xd (fs : List (Str × V))
  | met (f x : Addr)
  | rng (lo hi : Int)
  | frz (o : Obj) (u : HO)
  | tbl (ps : Array Value)
  | ext (φ : Heap → Prop)
noncomputable abbrev Hp := Addr → Option HO
noncomputable def upd (H : Hp) (a : Addr) (o : HO) : Hp := fun b => if b = a then some o else H b
theorem upd_same {H : Hp} {a : Addr} {o : HO} : upd H a o a = some o := by unfold upd; rw [if_pos rfl]
theorem upd_ne {H : Hp} {a b : Addr} {o : HO} (h : b ≠ a) : upd H a o b = H b := by unfold upd; rw [if_neg h]
theorem ne_of {H : Hp} {a b : Addr} {o u : HO} (h : H a = some o) (h' : H b = some u) (d : o ≠ u) : a ≠ b := by
  intro e; subst e; rw [h] at h'; exact d (Option.some.inj h')
theorem ne_of_none {H : Hp} {a b : Addr} {o : HO} (h : H a = some o) (h' : H b = none) : a ≠ b := by
  intro e; subst e; rw [h] at h'; cases h'
section
variable (P : Program) (w : World)
noncomputable def ObjOk (H : Hp) (h : Heap) (a : Addr) : HO → Prop
  | .lst xs => xs.length ≤ sizeLine ∧ ∃ (its : List Value) (n : Nat), Vals xs its ∧ h.get? a = some { cls := .type "list", data := .seq its.toArray n }
  | .tup xs => xs.length ≤ sizeLine ∧ ∃ its : List Value, Vals xs its ∧ IsTup h a its.toArray
  | .dK kvs => kvs.length ≤ sizeLine ∧ (a == sysModules) = false ∧ ∃ vs, KV kvs vs ∧ h.DictOf (mixKind P w) a vs
  | .dT kvs => kvs.length ≤ sizeLine ∧ (a == sysModules) = false ∧ ∃ xs : List (List Key × Addr × Value),
      Paired (fun (p : List Key × V) (q : List Key × Addr × Value) => p.1 = q.1 ∧ H q.2.1 = some (.tup (p.1.map kV)) ∧ RelV p.2 q.2.2) kvs xs ∧
      ∃ o es ep, h.get? a = some o ∧ o.ExactDict ∧ o.data = .dict es ep ∧ es.toList = xs.map (entryOfKey (tupleKind (mixKind P w))) ∧ (xs.map (·.1)).Nodup
  | .set S n => h.SetOf (intKind P w) a S n
  | .ins C dx fs => H dx = some (.own a) ∧ fs.length ≤ 1000 ∧ dx ≠ a ∧ h.get? a = some (PySem.W.instObj C dx) ∧
      ∃ mA, h.Ns1 dx mA ∧ (∀ f, RelO (fs.lookup f) (mA f)) ∧ PySem.Within mA (fs.map (·.1))
  | .own _ => ∃ o, h.get? a = some o
  | .xd fs => ∃ mA, h.Ns1 a mA ∧ ∀ f, RelO (fs.lookup f) (mA f)
  | .rng lo hi => ∃ t u v, h.get? a = some { cls := .type "range", data := .fields #[.int lo t, .int hi u, .int 1 v] }
  | .frz o u => h.get? a = some o ∧ ObjOk H h a u
  | .tbl ps => h.get? a = some { cls := .none, data := .fields ps }
  | .met f x => h.get? a = some (PySem.W.methodObj (.ref f) (.ref x))
  | .ext φ => φ h ∧ (∃ o, h.get? a = some o) ∧ ∀ h1 h2 : Heap, φ h1 → (∀ o, h1.get? a = some o → h2.get? a = some o) → φ h2
noncomputable def HOk (H : Hp) (h : Heap) : Prop := ∀ a o, H a = some o → ObjOk P w H h a o
end
section
variable {P : Program} {w : World} {H H' : Hp} {h h' : Heap} {a : Addr} {o : HO}
theorem ObjOk.lt (x : ObjOk P w H h a o) : a < h.objs.size := by
  cases o with
  | lst xs => obtain ⟨_, _, _, _, e⟩ := x; exact Heap.lt_size e
  | tup xs => obtain ⟨_, _, _, p⟩ := x; exact p.lt
  | dK kvs => obtain ⟨_, _, _, _, o, _, _, e, _⟩ := x; exact Heap.lt_size e
  | dT kvs => obtain ⟨_, _, _, _, o, _, _, e, _⟩ := x; exact Heap.lt_size e
  | set S n => obtain ⟨o, _, _, _, e, _⟩ := x; exact Heap.lt_size e
  | ins C dx fs => obtain ⟨_, _, _, e, _⟩ := x; exact Heap.lt_size e
  | own y => obtain ⟨_, e⟩ := x; exact Heap.lt_size e
  | xd fs => obtain ⟨_, ⟨_, _, _, e, _⟩, _⟩ := x; exact Heap.lt_size e
  | rng lo hi => obtain ⟨_, _, _, e⟩ := x; exact Heap.lt_size e
  | frz ob u => obtain ⟨e, _⟩ := x; exact Heap.lt_size e
  | tbl ps => exact Heap.lt_size (show h.get? a = some _ from x)
  | met f y => exact Heap.lt_size (show h.get? a = some _ from x)
  | ext φ => obtain ⟨_, ⟨_, e⟩, _⟩ := x; exact Heap.lt_size e
theorem Paired.mapP {α β : Type} {F G : α → β → Prop} : ∀ {l₁ : List α} {l₂ : List β}, Paired F l₁ l₂ → (∀ a b, F a b → G a b) → Paired G l₁ l₂
  | _, _, .nil, _ => .nil
  | _, _, .cons r t, f => .cons (f _ _ r) (Paired.mapP t f)
theorem ObjOk.stay (x : ObjOk P w H h a o) (k : ∀ b u, (b = a ∨ H b = some (.own a)) → h.get? b = some u → h'.get? b = some u)
    (ho : ∀ b, H b = some (.own a) → H' b = some (.own a)) (ht : ∀ b xs, H b = some (.tup xs) → H' b = some (.tup xs)) : ObjOk P w H' h' a o := by
  induction o with
  | lst xs => obtain ⟨z, its, n, r, e⟩ := x; exact ⟨z, its, n, r, k _ _ (.inl rfl) e⟩
  | tup xs => obtain ⟨z, its, r, ob, e, c⟩ := x; exact ⟨z, its, r, ob, k _ _ (.inl rfl) e, c⟩
  | dK kvs => obtain ⟨z, y, vs, r, ob, es, ep, e, c⟩ := x; exact ⟨z, y, vs, r, ob, es, ep, k _ _ (.inl rfl) e, c⟩
  | dT kvs =>
    obtain ⟨z, y, xs, r, ob, es, ep, e, c⟩ := x
    exact ⟨z, y, xs, Paired.mapP r fun p q z => ⟨z.1, ht _ _ z.2.1, z.2.2⟩, ob, es, ep, k _ _ (.inl rfl) e, c⟩
  | set S n => obtain ⟨ob, es, ep, t, e, c⟩ := x; exact ⟨ob, es, ep, t, k _ _ (.inl rfl) e, c⟩
  | ins C dx fs =>
    obtain ⟨d, z, ne, e, mA, ⟨od, es, ep, e2, c⟩, r⟩ := x
    exact ⟨ho _ d, z, ne, k _ _ (.inl rfl) e, mA, ⟨od, es, ep, k _ _ (.inr d) e2, c⟩, r⟩
  | own y => obtain ⟨ob, e⟩ := x; exact ⟨ob, k _ _ (.inl rfl) e⟩
  | xd fs => obtain ⟨mA, ⟨od, es, ep, e, c⟩, r⟩ := x; exact ⟨mA, ⟨od, es, ep, k _ _ (.inl rfl) e, c⟩, r⟩
  | rng lo hi => obtain ⟨t, u, v, e⟩ := x; exact ⟨t, u, v, k _ _ (.inl rfl) e⟩
  | frz ob u ih => obtain ⟨e, q⟩ := x; exact ⟨k _ _ (.inl rfl) e, ih q⟩
  | tbl ps =>
    have e : h.get? a = some { cls := .none, data := .fields ps } := x
    show h'.get? a = some { cls := .none, data := .fields ps }
    exact k a _ (.inl rfl) e
  | met f y =>
    have e : h.get? a = some (PySem.W.methodObj (.ref f) (.ref y)) := x
    show h'.get? a = some (PySem.W.methodObj (.ref f) (.ref y))
    exact k a _ (.inl rfl) e
  | ext φ => obtain ⟨p, ⟨o, e⟩, st⟩ := x; exact ⟨st _ _ p fun o q => k _ _ (.inl rfl) q, ⟨o, k _ _ (.inl rfl) e⟩, st⟩
theorem HOk.lt (x : HOk P w H h) (e : H a = some o) : a < h.objs.size := (x a o e).lt
theorem HOk.fresh (x : HOk P w H h) (e : h.objs.size ≤ a) : H a = none := by
  cases q : H a with
  | none => rfl
  | some u => exact absurd (Nat.lt_of_lt_of_le (x.lt q) e) (Nat.lt_irrefl _)
theorem HOk.kept (x : HOk P w H h) (k : ∀ b u, h.get? b = some u → h'.get? b = some u) : HOk P w H h' := fun a o e =>
  (x a o e).stay (fun b u _ q => k b u q) (fun _ q => q) fun _ _ q => q
theorem HOk.laid (x : HOk P w H h) (k : ∀ b u, h.get? b = some u → h'.get? b = some u) (hp : h.objs.size ≤ a) (new : ObjOk P w (upd H a o) h' a o) : HOk P w (upd H a o) h' := fun b u e => by
  have hn := x.fresh hp
  by_cases hb : b = a
  · subst hb; rw [upd_same] at e; cases e; exact new
  · rw [upd_ne hb] at e
    exact (x b u e).stay (fun c v _ q => k c v q) (fun c q => by rw [upd_ne (ne_of_none q hn)]; exact q) fun c xs q => by rw [upd_ne (ne_of_none q hn)]; exact q
end
noncomputable def Rd (H : Hp) (a : Addr) (u : HO) : Prop := H a = some u ∨ ∃ o, H a = some (.frz o u)
theorem Rd.of {H : Hp} {a : Addr} {u : HO} (h : H a = some u) : Rd H a u := .inl h
theorem Rd.ok {P : Program} {w : World} {H : Hp} {h : Heap} {a : Addr} {u : HO} (r : Rd H a u) (x : HOk P w H h) : ObjOk P w H h a u := by
  rcases r with r | ⟨o, r⟩
  · exact x a u r
  · obtain ⟨_, q⟩ := x a _ r
    exact q
noncomputable def Mut : Option HO → Prop
  | some (.lst _) => True
  | some (.dK _) => True
  | some (.dT _) => True
  | some (.set _ _) => True
  | some (.ins _ _ _) => True
  | some (.ext _) => True
  | _ => False
section
variable {P : Program} {w : World} {H : Hp} {h h' : Heap} {x e : Addr} {o' : HO}
theorem HOk.write (ok : HOk P w H h) (mu : Mut (H x)) (he : e = x ∨ H e = some (.own x)) (k : ∀ b u, b ≠ e → h.get? b = some u → h'.get? b = some u) (heo : ∃ u, h'.get? e = some u)
    (new : ObjOk P w (upd H x o') h' x o') : HOk P w (upd H x o') h' := fun b u q => by
  have nown : ∀ c y, H c = some (.own y) → c ≠ x := fun c y r z => by subst z; rw [r] at mu; exact mu
  have ntup : ∀ c xs, H c = some (.tup xs) → c ≠ x := fun c xs r z => by subst z; rw [r] at mu; exact mu
  by_cases hb : b = x
  · subst hb; rw [upd_same] at q; cases q; exact new
  · rw [upd_ne hb] at q
    by_cases hbe : b = e
    · have q' : H b = some (.own x) := by
        rcases he with z | z
        · exact absurd (hbe.trans z) hb
        · rw [hbe]; exact z
      rw [q] at q'; cases q'
      obtain ⟨v, hv⟩ := heo
      exact ⟨v, by rw [hbe]; exact hv⟩
    · refine (ok b u q).stay (fun c v hc r => k c v ?_ r) (fun c r => by rw [upd_ne (nown c b r)]; exact r) fun c xs r => by rw [upd_ne (ntup c xs r)]; exact r
      rcases hc with rfl | hc
      · exact hbe
      · rintro rfl
        rcases he with z | z
        · exact nown c b hc z
        · rw [hc] at z; cases z; exact hb rfl
end
structure Un (fs ex : List Addr) (H H' : Hp) (h h' : Heap) : Prop where
  keep : ∀ b o, h.get? b = some o → H b = none → b ∉ fs → b ∉ ex → h'.get? b = some o
  slot : ∀ b o, h.get? b = some o → H b = none → b ∈ fs → b ∉ ex → ∃ sl, h'.get? b = some { o with slots := sl }
  free : ∀ b o, h.get? b = some o → H b = none → b ∉ ex → H' b = none
  there : ∀ b o, h.get? b = some o → b ∉ ex → ∃ o', h'.get? b = some o'
  tups : ∀ b xs, H b = some (.tup xs) → H' b = some (.tup xs)
  frzs : ∀ b o u, H b = some (.frz o u) → H' b = some (.frz o u)
  tbls : ∀ b ps, H b = some (.tbl ps) → ∃ more, H' b = some (.tbl (ps ++ more))
section
variable {fs fs' ex ex' : List Addr} {H H1 H2 : Hp} {h h1 h2 h' : Heap} {a x e : Addr} {o : HO}
theorem Un.any (u : Un fs ex H H1 h h1) {b : Addr} {ob : Obj} (q : h.get? b = some ob) (n : H b = none) (hx : b ∉ ex) : ∃ sl, h1.get? b = some { ob with slots := sl } := by
  by_cases hb : b ∈ fs
  · exact u.slot b ob q n hb hx
  · exact ⟨ob.slots, u.keep b ob q n hb hx⟩
theorem Un.trans (a : Un fs ex H H1 h h1) (b : Un fs ex H1 H2 h1 h2) : Un fs ex H H2 h h2 where
  keep := fun c ob q n hc hx => b.keep c ob (a.keep c ob q n hc hx) (a.free c ob q n hx) hc hx
  slot := fun c ob q n hc hx => by
    obtain ⟨sl, e1⟩ := a.slot c ob q n hc hx
    obtain ⟨sl', e2⟩ := b.slot c _ e1 (a.free c ob q n hx) hc hx
    exact ⟨sl', e2⟩
  free := fun c ob q n hx => by
    obtain ⟨o', e1⟩ := a.there c ob q hx
    exact b.free c o' e1 (a.free c ob q n hx) hx
  there := fun c ob q hx => by
    obtain ⟨o', e1⟩ := a.there c ob q hx
    exact b.there c o' e1 hx
  tups := fun c xs q => b.tups c xs (a.tups c xs q)
  frzs := fun c ob xs q => b.frzs c ob xs (a.frzs c ob xs q)
  tbls := fun c ps q => by
    obtain ⟨m1, e1⟩ := a.tbls c ps q
    obtain ⟨m2, e2⟩ := b.tbls c _ e1
    exact ⟨m1 ++ m2, by rw [e2, Array.append_assoc]⟩
theorem Un.kept (k : ∀ b u, h.get? b = some u → h'.get? b = some u) : Un fs ex H H h h' :=
  ⟨fun b ob q _ _ _ => k b ob q, fun b ob q _ _ _ => ⟨ob.slots, k b ob q⟩, fun _ _ _ n _ => n, fun b ob q _ => ⟨ob, k b ob q⟩, fun _ _ q => q, fun _ _ _ q => q, fun _ ps q => ⟨#[], by rw [q]; simp⟩⟩
theorem Un.refl : Un fs ex H H h h := Un.kept fun _ _ q => q
theorem Un.laid (k : ∀ b u, h.get? b = some u → h'.get? b = some u) (hp : h.objs.size ≤ a) (hn : H a = none) : Un fs ex H (upd H a o) h h' where
  keep := fun b u q _ _ _ => k b u q
  slot := fun b u q _ _ _ => ⟨u.slots, k b u q⟩
  free := fun b u q n _ => by rw [upd_ne (Nat.ne_of_lt (Nat.lt_of_lt_of_le (Heap.lt_size q) hp))]; exact n
  there := fun b u q _ => ⟨u, k b u q⟩
  tups := fun b xs q => by rw [upd_ne (ne_of_none q hn)]; exact q
  frzs := fun b u xs q => by rw [upd_ne (ne_of_none q hn)]; exact q
  tbls := fun b ps q => ⟨#[], by rw [upd_ne (ne_of_none q hn), q]; simp⟩
theorem Un.write (mu : Mut (H x)) (he : e = x ∨ H e = some (.own x)) (k : ∀ b u, b ≠ e → h.get? b = some u → h'.get? b = some u) (heo : ∃ u, h'.get? e = some u) : Un fs ex H (upd H x o) h h' := by
  have hx : ∀ b, H b = none → b ≠ x := fun b n z => by subst z; rw [n] at mu; exact mu
  have hb : ∀ b, H b = none → b ≠ e := fun b n z => by
    subst z
    rcases he with r | r
    · exact hx b n r
    · rw [n] at r; cases r
  have hm : ∀ b u, H b = some u → ¬ Mut (some u) → b ≠ x := fun b u q nm z => by subst z; rw [q] at mu; exact nm mu
  refine ⟨fun b u q n _ _ => k b u (hb b n) q, fun b u q n _ _ => ⟨u.slots, k b u (hb b n) q⟩, fun b u q n _ => by rw [upd_ne (hx b n)]; exact n, fun b u q _ => ?_,
    fun b xs q => by rw [upd_ne (hm b _ q fun z => z)]; exact q, fun b u xs q => by rw [upd_ne (hm b _ q fun z => z)]; exact q, fun b ps q => ⟨#[], by rw [upd_ne (hm b _ q fun z => z), q]; simp⟩⟩
  by_cases hbe : b = e
  · subst hbe; exact heo
  · exact ⟨u, k b u hbe q⟩
theorem Un.mono (u : Un fs ex H H1 h h1) (hs : ∀ b ∈ fs, b ∈ fs') (hx : ∀ b ∈ ex, b ∈ ex') : Un fs' ex' H H1 h h1 :=
  ⟨fun b ob q n hb he => u.keep b ob q n (fun z => hb (hs b z)) fun z => he (hx b z), fun _ _ q n _ he => u.any q n fun z => he (hx _ z), fun b ob q n he => u.free b ob q n fun z => he (hx b z), fun b ob q he => u.there b ob q fun z => he (hx b z), u.tups, u.frzs, u.tbls⟩
end
noncomputable def trk (h : Heap) (H : Hp) : List Addr := (List.range h.objs.size).filter fun a => (H a).isSome
noncomputable def hidT (h : Heap) (H : Hp) : Heap := PySem.W.hideAll h (trk h H)
theorem hidT_size (h : Heap) (H : Hp) : (hidT h H).objs.size = h.objs.size := PySem.W.hideAll_size _ _
theorem hidT_get {h : Heap} {H : Hp} {b : Addr} {o : Obj} (e : h.get? b = some o) (n : H b = none) : (hidT h H).get? b = some o :=
  PySem.W.hideAll_get _ e fun hm => by
    have q : (H b).isSome = true := (List.mem_filter.mp hm).2
    rw [n] at q; simp at q
theorem of_hidT {h : Heap} {H : Hp} {b : Addr} {o : Obj} (e : (hidT h H).get? b = some o) : h.get? b = some o ∧ H b = none := by
  have e' : h.get? b = some o := PySem.W.of_hideAll (trk h H) e
  refine ⟨e', ?_⟩
  cases q : H b with
  | none => rfl
  | some x =>
    have hm : b ∈ trk h H := List.mem_filter.mpr ⟨List.mem_range.mpr (Heap.lt_size e'), by simp [q]⟩
    have z : (hidT h H).get? b = none := PySem.W.hideAll_none (trk h H) hm
    rw [z] at e; cases e
noncomputable def allNews (g h : Heap) (L : Addr) : List (Addr × Obj) := (List.range h.objs.size).filterMap fun a => if a = L ∨ (g.get? a).isSome = true then none else (h.get? a).map fun o => (a, o)
noncomputable def rest (g h : Heap) (L d : Addr) : List (Addr × Obj) := (allNews g h L).filter fun p => decide (p.1 ≠ d)
end L2
namespace L2
open PySem PySem.Spec PyProof.Rows
structure Mod (K : PySem.W.Frag) (mg : Str → Option Value) (base : Heap) : Prop where
  kin : K.In base
  glob : base.Ns mainGlobals mg
  blt : ∃ mb, base.Ns builtinsNs mb ∧ ∀ x : Str, x ≠ "__name__" → mb x = bootBuiltins x
  nolimit : base.NoLimit
structure Cx where
  prog : Program
  w : World
  K : PySem.W.Frag
  mg : Str → Option Value
  base : Heap
  A : Around
  N : List Str
  s₀ : Shared
  H₀ : Hp
  env : Env
  outer : List Env
  stack : List Env
  ex : List Addr
  fn : Str → Bool
  calm : Bool
  pn : List (Addr × Obj)
  xe : Value → Shared → Prop
noncomputable def frs (l : List Env) : List Addr := l.filterMap (·.frame)
noncomputable abbrev Cx.fs (X : Cx) : List Addr := frs X.outer
noncomputable def Vis (sc : Scope) (x : Str) : Prop := sc.names.lookup x = some .local ∨ sc.names.lookup x = some .cell ∨ sc.names.lookup x = some .free
noncomputable def Loc (sc : Scope) (x : Str) : Prop := sc.names.lookup x = some .local ∨ sc.names.lookup x = some .cell
noncomputable def Look (env : Env) (h : Heap) (m : Str → Option Value) (x : Str) (u : Value) : Prop :=
  (env.kindOf x = some .local ∧ m x = some u) ∨ ((env.kindOf x = some .cell ∨ env.kindOf x = some .free) ∧ ∃ c, env.cells.lookup x = some c ∧ h.IsCell c (some u))
structure Cx.Ok (X : Cx) : Prop where
  mod : Mod X.K X.mg X.base
  kind : X.env.scope.kind = .function
  glob : X.env.globals = mainGlobals
  blt : X.env.builtins = builtinsNs
  above : X.s₀.heap.objs.size ≤ X.env.locals
  inj : ∀ x y c, X.env.cells.lookup x = some c → X.env.cells.lookup y = some c → x = y
  has : ∀ x, (X.env.kindOf x = some .cell ∨ X.env.kindOf x = some .free) → ∃ c, X.env.cells.lookup x = some c
  cab : ∀ x c, X.fn x = true → X.env.cells.lookup x = some c → X.s₀.heap.objs.size ≤ c
  hd : X.calm = true → X.A.handled = none
  frames : X.A.frames = some X.stack
  stk : X.stack = X.outer ∨ (X.stack = X.env :: X.outer ∧ X.env.frame = some X.env.locals)
  exf : ∀ b ∈ X.ex, b ≠ X.env.locals ∧ ∀ x c, X.env.cells.lookup x = some c → c ≠ b
  bs : ∀ b o, X.base.get? b = some o → X.s₀.heap.get? b = some o ∧ X.H₀ b = none
  bsz : X.base.objs.size ≤ X.s₀.heap.objs.size
  noex : ∀ b o, X.base.get? b = some o → b ∉ X.ex
  exfs : ∀ b ∈ X.ex, b ∉ X.fs
  funs : X.s₀.heap.FunFrames X.base X.outer
  frf : ∀ b ∈ X.fs, X.H₀ b = none
structure Inv (X : Cx) (pins : List (Addr × Obj)) (σ : List (Option V)) (H : Hp) (s : Shared) : Prop where
  ok : X.Ok
  os : s.os = X.s₀.os
  bare : AllBare s.gens
  base : Un X.fs X.ex X.H₀ H X.s₀.heap s.heap
  loc : ∃ m, s.heap.Ns X.env.locals m ∧ ∀ (i : Nat) (x : Str) (v : V), X.N[i]? = some x → σ[i]? = some (some v) → Vis X.env.scope x → ∃ u, RelV v u ∧ Look X.env s.heap m x u
  cell : ∀ x c, X.env.cells.lookup x = some c → ∃ v, s.heap.IsCell c v
  free : H X.env.locals = none
  freeC : ∀ x c, X.env.cells.lookup x = some c → H c = none
  pin : ∀ p ∈ X.pn ++ pins, s.heap.get? p.1 = some p.2 ∧ H p.1 = none ∧ p.1 ≠ X.env.locals ∧ p.1 ∉ X.fs ∧ ∀ v, p.2.data ≠ .cell v
  hok : HOk X.prog X.w H s.heap
  len : σ.length = X.N.length
section
variable {X : Cx} {pins : List (Addr × Obj)} {σ : List (Option V)} {H H' : Hp} {s : Shared} {h' : Heap}
theorem Cx.Ok.nofr (ok : X.Ok) {b : Addr} {o : Obj} (e : X.base.get? b = some o) : b ∉ X.fs := fun hb => by
  have := (ok.funs.mem hb).1
  rw [e] at this; cases this
theorem Inv.bs (I : Inv X pins σ H s) : ∀ b o, X.base.get? b = some o → s.heap.get? b = some o ∧ H b = none := fun b o e =>
  ⟨I.base.keep b o (I.ok.bs b o e).1 (I.ok.bs b o e).2 (I.ok.nofr e) (I.ok.noex b o e), I.base.free b o (I.ok.bs b o e).1 (I.ok.bs b o e).2 (I.ok.noex b o e)⟩
theorem Inv.bk (I : Inv X pins σ H s) : ∀ b o, X.base.get? b = some o → s.heap.get? b = some o := fun b o e => (I.bs b o e).1
theorem Inv.mod (I : Inv X pins σ H s) : Mod X.K X.mg X.base := I.ok.mod
theorem Inv.kIn (I : Inv X pins σ H s) : X.K.In s.heap := I.ok.mod.kin.keeps I.bk
theorem Inv.nolimit (I : Inv X pins σ H s) : s.heap.NoLimit := I.ok.mod.nolimit.keeps I.bk
theorem Inv.fr (I : Inv X pins σ H s) : ∃ m, Fr X.base X.env.locals s.heap m :=
  let ⟨m, hn, _⟩ := I.loc
  ⟨m, hn, I.bk, Nat.le_trans I.ok.bsz I.ok.above⟩
theorem Inv.lt (I : Inv X pins σ H s) : X.env.locals < s.heap.objs.size := let ⟨_, hn, _⟩ := I.loc; hn.lt
theorem Inv.sz (I : Inv X pins σ H s) : X.s₀.heap.objs.size ≤ s.heap.objs.size := Nat.le_trans I.ok.above (Nat.le_of_lt I.lt)
theorem Inv.nofs (I : Inv X pins σ H s) {a : Addr} (h : s.heap.objs.size ≤ a) : a ∉ X.fs := fun hb => by
  obtain ⟨_, o, ho, _⟩ := I.ok.funs.mem hb
  exact absurd (Nat.lt_of_lt_of_le (Heap.lt_size ho) (Nat.le_trans I.sz h)) (Nat.lt_irrefl _)
theorem Inv.cne (I : Inv X pins σ H s) : ∀ x c, X.env.cells.lookup x = some c → c ≠ X.env.locals := fun x c e z => by
  obtain ⟨v, o, ho, hd⟩ := I.cell x c e
  obtain ⟨m, ⟨o', es, ep, ho', hd', _⟩, _⟩ := I.loc
  rw [z, ho'] at ho; cases ho; rw [hd'] at hd; cases hd
theorem Inv.funs (I : Inv X pins σ H s) : s.heap.FunFrames X.base X.outer := by
  have all : ∀ (l : List Env), (∀ b ∈ frs l, b ∈ X.fs) → X.s₀.heap.FunFrames X.base l → s.heap.FunFrames X.base l := by
    intro l
    induction l with
    | nil => intro _ _; trivial
    | cons env r ih =>
      intro hs hl
      obtain ⟨hk, ⟨L, o, hf, hn, ho, hd⟩, hr⟩ := hl
      have hL : L ∈ X.fs := hs L (by unfold frs; rw [List.filterMap_cons, hf]; exact List.mem_cons_self)
      obtain ⟨sl, e⟩ := I.base.slot L o ho (I.ok.frf L hL) hL fun z => I.ok.exfs L z hL
      exact ⟨hk, ⟨L, _, hf, hn, e, hd⟩, ih (fun b hb => hs b (by unfold frs; rw [List.filterMap_cons, hf]; exact List.mem_cons_of_mem _ hb)) hr⟩
  exact all X.outer (fun _ hb => hb) I.ok.funs
theorem Inv.stack (I : Inv X pins σ H s) : s.heap.FunFrames X.base X.stack := by
  rcases I.ok.stk with e | ⟨e, hf⟩
  · rw [e]; exact I.funs
  · rw [e]
    obtain ⟨m, hn, _⟩ := I.loc
    refine .cons (by rw [I.ok.kind]; decide) hf hn ?_ I.funs
    exact Heap.get?_none_of_le (Nat.le_trans I.ok.bsz I.ok.above)
theorem Inv.stkSub (I : Inv X pins σ H s) : ∀ b ∈ frs X.stack, b ∈ X.env.locals :: X.fs := fun b hb => by
  rcases I.ok.stk with e | ⟨e, hf⟩
  · rw [e] at hb; exact List.mem_cons_of_mem _ hb
  · rw [e] at hb
    unfold frs at hb
    rw [List.filterMap_cons, hf] at hb
    exact hb
theorem Inv.stkFree (I : Inv X pins σ H s) : ∀ b ∈ frs X.stack, H b = none := fun b hb => by
  rcases List.mem_cons.mp (I.stkSub b hb) with e | hb
  · rw [e]; exact I.free
  · obtain ⟨_, o, ho, _⟩ := I.ok.funs.mem hb
    exact I.base.free b o ho (I.ok.frf b hb) fun z => I.ok.exfs b z hb
theorem Inv.step {g' : Array GenState} {t' : Nat} {d' : Drawn} {ch : List Addr} (I : Inv X pins σ H s)
    (hch : ∀ b ∈ ch, (b ∈ X.ex ∨ X.s₀.heap.objs.size ≤ b) ∧ b ≠ X.env.locals ∧ (∀ x c, X.env.cells.lookup x = some c → c ≠ b) ∧ ∀ p ∈ X.pn ++ pins, p.1 ≠ b)
    (keep : ∀ b o, b ≠ X.env.locals → b ∉ X.fs → b ∉ ch → s.heap.get? b = some o → H b = none → h'.get? b = some o)
    (slot : ∀ b o, b ≠ X.env.locals → b ∈ X.fs → b ∉ ch → s.heap.get? b = some o → H b = none → ∃ sl, h'.get? b = some { o with slots := sl }) (free : ∀ b o, b ∉ ch → s.heap.get? b = some o → H b = none → H' b = none)
    (there : ∀ b o, b ∉ ch → s.heap.get? b = some o → ∃ o', h'.get? b = some o')
    (tups : ∀ b xs, H b = some (.tup xs) → H' b = some (.tup xs)) (frzs : ∀ b o u, H b = some (.frz o u) → H' b = some (.frz o u)) (tbls : ∀ b ps, H b = some (.tbl ps) → ∃ more, H' b = some (.tbl (ps ++ more)))
    (ns : ∀ m, s.heap.Ns X.env.locals m → h'.Ns X.env.locals m) (hok : HOk X.prog X.w H' h') (hg : AllBare g') :
    Inv X pins σ H' { s with heap := h', gens := g', drawn := d', toks := t' } := by
  have neL : ∀ b o, X.s₀.heap.get? b = some o → b ≠ X.env.locals := fun b o e => Nat.ne_of_lt (Nat.lt_of_lt_of_le (Heap.lt_size e) I.ok.above)
  have neC : ∀ b o, X.s₀.heap.get? b = some o → b ∉ X.ex → b ∉ ch := fun b o e hx hb => by
    rcases (hch b hb).1 with z | z
    · exact hx z
    · exact absurd (Nat.lt_of_lt_of_le (Heap.lt_size e) z) (Nat.lt_irrefl _)
  have cellK : ∀ x c, X.env.cells.lookup x = some c → ∀ v, s.heap.IsCell c v → h'.IsCell c v := fun x c e v ⟨o, ho, hd⟩ => by
    have nch : c ∉ ch := fun z => (hch c z).2.2.1 x c e rfl
    by_cases hc : c ∈ X.fs
    · obtain ⟨sl, q⟩ := slot c o (I.cne x c e) hc nch ho (I.freeC x c e)
      exact ⟨_, q, hd⟩
    · exact ⟨o, keep c o (I.cne x c e) hc nch ho (I.freeC x c e), hd⟩
  refine ⟨I.ok, I.os, hg, ⟨fun b o e n hb hx => ?_, fun b o e n hb hx => ?_, fun b o e n hx => ?_, fun b o e hx => ?_, fun b xs e => tups b xs (I.base.tups b xs e), fun b o xs e => frzs b o xs (I.base.frzs b o xs e), fun b ps e => ?_⟩, ?_, fun x c e => ?_, ?_, fun x c e => ?_, fun p hp => ?_, hok, I.len⟩
  · exact keep b o (neL b o e) hb (neC b o e hx) (I.base.keep b o e n hb hx) (I.base.free b o e n hx)
  · obtain ⟨sl, e1⟩ := I.base.slot b o e n hb hx
    obtain ⟨sl', e2⟩ := slot b _ (neL b o e) hb (neC b o e hx) e1 (I.base.free b o e n hx)
    exact ⟨sl', e2⟩
  · obtain ⟨o', e1⟩ := I.base.there b o e hx
    exact free b o' (neC b o e hx) e1 (I.base.free b o e n hx)
  · obtain ⟨o', e1⟩ := I.base.there b o e hx
    exact there b o' (neC b o e hx) e1
  · obtain ⟨m1, e1⟩ := I.base.tbls b ps e
    obtain ⟨m2, e2⟩ := tbls b _ e1
    exact ⟨m1 ++ m2, by rw [e2, Array.append_assoc]⟩
  · obtain ⟨m, hn, hl⟩ := I.loc
    refine ⟨m, ns m hn, fun i x v e1 e2 e3 => ?_⟩
    obtain ⟨u, r, l⟩ := hl i x v e1 e2 e3
    refine ⟨u, r, ?_⟩
    rcases l with l | ⟨k, c, e, z⟩
    · exact .inl l
    · exact .inr ⟨k, c, e, cellK x c e _ z⟩
  · obtain ⟨v, z⟩ := I.cell x c e
    exact ⟨v, cellK x c e v z⟩
  · obtain ⟨m, ⟨o, _, _, ho, _⟩, _⟩ := I.loc
    exact free _ o (fun z => (hch _ z).2.1 rfl) ho I.free
  · obtain ⟨v, o, ho, hd⟩ := I.cell x c e
    exact free c o (fun z => (hch c z).2.2.1 x c e rfl) ho (I.freeC x c e)
  · obtain ⟨e, n, ne, nf, d⟩ := I.pin p hp
    have nch : p.1 ∉ ch := fun z => (hch p.1 z).2.2.2 p hp rfl
    exact ⟨keep p.1 p.2 ne nf nch e n, free p.1 p.2 nch e n, ne, nf, d⟩
theorem Inv.un {t' : Nat} (I : Inv X pins σ H s) (u : Un X.fs [] H H' s.heap h') (hok : HOk X.prog X.w H' h') : Inv X pins σ H' { s with heap := h', toks := t' } := by
  obtain ⟨m, ⟨o, es, ep, ho, r⟩, _⟩ := id I.loc
  obtain ⟨sl, hL⟩ := u.any ho I.free (by simp)
  exact I.step (g' := s.gens) (d' := s.drawn) (ch := []) (fun _ z => nomatch z) (fun b o _ hb _ e n => u.keep b o e n hb (by simp)) (fun b o _ hb _ e n => u.slot b o e n hb (by simp)) (fun b o _ e n => u.free b o e n (by simp)) (fun b o _ e => u.there b o e (by simp)) u.tups u.frzs u.tbls (fun m' hm => by
    obtain ⟨o', es', ep', ho', r'⟩ := hm
    rw [ho] at ho'; cases ho'
    exact ⟨_, es', ep', hL, r'⟩) hok I.bare
theorem Inv.call {g' : Array GenState} {t' : Nat} {d' : Drawn} {ch : List Addr} (I : Inv X pins σ H s) (u : Un (frs X.stack) ch H H' s.heap h') (hok : HOk X.prog X.w H' h') (hg : AllBare g')
    (hch : ∀ b ∈ ch, (b ∈ X.ex ∨ X.s₀.heap.objs.size ≤ b) ∧ b ≠ X.env.locals ∧ (∀ x c, X.env.cells.lookup x = some c → c ≠ b) ∧ ∀ p ∈ X.pn ++ pins, p.1 ≠ b) :
    Inv X pins σ H' { s with heap := h', gens := g', drawn := d', toks := t' } := by
  obtain ⟨m, ⟨o, es, ep, ho, r⟩, _⟩ := id I.loc
  obtain ⟨sl, hL⟩ := u.any ho I.free fun z => (hch _ z).2.1 rfl
  exact I.step (ch := ch) hch (fun b o hL hb hc e n => u.keep b o e n (fun z => (List.mem_cons.mp (I.stkSub b z)).elim hL hb) hc) (fun b o _ _ hc e n => u.any e n hc) (fun b o hc e n => u.free b o e n hc) (fun b o hc e => u.there b o e hc) u.tups u.frzs u.tbls (fun m' hm => by
    obtain ⟨o', es', ep', ho', r'⟩ := hm
    rw [ho] at ho'; cases ho'
    exact ⟨_, es', ep', hL, r'⟩) hok hg
theorem Inv.turned {t' : Nat} {it : Addr} (I : Inv X pins σ H s) (k : ∀ b o, b ≠ it → s.heap.get? b = some o → h'.get? b = some o) (hn : H it = none) (hL : it ≠ X.env.locals)
    (h1 : it ∈ X.ex ∨ X.s₀.heap.objs.size ≤ it) (h2 : ∀ x c, X.env.cells.lookup x = some c → c ≠ it) (h3 : ∀ p ∈ X.pn ++ pins, p.1 ≠ it) : Inv X pins σ H { s with heap := h', toks := t' } := by
  have nit : ∀ b u, H b = some u → b ≠ it := fun b u e z => by rw [z, hn] at e; cases e
  refine I.step (g' := s.gens) (d' := s.drawn) (ch := [it]) (fun b hb => ?_) (fun b o _ _ hc e _ => k b o (fun z => hc (by simp [z])) e) (fun b o _ _ hc e _ => ⟨o.slots, k b o (fun z => hc (by simp [z])) e⟩) (fun _ _ _ _ n => n)
    (fun b o hc e => ⟨o, k b o (fun z => hc (by simp [z])) e⟩) (fun _ _ e => e) (fun _ _ _ e => e) (fun b ps e => ⟨#[], by rw [e]; simp⟩) (fun m hm => ?_) (fun b u e => ?_) I.bare
  · have e : b = it := by simpa using hb
    subst e
    exact ⟨h1, hL, h2, h3⟩
  · obtain ⟨o, es, ep, ho, r⟩ := hm
    exact ⟨o, es, ep, k _ o (Ne.symm hL) ho, r⟩
  · refine (I.hok b u e).stay (fun c v hc q => k c v ?_ q) (fun _ q => q) fun _ _ q => q
    rcases hc with z | z
    · rw [z]; exact nit b u e
    · exact nit c _ z
theorem Inv.tok (I : Inv X pins σ H s) (t : Nat) : Inv X pins σ H { s with toks := t } := I.un (h' := s.heap) (t' := t) Un.refl I.hok
theorem Inv.kept {t' : Nat} (I : Inv X pins σ H s) (k : ∀ b u, s.heap.get? b = some u → h'.get? b = some u) : Inv X pins σ H { s with heap := h', toks := t' } := I.un (Un.kept k) (I.hok.kept k)
theorem Inv.laid {a : Addr} {o : HO} {t' : Nat} (I : Inv X pins σ H s) (k : ∀ b u, s.heap.get? b = some u → h'.get? b = some u) (hp : s.heap.objs.size ≤ a) (new : ObjOk X.prog X.w (upd H a o) h' a o) :
    Inv X pins σ (upd H a o) { s with heap := h', toks := t' } := I.un (Un.laid k hp (I.hok.fresh hp)) (I.hok.laid k hp new)
theorem Inv.write {x e : Addr} {o : HO} {t' : Nat} (I : Inv X pins σ H s) (mu : Mut (H x)) (he : e = x ∨ H e = some (.own x)) (k : ∀ b u, b ≠ e → s.heap.get? b = some u → h'.get? b = some u) (heo : ∃ u, h'.get? e = some u)
    (new : ObjOk X.prog X.w (upd H x o) h' x o) : Inv X pins σ (upd H x o) { s with heap := h', toks := t' } := I.un (Un.write mu he k heo) (I.hok.write mu he k heo new)
theorem Inv.weak {σ' : List (Option V)} (I : Inv X pins σ H s) (hl : σ'.length = σ.length) (w : ∀ (i : Nat) v, σ'[i]? = some (some v) → σ[i]? = some (some v)) : Inv X pins σ' H s :=
  ⟨I.ok, I.os, I.bare, I.base, let ⟨m, hn, hl'⟩ := I.loc; ⟨m, hn, fun i x v e1 e2 e3 => hl' i x v e1 (w i v e2) e3⟩, I.cell, I.free, I.freeC, I.pin, I.hok, hl.trans I.len⟩
theorem Inv.pins_of {pins' : List (Addr × Obj)} (I : Inv X pins σ H s) (h : ∀ p ∈ pins', s.heap.get? p.1 = some p.2 ∧ H p.1 = none ∧ p.1 ≠ X.env.locals ∧ p.1 ∉ X.fs ∧ ∀ v, p.2.data ≠ .cell v) : Inv X pins' σ H s :=
  ⟨I.ok, I.os, I.bare, I.base, I.loc, I.cell, I.free, I.freeC, fun p hp => (List.mem_append.mp hp).elim (fun z => I.pin p (List.mem_append_left _ z)) (h p), I.hok, I.len⟩
theorem nodup_ix {N : List Str} (hN : N.Nodup) {i j : Nat} {x : Str} (a : N[i]? = some x) (b : N[j]? = some x) : i = j := by
  obtain ⟨h1, e1⟩ := List.getElem?_eq_some_iff.mp a
  obtain ⟨h2, e2⟩ := List.getElem?_eq_some_iff.mp b
  exact (List.getElem_inj hN).mp (e1.trans e2.symm)
theorem store_ok2 {M : Model} {A : Around} {E : Value → Shared → Prop} {i : Nat} {x : Str} {v : V} {u : Value} {Q : Unit → Shared → Prop} (I : Inv X pins σ H s) (hN : X.N.Nodup) (hi : X.N[i]? = some x) (hx : Loc X.env.scope x) (r : RelV v u)
    (h : ∀ s', Inv X pins (σ.set i (some v)) H s' → (∃ a, Heap.SameBut a s.heap s'.heap ∧ (a = X.env.locals ∨ X.env.cells.lookup x = some a)) → Q () s') (hf : X.fn x = true ∨ X.env.scope.names.lookup x = some .local := by first | exact .inl rfl | exact .inr rfl | assumption) : wpAny M A (storeName X.env x u) Q E s := by
  obtain ⟨m, hn, hl⟩ := id I.loc
  have hcls : (X.env.scope.kind == .class || (X.env.scope.kind == .module && X.env.locals != X.env.globals)) = false := by rw [I.ok.kind]; rfl
  have hiσ : i < σ.length := by rw [I.len]; exact (List.getElem?_eq_some_iff.mp hi).1
  have cne := I.cne
  have tracked : ∀ {a : Addr} {h' : Heap}, (∃ o, s.heap.get? a = some o ∧ H a = none) → Heap.SameBut a s.heap h' → HOk X.prog X.w H h' := fun {a h'} ha hs b ob e => by
    obtain ⟨_, _, hfree⟩ := ha
    refine (I.hok b ob e).stay (fun c w' hc q => (hs.2 c ?_).trans q) (fun _ q => q) fun _ _ q => q
    rintro rfl
    rcases hc with rfl | hc
    · rw [hfree] at e; cases e
    · rw [hfree] at hc; cases hc
  rcases hx with hk | hk
  · refine wpAny_storeName_local hk hn (fun h' hn' hs => ?_) hcls
    obtain ⟨oL, _, _, hoL, _⟩ := id hn
    refine h _ ⟨I.ok, I.os, I.bare, ⟨fun b o e n hb hx => ?_, fun b o e n hb hx => ?_, I.base.free, fun b o e hx => ?_, I.base.tups, I.base.frzs, I.base.tbls⟩, ⟨_, hn', fun j y v' e1 e2 e3 => ?_⟩, fun y c e => ?_, I.free, I.freeC, fun p hp => ?_, tracked ⟨oL, hoL, I.free⟩ hs, by simpa using I.len⟩ ⟨_, hs, .inl rfl⟩
    · exact (hs.2 b (Nat.ne_of_lt (Nat.lt_of_lt_of_le (Heap.lt_size e) I.ok.above))).trans (I.base.keep b o e n hb hx)
    · obtain ⟨sl, e1⟩ := I.base.slot b o e n hb hx
      exact ⟨sl, (hs.2 b (Nat.ne_of_lt (Nat.lt_of_lt_of_le (Heap.lt_size e) I.ok.above))).trans e1⟩
    · obtain ⟨o', e1⟩ := I.base.there b o e hx
      exact ⟨o', (hs.2 b (Nat.ne_of_lt (Nat.lt_of_lt_of_le (Heap.lt_size e) I.ok.above))).trans e1⟩
    · by_cases hj : j = i
      · subst hj
        rw [hi] at e1; cases e1
        rw [List.getElem?_set_self hiσ] at e2
        cases e2
        exact ⟨u, r, .inl ⟨hk, by simp⟩⟩
      · rw [List.getElem?_set_ne (Ne.symm hj)] at e2
        obtain ⟨u', r', q⟩ := hl j y v' e1 e2 e3
        refine ⟨u', r', ?_⟩
        rcases q with ⟨k, e⟩ | ⟨k, c, e, z⟩
        · refine .inl ⟨k, ?_⟩
          have : y ≠ x := fun e => hj (nodup_ix hN e1 (e ▸ hi))
          simp [this, e]
        · exact .inr ⟨k, c, e, z.sameBut hs (cne y c e)⟩
    · obtain ⟨w', z⟩ := I.cell y c e
      exact ⟨w', z.sameBut hs (cne y c e)⟩
    · obtain ⟨e, n, ne, nf, d⟩ := I.pin p hp
      exact ⟨(hs.2 p.1 ne).trans e, n, ne, nf, d⟩
  · have hfn : X.fn x = true := by
      rcases hf with z | z
      · exact z
      · rw [z] at hk; cases hk
    obtain ⟨c, hc⟩ := I.ok.has x (.inl hk)
    obtain ⟨w', z⟩ := I.cell x c hc
    refine wpAny_storeName_cell I.ok.kind hk hc z (fun h' hc' hs => ?_)
    obtain ⟨oc, hoc, hocd⟩ := id z
    refine h { s with heap := h' } ⟨I.ok, I.os, I.bare, ⟨fun b o e n hb hx => ?_, fun b o e n hb hx => ?_, I.base.free, fun b o e hx => ?_, I.base.tups, I.base.frzs, I.base.tbls⟩, ⟨m, hn.sameBut hs (Ne.symm (cne x c hc)), fun j y v' e1 e2 e3 => ?_⟩, fun y c' e => ?_, I.free, I.freeC, fun p hp => ?_, tracked ⟨oc, hoc, I.freeC x c hc⟩ hs, by simpa using I.len⟩ ⟨c, hs, .inr hc⟩
    · exact (hs.2 b (Nat.ne_of_lt (Nat.lt_of_lt_of_le (Heap.lt_size e) (I.ok.cab x c hfn hc)))).trans (I.base.keep b o e n hb hx)
    · obtain ⟨sl, e1⟩ := I.base.slot b o e n hb hx
      exact ⟨sl, (hs.2 b (Nat.ne_of_lt (Nat.lt_of_lt_of_le (Heap.lt_size e) (I.ok.cab x c hfn hc)))).trans e1⟩
    · obtain ⟨o', e1⟩ := I.base.there b o e hx
      exact ⟨o', (hs.2 b (Nat.ne_of_lt (Nat.lt_of_lt_of_le (Heap.lt_size e) (I.ok.cab x c hfn hc)))).trans e1⟩
    · by_cases hj : j = i
      · subst hj
        rw [hi] at e1; cases e1
        rw [List.getElem?_set_self hiσ] at e2
        cases e2
        exact ⟨u, r, .inr ⟨.inl hk, c, hc, hc'⟩⟩
      · rw [List.getElem?_set_ne (Ne.symm hj)] at e2
        obtain ⟨u', r', q⟩ := hl j y v' e1 e2 e3
        refine ⟨u', r', ?_⟩
        rcases q with q | ⟨k, c', e, z'⟩
        · exact .inl q
        · refine .inr ⟨k, c', e, z'.sameBut hs ?_⟩
          rintro rfl
          exact hj (nodup_ix hN e1 (I.ok.inj _ _ _ e hc ▸ hi))
    · by_cases hcc : c' = c
      · subst hcc; exact ⟨_, hc'⟩
      · obtain ⟨w2, z2⟩ := I.cell y c' e
        exact ⟨w2, z2.sameBut hs hcc⟩
    · obtain ⟨e, n, ne, nf, d⟩ := I.pin p hp
      refine ⟨(hs.2 p.1 ?_).trans e, n, ne, nf, d⟩
      intro q
      rw [q, hoc] at e
      have q' : oc = p.2 := Option.some.inj e
      exact d w' (by rw [← q']; exact hocd)
theorem store_ok {M : Model} {A : Around} {E : Value → Shared → Prop} {i : Nat} {x : Str} {v : V} {u : Value} {Q : Unit → Shared → Prop} (I : Inv X pins σ H s) (hN : X.N.Nodup) (hi : X.N[i]? = some x) (hx : Loc X.env.scope x) (r : RelV v u)
    (h : ∀ s', Inv X pins (σ.set i (some v)) H s' → Q () s') (hf : X.fn x = true ∨ X.env.scope.names.lookup x = some .local := by first | exact .inl rfl | exact .inr rfl | assumption) : wpAny M A (storeName X.env x u) Q E s :=
  store_ok2 I hN hi hx r (fun s' I' _ => h s' I') hf
theorem Inv.call' {s' : Shared} {ch : List Addr} (I : Inv X pins σ H s) (ho : s'.os = s.os) (u : Un (frs X.stack) ch H H' s.heap s'.heap) (hok : HOk X.prog X.w H' s'.heap) (hg : AllBare s'.gens)
    (hch : ∀ b ∈ ch, (b ∈ X.ex ∨ X.s₀.heap.objs.size ≤ b) ∧ b ≠ X.env.locals ∧ (∀ x c, X.env.cells.lookup x = some c → c ≠ b) ∧ ∀ p ∈ X.pn ++ pins, p.1 ≠ b) : Inv X pins σ H' s' := by
  obtain ⟨h', g', d', t', o'⟩ := s'
  have e : o' = s.os := ho
  subst e
  exact I.call (g' := g') (t' := t') (d' := d') u hok hg hch
end
noncomputable abbrev XK := Value → Option Addr → Hp → Prop
noncomputable abbrev St := List (Option V)
noncomputable abbrev VK := V → Hp → Prop
noncomputable abbrev TE := St → Hp → VK → Prop
noncomputable abbrev TT := St → Hp → (Bool → Hp → Prop) → Prop
noncomputable abbrev TA := St → Hp → (List V → Hp → Prop) → Prop
structure Ends where
  nx : St → Hp → Prop
  rt : VK
  bk : St → Hp → Prop := fun _ _ => False
  ct : St → Hp → Prop := fun _ _ => False
noncomputable abbrev TS := Ends → St → Hp → Prop
noncomputable def EP (X : Cx) (pins : List (Addr × Obj)) (σ : St) (Q : VK) (u : Value) (s' : Shared) : Prop := ∃ v H', Inv X pins σ H' s' ∧ RelV v u ∧ Q v H'
noncomputable def TP (X : Cx) (pins : List (Addr × Obj)) (σ : St) (Q : Bool → Hp → Prop) (b : Bool) (s' : Shared) : Prop := ∃ H', Inv X pins σ H' s' ∧ Q b H'
noncomputable def AP (X : Cx) (pins : List (Addr × Obj)) (σ : St) (Q : List V → Hp → Prop) (us : List Value) (s' : Shared) : Prop := ∃ vs H', Inv X pins σ H' s' ∧ Vals vs us ∧ Q vs H'
noncomputable def SP (X : Cx) (pins : List (Addr × Obj)) (D : Ends) (f : Flow) (s' : Shared) : Prop :=
  match f with
  | .next => ∃ σ' H', Inv X pins σ' H' s' ∧ D.nx σ' H'
  | .brk => ∃ σ' H', Inv X pins σ' H' s' ∧ D.bk σ' H'
  | .cont => ∃ σ' H', Inv X pins σ' H' s' ∧ D.ct σ' H'
  | .ret u => ∃ v σ' H', Inv X pins σ' H' s' ∧ RelV v u ∧ D.rt v H'
noncomputable def PE (X : Cx) (e : Expr) (t : TE) : Prop :=
  ∀ (pins : List (Addr × Obj)) (s : Shared) (σ : St) (H : Hp) (Q : VK), Inv X pins σ H s → t σ H Q → wpAny (model X.prog X.w) X.A (eval e X.env) (EP X pins σ Q) X.xe s
noncomputable def PT (X : Cx) (e : Expr) (t : TT) : Prop :=
  ∀ (pins : List (Addr × Obj)) (s : Shared) (σ : St) (H : Hp) (Q : Bool → Hp → Prop), Inv X pins σ H s → t σ H Q → wpAny (model X.prog X.w) X.A (isTrue e X.env (eval e X.env)) (TP X pins σ Q) X.xe s
noncomputable def PW (X : Cx) (e : Expr) (t : TT) : Prop :=
  ∀ (whole : Sem Value) (pins : List (Addr × Obj)) (s : Shared) (σ : St) (H : Hp) (Q : Bool → Hp → Prop), Inv X pins σ H s → t σ H Q → wpAny (model X.prog X.w) X.A (isTrue e X.env whole) (TP X pins σ Q) X.xe s
theorem PW.pt {X : Cx} {e : Expr} {t : TT} (h : PW X e t) : PT X e t := h _
noncomputable def PA (X : Cx) (es : List Expr) (t : TA) : Prop :=
  ∀ (pos : Pos) (pins : List (Addr × Obj)) (s : Shared) (σ : St) (H : Hp) (Q : List V → Hp → Prop), Inv X pins σ H s → t σ H Q → wpAny (model X.prog X.w) X.A (spliced (backTo pos (starEach es X.env))) (AP X pins σ Q) X.xe s
noncomputable def PS (X : Cx) (st : Stmt) (t : TS) : Prop :=
  ∀ (pins : List (Addr × Obj)) (s : Shared) (σ : St) (H : Hp) (D : Ends), Inv X pins σ H s → t D σ H → wpAny (model X.prog X.w) X.A (exec st X.env) (SP X pins D) X.xe s
noncomputable def PSs (X : Cx) (st : List Stmt) (t : TS) : Prop :=
  ∀ (pins : List (Addr × Obj)) (s : Shared) (σ : St) (H : Hp) (D : Ends), Inv X pins σ H s → t D σ H → wpAny (model X.prog X.w) X.A (execs st X.env) (SP X pins D) X.xe s
theorem thn {α : Type} {t : Sem α} {Q Q' : α → Shared → Prop} {M : Model} {A : Around} {E : Value → Shared → Prop} {s : Shared} (h : wpAny M A t Q E s) (hQ : ∀ a s, Q a s → Q' a s) : wpAny M A t Q' E s := wpAny_mono h hQ fun _ _ x => x
end L2
namespace L2
open PySem PySem.Spec PyProof.Rows
section
variable {X : Cx}
noncomputable def tVar (i : Nat) : TE := fun σ H Q => ∃ v, σ[i]? = some (some v) ∧ Q v H
noncomputable def tC (v : V) : TE := fun _ H Q => Q v H
theorem pe_var {i : Nat} {x : Str} {pos : Pos} (hN : X.N[i]? = some x) (hv : Vis X.env.scope x) (hd : (x == ("__debug__" : Str)) = false := by decide) (hcd : (x == ("__classdict__" : Str)) = false := by decide) : PE X (.Name x pos) (tVar i) := by
  intro pins s σ H Q I h
  obtain ⟨v, e, h⟩ := h
  obtain ⟨m, hn, hl⟩ := I.loc
  obtain ⟨u, r, l⟩ := hl i x v hN e hv
  have fin : EP X pins σ Q u s := ⟨v, H, I, r, h⟩
  rcases l with ⟨hk, hm⟩ | ⟨hk, c, hc, hcell⟩
  · exact wpAny_Name (wpAny_loadName_local I.ok.kind hk hn hm fin) hd
  · rcases hk with hk | hk
    · exact wpAny_Name (wpAny_loadName_cell I.ok.kind hk hc hcell fin) hd
    · exact wpAny_Name (wpAny_loadName_free I.ok.kind hk hc hcell fin hcd) hd
theorem pe_int {i j pos} : PE X (.Constant (.int i) j pos) (tC (.int i)) := fun _ _ _ H _ I h => wpAny_Constant_int ⟨.int i, H, I.tok _, ⟨_, rfl⟩, h⟩
theorem pe_bl {b j pos} : PE X (.Constant (.bool b) j pos) (tC (.bl b)) := fun _ _ _ H _ I h => Constant_bool ⟨.bl b, H, I, rfl, h⟩
theorem pe_non {j pos} : PE X (.Constant .none j pos) (tC .non) := fun _ _ _ H _ I h => Constant_none ⟨.non, H, I, rfl, h⟩
noncomputable def Gl (X : Cx) (x : Str) : Prop := X.env.kindOf x = some .globalImplicit
theorem ld_glob {E : Value → Shared → Prop} {pins : List (Addr × Obj)} {s : Shared} {σ : St} {H : Hp} {x : Str} {u : Value} {pos : Pos} {Q : Value → Shared → Prop} (I : Inv X pins σ H s) (hg : Gl X x) (hm : X.mg x = some u) (h : Q u s)
    (hd : (x == ("__debug__" : Str)) = false := by decide) : wpAny (model X.prog X.w) X.A (eval (.Name x pos) X.env) Q E s :=
  Calls.Name_function_global I.ok.kind hg (Calls.loadGlobal_global (by rw [I.ok.glob]; exact I.mod.glob.keeps I.bk) hm h) hd
theorem ld_blt {E : Value → Shared → Prop} {pins : List (Addr × Obj)} {s : Shared} {σ : St} {H : Hp} {x : Str} {u : Value} {pos : Pos} {Q : Value → Shared → Prop} (I : Inv X pins σ H s) (hg : Gl X x) (hm : X.mg x = none) (hv : bootBuiltins x = some u) (h : Q u s)
    (hn : x ≠ "__name__" := by decide) (hd : (x == ("__debug__" : Str)) = false := by decide) : wpAny (model X.prog X.w) X.A (eval (.Name x pos) X.env) Q E s := by
  obtain ⟨mb, h1, h2⟩ := I.mod.blt
  exact Calls.Name_function_global I.ok.kind hg (Calls.loadGlobal_builtin (by rw [I.ok.glob]; exact I.mod.glob.keeps I.bk) hm (by rw [I.ok.blt]; exact h1.keeps I.bk) ((h2 x hn).trans hv) h) hd
variable {a b : Expr} {ta tb : TE} {pos : Pos}
noncomputable def PC (X : Cx) (op : CmpOp) (a b : Expr) (t : TE) : Prop :=
  ∀ (pins : List (Addr × Obj)) (s : Shared) (σ : St) (H : Hp) (Q : VK), Inv X pins σ H s → t σ H Q →
    wpAny (model X.prog X.w) X.A (eval a X.env) (fun v s₁ => wpAny (model X.prog X.w) X.A (eval b X.env) (fun u s₂ => wpAny (model X.prog X.w) X.A (compareOp op v u) (EP X pins σ Q) X.xe s₂) X.xe s₁) X.xe s
theorem nobehind (b : Expr) {op : CmpOp} (h : op ≠ .In) (h2 : op ≠ .NotIn) : behindInMarks op b = false := by
  have e1 : (op == CmpOp.In) = false := by cases op <;> first | rfl | exact absurd rfl h
  have e2 : (op == CmpOp.NotIn) = false := by cases op <;> first | rfl | exact absurd rfl h2
  cases b <;> simp [behindInMarks, e1, e2]
noncomputable def tIsN (ta : TE) : TE := fun σ H Q => ta σ H fun x H1 => Q (.bl (decide (x = .non))) H1
noncomputable def tNotN (ta : TE) : TE := fun σ H Q => ta σ H fun x H1 => Q (.bl (!decide (x = .non))) H1
theorem RelV.none_iff {x : V} {v : Value} (r : RelV x v) : (v == Value.none) = decide (x = .non) := by
  cases x with
  | non => cases r; rfl
  | bl _ => cases r; rfl
  | int _ => obtain ⟨t, rfl⟩ := r; rfl
  | str _ => obtain ⟨t, rfl⟩ := r; rfl
  | byt _ => obtain ⟨t, rfl⟩ := r; rfl
  | flt _ => obtain ⟨t, rfl⟩ := r; rfl
  | ref _ => cases r; rfl
  | ty _ => cases r; rfl
theorem pc_isN {j pos'} (ha : PE X a ta) : PC X .Is a (.Constant .none j pos') (tIsN ta) := by
  intro pins s σ H Q I h
  refine thn (ha pins s σ H _ I h) fun v s1 ⟨x, H1, I1, r1, q1⟩ => ?_
  exact Constant_none (is_none_gen ⟨.bl _, H1, I1, by rw [r1.none_iff]; rfl, q1⟩)
noncomputable def tB (t : TE) : TT := fun σ H Q => t σ H fun x H1 => ∃ c, x = .bl c ∧ Q c H1
theorem pt_cmp {op : CmpOp} {t : TE} (h : PC X op a b t) (h1 : behindInMarks op b = false := by first | exact nobehind _ (by decide) (by decide) | rfl) : PT X (.Compare a [op] [b] pos) (tB t) := by
  intro pins s σ H Q I hw
  refine wpAny_isTrue_Compare1 (thn (h pins s σ H _ I hw) fun v s1 h1 => thn h1 fun u s2 h2 => thn h2 fun c s3 ⟨x, H1, I1, r1, q1⟩ => ?_) h1
  obtain ⟨d, rfl, q⟩ := q1
  cases r1
  exact wpAny_truthy_bool ⟨H1, I1, q⟩
variable {tA tB' : TT} {rest : List Expr}
noncomputable def tAnd (t u : TT) : TT := fun σ H Q => t σ H fun c H1 => if c = true then u σ H1 Q else Q false H1
noncomputable def tOr (t u : TT) : TT := fun σ H Q => t σ H fun c H1 => if c = true then Q true H1 else u σ H1 Q
noncomputable def tNot (t : TT) : TT := fun σ H Q => t σ H fun c H1 => Q (!c) H1
theorem pw_and1 (ha : PT X a tA) : PW X (.BoolOp .And [a] pos) tA := by
  intro wh pins s σ H Q I h
  refine isTrue_and (thn (ha pins s σ H Q I h) fun c s1 e => ?_)
  cases c with
  | true => exact isTrue_and_nil e
  | false => exact e
theorem pw_or1 (ha : PT X a tA) : PW X (.BoolOp .Or [a] pos) tA := by
  intro wh pins s σ H Q I h
  refine isTrue_or (thn (ha pins s σ H Q I h) fun c s1 e => ?_)
  cases c with
  | false => exact isTrue_or_nil e
  | true => exact e
theorem pw_and (ha : PT X a tA) (hb : PW X (.BoolOp .And (b :: rest) pos) tB') : PW X (.BoolOp .And (a :: b :: rest) pos) (tAnd tA tB') := by
  intro wh pins s σ H Q I h
  refine isTrue_and (thn (ha pins s σ H _ I h) fun c s1 ⟨H1, I1, q1⟩ => ?_)
  cases c with
  | true => exact hb wh pins s1 σ H1 Q I1 q1
  | false => exact ⟨H1, I1, q1⟩
theorem pw_or (ha : PT X a tA) (hb : PW X (.BoolOp .Or (b :: rest) pos) tB') : PW X (.BoolOp .Or (a :: b :: rest) pos) (tOr tA tB') := by
  intro wh pins s σ H Q I h
  refine isTrue_or (thn (ha pins s σ H _ I h) fun c s1 ⟨H1, I1, q1⟩ => ?_)
  cases c with
  | true => exact ⟨H1, I1, q1⟩
  | false => exact hb wh pins s1 σ H1 Q I1 q1
noncomputable def tAndV (ta tb : TE) : TE := fun σ H Q => ta σ H fun x H1 => ∃ c, x = .bl c ∧ if c = true then tb σ H1 Q else Q (.bl false) H1
noncomputable def tOrV (ta tb : TE) : TE := fun σ H Q => ta σ H fun x H1 => ∃ c, x = .bl c ∧ if c = true then Q (.bl true) H1 else tb σ H1 Q
noncomputable def tNotV (ta : TE) : TE := fun σ H Q => ta σ H fun x H1 => ∃ c, x = .bl c ∧ Q (.bl (!c)) H1
noncomputable def tIf (t : TT) (ta tb : TE) : TE := fun σ H Q => t σ H fun c H1 => if c = true then ta σ H1 Q else tb σ H1 Q
end
end L2
namespace L2
open PySem PySem.Spec PyProof.Rows
noncomputable def SqL (K : PySem.W.Frag) (H : Hp) (a : Addr) (xs : List V) : Prop :=
  Rd H a (.lst xs) ∨
    ∃ (o : Obj) (its : Array Value) (n : Nat), K.lookup a = some o ∧ o.cls = .type "list" ∧ o.dict = none ∧ o.data = .seq its n ∧ its.size ≤ sizeLine ∧ Vals xs its.toList
noncomputable def SqT (K : PySem.W.Frag) (H : Hp) (a : Addr) (xs : List V) : Prop :=
  Rd H a (.tup xs) ∨
    ∃ (o : Obj) (its : Array Value) (n : Nat), K.lookup a = some o ∧ o.cls = .type "tuple" ∧ o.data = .seq its n ∧ its.size ≤ sizeLine ∧ Vals xs its.toList
noncomputable def absV : Value → Option V
  | .none => some .non
  | .bool b => some (.bl b)
  | .int i _ => some (.int i)
  | .str x _ => some (.str x)
  | .bytes b _ => some (.byt b)
  | .float b _ => some (.flt b)
  | .ref a => some (.ref a)
  | .type n => some (.ty n)
  | _ => none
theorem RelV.abs {x : V} {u : Value} (r : RelV x u) : absV u = some x := by
  cases x with
  | non => cases r; rfl
  | bl _ => cases r; rfl
  | int _ => obtain ⟨t, rfl⟩ := r; rfl
  | str _ => obtain ⟨t, rfl⟩ := r; rfl
  | byt _ => obtain ⟨t, rfl⟩ := r; rfl
  | flt _ => obtain ⟨t, rfl⟩ := r; rfl
  | ref _ => cases r; rfl
  | ty _ => cases r; rfl
theorem RelV.inj {x y : V} {u : Value} (r : RelV x u) (q : RelV y u) : x = y := Option.some.inj (r.abs.symm.trans q.abs)
theorem Vals.inj : ∀ {xs ys : List V} {us : List Value}, Vals xs us → Vals ys us → xs = ys
  | _, _, _, .nil, .nil => rfl
  | _, _, _, .cons r t, .cons r' t' => by rw [r.inj r', Vals.inj t t']
section
variable {X : Cx} {pins : List (Addr × Obj)} {σ : St} {H : Hp} {s : Shared} {a : Addr} {xs ys : List V}
theorem SqL.of {K : PySem.W.Frag} (h : H a = some (.lst xs)) : SqL K H a xs := .inl (.inl h)
theorem SqT.of {K : PySem.W.Frag} (h : H a = some (.tup xs)) : SqT K H a xs := .inl (.inl h)
theorem Inv.list (I : Inv X pins σ H s) (h : SqL X.K H a xs) : ∃ its : List Value, Vals xs its ∧ PlainL s.heap a its.toArray ∧ xs.length ≤ sizeLine := by
  rcases h with h | ⟨o, its, n, hk, hc, hd, hs, hz, r⟩
  · obtain ⟨z, its, n, r, e⟩ := h.ok I.hok
    exact ⟨its, r, ⟨_, n, e, rfl, rfl, rfl⟩, z⟩
  · refine ⟨its.toList, r, ⟨o, n, I.kIn a o hk, hc, hd, by simpa using hs⟩, ?_⟩
    have e := r.length
    simp only [Array.length_toList] at e
    omega
theorem Inv.tuple (I : Inv X pins σ H s) (h : SqT X.K H a xs) : ∃ its : List Value, Vals xs its ∧ IsTup s.heap a its.toArray ∧ xs.length ≤ sizeLine := by
  rcases h with h | ⟨o, its, n, hk, hc, hs, hz, r⟩
  · obtain ⟨z, its, r, p⟩ := h.ok I.hok
    exact ⟨its, r, p, z⟩
  · refine ⟨its.toList, r, ⟨o, I.kIn a o hk, hc, n, by simpa using hs⟩, ?_⟩
    have e := r.length
    simp only [Array.length_toList] at e
    omega
theorem Inv.list_inj (I : Inv X pins σ H s) (h : SqL X.K H a xs) (h' : SqL X.K H a ys) : xs = ys := by
  obtain ⟨its, r, ⟨o, n, e, _, _, d⟩, _⟩ := I.list h
  obtain ⟨its', r', ⟨o', n', e', _, _, d'⟩, _⟩ := I.list h'
  rw [e] at e'; cases e'
  rw [d] at d'
  injection d' with d1 _
  have : its = its' := by simpa using congrArg Array.toList d1
  subst this
  exact r.inj r'
end
noncomputable abbrev Cx.wish (X : Cx) (E : Value → Shared → Prop) : Cx := { X with xe := E }
noncomputable abbrev Cx.nox (X : Cx) : Cx := X.wish fun _ _ => False
theorem Cx.Ok.wish {X : Cx} (ok : X.Ok) (E : Value → Shared → Prop) : (X.wish E).Ok :=
  ⟨ok.mod, ok.kind, ok.glob, ok.blt, ok.above, ok.inj, ok.has, ok.cab, ok.hd, ok.frames, ok.stk, ok.exf, ok.bs, ok.bsz, ok.noex, ok.exfs, ok.funs, ok.frf⟩
theorem Cx.Ok.unwish {X : Cx} {E : Value → Shared → Prop} (ok : (X.wish E).Ok) : X.Ok :=
  ⟨ok.mod, ok.kind, ok.glob, ok.blt, ok.above, ok.inj, ok.has, ok.cab, ok.hd, ok.frames, ok.stk, ok.exf, ok.bs, ok.bsz, ok.noex, ok.exfs, ok.funs, ok.frf⟩
section
variable {X : Cx} {pins : List (Addr × Obj)} {σ : St} {H : Hp} {s : Shared} {E : Value → Shared → Prop}
theorem Inv.wish (I : Inv X pins σ H s) (E : Value → Shared → Prop) : Inv (X.wish E) pins σ H s := ⟨I.ok.wish E, I.os, I.bare, I.base, I.loc, I.cell, I.free, I.freeC, I.pin, I.hok, I.len⟩
theorem Inv.unwish (I : Inv (X.wish E) pins σ H s) : Inv X pins σ H s := ⟨I.ok.unwish, I.os, I.bare, I.base, I.loc, I.cell, I.free, I.freeC, I.pin, I.hok, I.len⟩
theorem SP.unwish {D : Ends} {f : Flow} {s' : Shared} (h : SP (X.wish E) pins D f s') : SP X pins D f s' := by
  cases f with
  | next => obtain ⟨σ', H', I, q⟩ := h; exact ⟨σ', H', I.unwish, q⟩
  | brk => obtain ⟨σ', H', I, q⟩ := h; exact ⟨σ', H', I.unwish, q⟩
  | cont => obtain ⟨σ', H', I, q⟩ := h; exact ⟨σ', H', I.unwish, q⟩
  | ret u => obtain ⟨v, σ', H', I, r, q⟩ := h; exact ⟨v, σ', H', I.unwish, r, q⟩
theorem PE.nox {e : Expr} {t : TE} (h : PE X.nox e t) : PE X e t := fun pins s σ H Q I hw =>
  wpAny_mono (h pins s σ H Q (I.wish _) hw) (fun _ _ ⟨v, H', I', r, q⟩ => ⟨v, H', I'.unwish, r, q⟩) fun _ _ z => False.elim z
theorem PT.nox {e : Expr} {t : TT} (h : PT X.nox e t) : PT X e t := fun pins s σ H Q I hw =>
  wpAny_mono (h pins s σ H Q (I.wish _) hw) (fun _ _ ⟨H', I', q⟩ => ⟨H', I'.unwish, q⟩) fun _ _ z => False.elim z
theorem PSs.nox {st : List Stmt} {t : TS} (h : PSs X.nox st t) : PSs X st t := fun pins s σ H D I hw =>
  wpAny_mono (h pins s σ H D (I.wish _) hw) (fun _ _ q => q.unwish) fun _ _ z => False.elim z
end
section
variable {X : Cx} {st : Stmt} {rest : List Stmt} {t u : TS} {e : Expr} {te : TE} {pos : Pos}
noncomputable def tNext : TS := fun D σ H => D.nx σ H
noncomputable def tSeq (t u : TS) : TS := fun D σ H => t { D with nx := u D } σ H
theorem pss_nil : PSs X [] tNext := fun _ _ σ H _ I h => wpAny_execs_nil ⟨σ, H, I, h⟩
theorem pss_cons (h1 : PS X st t) (h2 : PSs X rest u) : PSs X (st :: rest) (tSeq t u) := by
  intro pins s σ H D I h
  refine wpAny_execs_cons (thn (h1 pins s σ H { D with nx := u D } I h) fun f s1 q => ?_)
  cases f with
  | next =>
    obtain ⟨σ', H', I', q⟩ := q
    exact h2 pins s1 σ' H' D I' q
  | ret v => exact q
  | brk => exact q
  | cont => exact q
theorem pss_one (h1 : PS X st t) : PSs X [st] t := by
  intro pins s σ H D I h
  refine wpAny_execs_cons (thn (h1 pins s σ H D I h) fun f s1 q => ?_)
  cases f with
  | next => exact wpAny_execs_nil q
  | ret v => exact q
  | brk => exact q
  | cont => exact q
noncomputable def tCont : TS := fun D σ H => D.ct σ H
noncomputable def tDrop (te : TE) : TS := fun D σ H => te σ H fun _ H1 => D.nx σ H1
noncomputable def tRet (te : TE) : TS := fun D σ H => te σ H D.rt
theorem ps_ret (he : PE X e te) : PS X (.Return (some e) pos) (tRet te) := by
  intro pins s σ H D I h
  exact wpAny_Return_some (thn (he pins s σ H _ I h) fun v s1 ⟨x, H1, I1, r1, q1⟩ => ⟨x, σ, H1, I1, r1, q1⟩)
noncomputable def tRetN : TS := fun D _ H => D.rt .non H
noncomputable def tIfS (c : TT) (t u : TS) : TS := fun D σ H => c σ H fun b H1 => if b = true then t D σ H1 else u D σ H1
theorem ps_if {c : Expr} {a b : List Stmt} {tc : TT} (hc : PT X c tc) (ha : PSs X a t) (hb : PSs X b u) : PS X (.If c a b pos) (tIfS tc t u) := by
  intro pins s σ H D I h
  refine wpAny_If (thn (hc pins s σ H _ I h) fun d s1 ⟨H1, I1, q1⟩ => ?_)
  cases d with
  | true => exact ha pins s1 σ H1 D I1 q1
  | false => exact hb pins s1 σ H1 D I1 q1
noncomputable def tNever : TS := fun _ _ _ => False
theorem ps_never : PS X st tNever := fun _ _ _ _ _ _ h => h.elim
end
noncomputable abbrev TG := V → St → Hp → (St → Hp → Prop) → Prop
noncomputable abbrev TGs := List V → St → Hp → (St → Hp → Prop) → Prop
noncomputable def PG (X : Cx) (target : Expr) (t : TG) : Prop :=
  ∀ (pins : List (Addr × Obj)) (s : Shared) (σ : St) (H : Hp) (v : V) (u : Value) (Q : St → Hp → Prop), Inv X pins σ H s → RelV v u → t v σ H Q →
    wpAny (model X.prog X.w) X.A (assign target X.env u) (fun _ s' => ∃ σ' H', Inv X pins σ' H' s' ∧ Q σ' H') X.xe s
noncomputable def PGs (X : Cx) (ts : List Expr) (t : TGs) : Prop :=
  ∀ (pins : List (Addr × Obj)) (s : Shared) (σ : St) (H : Hp) (vs : List V) (us : List Value) (Q : St → Hp → Prop), Inv X pins σ H s → Vals vs us → t vs σ H Q →
    wpAny (model X.prog X.w) X.A (assignInOrder ((assignEach ts X.env).map (·.2)) us) (fun _ s' => ∃ σ' H', Inv X pins σ' H' s' ∧ Q σ' H') X.xe s
noncomputable abbrev TSet := V → V → V → Hp → (Hp → Prop) → Prop
noncomputable def PSet (X : Cx) (t : TSet) : Prop :=
  ∀ (pins : List (Addr × Obj)) (s : Shared) (σ : St) (H : Hp) (o i v : V) (ov iv u : Value) (Q : Hp → Prop), Inv X pins σ H s → RelV o ov → RelV i iv → RelV v u → t o i v H Q →
    wpAny (model X.prog X.w) X.A (setItem ov iv u) (fun _ s' => ∃ H', Inv X pins σ H' s' ∧ Q H') X.xe s
section
variable {X : Cx} {pos : Pos}
noncomputable def gName (i : Nat) : TG := fun v σ H Q => Q (σ.set i (some v)) H
theorem pg_name {i : Nat} {x : Str} (hN : X.N.Nodup) (hi : X.N[i]? = some x) (hx : Loc X.env.scope x) (hf : X.fn x = true ∨ X.env.scope.names.lookup x = some .local := by first | exact .inl rfl | exact .inr rfl | assumption) : PG X (.Name x pos) (gName i) := by
  intro pins s σ H v u Q I r h
  exact wpAny_assign_Name (store_ok I hN hi hx r (fun s' I' => ⟨_, H, I', h⟩) hf)
noncomputable def gNil : TGs := fun vs σ H Q => vs = [] ∧ Q σ H
noncomputable def gCons (t : TG) (u : TGs) : TGs := fun vs σ H Q => ∃ v r, vs = v :: r ∧ t v σ H fun σ' H' => u r σ' H' Q
theorem pgs_nil : PGs X [] gNil := by
  intro pins s σ H vs us Q I r h
  obtain ⟨e, h⟩ := h
  subst e
  cases r
  exact assignInOrder_nil ⟨σ, H, I, h⟩
theorem pgs_cons {e : Expr} {es : List Expr} {t : TG} {u : TGs} (h1 : PG X e t) (h2 : PGs X es u)
    (hs : (assignEach (e :: es) X.env).map (·.2) = assign e X.env :: (assignEach es X.env).map (·.2) := by rfl) : PGs X (e :: es) (gCons t u) := by
  intro pins s σ H vs us Q I r h
  obtain ⟨v, vr, e1, h⟩ := h
  subst e1
  cases r with
  | cons r rr =>
    rw [hs]
    refine assignInOrder_cons (thn (h1 pins s σ H _ _ _ I r h) fun _ s1 ⟨σ1, H1, I1, q1⟩ => ?_)
    exact h2 pins s1 σ1 H1 _ _ Q I1 rr q1
noncomputable def gTup (K : PySem.W.Frag) (n : Nat) (t : TGs) : TG := fun v σ H Q => ∃ a xs, v = .ref a ∧ SqT K H a xs ∧ xs.length = n ∧ t xs σ H Q
theorem pg_tup {es : List Expr} {k : Nat} {t : TGs} {n : Nat} (hc : X.calm = true) (h : PGs X es t)
    (hn : (assignEach es X.env).length = n := by rfl) (hst : (assignEach es X.env).findIdx? (·.1) = none := by rfl) : PG X (.Tuple es k pos) (gTup X.K n t) := by
  intro pins s σ H v u Q I r hw
  obtain ⟨a, xs, e1, hq, hl, hw⟩ := hw
  subst e1
  cases r
  obtain ⟨its, rv, ht, hz⟩ := I.tuple hq
  refine assign_Tuple_tuple (I.ok.hd hc) ht (by simp [hn, ← hl, rv.length]) hst fun h' hx => ?_
  have I1 : Inv X pins σ H { s with heap := h' } := I.kept (t' := s.toks) fun b o e => hx b o (Nat.ne_of_lt (Heap.lt_size e)) e
  exact h pins _ σ H xs _ Q I1 (by simpa using rv) hw
noncomputable def gSub (to ti : TE) (t : TSet) : TG := fun v σ H Q => to σ H fun o H1 => ti σ H1 fun i H2 => t o i v H2 fun H3 => Q σ H3
theorem pg_sub {o i : Expr} {to ti : TE} {t : TSet} (ho : PE X o to) (hi : PE X i ti) (hs : PSet X t)
    (ha : ∀ v, assign (.Subscript o i pos) X.env v = (do
      let ov ← holding [v] (eval o X.env)
      let iv ← holding [v, ov] (eval i X.env)
      standAt pos
      holding [v, ov, iv] (setItem ov iv v)
      release [v, ov, iv] []) := by intro _; rfl) : PG X (.Subscript o i pos) (gSub to ti t) := by
  intro pins s σ H v u Q I r h
  rw [ha]
  refine wpAny_bind (wpAny_holding (thn (ho pins s σ H _ I h) fun ov s1 ⟨x, H1, I1, r1, q1⟩ => ?_))
  refine wpAny_bind (wpAny_holding (thn (hi pins s1 σ H1 _ I1 q1) fun iv s2 ⟨y, H2, I2, r2, q2⟩ => ?_))
  refine wpAny_bind (wpAny_standAt (wpAny_bind (wpAny_holding (thn (hs pins s2 σ H2 x y v ov iv u _ I2 r1 r2 r q2) fun _ s3 ⟨H3, I3, q3⟩ => ?_))))
  exact wpAny_release ⟨σ, H3, I3, q3⟩
noncomputable def tAsg (te : TE) (g : TG) : TS := fun D σ H => te σ H fun x H1 => g x σ H1 D.nx
theorem ps_asg {tg e : Expr} {te : TE} {g : TG} (he : PE X e te) (hg : PG X tg g) (hs : swapsWithSole [tg] e pos.line X.env = pure false := by rfl) (hw : swappedStores [tg] e X.env = pure none := by rfl)
    (h1 : (assignEach [tg] X.env).map (·.2) = [assign tg X.env] := by rfl) : PS X (.Assign [tg] e pos) (tAsg te g) := by
  intro pins s σ H D I h
  refine wpAny_Assign_stores (thn (he pins s σ H _ I h) fun v s1 ⟨x, H1, I1, r1, q1⟩ => ?_) hs hw
  rw [h1]
  exact thn (hg pins s1 σ H1 x v _ I1 r1 q1) fun _ s2 q => q
theorem ps_set {i : Nat} {x : Str} {e : Expr} {te : TE} {pos' : Pos} (hN : X.N.Nodup) (hi : X.N[i]? = some x) (hx : Loc X.env.scope x) (he : PE X e te) (hs : swapsWith e (some (.Name x pos')) pos.line X.env = pure false := by rfl) (hf : X.fn x = true ∨ X.env.scope.names.lookup x = some .local := by first | exact .inl rfl | exact .inr rfl | assumption) :
    PS X (.Assign [.Name x pos'] e pos) (tAsg te (gName i)) := by
  intro pins s σ H D I h
  refine wpAny_Assign_Name (thn (he pins s σ H _ I h) fun v s1 ⟨y, H1, I1, r1, q1⟩ => ?_) hs
  exact store_ok I1 hN hi hx r1 (fun s2 I2 => ⟨_, H1, I2, q1⟩) hf
noncomputable def tPar (i j : Nat) (ta : TA) : TS := fun D σ H => ta σ H fun vs H1 => ∃ v w, vs = [v, w] ∧ D.nx ((σ.set i (some v)).set j (some w)) H1
theorem ps_par {i j : Nat} {x y : Str} {a b : Expr} {ta : TA} {px py pt : Pos} {kt k2 pt2} (hc : X.calm = true) (hN : X.N.Nodup) (hi : X.N[i]? = some x) (hj : X.N[j]? = some y) (hij : i ≠ j)
    (hx : X.env.scope.names.lookup x = some .local) (hy : X.env.scope.names.lookup y = some .local) (ha : PA X [a, b] ta)
    (hw : swappedStores [.Tuple [.Name x px, .Name y py] kt pt] (.Tuple [a, b] k2 pt2) X.env = pure (some [x, y]))
    (hs : swapsWithSole [.Tuple [.Name x px, .Name y py] kt pt] (.Tuple [a, b] k2 pt2) pos.line X.env = pure false := by rfl) :
    PS X (.Assign [.Tuple [.Name x px, .Name y py] kt pt] (.Tuple [a, b] k2 pt2) pos) (tPar i j ta) := by
  intro pins s σ H D I h
  rw [exec_Assign_arm]
  refine wpAny_bind (wpAny_standAt ?_)
  rw [hs]
  refine wpAny_bind (wpAny_pure ?_)
  rw [if_neg (by decide)]
  refine wpAny_bind (Tuple_ (thn (ha _ pins s σ H _ I h) fun us s1 ⟨vs, H1, I1, r1, q1⟩ => ?_))
  obtain ⟨v, w, e1, q1⟩ := q1
  subst e1
  obtain ⟨u1, u2, rfl, rv, rw'⟩ : ∃ u1 u2, us = [u1, u2] ∧ RelV v u1 ∧ RelV w u2 := by
    cases r1 with
    | cons p q =>
      cases q with
      | cons p' q' =>
        cases q'
        exact ⟨_, _, rfl, p, p'⟩
  refine wpAny_newObj_type ?_ (by show 2 ≤ sizeLine; decide)
  have I2 : Inv X pins σ H1 { s1 with heap := s1.heap.push { cls := .type "tuple", data := .seq [u1, u2].toArray } } := I1.kept (t' := s1.toks) fun b o e => Heap.get?_push_of_some _ e
  rw [hw]
  refine wpAny_bind (wpAny_pure ?_)
  show wpAny (model X.prog X.w) X.A (do rule "assign.swapped-stores"; let items ← unpackItems (.ref s1.heap.objs.size) 2 none; assignInOrder [fun v => bindName X.env y v, fun v => bindName X.env x v] items.reverse; pure Flow.next) _ _ _
  refine wpAny_bind (wpAny_rule (wpAny_bind (unpackItems_tuple (items := #[u1, u2]) (I.ok.hd hc) (IsTup.new s1.heap _) fun h' hx' => ?_)))
  have I3 := I2.kept (h' := h') (t' := s1.toks) fun b o e => hx' b o (Nat.ne_of_lt (Heap.lt_size e)) e
  show wpAny _ _ (assignInOrder [fun v => bindName X.env y v, fun v => bindName X.env x v] [u2, u1] >>= fun _ => pure Flow.next) _ _ _
  refine wpAny_bind (assignInOrder_cons (wpAny_bindName (store_ok I3 hN hj (.inl hy) rw' (fun s2 I4 => ?_) (.inr hy))))
  refine assignInOrder_cons (wpAny_bindName (store_ok I4 hN hi (.inl hx) rv (fun s3 I5 => assignInOrder_nil (wpAny_pure ?_)) (.inr hx)))
  rw [List.set_comm _ _ (Ne.symm hij)] at I5
  exact ⟨_, H1, I5, q1⟩
end
section
variable {X : Cx} {pos : Pos}
noncomputable def tWhile (c : TT) (tb : TS) : TS := fun D σ H => ∃ W : Nat → St → Hp → Prop, (∃ m, W m σ H) ∧ ∀ m σ H, W m σ H →
  c σ H fun b H1 => if b = true then ∃ N : St → Hp → Prop, (∀ σ' H', N σ' H' → ∃ m', m' < m ∧ W m' σ' H') ∧ tb { D with nx := N, ct := N, bk := D.nx } σ H1 else D.nx σ H1
theorem ps_while {c : Expr} {body : List Stmt} {tc : TT} {tb : TS} (hp : PassesOwn (model X.prog X.w) X.A X.env X.xe) (hc : PT X c tc) (hb : PSs X body tb) : PS X (.While c body [] pos) (tWhile tc tb) := by
  intro pins s σ H D I h
  obtain ⟨W, ⟨m0, w0⟩, turn⟩ := h
  refine wpAny_While (codeAny_whileLoop (fun n s' => ∃ σ' H', Inv X pins σ' H' s' ∧ W n σ' H') ?_ m0 ⟨σ, H, I, w0⟩)
  rintro n s1 ⟨σ1, H1, I1, w1⟩
  refine wpAny_passesOwn hp (thn (hc pins s1 σ1 H1 _ I1 (turn n σ1 H1 w1)) fun b s2 ⟨H2, I2, q2⟩ => ?_)
  cases b with
  | true =>
    obtain ⟨N, hN, q2⟩ := q2
    rw [if_pos rfl]
    refine wpAny_passesOwn hp (thn (hb pins s2 σ1 H2 _ I2 q2) fun f s3 q3 => ?_)
    cases f with
    | next =>
      obtain ⟨σ3, H3, I3, n3⟩ := q3
      obtain ⟨m', hm, w3⟩ := hN σ3 H3 n3
      exact ⟨m', hm, σ3, H3, I3, w3⟩
    | cont =>
      obtain ⟨σ3, H3, I3, n3⟩ := q3
      obtain ⟨m', hm, w3⟩ := hN σ3 H3 n3
      exact ⟨m', hm, σ3, H3, I3, w3⟩
    | brk => exact q3
    | ret v => exact q3
  | false =>
    rw [if_neg Bool.false_ne_true]
    exact wpAny_execs_nil ⟨σ1, H2, I2, q2⟩
end
structure It where
  go : Nat → Hp → Prop
  yld : Nat → Hp → V → Hp → Prop
  stop : Nat → Hp → Prop
noncomputable def FpOk (X : Cx) (pins : List (Addr × Obj)) (H : Hp) (b : Addr) : Prop :=
  H b = none ∧ b ≠ X.env.locals ∧ b ∉ X.fs ∧ (b ∈ X.ex ∨ X.s₀.heap.objs.size ≤ b) ∧ (∀ x c, X.env.cells.lookup x = some c → c ≠ b) ∧ ∀ p ∈ X.pn ++ pins, p.1 ≠ b
theorem Inv.fpOk {X : Cx} {pins : List (Addr × Obj)} {σ : St} {H H' : Hp} {s : Shared} {b : Addr} (I : Inv X pins σ H s) (hb : s.heap.objs.size ≤ b) (hn : H' b = none) : FpOk X pins H' b := by
  refine ⟨hn, Nat.ne_of_gt (Nat.lt_of_lt_of_le I.lt hb), I.nofs hb, .inr (Nat.le_trans I.sz hb), fun x c e z => ?_, fun p hp z => ?_⟩
  · obtain ⟨v, q⟩ := I.cell x c e
    exact absurd (Nat.lt_of_lt_of_le q.lt (by rw [z]; exact hb)) (Nat.lt_irrefl _)
  · exact absurd (Nat.lt_of_lt_of_le (Heap.lt_size (I.pin p hp).1) (by rw [z]; exact hb)) (Nat.lt_irrefl _)
structure Turn (P : Program) (w : World) (K : PySem.W.Frag) (tg : Expr) (J : It) (fp : List Addr) (it : Addr) (tn : Nat → Heap → Prop) : Prop where
  mem : it ∈ fp
  obj : ∀ i h, tn i h → ∀ b ∈ fp, ∃ o, h.get? b = some o ∧ ∀ v, o.data ≠ .cell v
  keep : ∀ i h h', tn i h → (∀ b ∈ fp, ∀ o, h.get? b = some o → h'.get? b = some o) → tn i h'
  item : ∀ (X : Cx), X.prog = P → X.w = w → X.K = K → X.calm = true → ∀ (i : Nat) (pins : List (Addr × Obj)) (s : Shared) (σ : St) (H : Hp) (E : Value → Shared → Prop), Inv X pins σ H s → (∀ b ∈ fp, FpOk X pins H b) → tn i s.heap → J.go i H →
    wpAny (model P w) X.A (pyNext (.ref it)) (fun r s1 => ∃ u, r = some u ∧
      wpAny (model P w) X.A (letOwnedTupleGo tg (.ref it) u) (fun _ s2 => ∃ x H', Inv X pins σ H' s2 ∧ RelV x u ∧ J.yld i H x H' ∧ tn (i + 1) s2.heap ∧ ∀ b ∈ fp, H' b = none) E s1) E s
  done : ∀ (X : Cx), X.prog = P → X.w = w → X.K = K → X.calm = true → ∀ (i : Nat) (pins : List (Addr × Obj)) (s : Shared) (σ : St) (H : Hp) (E : Value → Shared → Prop), Inv X pins σ H s → (∀ b ∈ fp, FpOk X pins H b) → tn i s.heap → J.stop i H →
    wpAny (model P w) X.A (pyNext (.ref it)) (fun r s1 => r = none ∧ Inv X pins σ H s1) E s
  self : ∀ (A : Around) (i : Nat) (s : Shared) (Q : Value → Shared → Prop) (E : Value → Shared → Prop), tn i s.heap → Q (.ref it) s → wpAny (model P w) A (pyIter (.ref it)) Q E s
noncomputable abbrev TI := St → Hp → (It → Hp → Prop) → Prop
noncomputable def PIE (X : Cx) (pins : List (Addr × Obj)) (σ : St) (tg : Expr) (R : It → Hp → Prop) (itv : Value) (s2 : Shared) : Prop :=
  ∃ (it : Addr) (fp : List Addr) (tn : Nat → Heap → Prop) (J : It) (H' : Hp), itv = .ref it ∧ Inv X pins σ H' s2 ∧ Turn X.prog X.w X.K tg J fp it tn ∧ tn 0 s2.heap ∧ (∀ b ∈ fp, FpOk X pins H' b) ∧ R J H'
noncomputable def PI (X : Cx) (tg iter : Expr) (wi : TI) : Prop :=
  ∀ (pins : List (Addr × Obj)) (s : Shared) (σ : St) (H : Hp) (R : It → Hp → Prop), Inv X pins σ H s → wi σ H R →
    wpAny (model X.prog X.w) X.A (eval iter X.env) (fun v s1 => wpAny (model X.prog X.w) X.A (pyIter v) (PIE X pins σ tg R) X.xe s1) X.xe s
theorem go_of {M : Model} {A : Around} {E : Value → Shared → Prop} {s : Shared} {tg : Expr} {it : Addr} {u : Value} {o : Obj} {n : String} {vs : Array Value} {Q : Unit → Shared → Prop} (ho : s.heap.get? it = some o) (hc : o.cls = .type n) (hd : o.data = .fields vs)
    (hn : ["enumerate", "zip", "dict_itemiterator", "dict_reverseitemiterator", "odict_iterator", "itertools.zip_longest", "itertools.pairwise"].contains n = false) (hQ : Q () s) : wpAny M A (letOwnedTupleGo tg (.ref it) u) Q E s := by
  unfold letOwnedTupleGo
  cases tg <;> first
    | exact wpAny_pure hQ
    | (cases u <;> first
        | exact wpAny_pure hQ
        | (refine wpAny_bind (wpAny_load ho ?_)
           rw [hc, hd]
           show wpAny M A (if (["enumerate", "zip", "dict_itemiterator", "dict_reverseitemiterator", "odict_iterator", "itertools.zip_longest", "itertools.pairwise"].contains n && vs[0]? == some (rawInt _)) = true then _ else _) Q E s
           rw [if_neg (by intro h; rw [hn, Bool.false_and] at h; cases h)]
           exact wpAny_pure hQ))
noncomputable def Itl (K : PySem.W.Frag) (a : Addr) : It :=
  ⟨fun i H => ∃ xs x, SqL K H a xs ∧ xs[i]? = some x, fun i H x H' => H' = H ∧ ∀ xs, SqL K H a xs → xs[i]? = some x, fun i H => ∃ xs, SqL K H a xs ∧ xs.length ≤ i⟩
noncomputable def Itr (lo : Int) (n : Nat) : It := ⟨fun i _ => i < n, fun i H x H' => H' = H ∧ x = .int (lo + i), fun i _ => n ≤ i⟩
theorem turn_list {P : Program} {w : World} {K : PySem.W.Frag} {tg : Expr} (a it : Addr) : Turn P w K tg (Itl K a) [it] it (fun i h => h.IsListIter it a i) where
  mem := by simp
  obj := fun i h st b hb => by
    have e : b = it := by simpa using hb
    subst e
    obtain ⟨o, e, c, d⟩ := st
    exact ⟨o, e, fun v z => by rw [d] at z; cases z⟩
  keep := fun i h h' st k => st.at fun o e => k it (by simp) o e
  item := by
    intro X hP hw hK hc i pins s σ H E I hf st hg
    subst hP hw hK
    obtain ⟨xs, x, hq, hx⟩ := hg
    obtain ⟨its, rv, p, hz⟩ := I.list hq
    obtain ⟨u, hu, ru⟩ := rv.get hx
    obtain ⟨f0, f1, f2, f3, f4, f5⟩ := hf it (by simp)
    refine wpAny_pyNext_list_item st p.isList (x := u) (by simpa using hu) fun h' st' sb => ?_
    have I1 : Inv X pins σ H { s with heap := h' } := I.turned (t' := s.toks) (fun b o hb e => (sb.2 b hb).trans e) f0 f1 f3 f4 f5
    obtain ⟨o, e, c, d⟩ := id st'
    exact ⟨u, rfl, go_of (s := { s with heap := h' }) e c d (by decide) ⟨x, H, I1, ru, ⟨rfl, fun ys hy => by rw [I.list_inj hy hq]; exact hx⟩, st', fun b hb => (hf b hb).1⟩⟩
  done := by
    intro X hP hw hK hc i pins s σ H E I hf st hg
    subst hP hw hK
    obtain ⟨xs, hq, hx⟩ := hg
    obtain ⟨its, rv, p, hz⟩ := I.list hq
    obtain ⟨f0, f1, f2, f3, f4, f5⟩ := hf it (by simp)
    have hl := rv.length
    exact wpAny_pyNext_list_end (I.ok.hd hc) st p.isList (by simp; omega) fun h' eb => ⟨rfl, I.turned (t' := s.toks) (fun b o hb e => eb b o hb e) f0 f1 f3 f4 f5⟩
  self := fun _ _ _ _ _ st h => wpAny_pyIter_listiter st h
theorem turn_range {P : Program} {w : World} {K : PySem.W.Frag} {tg : Expr} (it : Addr) (lo : Int) (n : Nat) : Turn P w K tg (Itr lo n) [it] it (fun i h => IsRangeIter h it (lo + (i : Nat) * 1) ((n : Int) - (i : Nat)) 1) where
  mem := by simp
  obj := fun i h st b hb => by
    have e : b = it := by simpa using hb
    subst e
    exact ⟨_, st, fun v z => by
      have z' : Data.fields _ = Data.cell v := z
      cases z'⟩
  keep := fun i h h' st k => k it (by simp) _ st
  item := by
    intro X hP hw hK hc i pins s σ H E I hf st hg
    subst hP hw hK
    obtain ⟨f0, f1, f2, f3, f4, f5⟩ := hf it (by simp)
    have W := Walks.range (prog := X.prog) (w := X.w) (I.ok.hd hc) it lo 1 n
    refine W.item i s _ _ hg st fun v h' tk hv st' kk => ?_
    obtain ⟨t, rfl⟩ := hv
    have I1 : Inv X pins σ H { s with heap := h', toks := tk } := I.turned (fun b o hb e => kk b o (by simpa using hb) e) f0 f1 f3 f4 f5
    refine ⟨_, rfl, go_of (s := { s with heap := h', toks := tk }) (n := "range_iterator") st' rfl rfl (by decide) ⟨.int (lo + i), H, I1, ⟨t, ?_⟩, ⟨rfl, rfl⟩, st', fun b hb => (hf b hb).1⟩⟩
    rw [Int.mul_one]
  done := by
    intro X hP hw hK hc i pins s σ H E I hf st hg
    subst hP hw hK
    obtain ⟨f0, f1, f2, f3, f4, f5⟩ := hf it (by simp)
    exact wpAny_pyNext_range_end (I.ok.hd hc) st (by have : n ≤ i := hg; omega) fun h' eb => ⟨rfl, I.turned (t' := s.toks) (fun b o hb e => eb b o hb e) f0 f1 f3 f4 f5⟩
  self := fun _ _ _ _ _ st h => wpAny_pyIter_rangeiter st h
end L2
namespace L2
open PySem PySem.Spec PyProof.Rows
section
variable {X : Cx} {tg : Expr}
noncomputable def iList (K : PySem.W.Frag) (tl : TE) : TI := fun σ H R => tl σ H fun x H1 => ∃ a, x = .ref a ∧ (∃ xs, SqL K H1 a xs) ∧ R (Itl K a) H1
theorem pi_list {l : Expr} {tl : TE} (hl : PE X l tl) : PI X tg l (iList X.K tl) := by
  intro pins s σ H R I h
  refine thn (hl pins s σ H _ I h) fun v s1 ⟨x, H1, I1, r1, q1⟩ => ?_
  obtain ⟨a, e, ⟨xs, hq⟩, q⟩ := q1
  subst e
  cases r1
  obtain ⟨its, rv, p, hz⟩ := I1.list hq
  refine wpAny_pyIter_list p.isList ?_
  refine ⟨s1.heap.objs.size, [s1.heap.objs.size], _, _, H1, rfl, I1.kept (t' := s1.toks) fun b o e => Heap.get?_push_of_some _ e, turn_list a _, ⟨_, Heap.get?_push_size _ rfl, rfl, rfl⟩, fun b hb => ?_, q⟩
  have e : b = s1.heap.objs.size := by simpa using hb
  subst e
  exact I1.fpOk (Nat.le_refl _) (I1.hok.fresh (Nat.le_refl _))
theorem range_it {pins : List (Addr × Obj)} {σ : St} {H : Hp} {s : Shared} {R : It → Hp → Prop} {E : Value → Shared → Prop} {lo hi : Int} {t u v : Tok} {tk : Nat} (I : Inv X pins σ H s) (h1 : -(2 ^ 62) ≤ lo) (h2 : lo < 2 ^ 62) (h3 : -(2 ^ 62) ≤ hi) (h4 : hi < 2 ^ 62)
    (q : R (Itr lo (hi - lo).toNat) H) : wpAny (model X.prog X.w) X.A (pyIter (.ref s.heap.objs.size)) (PIE X pins σ tg R) E { s with heap := s.heap.push { cls := .type "range", data := .fields #[.int lo t, .int hi u, .int 1 v] }, toks := tk } := by
  refine wpAny_pyIter_range (IsRange.new ..) (small_one h1 h2 h3 h4) ?_
  have I1 : Inv X pins σ H { s with heap := s.heap.push { cls := .type "range", data := .fields #[.int lo t, .int hi u, .int 1 v] }, toks := tk } := I.kept fun b o e => Heap.get?_push_of_some _ e
  refine ⟨(s.heap.push { cls := .type "range", data := .fields #[.int lo t, .int hi u, .int 1 v] }).objs.size, [(s.heap.push { cls := .type "range", data := .fields #[.int lo t, .int hi u, .int 1 v] }).objs.size], _, _, H, rfl,
    I1.kept (t' := tk) fun b o e => Heap.get?_push_of_some _ e, turn_range _ lo (hi - lo).toNat, ?_, fun b hb => ?_, q⟩
  · have e1 : lo + ((0 : Nat) : Int) * 1 = lo := by simp
    have e2 : (((hi - lo).toNat : Nat) : Int) - ((0 : Nat) : Int) = Builtin.Range.rangeSize lo hi 1 := by rw [rangeSize_one]; split <;> omega
    show IsRangeIter _ _ (lo + ((0 : Nat) : Int) * 1) ((((hi - lo).toNat : Nat) : Int) - ((0 : Nat) : Int)) 1
    rw [e1, e2]
    exact Heap.get?_push_size _ rfl
  · have e : b = (s.heap.push { cls := .type "range", data := .fields #[.int lo t, .int hi u, .int 1 v] }).objs.size := by simpa using hb
    subst e
    exact I1.fpOk (Nat.le_refl _) (I1.hok.fresh (Nat.le_refl _))
noncomputable def iRng1 (ta : TA) : TI := fun σ H R => ta σ H fun vs H1 => ∃ j : Int, vs = [.int j] ∧ -(2 ^ 62) ≤ j ∧ j < 2 ^ 62 ∧ R (Itr 0 j.toNat) H1
theorem pi_range1 {a : Expr} {ta : TA} {p pos : Pos} (hg : Gl X "range") (hm : X.mg "range" = none) (ha : PA X [a] ta) (hs : starEach [a] X.env = [(false, eval a X.env)] := by rfl) : PI X tg (.Call (.Name "range" p) [a] [] pos) (iRng1 ta) := by
  intro pins s σ H R I h
  refine Call_ (ld_blt I hg hm boot_range (PyProof.Rows.callWith_type1 (thn (ha pos pins s σ H _ I h) fun us s1 ⟨vs, H1, I1, r1, q1⟩ => ?_) hs rfl))
  obtain ⟨j, e, q1, q2, q⟩ := q1
  subst e
  cases r1 with
  | cons r rr =>
    cases rr
    obtain ⟨t, rfl⟩ := r
    exact call_range_1 (range_it I1 (by omega) (by omega) q1 q2 (by simpa using q))
noncomputable def tFor (wi : TI) (g : TG) (tb : TS) : TS := fun D σ H => wi σ H fun J H1 => ∃ W : Nat → Nat → St → Hp → Prop, (∃ m, W 0 m σ H1) ∧ ∀ i m σ H, W i m σ H →
  (J.stop i H ∧ D.nx σ H) ∨ (J.go i H ∧ ∃ N : St → Hp → Prop, (∀ σ' H', N σ' H' → ∃ m', m' < m ∧ W (i + 1) m' σ' H') ∧ ∀ x H', J.yld i H x H' → g x σ H' fun σ2 H2 => tb { D with nx := N, ct := N, bk := D.nx } σ2 H2)
noncomputable def pinsAt (fp : List Addr) (h : Heap) : List (Addr × Obj) := fp.filterMap fun b => (h.get? b).map fun o => (b, o)
theorem mem_pinsAt {fp : List Addr} {h : Heap} {b : Addr} {o : Obj} (hb : b ∈ fp) (e : h.get? b = some o) : (b, o) ∈ pinsAt fp h := List.mem_filterMap.mpr ⟨b, hb, by rw [e]; rfl⟩
theorem of_pinsAt {fp : List Addr} {h : Heap} {p : Addr × Obj} (hp : p ∈ pinsAt fp h) : p.1 ∈ fp ∧ h.get? p.1 = some p.2 := by
  obtain ⟨b, hb, e⟩ := List.mem_filterMap.mp hp
  cases q : h.get? b with
  | none => rw [q] at e; cases e
  | some o =>
    rw [q] at e
    have e' : (b, o) = p := Option.some.inj e
    subst e'
    exact ⟨hb, q⟩
theorem Inv.pinned {pins : List (Addr × Obj)} {σ : St} {H : Hp} {s : Shared} {fp : List Addr} (I : Inv X pins σ H s) (hf : ∀ b ∈ fp, FpOk X pins H b) (ho : ∀ b ∈ fp, ∃ o, s.heap.get? b = some o ∧ ∀ v, o.data ≠ .cell v) : Inv X (pins ++ pinsAt fp s.heap) σ H s :=
  I.pins_of fun p hp => (List.mem_append.mp hp).elim (fun z => I.pin p (List.mem_append_right _ z)) fun z => by
    obtain ⟨hb, e⟩ := of_pinsAt z
    obtain ⟨f0, f1, f2, _⟩ := hf p.1 hb
    obtain ⟨o, e', d⟩ := ho p.1 hb
    rw [e] at e'; cases e'
    exact ⟨e, f0, f1, f2, d⟩
theorem Inv.unpinned {pins pl : List (Addr × Obj)} {σ : St} {H : Hp} {s : Shared} (I : Inv X (pins ++ pl) σ H s) : Inv X pins σ H s := I.pins_of fun p hp => I.pin p (List.mem_append_right _ (List.mem_append_left _ hp))
theorem ps_for {iter : Expr} {body : List Stmt} {wi : TI} {g : TG} {tb : TS} {pos : Pos} (hp : PassesOwn (model X.prog X.w) X.A X.env X.xe) (hc : X.calm = true) (hi : PI X tg iter wi) (hg : PG X tg g) (hb : PSs X body tb)
    (hs : ∀ x, foldedSetIterable iter X.env x = pure x := by intro _; rfl) : PS X (.For tg iter body [] pos) (tFor wi g tb) := by
  intro pins s σ H D I h
  refine wpAny_For (thn (hi pins s σ H _ I h) fun v s1 h1 => thn h1 fun itv s2 h2 => ?_) hs
  obtain ⟨it, fp, tn, J, H2, e, I2, T, st2, f2, W, ⟨m0, w0⟩, turn⟩ := h2
  subst e
  -- what stays true of the iterator's objects through the loop
  have stat : ∀ {H' : Hp}, (∀ b ∈ fp, H' b = none) → ∀ b ∈ fp, FpOk X pins H' b := fun hn b hb => ⟨hn b hb, (f2 b hb).2⟩
  refine codeAny_forLoop_any (fun n s' => ∃ i σ' H', Inv X pins σ' H' s' ∧ tn i s'.heap ∧ (∀ b ∈ fp, H' b = none) ∧ W i n σ' H') ?_ m0 ⟨0, σ, H2, I2, st2, fun b hb => (f2 b hb).1, w0⟩
  rintro n s3 ⟨i, σ3, H3, I3, st3, fr3, w3⟩
  rcases turn i n σ3 H3 w3 with ⟨stop, qn⟩ | ⟨go, N, hN, step⟩
  · refine wpAny_passesOwn hp (thn (T.done X rfl rfl rfl hc i pins s3 σ3 H3 X.xe I3 (stat fr3) st3 stop) fun r s4 ⟨hr, I4⟩ => ?_)
    subst hr
    exact wpAny_execs_nil ⟨σ3, H3, I4, qn⟩
  · refine wpAny_passesOwn hp (thn (T.item X rfl rfl rfl hc i pins s3 σ3 H3 X.xe I3 (stat fr3) st3 go) fun r s4 ⟨u, hr, h4⟩ => ?_)
    subst hr
    refine wpAny_passesOwn hp (thn h4 fun _ s5 ⟨x, H5, I5, r5, y5, st5, fr5⟩ => ?_)
    have I5' := I5.pinned (stat fr5) (T.obj _ _ st5)
    refine wpAny_passesOwn hp (thn (hg _ s5 σ3 H5 x u _ I5' r5 (step x H5 y5)) fun _ s6 ⟨σ6, H6, I6, q6⟩ => ?_)
    refine wpAny_passesOwn hp (thn (hb _ s6 σ6 H6 _ I6 q6) fun f s7 q7 => ?_)
    have again : ∀ {σ7 : St} {H7 : Hp}, Inv X (pins ++ pinsAt fp s5.heap) σ7 H7 s7 → N σ7 H7 → ∃ m, m < n ∧ ∃ i σ' H', Inv X pins σ' H' s7 ∧ tn i s7.heap ∧ (∀ b ∈ fp, H' b = none) ∧ W i m σ' H' := fun {σ7 H7} I7 n7 => by
      obtain ⟨m', hm, w7⟩ := hN σ7 H7 n7
      refine ⟨m', hm, i + 1, σ7, H7, I7.unpinned, T.keep _ _ _ st5 fun b hb o e => (I7.pin (b, o) (List.mem_append_right _ (List.mem_append_right _ (mem_pinsAt hb e)))).1, fun b hb => ?_, w7⟩
      obtain ⟨o, e, d⟩ := T.obj _ _ st5 b hb
      exact (I7.pin (b, o) (List.mem_append_right _ (List.mem_append_right _ (mem_pinsAt hb e)))).2.1
    cases f with
    | next => obtain ⟨σ7, H7, I7, n7⟩ := q7; exact again I7 n7
    | cont => obtain ⟨σ7, H7, I7, n7⟩ := q7; exact again I7 n7
    | brk => obtain ⟨σ7, H7, I7, q7⟩ := q7; exact ⟨σ7, H7, I7.unpinned, q7⟩
    | ret v => obtain ⟨x7, σ7, H7, I7, r7, q7⟩ := q7; exact ⟨x7, σ7, H7, I7.unpinned, r7, q7⟩
end
theorem for_range {lo : Int} {n : Nat} {g : TG} {tb : TS} {D : Ends} {σ : St} {H : Hp} (Pv : Nat → St → Hp → Prop) (h0 : Pv 0 σ H)
    (hs : ∀ i σ H, i < n → Pv i σ H → g (.int (lo + i)) σ H fun σ2 H2 => tb { D with nx := Pv (i + 1), ct := Pv (i + 1), bk := D.nx } σ2 H2) (hd : ∀ σ H, Pv n σ H → D.nx σ H) :
    ∃ W : Nat → Nat → St → Hp → Prop, (∃ m, W 0 m σ H) ∧ ∀ i m σ H, W i m σ H →
      ((Itr lo n).stop i H ∧ D.nx σ H) ∨ ((Itr lo n).go i H ∧ ∃ N : St → Hp → Prop, (∀ σ' H', N σ' H' → ∃ m', m' < m ∧ W (i + 1) m' σ' H') ∧ ∀ x H', (Itr lo n).yld i H x H' → g x σ H' fun σ2 H2 => tb { D with nx := N, ct := N, bk := D.nx } σ2 H2) := by
  refine ⟨fun i m σ H => m = n - i ∧ i ≤ n ∧ Pv i σ H, ⟨n, by simp, Nat.zero_le _, h0⟩, ?_⟩
  rintro i m σ H ⟨rfl, hi, p⟩
  by_cases hlt : i < n
  · refine .inr ⟨hlt, Pv (i + 1), fun σ' H' p' => ⟨n - (i + 1), by omega, rfl, hlt, p'⟩, fun x H' y => ?_⟩
    obtain ⟨e, y⟩ := y
    subst e y
    exact hs i σ _ hlt p
  · have e : i = n := by omega
    subst e
    exact .inl ⟨Nat.le_refl _, hd σ H p⟩
end L2
namespace L2
open PySem PySem.Spec PyProof.Rows
noncomputable abbrev R2 := V → V → Hp → VK → Prop
noncomputable def OpR (X : Cx) (f : Value → Value → Sem Value) (r : R2) : Prop :=
  ∀ (pins : List (Addr × Obj)) (s : Shared) (σ : St) (H : Hp) (x y : V) (v u : Value) (Q : VK), Inv X pins σ H s → RelV x v → RelV y u → r x y H Q →
    wpAny (model X.prog X.w) X.A (f v u) (EP X pins σ Q) X.xe s
noncomputable def UnR (X : Cx) (f : Value → Sem Value) (r : V → Hp → VK → Prop) : Prop :=
  ∀ (pins : List (Addr × Obj)) (s : Shared) (σ : St) (H : Hp) (x : V) (v : Value) (Q : VK), Inv X pins σ H s → RelV x v → r x H Q →
    wpAny (model X.prog X.w) X.A (f v) (EP X pins σ Q) X.xe s
noncomputable def CallR (X : Cx) (f : Value) (r : List V → Hp → VK → Prop) : Prop :=
  ∀ (pins : List (Addr × Obj)) (s : Shared) (σ : St) (H : Hp) (xs : List V) (us : List Value) (Q : VK), Inv X pins σ H s → Vals xs us → r xs H Q →
    wpAny (model X.prog X.w) X.A (call f us) (EP X pins σ Q) X.xe s
noncomputable def tOp (r : R2) (ta tb : TE) : TE := fun σ H Q => ta σ H fun x H1 => tb σ H1 fun y H2 => r x y H2 Q
noncomputable def tUn (r : V → Hp → VK → Prop) (ta : TE) : TE := fun σ H Q => ta σ H fun x H1 => r x H1 Q
noncomputable def rI (C : Int → Int → Prop) (g : Int → Int → V) : R2 := fun x y H Q => ∃ i j, x = .int i ∧ y = .int j ∧ C i j ∧ Q (g i j) H
noncomputable def rI0 (g : Int → Int → V) : R2 := fun x y H Q => ∃ i j, x = .int i ∧ y = .int j ∧ Q (g i j) H
noncomputable def rU (g : Int → V) : V → Hp → VK → Prop := fun x H Q => ∃ i, x = .int i ∧ Q (g i) H
section
variable {X : Cx} {a b c : Expr} {ta tb tc : TE} {pos : Pos}
theorem binT (ha : PE X a ta) (hb : PE X b tb) {pins : List (Addr × Obj)} {s : Shared} {σ : St} {H : Hp} {R : V → V → Hp → Prop} (I : Inv X pins σ H s)
    (h : ta σ H fun x H1 => tb σ H1 fun y H2 => R x y H2) {Q : Value → Shared → Prop} {f : Value → Value → Sem Value}
    (hf : ∀ v u s2 x y H2, Inv X pins σ H2 s2 → RelV x v → RelV y u → R x y H2 → wpAny (model X.prog X.w) X.A (f v u) Q X.xe s2) :
    wpAny (model X.prog X.w) X.A (eval a X.env) (fun v s₁ => wpAny (model X.prog X.w) X.A (eval b X.env) (fun u s₂ => wpAny (model X.prog X.w) X.A (f v u) Q X.xe s₂) X.xe s₁) X.xe s := by
  refine thn (ha pins s σ H _ I h) fun v s1 ⟨x, H1, I1, r1, q1⟩ => ?_
  refine thn (hb pins s1 σ H1 _ I1 q1) fun u s2 ⟨y, H2, I2, r2, q2⟩ => ?_
  exact hf v u s2 x y H2 I2 r1 r2 q2
theorem pe_op {op : Operator} {r : R2} (ho : OpR X (binaryOp op) r) (ha : PE X a ta) (hb : PE X b tb) : PE X (.BinOp a op b pos) (tOp r ta tb) := by
  intro pins s σ H Q I h
  exact wpAny_BinOp (binT ha hb I h fun v u s2 x y H2 I2 rx ry q => ho pins s2 σ H2 x y v u Q I2 rx ry q)
theorem pe_un {op : UnaryOp} {r : V → Hp → VK → Prop} (ho : UnR X (unaryOp op) r) (ha : PE X a ta) : PE X (.UnaryOp op a pos) (tUn r ta) := by
  intro pins s σ H Q I h
  exact UnaryOp_ (thn (ha pins s σ H _ I h) fun v s1 ⟨x, H1, I1, r1, q1⟩ => ho pins s1 σ H1 x v Q I1 r1 q1)
theorem opI {f : Value → Value → Sem Value} {C : Int → Int → Prop} {g : Int → Int → Int}
    (rule : ∀ (i j : Int) (t u : Tok) (s : Shared) (Q : Value → Shared → Prop) (E : Value → Shared → Prop), C i j → Q (.int (g i j) s.toks) { s with toks := s.toks + 1 } → wpAny (model X.prog X.w) X.A (f (.int i t) (.int j u)) Q E s) :
    OpR X f (rI C fun i j => .int (g i j)) := by
  intro pins s σ H x y v u Q I rx ry h
  obtain ⟨i, j, rfl, rfl, hc, q⟩ := h
  obtain ⟨t, rfl⟩ := rx
  obtain ⟨t', rfl⟩ := ry
  exact rule i j t t' s _ _ hc ⟨.int (g i j), H, I.tok _, ⟨_, rfl⟩, q⟩
theorem opI0 {f : Value → Value → Sem Value} {g : Int → Int → Int}
    (rule : ∀ (i j : Int) (t u : Tok) (s : Shared) (Q : Value → Shared → Prop) (E : Value → Shared → Prop), Q (.int (g i j) s.toks) { s with toks := s.toks + 1 } → wpAny (model X.prog X.w) X.A (f (.int i t) (.int j u)) Q E s) :
    OpR X f (rI0 fun i j => .int (g i j)) := by
  intro pins s σ H x y v u Q I rx ry h
  obtain ⟨i, j, rfl, rfl, q⟩ := h
  obtain ⟨t, rfl⟩ := rx
  obtain ⟨t', rfl⟩ := ry
  exact rule i j t t' s _ _ ⟨.int (g i j), H, I.tok _, ⟨_, rfl⟩, q⟩
theorem opB0 {f : Value → Value → Sem Value} {g : Int → Int → Bool}
    (rule : ∀ (i j : Int) (t u : Tok) (s : Shared) (Q : Value → Shared → Prop) (E : Value → Shared → Prop), Q (.bool (g i j)) s → wpAny (model X.prog X.w) X.A (f (.int i t) (.int j u)) Q E s) :
    OpR X f (rI0 fun i j => .bl (g i j)) := by
  intro pins s σ H x y v u Q I rx ry h
  obtain ⟨i, j, rfl, rfl, q⟩ := h
  obtain ⟨t, rfl⟩ := rx
  obtain ⟨t', rfl⟩ := ry
  exact rule i j t t' s _ _ ⟨.bl (g i j), H, I, rfl, q⟩
noncomputable def CMul (i j : Int) : Prop := (-(2 ^ 64) < i ∧ i < 2 ^ 64) ∨ (-(2 ^ 64) < j ∧ j < 2 ^ 64)
theorem CMul.ok {i j : Int} (h : CMul i j) : IntMulOk i j := by
  rcases h with ⟨h1, h2⟩ | ⟨h1, h2⟩
  · exact .of_left (intBits_le_64 h1 h2)
  · exact .of_right (intBits_le_64 h1 h2)
theorem op_add : OpR X (binaryOp .Add) (rI0 fun i j => .int (i + j)) := opI0 fun _ _ _ _ _ _ _ q => add_int q
theorem op_sub : OpR X (binaryOp .Sub) (rI0 fun i j => .int (i - j)) := opI0 fun _ _ _ _ _ _ _ q => sub_int q
theorem op_mod : OpR X (binaryOp .Mod) (rI (fun _ j => 0 < j) fun i j => .int (i % j)) := opI fun i j _ _ _ _ _ hc q => by
  have h1 : (0 : Int) < j := hc
  exact mod_int' (by omega) (by rw [Int.fmod_eq_emod_of_nonneg i (by omega)]; exact q)
theorem unI {f : Value → Sem Value} {g : Int → Int}
    (rule : ∀ (i : Int) (t : Tok) (s : Shared) (Q : Value → Shared → Prop) (E : Value → Shared → Prop), Q (.int (g i) s.toks) { s with toks := s.toks + 1 } → wpAny (model X.prog X.w) X.A (f (.int i t)) Q E s) :
    UnR X f (rU fun i => .int (g i)) := by
  intro pins s σ H x v Q I rx h
  obtain ⟨i, rfl, q⟩ := h
  obtain ⟨t, rfl⟩ := rx
  exact rule i t s _ _ ⟨.int (g i), H, I.tok _, ⟨_, rfl⟩, q⟩
theorem un_neg : UnR X (unaryOp .USub) (rU fun i => .int (-i)) := unI fun _ _ _ _ _ q => neg_int q
end
noncomputable def scal : V → V → Bool
  | .non, .non => true | .non, .int _ => true | .int _, .non => true | .non, .bl _ => true | .bl _, .non => true | .non, .str _ => true | .str _, .non => true
  | .int _, .int _ => true | .bl _, .bl _ => true | .str _, .str _ => true | .byt _, .byt _ => true
  | .int _, .str _ => true | .str _, .int _ => true | .bl _, .str _ => true | .str _, .bl _ => true
  | _, _ => false
noncomputable def rEq : R2 := fun x y H Q => scal x y = true ∧ Q (.bl (decide (x = y))) H
noncomputable def rNe : R2 := fun x y H Q => scal x y = true ∧ Q (.bl (!decide (x = y))) H
theorem dec_int {i j : Int} : decide (V.int i = V.int j) = (i == j) := by
  rw [Bool.eq_iff_iff]
  simp
theorem dec_bl {i j : Bool} : decide (V.bl i = V.bl j) = (i == j) := by
  rw [Bool.eq_iff_iff]
  simp
theorem dec_str {i j : Str} : decide (V.str i = V.str j) = (i == j) := by
  rw [Bool.eq_iff_iff]
  simp
theorem dec_byt {i j : Array UInt8} : decide (V.byt i = V.byt j) = (i.toList == j.toList) := by
  rw [Bool.eq_iff_iff]
  cases i
  cases j
  simp
section
variable {X : Cx} {a b c : Expr} {ta tb tc : TE} {pos : Pos}
theorem fin_bl {pins : List (Addr × Obj)} {σ : St} {H : Hp} {s : Shared} {Q : VK} {k k' : Bool} (I : Inv X pins σ H s) (q : Q (.bl k) H) (e : k = k') : EP X pins σ Q (.bool k') s := by
  subst e
  exact ⟨.bl k, H, I, rfl, q⟩
theorem op_eq : OpR X (compareOp .Eq) rEq := by
  intro pins s σ H x y v u Q I rx ry h
  obtain ⟨hs, q⟩ := h
  cases x with
  | non =>
    cases rx
    cases y with
    | non => cases ry; exact PySem.EqNone.eq_none_none (fin_bl I q (by simp))
    | bl j => cases ry; exact PySem.EqNone.eq_none_bool (fin_bl I q (by simp))
    | int j => obtain ⟨t', rfl⟩ := ry; exact PySem.EqNone.eq_none_int (fin_bl I q (by simp))
    | str j => obtain ⟨t', rfl⟩ := ry; exact PySem.EqNone.eq_none_str (fin_bl I q (by simp))
    | _ => exact absurd (show false = true from hs) Bool.false_ne_true
  | bl i =>
    cases rx
    cases y with
    | non => cases ry; exact PySem.EqNone.eq_bool_none (fin_bl I q (by simp))
    | bl j => cases ry; exact eq_bool (fin_bl I q dec_bl)
    | str j => obtain ⟨t', rfl⟩ := ry; exact PySem.EqMixed.eq_bool_str (fin_bl I q (by simp))
    | _ => exact absurd (show false = true from hs) Bool.false_ne_true
  | int i =>
    obtain ⟨t, rfl⟩ := rx
    cases y with
    | non => cases ry; exact PySem.EqNone.eq_int_none (fin_bl I q (by simp))
    | int j => obtain ⟨t', rfl⟩ := ry; exact eq_int (fin_bl I q dec_int)
    | str j => obtain ⟨t', rfl⟩ := ry; exact PySem.EqMixed.eq_int_str (fin_bl I q (by simp))
    | _ => exact absurd (show false = true from hs) Bool.false_ne_true
  | str i =>
    obtain ⟨t, rfl⟩ := rx
    cases y with
    | non => cases ry; exact PySem.EqNone.eq_str_none (fin_bl I q (by simp))
    | bl j => cases ry; exact PySem.EqMixed.eq_str_bool (fin_bl I q (by simp))
    | int j => obtain ⟨t', rfl⟩ := ry; exact PySem.EqMixed.eq_str_int (fin_bl I q (by simp))
    | str j => obtain ⟨t', rfl⟩ := ry; exact eq_str (fin_bl I q dec_str)
    | _ => exact absurd (show false = true from hs) Bool.false_ne_true
  | byt i =>
    obtain ⟨t, rfl⟩ := rx
    cases y with
    | byt j => obtain ⟨t', rfl⟩ := ry; exact PySem.W.eq_bytes (fin_bl I q dec_byt)
    | _ => exact absurd (show false = true from hs) Bool.false_ne_true
  | _ => cases y <;> exact absurd (show false = true from hs) Bool.false_ne_true
theorem op_ne : OpR X (compareOp .NotEq) rNe := by
  intro pins s σ H x y v u Q I rx ry h
  obtain ⟨hs, q⟩ := h
  cases x with
  | non =>
    cases rx
    cases y with
    | non => cases ry; exact PySem.EqNone.ne_none_none (fin_bl I q (by simp))
    | bl j => cases ry; exact PySem.EqNone.ne_none_bool (fin_bl I q (by simp))
    | int j => obtain ⟨t', rfl⟩ := ry; exact PySem.EqNone.ne_none_int (fin_bl I q (by simp))
    | str j => obtain ⟨t', rfl⟩ := ry; exact PySem.EqNone.ne_none_str (fin_bl I q (by simp))
    | _ => exact absurd (show false = true from hs) Bool.false_ne_true
  | bl i =>
    cases rx
    cases y with
    | non => cases ry; exact PySem.EqNone.ne_bool_none (fin_bl I q (by simp))
    | bl j => cases ry; exact ne_bool (fin_bl I q (congrArg not dec_bl))
    | str j => obtain ⟨t', rfl⟩ := ry; exact PySem.EqMixed.ne_bool_str (fin_bl I q (by simp))
    | _ => exact absurd (show false = true from hs) Bool.false_ne_true
  | int i =>
    obtain ⟨t, rfl⟩ := rx
    cases y with
    | non => cases ry; exact PySem.EqNone.ne_int_none (fin_bl I q (by simp))
    | int j => obtain ⟨t', rfl⟩ := ry; exact ne_int (fin_bl I q (congrArg not dec_int))
    | str j => obtain ⟨t', rfl⟩ := ry; exact PySem.EqMixed.ne_int_str (fin_bl I q (by simp))
    | _ => exact absurd (show false = true from hs) Bool.false_ne_true
  | str i =>
    obtain ⟨t, rfl⟩ := rx
    cases y with
    | non => cases ry; exact PySem.EqNone.ne_str_none (fin_bl I q (by simp))
    | bl j => cases ry; exact PySem.EqMixed.ne_str_bool (fin_bl I q (by simp))
    | int j => obtain ⟨t', rfl⟩ := ry; exact PySem.EqMixed.ne_str_int (fin_bl I q (by simp))
    | str j => obtain ⟨t', rfl⟩ := ry; exact ne_str (fin_bl I q (congrArg not dec_str))
    | _ => exact absurd (show false = true from hs) Bool.false_ne_true
  | byt i =>
    obtain ⟨t, rfl⟩ := rx
    cases y with
    | byt j => obtain ⟨t', rfl⟩ := ry; exact PySem.W.ne_bytes (fin_bl I q (congrArg not dec_byt))
    | _ => exact absurd (show false = true from hs) Bool.false_ne_true
  | _ => cases y <;> exact absurd (show false = true from hs) Bool.false_ne_true
theorem op_lt : OpR X (compareOp .Lt) (rI0 fun i j => .bl (decide (i < j))) := opB0 fun _ _ _ _ _ _ _ q => lt_int q
theorem op_gt : OpR X (compareOp .Gt) (rI0 fun i j => .bl (decide (j < i))) := opB0 fun _ _ _ _ _ _ _ q => gt_int q
theorem op_ge : OpR X (compareOp .GtE) (rI0 fun i j => .bl (decide (j ≤ i))) := opB0 fun _ _ _ _ _ _ _ q => ge_int q
theorem nomark (b : Expr) {op : CmpOp} (h : op ≠ .In := by decide) (h2 : op ≠ .NotIn := by decide) : behindInMarks op b = false := by
  have e1 : (op == CmpOp.In) = false := by cases op <;> first | rfl | exact absurd rfl h
  have e2 : (op == CmpOp.NotIn) = false := by cases op <;> first | rfl | exact absurd rfl h2
  cases b <;> simp [behindInMarks, e1, e2]
noncomputable def tTest (t : TE) : TT := fun σ H Q => t σ H fun x H' => ∃ k, x = .bl k ∧ Q k H'
theorem pt_cmpR {op : CmpOp} {r : R2} (ho : OpR X (compareOp op) r) (ha : PE X a ta) (hb : PE X b tb) (hm : behindInMarks op b = false) : PT X (.Compare a [op] [b] pos) (tTest (tOp r ta tb)) := by
  intro pins s σ H Q I h
  refine wpAny_isTrue_Compare1 (thn (ha pins s σ H _ I h) fun v s1 ⟨x, H1, I1, r1, q1⟩ => thn (hb pins s1 σ H1 _ I1 q1) fun u s2 ⟨y, H2, I2, r2, q2⟩ =>
    thn (ho pins s2 σ H2 x y v u _ I2 r1 r2 q2) fun c s3 ⟨z, H3, I3, r3, k, e, q3⟩ => ?_) hm
  subst e
  cases r3
  exact wpAny_truthy_bool ⟨H3, I3, q3⟩
theorem line63 : (sizeLine : Nat) < 2 ^ 63 := by rw [sizeLine_eq]; decide
theorem vals1 {x : V} {us : List Value} (r : Vals [x] us) : ∃ u, us = [u] ∧ RelV x u := by
  cases r with
  | cons r1 r2 => cases r2; exact ⟨_, rfl, r1⟩
theorem vals2 {x y : V} {us : List Value} (r : Vals [x, y] us) : ∃ u w', us = [u, w'] ∧ RelV x u ∧ RelV y w' := by
  cases r with
  | cons r1 r2 =>
    cases r2 with
    | cons r3 r4 => cases r4; exact ⟨_, _, rfl, r1, r3⟩
theorem call_abs : CallR X (.builtin "abs") (fun xs H Q => ∃ i, xs = [.int i] ∧ Q (.int (if i < 0 then -i else i)) H) := by
  intro pins s σ H xs us Q I r h
  obtain ⟨i, rfl, q⟩ := h
  obtain ⟨u, rfl, t, rfl⟩ := vals1 r
  exact call_abs_int fun u tk => ⟨.int (if i < 0 then -i else i), H, I.tok _, ⟨_, rfl⟩, q⟩
theorem call_min2 (hc : X.calm = true) : CallR X (.builtin "min") (fun xs H Q => ∃ i j, xs = [.int i, .int j] ∧ Q (.int (if j < i then j else i)) H) := by
  intro pins s σ H xs us Q I r h
  obtain ⟨i, j, rfl, q⟩ := h
  obtain ⟨u, w', rfl, ⟨t, rfl⟩, ⟨t', rfl⟩⟩ := vals2 r
  refine min_two_ints (I.ok.hd hc) fun h' tk k => ⟨_, H, I.kept k, ?_, q⟩
  by_cases hj : j < i
  · rw [if_pos hj, if_pos hj]; exact ⟨_, rfl⟩
  · rw [if_neg hj, if_neg hj]; exact ⟨_, rfl⟩
end
end L2
namespace L2
open PySem PySem.Spec PyProof.Rows
structure ObjM (h : Heap) (x dx C : Addr) (mA : Str → Option Value) : Prop where
  obj : h.get? x = some (PySem.W.instObj C dx)
  ns : h.Ns1 dx mA
  ne : dx ≠ x
theorem lookIn_ns {h : Heap} {dx : Addr} {mA : Str → Option Value} (n : h.Ns1 dx mA) : ∃ od, h.get? dx = some od ∧ ∀ name, PySem.W.lookIn name od = some (mA name) := by
  obtain ⟨o, es, ep, ho, hd, hk, _, hm⟩ := n
  refine ⟨o, ho, fun name => ?_⟩
  have e := hm name
  unfold nsFind findBy at e
  rw [← Array.find?_toList] at e
  unfold PySem.W.lookIn
  rw [hd]
  dsimp only
  split
  · rename_i y q
    rw [q] at e
    exact congrArg some e
  · rename_i q
    rw [q] at e
    have a : es.toList.any (·.refKey) = false := by
      rw [List.any_eq_false]
      intro y hy
      obtain ⟨z, t, hkey⟩ := hk y (Array.mem_toList_iff.mp hy)
      simp [DictEntry.refKey, hkey]
    have a' : ¬ es.toList.any (·.refKey) = true := by rw [a]; exact Bool.false_ne_true
    rw [if_neg a']
    exact congrArg some e
theorem ObjM.look {h : Heap} {x dx C : Addr} {mA : Str → Option Value} (I : ObjM h x dx C mA) : ∃ od, PySem.W.InstAt h x (PySem.W.instObj C dx) C (some od) ∧ ∀ name, PySem.W.lookIn name od = some (mA name) :=
  let ⟨od, ho, hl⟩ := lookIn_ns I.ns
  ⟨od, ⟨I.obj, rfl, rfl, ho⟩, hl⟩
structure Cls (K : PySem.W.Frag) (C : Addr) : Prop where
  pg : PySem.W.plainGet K C Str.empty = true
  hd : PySem.W.hasDictIn K C = true
  po : PySem.W.plainOver K C = true
  sa : PySem.W.findIn K (.ref C) "__setattr__" = some (some (.builtin "object.__setattr__"))
theorem Cls.get {K : PySem.W.Frag} {C : Addr} (c : Cls K C) (f : Str) : PySem.W.plainGet K C f = true := c.pg
section
variable {X : Cx} {pins : List (Addr × Obj)} {σ : St} {H : Hp} {s : Shared} {a C dx : Addr} {fs : List (Str × V)} {f : Str} {v : V} {A : Around} {E : Value → Shared → Prop}
theorem Inv.made (I : Inv X pins σ H s) : Inv X pins σ (upd (upd H s.heap.objs.size (.own (s.heap.objs.size + 1))) (s.heap.objs.size + 1) (.ins C s.heap.objs.size []))
    { s with heap := (s.heap.push PySem.W.emptyDict).push (PySem.W.instObj C s.heap.objs.size) } := by
  have e1 : (s.heap.push PySem.W.emptyDict).get? s.heap.objs.size = some PySem.W.emptyDict := Heap.get?_push_size s.heap rfl
  have e2 : ((s.heap.push PySem.W.emptyDict).push (PySem.W.instObj C s.heap.objs.size)).get? (s.heap.objs.size + 1) = some (PySem.W.instObj C s.heap.objs.size) := by
    have := Heap.get?_push_size (s.heap.push PySem.W.emptyDict) (o := PySem.W.instObj C s.heap.objs.size) rfl
    rwa [Heap.size_push] at this
  have e3 : (s.heap.push PySem.W.emptyDict).Ns s.heap.objs.size (fun _ => none) := ⟨PySem.W.emptyDict, #[], _, e1, rfl, (fun e he => absurd he (by simp)), fun _ => rfl⟩
  have I1 := I.laid (a := s.heap.objs.size) (o := .own (s.heap.objs.size + 1)) (h' := s.heap.push PySem.W.emptyDict) (t' := s.toks) (fun b u q => Heap.get?_push_of_some _ q) (Nat.le_refl _) ⟨_, e1⟩
  refine I1.laid (a := s.heap.objs.size + 1) (o := .ins C s.heap.objs.size []) (t' := s.toks) (fun b u q => Heap.get?_push_of_some _ q) (Nat.le_of_eq (Heap.size_push _ _)) ?_
  have ne : s.heap.objs.size ≠ s.heap.objs.size + 1 := Nat.ne_of_lt (Nat.lt_succ_self _)
  refine ⟨by rw [upd_ne ne, upd_same], Nat.zero_le _, ne, e2, fun _ => none, (Heap.Ns1.of_empty e3).at fun o q => Heap.get?_push_of_some _ q, fun _ => True.intro, fun y hy => absurd rfl hy⟩
end
end L2
namespace L2
open PySem PySem.Spec PyProof.Rows
structure Room (k : Nat) (A : Around) : Prop where
  hd : A.handled = none
  dp : A.depth + 3 * k + 5 < recursionLimit
  un : A.units + 16 * k + 200 < cLine
theorem Room.mono {j k : Nat} {A : Around} (r : Room k A) (h : j ≤ k) : Room j A := ⟨r.hd, by have := r.dp; omega, by have := r.un; omega⟩
theorem Room.deeper {k : Nat} {A : Around} (r : Room (k + 1) A) (env : Env) : Room k (A.deeper env) :=
  ⟨r.hd, by have := r.dp; show A.depth + 1 + 3 * k + 5 < _; omega, by have := r.un; show A.units + 3 + 16 * k + 200 < _; omega⟩
theorem Room.in1 {k : Nat} {A : Around} (r : Room (k + 1) A) : Room k A.in1 :=
  ⟨r.hd, by have := r.dp; show A.depth + 3 * k + 5 < _; omega, by have := r.un; show A.units + 1 + 16 * k + 200 < _; omega⟩
theorem Room.depth {k : Nat} {A : Around} (r : Room k A) : A.depth < recursionLimit := by have := r.dp; omega
theorem Room.units {k : Nat} {A : Around} (r : Room k A) : A.units + 64 < cLine := by have := r.un; omega
noncomputable def tNil : TA := fun _ H Q => Q [] H
noncomputable def tCons (ta : TE) (tr : TA) : TA := fun σ H Q => ta σ H fun x H1 => tr σ H1 fun xs H2 => Q (x :: xs) H2
section
variable {X : Cx} {e : Expr} {es : List Expr} {te : TE} {t : TA} {pos : Pos}
theorem pa_nil : PA X [] tNil := fun _ _ _ _ H Q I h => Calls.spliced_nil ⟨[], H, I, .nil, h⟩
theorem pa_cons (ha : PE X e te) (hr : PA X es t) (hs : starEach (e :: es) X.env = (false, eval e X.env) :: starEach es X.env := by rfl) : PA X (e :: es) (tCons te t) := by
  intro pos pins s σ H Q I h
  rw [hs]
  show wpAny _ _ (spliced ((false, eval e X.env) :: backTo pos (starEach es X.env))) _ _ s
  refine Calls.spliced_cons (thn (ha pins s σ H _ I h) fun u s1 ⟨x, H1, I1, r1, q1⟩ => ?_)
  exact thn (hr pos pins s1 σ H1 _ I1 q1) fun us s2 ⟨xs, H2, I2, r2, q2⟩ => ⟨x :: xs, H2, I2, .cons r1 r2, q2⟩
noncomputable def tTup (t : TA) : TE := fun σ H Q => t σ H fun xs H1 => xs.length ≤ sizeLine ∧ ∀ p, H1 p = none → Q (.ref p) (upd H1 p (.tup xs))
noncomputable def tLst (t : TA) : TE := fun σ H Q => t σ H fun xs H1 => xs.length ≤ sizeLine ∧ ∀ p, H1 p = none → Q (.ref p) (upd H1 p (.lst xs))
theorem pe_tup {x1} (h : PA X es t) : PE X (.Tuple es x1 pos) (tTup t) := by
  intro pins s σ H Q I hq
  refine wpAny_Tuple_spliced (thn (h pos pins s σ H _ I hq) fun us s1 ⟨xs, H1, I1, r, z, q⟩ => ⟨by rw [← r.length]; exact z, ?_⟩)
  have hf : H1 s1.heap.objs.size = none := I1.hok.fresh (Nat.le_refl _)
  refine ⟨.ref s1.heap.objs.size, upd H1 s1.heap.objs.size (.tup xs), I1.laid (t' := s1.toks) (fun b u e => Heap.get?_push_of_some _ e) (Nat.le_refl _) ?_, rfl, q _ hf⟩
  exact ⟨z, us, r, ⟨_, Heap.get?_push_size _ rfl, rfl, _, rfl⟩⟩
theorem pe_lst (h : PA X es t) : PE X (.List es pos) (tLst t) := by
  intro pins s σ H Q I hq
  refine wpAny_List_spliced (thn (h pos pins s σ H _ I hq) fun us s1 ⟨xs, H1, I1, r, z, q⟩ => ⟨by rw [← r.length]; exact z, ?_⟩)
  have hf : H1 s1.heap.objs.size = none := I1.hok.fresh (Nat.le_refl _)
  refine ⟨.ref s1.heap.objs.size, upd H1 s1.heap.objs.size (.lst xs), I1.laid (t' := s1.toks) (fun b u e => Heap.get?_push_of_some _ e) (Nat.le_refl _) ?_, rfl, q _ hf⟩
  exact ⟨z, us, 0, r, Heap.get?_push_size _ rfl⟩
end
noncomputable abbrev Sp := List V → Hp → VK → XK → Prop
noncomputable abbrev CXT := List Env → Hp → Shared → XK → Value → Shared → Prop
structure Env0 (P : Program) (w : World) (K : PySem.W.Frag) (mg : Str → Option Value) (base : Heap) (A : Around) (outer : List Env) (s : Shared) (H : Hp) : Prop where
  frames : A.frames = some outer
  mod : Mod K mg base
  bs : ∀ b o, base.get? b = some o → s.heap.get? b = some o ∧ H b = none
  bsz : base.objs.size ≤ s.heap.objs.size
  funs : s.heap.FunFrames base outer
  frf : ∀ b ∈ frs outer, H b = none
  hok : HOk P w H s.heap
  bare : AllBare s.gens
noncomputable def CE (outer : List Env) (P : Program) (w : World) (H : Hp) (s : Shared) (Q : VK) (u : Value) (s' : Shared) : Prop :=
  ∃ v H', s'.os = s.os ∧ AllBare s'.gens ∧ Un (frs outer) [] H H' s.heap s'.heap ∧ HOk P w H' s'.heap ∧ RelV v u ∧ Q v H'
noncomputable def CR (CX : CXT) (outer : List Env) (P : Program) (w : World) (H : Hp) (s : Shared) (Q : VK) (E : XK) (r : Result) (s' : Shared) : Prop :=
  match r with
  | .ok (.ret u) => CE outer P w H s Q u s'
  | .ok _ => False
  | .error e => CX outer H s E e s'
structure FnOk (P : Program) (w : World) (K : PySem.W.Frag) (mg : Str → Option Value) (base : Heap) (CX : CXT) (k : Nat) (f : Addr) (fd : FuncData) (ps : List Str) (sp : Sp) : Prop where
  len : ∀ vs H Q E, sp vs H Q E → vs.length = ps.length
  run : ∀ (A : Around) (outer : List Env) (s : Shared) (H : Hp) (args : Args) (us : List Value) (vs : List V) (Q : VK) (E : XK), Room k A → Env0 P w K mg base A outer s H → BindsTo s fd args (ps.zip us) → Vals vs us → sp vs H Q E →
    codeAny (model P w) A (.call (.ref f) args) (CR CX outer P w H s Q E) s
theorem FnOk.mono {P : Program} {w : World} {K : PySem.W.Frag} {mg : Str → Option Value} {base : Heap} {CX : CXT} {j k : Nat} {f : Addr} {fd : FuncData} {ps : List Str} {sp : Sp} (F : FnOk P w K mg base CX j f fd ps sp) (h : j ≤ k) :
    FnOk P w K mg base CX k f fd ps sp := ⟨F.len, fun A outer s H args us vs Q E hr => F.run A outer s H args us vs Q E (hr.mono h)⟩
theorem Env0.in1 {P : Program} {w : World} {K : PySem.W.Frag} {mg : Str → Option Value} {base : Heap} {A : Around} {outer : List Env} {s : Shared} {H : Hp} (e : Env0 P w K mg base A outer s H) :
    Env0 P w K mg base A.in1 outer s H := ⟨e.frames, e.mod, e.bs, e.bsz, e.funs, e.frf, e.hok, e.bare⟩
section
variable {X : Cx} {pins : List (Addr × Obj)} {σ : St} {H : Hp} {s s' : Shared}
theorem Inv.env0 (I : Inv X pins σ H s) : Env0 X.prog X.w X.K X.mg X.base X.A X.stack s H :=
  ⟨I.ok.frames, I.ok.mod, I.bs, Nat.le_trans I.ok.bsz I.sz, I.stack, I.stkFree, I.hok, I.bare⟩
theorem Inv.after {Q : VK} {u : Value} (I : Inv X pins σ H s) (h : CE X.stack X.prog X.w H s Q u s') : EP X pins σ Q u s' := by
  obtain ⟨v, H', os, bare, un, hok, r, q⟩ := h
  obtain ⟨hh, g, d, t, os'⟩ := s'
  obtain rfl : os' = s.os := os
  exact ⟨v, H', I.call (h' := hh) (g' := g) (d' := d) (t' := t) (ch := []) un hok bare (fun b z => absurd z (by simp)), r, q⟩
end
noncomputable def tCall (sp : Sp) (dvs : List V) (E : XK) (t : TA) : TE := fun σ H Q => t σ H fun vs H1 => sp (vs ++ dvs) H1 Q E
noncomputable def Binds (K : PySem.W.Frag) (fd : FuncData) (ps : List Str) (ds : List Value) : Prop :=
  ∀ (s : Shared) (us : List Value), K.In s.heap → (us ++ ds).length = ps.length → BindsTo s fd ⟨us, []⟩ (ps.zip (us ++ ds))
theorem Binds.all {K : PySem.W.Frag} {fd : FuncData} {ps : List Str} (h : ∀ us : List Value, us.length = ps.length → bindArgs fd ⟨us, []⟩ = pure (ps.zip us)) : Binds K fd ps [] := fun s us _ hl => by
  rw [List.append_nil] at hl ⊢
  exact .of_eq (h us hl)
noncomputable def Passes (CX : CXT) (X : Cx) (E : XK) : Prop := ∀ (pins : List (Addr × Obj)) (σ : St) (H : Hp) (s : Shared) (e : Value) (s' : Shared), Inv X pins σ H s → CX X.stack H s E e s' → X.xe e s'
section
variable {X : Cx} {CX : CXT} {k : Nat} {f C : Addr} {fd : FuncData} {ps : List Str} {sp : Sp} {dvs : List V} {ds : List Value} {E : XK} {x m : Str} {p pos apos : Pos} {e o : Expr} {es : List Expr} {ta : TE} {t : TA}
theorem run_fn {pins : List (Addr × Obj)} {σ : St} {H : Hp} {s : Shared} {Q : VK} {us : List Value} {vs : List V} (F : FnOk X.prog X.w X.K X.mg X.base CX k f fd ps sp) (hr : Room k X.A) (hb : Binds X.K fd ps ds) (hd : Vals dvs ds) (hx : Passes CX X E)
    (I : Inv X pins σ H s) (r : Vals vs us) (h : sp (vs ++ dvs) H Q E) : wpAny (model X.prog X.w) X.A (call (.ref f) us) (EP X pins σ Q) X.xe s := by
  have r2 : Vals (vs ++ dvs) (us ++ ds) := r.append hd
  have hl : (us ++ ds).length = ps.length := by rw [← r2.length]; exact F.len _ _ _ _ h
  refine wpAny_call (codeAny_mono (F.run X.A X.stack s H ⟨us, []⟩ (us ++ ds) (vs ++ dvs) Q E hr I.env0 (hb s us I.kIn hl) r2 h) fun r s' hq => ?_)
  cases r with
  | error e => exact hx pins σ H s e s' I hq
  | ok fl =>
    cases fl with
    | ret u => exact I.after hq
    | next => exact False.elim hq
    | brk => exact False.elim hq
    | cont => exact False.elim hq
theorem pe_call (F : FnOk X.prog X.w X.K X.mg X.base CX k f fd ps sp) (hr : Room k X.A) (hg : Gl X x) (hm : X.mg x = some (.ref f)) (hk : PySem.W.keepIn X.K (.ref f) = true) (hb : Binds X.K fd ps ds) (hd : Vals dvs ds) (hx : Passes CX X E)
    (ha : PA X (e :: es) t) (hdb : (x == ("__debug__" : Str)) = false := by decide) (he : starEach (e :: es) X.env = (false, eval e X.env) :: starEach es X.env := by rfl) (hpl : (backTo pos (starEach es X.env)).any (·.1) = false := by rfl) :
    PE X (.Call (.Name x p) (e :: es) [] pos) (tCall sp dvs E t) := by
  intro pins s σ H Q I h
  refine wpAny_Call_Name_kw (ld_glob I hg hm ?_ hdb)
  refine PySem.W.callWith_K (h₀ := X.base) I.ok.mod.kin hk (thn (ha pos pins s σ H _ I h) fun us s1 ⟨vs, H1, I1, r, q⟩ => ⟨I1.kIn, ?_⟩) he hpl
  exact run_fn F hr hb hd hx I1 r q
end
structure FnScope (N P : List Str) (sc : Scope) : Prop where
  kind : sc.kind = .function
  co : sc.isCoroutine = false
  gen : sc.isGenerator = false
  nd : N.Nodup
  pre : N.take P.length = P
  par : ∀ x ∈ P, sc.names.lookup x = some .local ∨ sc.names.lookup x = some .cell
  nofree : ∀ y ∈ sc.names, y.2 ≠ .free
theorem bindL_out {kindOf : Str → Option NameKind} {x : Str} : ∀ {binds : List (Str × Value)} {m : Str → Option Value}, (∀ v, (x, v) ∉ binds) → bindL kindOf binds m x = m x
  | [], _, _ => rfl
  | (n, v) :: r, m, h => by
    unfold bindL
    rw [bindL_out fun w hw => h w (List.mem_cons_of_mem _ hw)]
    split
    · have : x ≠ n := by rintro rfl; exact h v List.mem_cons_self
      simp [this]
    · rfl
theorem bindC_out {kindOf : Str → Option NameKind} {x : Str} : ∀ {binds : List (Str × Value)} {m : Str → Option Value}, (∀ v, (x, v) ∉ binds) → bindC kindOf binds m x = m x
  | [], _, _ => rfl
  | (n, v) :: r, m, h => by
    unfold bindC
    rw [bindC_out fun w hw => h w (List.mem_cons_of_mem _ hw)]
    split
    · rfl
    · have : x ≠ n := by rintro rfl; exact h v List.mem_cons_self
      simp [this]
theorem bindL_get {kindOf : Str → Option NameKind} {x : Str} {v : Value} : ∀ {P : List Str} {vs : List Value} {i : Nat} {m : Str → Option Value}, P.Nodup → P[i]? = some x → vs[i]? = some v → kindOf x = some .local →
    bindL kindOf (P.zip vs) m x = some v
  | [], _, _, _, _, h, _, _ => by simp at h
  | _ :: _, [], _, _, _, _, h, _ => by simp at h
  | p :: P, w :: vs, 0, m, nd, h1, h2, hk => by
    simp at h1 h2; subst h1; subst h2
    show bindL kindOf ((p, w) :: P.zip vs) m p = _
    unfold bindL
    rw [bindL_out fun v hv => (List.nodup_cons.mp nd).1 (List.of_mem_zip hv).1, if_pos hk]
    simp
  | p :: P, w :: vs, i + 1, m, nd, h1, h2, hk => by
    show bindL kindOf ((p, w) :: P.zip vs) m x = _
    unfold bindL
    exact bindL_get (i := i) (List.nodup_cons.mp nd).2 (by simpa using h1) (by simpa using h2) hk
theorem bindC_get {kindOf : Str → Option NameKind} {x : Str} {v : Value} : ∀ {P : List Str} {vs : List Value} {i : Nat} {m : Str → Option Value}, P.Nodup → P[i]? = some x → vs[i]? = some v → kindOf x ≠ some .local →
    bindC kindOf (P.zip vs) m x = some v
  | [], _, _, _, _, h, _, _ => by simp at h
  | _ :: _, [], _, _, _, _, h, _ => by simp at h
  | p :: P, w :: vs, 0, m, nd, h1, h2, hk => by
    simp at h1 h2; subst h1; subst h2
    show bindC kindOf ((p, w) :: P.zip vs) m p = _
    unfold bindC
    rw [bindC_out fun v hv => (List.nodup_cons.mp nd).1 (List.of_mem_zip hv).1, if_neg hk]
    simp
  | p :: P, w :: vs, i + 1, m, nd, h1, h2, hk => by
    show bindC kindOf ((p, w) :: P.zip vs) m x = _
    unfold bindC
    exact bindC_get (i := i) (List.nodup_cons.mp nd).2 (by simpa using h1) (by simpa using h2) hk
noncomputable def start (N : List Str) (vs : List V) : St := vs.map some ++ List.replicate (N.length - vs.length) none
noncomputable def cxOf (CX : CXT) (P : Program) (w : World) (K : PySem.W.Frag) (mg : Str → Option Value) (base : Heap) (N : List Str) (qual : Str) (scope : Scope) (f : Addr) (cd : Value) (A : Around) (outer : List Env) (s : Shared) (H : Hp) (E : XK) : Cx where
  prog := P
  w := w
  K := K
  mg := mg
  base := base
  A := A.deeper (envOfC qual scope s.heap.objs.size f cd)
  N := N
  s₀ := s
  H₀ := H
  env := envOfC qual scope s.heap.objs.size f cd
  outer := outer
  stack := envOfC qual scope s.heap.objs.size f cd :: outer
  ex := []
  calm := true
  fn := fun _ => true
  pn := []
  xe := fun e s' => wpAny (model P w) (A.deeper (envOfC qual scope s.heap.objs.size f cd)) (leaving (envOfC qual scope s.heap.objs.size f cd) e) (fun _ s'' => CX outer H s E e s'') (fun e' s'' => CX outer H s E e' s'') s'
theorem cell_has {sc : Scope} {n : Nat} {x : Str} (h : sc.names.lookup x = some .cell) : ∃ c, (cellsFrom n sc.names []).lookup x = some c := by
  have q := PySem.W.cellsFrom_some sc.names n [] (.inl h)
  exact Option.isSome_iff_exists.mp q
theorem inv_start {CX : CXT} {P : Program} {w : World} {K : PySem.W.Frag} {mg : Str → Option Value} {base : Heap} {N ps : List Str} {qual : Str} {scope : Scope} {f : Addr} {cd : Value} {A : Around} {outer : List Env} {s s1 : Shared} {H : Hp} {E : XK} {us : List Value} {vs : List V}
    (S : FnScope N ps scope) (hd : A.handled = none) (e0 : Env0 P w K mg base A outer s H) (hl : vs.length = ps.length) (r : Vals vs us)
    (x : InCallC s s.heap.objs.size (bindL (envOfC qual scope s.heap.objs.size f cd).kindOf (ps.zip us) fun _ => none) (cellsFrom (s.heap.objs.size + 1) scope.names []) (bindC (envOfC qual scope s.heap.objs.size f cd).kindOf (ps.zip us) fun _ => none) s1) :
    Inv (cxOf CX P w K mg base N qual scope f cd A outer s H E) [] (start N vs) H s1 := by
  have hpl : ps.length ≤ N.length := by have := congrArg List.length S.pre; rw [List.length_take] at this; omega
  obtain ⟨h1, tk, rfl, hk⟩ := x.done
  have noA : ∀ b : Addr, b ∉ (cxOf CX P w K mg base N qual scope f cd A outer s H E).ex := fun b z => absurd (show b ∈ ([] : List Addr) from z) (by simp)
  refine ⟨⟨e0.mod, S.kind, rfl, rfl, Nat.le_refl _, fun y z c h1 h2 => ?_, fun y hy => ?_, fun y c _ h => ?_, fun _ => hd, Around.frames_deeper e0.frames, .inr ⟨rfl, rfl⟩, fun b z => absurd z (noA b), e0.bs, e0.bsz, fun b _ _ => noA b, fun b z => absurd z (noA b), e0.funs, e0.frf⟩,
    rfl, e0.bare, Un.kept hk, ⟨_, x.toInCall.ns, fun i y v h1 h2 h3 => ?_⟩, fun y c h => ⟨_, x.cell y c h⟩, e0.hok.fresh (Nat.le_refl _), fun y c h => ?_, fun p hp => absurd (show p ∈ ([] : List (Addr × Obj)) from hp) (by simp), e0.hok.kept hk, ?_⟩
  · exact name_of_addr x.apart (PySem.mem_of_lookup h1) (PySem.mem_of_lookup h2)
  · have hy : scope.names.lookup y = some .cell ∨ scope.names.lookup y = some .free := hy
    rcases hy with hy | hy
    · exact cell_has hy
    · exact absurd rfl (S.nofree _ (PySem.mem_of_lookup hy))
  · exact Nat.le_of_lt (x.above y c (PySem.mem_of_lookup h))
  · have hi : i < vs.length := by
      unfold start at h2
      by_cases hi : i < vs.length
      · exact hi
      · rw [List.getElem?_append_right (by simpa using hi)] at h2
        rw [List.getElem?_replicate] at h2
        split at h2 <;> cases h2
    have ha : vs[i]? = some v := by
      unfold start at h2
      rw [List.getElem?_append_left (by simpa using hi), List.getElem?_map] at h2
      cases e : vs[i]? with
      | none => rw [e] at h2; cases h2
      | some a => rw [e] at h2; cases h2; rfl
    obtain ⟨u, hu, rv⟩ := r.get ha
    have hp : ps[i]? = some y := by
      rw [← S.pre, List.getElem?_take_of_lt (by omega)]; exact h1
    have ndP : ps.Nodup := by rw [← S.pre]; exact S.nd.sublist (List.take_sublist _ _)
    refine ⟨u, rv, ?_⟩
    rcases S.par y (List.mem_of_getElem? hp) with k | k
    · exact .inl ⟨k, bindL_get ndP hp hu k⟩
    · obtain ⟨c, e⟩ := cell_has (n := s.heap.objs.size + 1) k
      refine .inr ⟨.inl k, c, e, ?_⟩
      have q := x.cell y c e
      rw [bindC_get ndP hp hu (by show scope.names.lookup y ≠ _; rw [k]; decide)] at q
      exact q
  · exact e0.hok.fresh (Nat.le_of_lt (x.above y c (PySem.mem_of_lookup h)))
  · unfold start
    show _ = N.length
    rw [List.length_append, List.length_map, List.length_replicate]
    omega
theorem fn_of {CX : CXT} {P : Program} {w : World} {K : PySem.W.Frag} {mg : Str → Option Value} {base : Heap} {k : Nat} {f : Addr} {name qual : Str} {params : Arguments} {body : List Stmt} {scope : Scope} {dV kV doc pm cdv ct oc : Value} {an od : Option Addr}
    {osl : Array (Option Value)} {N ps : List Str} {sp : Sp} (lk : K.lookup f = some ⟨oc, od, .func (PySem.W.fnOf name qual params body scope dV kV doc pm an cdv ct), osl⟩) (hcd : PySem.W.codeIn K cdv qual = true) (S : FnScope N ps scope)
    (len : ∀ vs H Q E, sp vs H Q E → vs.length = ps.length)
    (hbody : ∀ (A : Around) (outer : List Env) (s : Shared) (H : Hp) (vs : List V) (Q : VK) (E : XK), Room k (A.deeper (envOfC qual scope s.heap.objs.size f cdv)) → sp vs H Q E →
      ∃ t, PSs (cxOf CX P w K mg base N qual scope f cdv A outer s H E) body t ∧ t { nx := fun _ H' => Q .non H', rt := Q } (start N vs) H) :
    FnOk P w K mg base CX (k + 1) f (PySem.W.fnOf name qual params body scope dV kV doc pm an cdv ct) ps sp := by
  refine ⟨len, fun A outer s H args us vs Q E hr e0 hb r hsp => ?_⟩
  have hl := len _ _ _ _ hsp
  have KX : K.In s.heap := e0.mod.kin.keeps fun b o e => (e0.bs b o e).1
  have lim : s.heap.NoLimit := e0.mod.nolimit.keeps fun b o e => (e0.bs b o e).1
  have hkind : ∀ y ∈ ps.zip us, scope.names.lookup y.1 = some .local ∨ (scope.names.lookup y.1 = some .cell ∧ ((cellsFrom (s.heap.objs.size + 1) scope.names []).lookup y.1).isSome = true) := fun ⟨n, v⟩ hy => by
    rcases S.par n (List.of_mem_zip hy).1 with q | q
    · exact .inl q
    · exact .inr ⟨q, PySem.W.cellsFrom_some _ _ _ (.inl q)⟩
  refine codeAny_call_function hr.depth (KX _ _ lk) rfl S.co S.gen rfl (PySem.W.codeRec_of KX hcd) (hb _ _ _ _ ?_)
  refine wpAny_newFunctionEnv_cells S.kind hkind fun env he s1 x => ?_
  subst he
  refine ⟨lim.keeps x.toInCall.keep, codeAny_func ?_⟩
  obtain ⟨t, ht, hq⟩ := hbody A outer s H vs Q E (hr.deeper _) hsp
  have I : Inv (cxOf CX P w K mg base N qual scope f cdv A outer s H E) [] (start N vs) H s1 := inv_start S hr.hd e0 hl r x
  refine wpAny_mono (ht [] s1 (start N vs) H _ I hq) (fun fl s' hs => ?_) fun e s' hs => hs
  have fin : ∀ {σ' : St} {H' : Hp} {v : V} {u : Value}, Inv (cxOf CX P w K mg base N qual scope f cdv A outer s H E) [] σ' H' s' → RelV v u → Q v H' → CE outer P w H s Q u s' :=
    fun {σ' H' v u} J rv q => ⟨v, H', J.os, J.bare, J.base, J.hok, rv, q⟩
  cases fl with
  | ret u =>
    obtain ⟨v, σ', H', J, rv, q⟩ := hs
    exact fin J rv q
  | next =>
    obtain ⟨σ', H', J, q⟩ := hs
    exact fin (v := V.non) (u := Value.none) J rfl q
  | brk =>
    obtain ⟨_, _, _, q⟩ := hs
    exact False.elim q
  | cont =>
    obtain ⟨_, _, _, q⟩ := hs
    exact False.elim q
end L2
namespace L2
open PySem PySem.Spec PyProof.Rows
section
variable {X : Cx} {x : Str} {p pos : Pos} {e : Expr} {es : List Expr} {t : TA} {id T : String} {r : List V → Hp → VK → Prop}
noncomputable def tCB (r : List V → Hp → VK → Prop) (t : TA) : TE := fun σ H Q => t σ H fun vs H1 => r vs H1 Q
theorem pe_callB (hc : CallR X (.builtin id) r) (hg : Gl X x) (hm : X.mg x = none) (hv : bootBuiltins x = some (.builtin id)) (ha : PA X (e :: es) t) (hn : x ≠ "__name__" := by decide) (hdb : (x == ("__debug__" : Str)) = false := by decide)
    (he : starEach (e :: es) X.env = (false, eval e X.env) :: starEach es X.env := by rfl) (hpl : (backTo pos (starEach es X.env)).any (·.1) = false := by rfl) : PE X (.Call (.Name x p) (e :: es) [] pos) (tCB r t) := by
  intro pins s σ H Q I h
  refine wpAny_Call_Name_kw (ld_blt I hg hm hv ?_ hn hdb)
  exact PyProof.Rows.callWith_builtin1 (thn (ha pos pins s σ H _ I h) fun us s1 ⟨vs, H1, I1, r1, q1⟩ => hc pins s1 σ H1 vs us Q I1 r1 q1) he hpl
theorem pe_callTy (hc : CallR X (.type T) r) (hg : Gl X x) (hm : X.mg x = none) (hv : bootBuiltins x = some (.type T)) (ha : PA X (e :: es) t) (hn : x ≠ "__name__" := by decide) (hdb : (x == ("__debug__" : Str)) = false := by decide)
    (he : starEach (e :: es) X.env = (false, eval e X.env) :: starEach es X.env := by rfl) (hpl : (backTo pos (starEach es X.env)).any (·.1) = false := by rfl) : PE X (.Call (.Name x p) (e :: es) [] pos) (tCB r t) := by
  intro pins s σ H Q I h
  refine wpAny_Call_Name_kw (ld_blt I hg hm hv ?_ hn hdb)
  exact PyProof.Rows.callWith_type1 (thn (ha pos pins s σ H _ I h) fun us s1 ⟨vs, H1, I1, r1, q1⟩ => hc pins s1 σ H1 vs us Q I1 r1 q1) he hpl
end
end L2
namespace HT
open PySem PyProof.Rows
section
variable {prog : Program} {w : World} {A : Around} {E : Value → Shared → Prop} {s : Shared}
noncomputable def sIx (n d : Nat) : Option Int → Nat
  | none => d
  | some v => if v < 0 then (v + (n : Int)).toNat else min v.toNat n
end
end HT
namespace L2
open PySem PySem.Spec PyProof.Rows
noncomputable abbrev TO := St → Hp → (Option Int → Hp → Prop) → Prop
noncomputable def tNoPart : TO := fun _ H Q => Q none H
noncomputable def tPart (t : TE) : TO := fun σ H Q => t σ H fun x H1 => ∃ i, x = .int i ∧ Q (some i) H1
section
variable {X : Cx} {e : Expr} {te : TE} {lo hi : Option Expr} {tl th : TO} {pos p2 : Pos}
noncomputable def tSl (r : V → Option Int → Option Int → Hp → VK → Prop) (te : TE) (tl th : TO) : TE := fun σ H Q => te σ H fun x H1 => tl σ H1 fun l H2 => th σ H2 fun u H3 => r x l u H3 Q
noncomputable def cutV (xs : List V) (lo hi : Option Int) : List V := (xs.drop (HT.sIx xs.length 0 lo)).take (HT.sIx xs.length xs.length hi - HT.sIx xs.length 0 lo)
end
end L2
namespace L2
open PySem PySem.Spec PyProof.Rows
noncomputable def ixN (n : Nat) (i : Int) : Option Nat := if 0 ≤ i then (if i < n then some i.toNat else none) else if -(n : Int) ≤ i then some (i + n).toNat else none
noncomputable def atI {α : Type} (xs : List α) (i : Int) : Option α := (ixN xs.length i).bind fun j => xs[j]?
theorem ixN_seq {n : Nat} {i : Int} {j : Nat} (h : ixN n i = some j) : seqIndex? i n = some j ∧ j < n ∧ -(n : Int) ≤ i ∧ i < n := by
  unfold ixN at h
  by_cases h0 : 0 ≤ i
  · rw [if_pos h0] at h
    by_cases h1 : i < n
    · rw [if_pos h1] at h
      have e : i.toNat = j := Option.some.inj h
      exact ⟨by rw [seqIndex_of h0 h1, e], by omega, by omega, h1⟩
    · rw [if_neg h1] at h; cases h
  · rw [if_neg h0] at h
    by_cases h1 : -(n : Int) ≤ i
    · rw [if_pos h1] at h
      have e : (i + n).toNat = j := Option.some.inj h
      exact ⟨by rw [seqIndex_neg (by omega) h1, e], by omega, h1, by omega⟩
    · rw [if_neg h1] at h; cases h
theorem atI_get {α : Type} {xs : List α} {i : Int} {v : α} (h : atI xs i = some v) : ∃ j, seqIndex? i xs.length = some j ∧ xs[j]? = some v ∧ j < xs.length ∧ -(xs.length : Int) ≤ i ∧ i < xs.length := by
  unfold atI at h
  cases e : ixN xs.length i with
  | none => rw [e] at h; cases h
  | some j =>
    rw [e] at h
    obtain ⟨h1, h2, h3, h4⟩ := ixN_seq e
    exact ⟨j, h1, h, h2, h3, h4⟩
theorem atI_nat {α : Type} {xs : List α} {j : Nat} {v : α} (h : xs[j]? = some v) : atI xs (j : Int) = some v := by
  have hj : j < xs.length := (List.getElem?_eq_some_iff.mp h).1
  have e : ixN xs.length (j : Int) = some j := by
    unfold ixN
    rw [if_pos (by omega), if_pos (by omega)]; simp
  unfold atI; rw [e]; exact h
noncomputable def PlainIx (b : Expr) : Prop := ∀ o i, subscripted b false o i = operate [o, i] (getItem o i)
noncomputable def IxR (X : Cx) (r : R2) : Prop :=
  ∀ (value slice : Expr) (pins : List (Addr × Obj)) (s : Shared) (σ : St) (H : Hp) (x y : V) (v u : Value) (Q : VK), Inv X pins σ H s → RelV x v → RelV y u → r x y H Q →
    subscripted slice false v u = operate [v, u] (getItem v u) → wpAny (model X.prog X.w) X.A (subscriptTail value slice v u) (EP X pins σ Q) X.xe s
section
variable {X : Cx} {a b : Expr} {ta tb : TE} {pos : Pos}
theorem pe_ix {r : R2} (hr : IxR X r) (ha : PE X a ta) (hb : PE X b tb) (hs : PlainIx b) : PE X (.Subscript a b pos) (tOp r ta tb) := by
  intro pins s σ H Q I h
  exact Subscript_ (binT ha hb I h fun v u s2 x y H2 I2 rx ry q => hr a b pins s2 σ H2 x y v u Q I2 rx ry q (hs _ _))
noncomputable def rIxL (K : PySem.W.Frag) : R2 := fun x y H Q => ∃ p xs i v, x = .ref p ∧ y = .int i ∧ SqL K H p xs ∧ atI xs i = some v ∧ Q v H
noncomputable def rIxT (K : PySem.W.Frag) : R2 := fun x y H Q => ∃ p xs i v, x = .ref p ∧ y = .int i ∧ SqT K H p xs ∧ atI xs i = some v ∧ Q v H
theorem ix_list : IxR X (rIxL X.K) := by
  intro value slice pins s σ H x y v u Q I rx ry h hs
  obtain ⟨p, xs, i, z, rfl, rfl, hq, he, q⟩ := h
  cases rx
  obtain ⟨t, rfl⟩ := ry
  obtain ⟨its, r, pl, hz⟩ := I.list hq
  obtain ⟨j, h1, h2, h3, h4, h5⟩ := atI_get he
  obtain ⟨w, ew, rw'⟩ := r.get h2
  have hl := r.length
  have hn := line63
  have fin : EP X pins σ Q w s := ⟨z, H, I, rw', q⟩
  by_cases h0 : 0 ≤ i
  · have hj : i.toNat = j := by
      rw [seqIndex_of h0 h5] at h1
      exact Option.some.inj h1
    exact item_listR pl.isList h0 (by omega) (by rw [hj]; simpa using ew) fin hs
  · have hj : (i + (its.toArray.size : Int)).toNat = j := by
      rw [seqIndex_neg (by omega) h4] at h1
      rw [List.size_toArray, ← hl]
      exact Option.some.inj h1
    exact subscriptTail_builtinR (x := w) pl.isList.typeIs slot_list_getitem.lookup
      (wpAny_getItem_list_neg (Q := fun r s' => r = w ∧ EP X pins σ Q r s') pl.isList (by omega) (by rw [List.size_toArray] <;> omega) (by omega) (by rw [hj]; simpa using ew) ⟨rfl, fin⟩) hs
theorem ix_tup : IxR X (rIxT X.K) := by
  intro value slice pins s σ H x y v u Q I rx ry h hs
  obtain ⟨p, xs, i, z, rfl, rfl, hq, he, q⟩ := h
  cases rx
  obtain ⟨t, rfl⟩ := ry
  obtain ⟨its, r, pl, hz⟩ := I.tuple hq
  obtain ⟨j, h1, h2, h3, h4, h5⟩ := atI_get he
  obtain ⟨w, ew, rw'⟩ := r.get h2
  have hl := r.length
  have hn := line63
  have fin : EP X pins σ Q w s := ⟨z, H, I, rw', q⟩
  exact subscriptTail_builtinR (x := w) pl.typeIs slot_tuple_getitem.lookup
    (getItem_tuple (j := j) (Q := fun r s' => r = w ∧ EP X pins σ Q r s') pl (by omega) (by omega) (by rw [List.size_toArray, ← hl]; exact h1) (by simpa using ew) ⟨rfl, fin⟩) hs
theorem mapSeq_set (its : List Value) (n j : Nat) (u : Value) : Obj.mapSeq (·.setIfInBounds j u) { cls := .type "list", data := .seq its.toArray n } = { cls := .type "list", data := .seq (its.set j u).toArray n } := by
  simp [Obj.mapSeq]
theorem Inv.lst {pins : List (Addr × Obj)} {σ : St} {H : Hp} {s : Shared} {p : Addr} {xs : List V} (I : Inv X pins σ H s) (h : H p = some (.lst xs)) :
    ∃ (its : List Value) (n : Nat), Vals xs its ∧ s.heap.get? p = some { cls := .type "list", data := .seq its.toArray n } ∧ xs.length ≤ sizeLine := by
  obtain ⟨z, its, n, r, e⟩ := I.hok p _ h
  exact ⟨its, n, r, e, z⟩
theorem Inv.lstUpd {pins : List (Addr × Obj)} {σ : St} {H : Hp} {s : Shared} {p : Addr} {xs ys : List V} {its its' : List Value} {n n' : Nat} {f : Obj → Obj} (I : Inv X pins σ H s) (h : H p = some (.lst xs))
    (ho : s.heap.get? p = some { cls := .type "list", data := .seq its.toArray n }) (hf : f { cls := .type "list", data := .seq its.toArray n } = { cls := .type "list", data := .seq its'.toArray n' }) (r : Vals ys its') (hz : ys.length ≤ sizeLine) (t : Nat) :
    Inv X pins σ (upd H p (.lst ys)) { s with heap := s.heap.update p f, toks := t } := by
  have e : (s.heap.update p f).get? p = some { cls := .type "list", data := .seq its'.toArray n' } := by
    rw [Heap.get?_update_self f ho (by rw [hf] <;> rfl), hf]
  refine I.write (x := p) (e := p) (by rw [h]; trivial) (.inl rfl) (fun b u hb q => (Heap.get?_update_other _ _ (Ne.symm hb)).trans q) ⟨_, e⟩ ?_
  exact ⟨hz, its', n', r, e⟩
noncomputable def rSetL : V → V → V → Hp → (Hp → Prop) → Prop := fun o i v H Q => ∃ p xs k j, o = .ref p ∧ i = .int k ∧ H p = some (.lst xs) ∧ ixN xs.length k = some j ∧ Q (upd H p (.lst (xs.set j v)))
theorem set_list : PSet X rSetL := by
  intro pins s σ H o i v ov iv u Q I ro ri rv h
  obtain ⟨p, xs, k, j, rfl, rfl, hp, hj, q⟩ := h
  cases ro
  obtain ⟨t, rfl⟩ := ri
  obtain ⟨its, n, r, ho, hz⟩ := I.lst hp
  obtain ⟨h1, h2, h3, h4⟩ := ixN_seq hj
  have hl := r.length
  have hn := line63
  have I' : Inv X pins σ (upd H p (.lst (xs.set j v))) { s with heap := s.heap.update p (Obj.mapSeq (·.setIfInBounds j u)) } :=
    I.lstUpd hp ho (mapSeq_set its n j u) (r.set rv j) (by rw [List.length_set]; exact hz) s.toks
  by_cases h0 : 0 ≤ k
  · have hk : k.toNat = j := by
      rw [seqIndex_of h0 h4] at h1
      exact Option.some.inj h1
    exact PySem.W.ki_setAt ho h0 (by omega) (by rw [List.size_toArray, ← hl]; exact h4) (by rw [hk]; exact ⟨_, I', q⟩)
  · have hk : (k + (its.toArray.size : Int)).toNat = j := by
      rw [seqIndex_neg (by omega) h3] at h1
      rw [List.size_toArray, ← hl]
      exact Option.some.inj h1
    exact PySem.W.ki_setBack ho (by omega) (by rw [List.size_toArray, ← hl]; exact h3) (by omega) (by rw [hk]; exact ⟨_, I', q⟩)
theorem call_len_seq : CallR X (.builtin "len") (fun xs H Q => ∃ p ys, xs = [.ref p] ∧ (SqL X.K H p ys ∨ SqT X.K H p ys) ∧ Q (.int ys.length) H) := by
  intro pins s σ H xs us Q I r h
  obtain ⟨p, ys, rfl, hq, q⟩ := h
  obtain ⟨u, rfl, rx⟩ := vals1 r
  cases rx
  have hn := line63
  rcases hq with hq | hq
  · obtain ⟨its, r', pl, hz⟩ := I.list hq
    have hlen := r'.length
    exact Calls.call_len_list pl.isList (by simp only [List.size_toArray] <;> omega) ⟨.int ys.length, H, I.tok _, ⟨s.toks + 1, by rw [List.size_toArray, hlen]⟩, q⟩
  · obtain ⟨its, r', pl, hz⟩ := I.tuple hq
    have hlen := r'.length
    exact len_tuple pl (by simp only [List.size_toArray] <;> omega) ⟨.int ys.length, H, I.tok _, ⟨s.toks + 1, by rw [List.size_toArray, hlen]⟩, q⟩
variable {o e : Expr} {es : List Expr} {to : TE} {t : TA} {name : Str} {apos cpos : Pos} {T id : String} {r : V → List V → Hp → VK → Prop}
end
end L2
namespace L2
open PySem PySem.Spec PyProof.Rows
noncomputable def MtM (X : Cx) (id : String) (r : V → List V → Hp → VK → Prop) : Prop :=
  ∀ (pins : List (Addr × Obj)) (s : Shared) (σ : St) (H : Hp) (x : V) (xs : List V) (v : Value) (us : List Value) (Q : VK), Inv X pins σ H s → RelV x v → Vals xs us → r x xs H Q →
    wpAny (model X.prog X.w) X.A (call (.builtin id) (v :: us)) (EP X pins σ Q) X.xe s
theorem Vals.one : ∀ {x : V} {us : List Value}, Vals [x] us → ∃ u, us = [u] ∧ RelV x u
  | _, _, .cons r .nil => ⟨_, rfl, r⟩
theorem Vals.two : ∀ {x y : V} {us : List Value}, Vals [x, y] us → ∃ u v, us = [u, v] ∧ RelV x u ∧ RelV y v
  | _, _, _, .cons r (.cons q .nil) => ⟨_, _, rfl, r, q⟩
theorem Vals.zero : ∀ {us : List Value}, Vals [] us → us = []
  | _, .nil => rfl
theorem Vals.dropLast {xs : List V} {us : List Value} (h : Vals xs us) : Vals xs.dropLast us.dropLast := by
  induction h with
  | nil => exact .nil
  | cons r t ih =>
    cases t with
    | nil => exact .nil
    | cons q t' => exact .cons r ih
theorem Vals.reverse {xs : List V} {us : List Value} (h : Vals xs us) : Vals xs.reverse us.reverse := by
  induction h with
  | nil => exact .nil
  | cons r t ih => rw [List.reverse_cons, List.reverse_cons]; exact Vals.append ih (.cons r .nil)
section
variable {X : Cx} {pins : List (Addr × Obj)} {σ : St} {H : Hp} {s : Shared} {l b : Addr} {xs ys zs : List V}
theorem Inv.lset {its its' : List Value} {n : Nat} {f : Array Value → Array Value} {t' : Nat} (I : Inv X pins σ H s) (hH : H l = some (.lst xs))
    (e : s.heap.get? l = some { cls := .type "list", data := .seq its.toArray n }) (hf : f its.toArray = its'.toArray) (hv : Vals ys its') (hz : ys.length ≤ sizeLine) :
    Inv X pins σ (upd H l (.lst ys)) { s with heap := s.heap.update l (Obj.mapSeq f), toks := t' } := by
  have q := PySem.IsL.update e f
  rw [hf] at q
  refine I.write (x := l) (e := l) (by rw [hH]; exact trivial) (.inl rfl) (fun b' u hb hu => (Heap.get?_update_other s.heap (Obj.mapSeq f) (Ne.symm hb)).trans hu) ⟨_, q⟩ ?_
  exact ⟨hz, its', _, hv, q⟩
theorem Inv.lnew {its : List Value} {t' : Nat} (I : Inv X pins σ H s) (hv : Vals ys its) (hz : ys.length ≤ sizeLine) :
    Inv X pins σ (upd H s.heap.objs.size (.lst ys)) { s with heap := s.heap.push { cls := .type "list", data := .seq its.toArray }, toks := t' } :=
  I.laid (fun _ _ q => Heap.get?_push_of_some _ q) (Nat.le_refl _) ⟨hz, its, 0, hv, Heap.get?_push_size _ rfl⟩
theorem Inv.fresh (I : Inv X pins σ H s) : H s.heap.objs.size = none := I.hok.fresh (Nat.le_refl _)
theorem Inv.lstM (I : Inv X pins σ H s) (hH : H l = some (.lst xs)) : xs.length ≤ sizeLine ∧ ∃ (its : List Value) (n : Nat), Vals xs its ∧ xs.length = its.length ∧ s.heap.get? l = some { cls := .type "list", data := .seq its.toArray n } := by
  obtain ⟨z, its, n, r, e⟩ := I.hok l _ hH
  exact ⟨z, its, n, r, r.length, e⟩
end
section
variable {X : Cx}
noncomputable def rAppend : V → List V → Hp → VK → Prop := fun x vs H Q => ∃ l xs y, x = .ref l ∧ vs = [y] ∧ H l = some (.lst xs) ∧ xs.length < sizeLine ∧ Q .non (upd H l (.lst (xs ++ [y])))
theorem mt_append : MtM X "list.append" rAppend := by
  intro pins s σ H x vs v us Q I rx rv h
  obtain ⟨l, xs, y, rfl, rfl, hH, hz, q⟩ := h
  cases rx
  obtain ⟨u, rfl, ru⟩ := rv.one
  obtain ⟨z, its, n, r, hl, e⟩ := I.lstM hH
  refine call_meets F.slot_list_append ⟨_, e, rfl⟩ F.entry_list_append (F.args_list_append_2 _ _) (PySem.list_append l its.toArray n u (by rw [List.size_toArray]; omega)) ⟨e, ?_⟩
  refine ⟨.non, _, I.lset (its' := its ++ [u]) hH e (by simp) (r.append (.cons ru .nil)) ?_, rfl, q⟩
  rw [List.length_append, List.length_singleton]
  omega
end
end L2
namespace Att
open PySem PySem.W PySem.Calls PyProof.Rows
theorem ints_of_wellAll {P : Params} {h : Heap} : ∀ (ns : List Int) (vs : List Value), WellAll P h vs (ns.map WData.int) → IntsAre vs ns := by
  intro ns
  induction ns with
  | nil =>
    intro vs w
    rw [List.map_nil] at w
    cases w
    exact .nil
  | cons n ns ih =>
    intro vs w
    rw [List.map_cons] at w
    cases w with
    | cons a b =>
      cases a
      exact .cons _ _ (ih _ b)
theorem script_of {l : OpenLaw} {n : Nat} (hn : l.most = some n) {P : Params} {h : Heap} {args : List WData} {vals : List Value}
    (hpre : l.row.toRowW.claim.pre args = true) (hwl : WellAll P h vals args) :
    ∃ a vs ns, vals = [Value.ref a] ∧ args = [WData.list (ns.map WData.int)] ∧ h.get? a = some { cls := .type "list", data := .seq vs.toArray } ∧ IntsAre vs ns ∧ ns.length ≤ n := by
  have hsh : WShape.hasAll [] args [.list .int] = true := (pre_splitW hpre).1
  have hc : l.pre.holds [] { args := args } = true := (pre_splitW hpre).2
  obtain ⟨d, r, rfl, h1, h2⟩ := hasAllW_cons hsh
  obtain rfl := hasAllW_nil h2
  obtain ⟨xs, rfl, h3⟩ := hasW_list h1
  obtain ⟨ns, rfl⟩ := items_int h3
  have hlen : ns.length ≤ n := by
    unfold OpenLaw.pre at hc
    have h4 : (WTm.not (.lt (.lit (.int (n : Int))) (.len (.arg 0)))).holds [] { args := [.list (ns.map .int)] } = true := by
      have h4 := (holds_andW hc).1
      rw [hn] at h4
      exact h4
    have h5 := condW_of h4 (w_not (w_lt w_lit (w_len_list (w_arg rfl))))
    rw [List.length_map] at h5
    refine Nat.le_of_not_lt fun q => ?_
    have q' : (n : Int) < ((ns.length : Nat) : Int) := by omega
    first
      | (rw [decide_eq_true q'] at h5; exact absurd h5 (by decide))
      | (simp at h5; omega)
  cases hwl with
  | cons w1 w2 =>
    cases w2
    cases w1 with
    | list ho hall => exact ⟨_, _, ns, rfl, rfl, ho, ints_of_wellAll ns _ hall, hlen⟩
theorem post_true (l : OpenLaw) (args : List WData) : l.row.toRowW.claim.post args (.bool true) args = true :=
  postW_of (r := l.row.toRowW) (X := (true == true))
    (show WShape.has [] (.bool true) .bool = true by first | rfl | decide | simp [WShape.has, WShape.arms, WShape.armsAll])
    (show (WTm.eq .res (.lit (.bool true))).value [] { args := args, res := some (.bool true), after := args } = some (.bool (true == true)) from w_eq_bool (w_res rfl) w_lit) rfl
theorem attach_call {l : OpenLaw} {n : Nat} {q : Program} {loose : List Str} {XP : (Str → Option Value) → Heap → Prop} {YP : World → Heap → Prop} {d : DefRec}
    (hn : l.most = some n) (hdf : d.params.defaults = [])
    (call : ∀ (w : World) (s₀ s₁ : Shared) (mg mb : Str → Option Value) (fa : Addr) (o : Obj) (pm cd doc : Value) (a : Addr) (vs : List Value) (ns : List Int),
      Ground q loose [] XP w s₀ mg mb s₁.heap → YP w s₁.heap →
      s₁.heap.get? fa = some o → o.data = .func (docDef d.name d.params d.body d.scope pm cd doc) → s₁.heap.CodeRec cd d.name → mg d.name = some (.ref fa) →
      s₁.heap.get? a = some { cls := .type "list", data := .seq vs.toArray } → IntsAre vs ns → ns.length ≤ n → s₁.gens = #[] →
      codeAny (model l.prog w) callerA (.call (.ref fa) ⟨[.ref a], []⟩) (fun r s' => r = .ok (.ret (.bool true)) ∧ OldK s₁.heap s'.heap ∧ s'.os = s₁.os ∧ AllBare s'.gens) s₁) :
    WalkO q loose XP YP l.row.toRowW d [] (fun f vs => PySem.call f vs) := by
  intro w s₀ s₁ mg mb G Y fa o pm cd doc dV kV ho hd hcd hD hmg hg args vals as hpre hlay hrd hwl hlo
  obtain rfl : dV = .none := Dflts.none hD hdf
  obtain rfl : kV = .none := Dflts.noKw hD
  obtain ⟨a, vs, ns, rfl, rfl, hobj, hints, hlen⟩ := script_of hn hpre hwl
  refine enter_call (codeAny_mono (call w s₀ s₁ mg mb fa o pm cd doc a vs ns G Y ho (fd_plain hd) hcd hmg hobj hints hlen hg) fun r s' hq => ?_)
  obtain ⟨rfl, h2, h3, h4⟩ := hq
  exact ⟨.inl ⟨.bool true, .bool true, [], rfl, fun _ => rfl, .bool true, post_true l _, fun _ => ⟨List.Pairwise.nil, fun _ hm => (nomatch hm)⟩⟩, h2, h3, h4⟩
end Att
namespace L2
open PySem PySem.Spec PyProof.Rows
theorem vals_ints : ∀ {vs : List Value} {ns : List Int}, IntsAre vs ns → Vals (ns.map V.int) vs
  | _, _, .nil => .nil
  | _, _, .cons n t h => .cons ⟨t, rfl⟩ (vals_ints h)
noncomputable def Only (H : Hp) : Prop := ∀ b, H b = none ∨ ∃ o xs, H b = some (.frz o (.lst xs))
theorem law_call {P : Program} {w : World} {K : PySem.W.Frag} {mg mb : Str → Option Value} {CX : CXT} {k : Nat} {fa a : Addr} {fd : FuncData} {x : Str} {sp : Sp} {s₁ : Shared} {vs : List Value} {ns : List Int}
    (KX : K.In s₁.heap) (hns : s₁.heap.Ns mainGlobals mg) (hb : s₁.heap.Ns builtinsNs mb) (hbb : ∀ x : Str, x ≠ "__name__" → mb x = bootBuiltins x) (hlim : s₁.heap.NoLimit) (hg : s₁.gens = #[])
    (ha : s₁.heap.get? a = some { cls := .type "list", data := .seq vs.toArray }) (hi : IntsAre vs ns) (hl : ns.length ≤ sizeLine) (hr : Room k callerA)
    (F : ∀ base : Heap, K.In base → base.Ns mainGlobals mg → FnOk P w K mg base CX k fa fd [x] sp) (hbind : ∀ (s : Shared) (u : Value), BindsTo s fd ⟨[u], []⟩ [(x, u)])
    (hsp : ∀ H : Hp, Only H → SqL K H a (ns.map V.int) → sp [.ref a] H (fun v _ => v = .bl true) fun _ _ _ => False)
    (hCX : ∀ H e s', CX [] H s₁ (fun _ _ _ => False) e s' → False) :
    codeAny (model P w) callerA (.call (.ref fa) ⟨[.ref a], []⟩) (fun r s' => r = .ok (.ret (.bool true)) ∧ OldK s₁.heap s'.heap ∧ s'.os = s₁.os ∧ AllBare s'.gens) s₁ := by
  have rv := vals_ints hi
  have lenV := hi.length
  -- from an abstract heap in which nothing but the script may be tracked
  have core : ∀ H : Hp, Only H → SqL K H a (ns.map V.int) → HOk P w H s₁.heap → (∀ b, H b ≠ none → b = a) → (H a ≠ none → K.lookup a = none) →
      codeAny (model P w) callerA (.call (.ref fa) ⟨[.ref a], []⟩) (fun r s' => r = .ok (.ret (.bool true)) ∧ OldK s₁.heap s'.heap ∧ s'.os = s₁.os ∧ AllBare s'.gens) s₁ := by
    intro H hO hS hok hA hK
    have base_of : ∀ {b : Addr} {o : Obj}, s₁.heap.get? b = some o → H b = none → (hidT s₁.heap H).get? b = some o := fun e n => hidT_get e n
    have noA : ∀ {b : Addr} {o : Obj} {es : Array DictEntry} {ep : Nat}, s₁.heap.get? b = some o → o.data = .dict es ep → H b = none := fun {b o es ep} e d => by
      cases q : H b with
      | none => rfl
      | some u =>
        have e' : b = a := hA b (by rw [q]; simp)
        subst e'
        rw [ha] at e; cases e
        have d' : Data.seq vs.toArray _ = Data.dict es ep := d
        cases d'
    have nsK : ∀ {b : Addr} {m : Str → Option Value}, s₁.heap.Ns b m → (hidT s₁.heap H).Ns b m := fun {b m} ⟨o, es, ep, e, d, r⟩ => ⟨o, es, ep, base_of e (noA e d), d, r⟩
    have hKb : K.In (hidT s₁.heap H) := fun b o e => base_of (KX b o e) (by
      cases q : H b with
      | none => rfl
      | some u =>
        have e' : b = a := hA b (by rw [q]; simp)
        subst e'
        rw [hK (by rw [q]; simp)] at e; cases e)
    have hM : Mod K mg (hidT s₁.heap H) := ⟨hKb, nsK hns, ⟨mb, nsK hb, hbb⟩, let ⟨mc, h1, h2⟩ := hlim; ⟨mc, nsK h1, h2⟩⟩
    have e0 : Env0 P w K mg (hidT s₁.heap H) callerA [] s₁ H := ⟨rfl, hM, fun b o e => of_hidT e, Nat.le_of_eq (hidT_size _ _), trivial, fun b hb => absurd (show b ∈ ([] : List Addr) from hb) (by simp), hok, .of_eq hg⟩
    refine codeAny_mono ((F _ hKb (nsK hns)).run callerA [] s₁ H ⟨[.ref a], []⟩ [.ref a] [.ref a] _ _ hr e0 (hbind s₁ (.ref a)) (.cons rfl .nil) (hsp H hO hS)) fun r s' h => ?_
    cases r with
    | error e => exact (hCX H e s' h).elim
    | ok fl =>
      cases fl with
      | next => exact False.elim h
      | brk => exact False.elim h
      | cont => exact False.elim h
      | ret u =>
        obtain ⟨v, H', os, bare, un, hok', r', q⟩ := h
        have q' : v = .bl true := q
        subst q'
        obtain rfl : u = Value.bool true := r'
        refine ⟨rfl, OldK.of_keep fun b o e => ?_, os, bare⟩
        cases q : H b with
        | none => exact un.keep b o e q (by intro z; exact absurd (show b ∈ ([] : List Addr) from z) (by simp)) (by simp)
        | some u =>
          rcases hO b with z | ⟨ob, xs, z⟩
          · rw [q] at z; cases z
          · have z2 := un.frzs b ob _ z
            obtain ⟨e1, _⟩ := hok b _ z
            obtain ⟨e2, _⟩ := hok' b _ z2
            rw [e] at e1; cases e1
            exact e2
  cases hk : K.lookup a with
  | some o =>
    -- the script is one of the module's own objects
    have e := KX a o hk
    rw [ha] at e
    cases e
    refine core (fun _ => none) (fun _ => .inl rfl) (.inr ⟨_, vs.toArray, _, hk, rfl, rfl, rfl, by rw [List.size_toArray, lenV]; exact hl, by simpa using rv⟩) (fun b u z => by have z' : (none : Option HO) = some u := z; cases z') (fun b z => absurd rfl z) fun z => absurd rfl z
  | none =>
    refine core (fun b => if b = a then some (.frz { cls := .type "list", data := .seq vs.toArray } (.lst (ns.map V.int))) else none) (fun b => ?_) (.inl (.inr ⟨{ cls := .type "list", data := .seq vs.toArray }, if_pos rfl⟩)) (fun b u z => ?_) (fun b z => ?_) fun _ => hk
    · by_cases hb : b = a
      · exact .inr ⟨_, _, if_pos hb⟩
      · exact .inl (if_neg hb)
    · by_cases hb : b = a
      · have z' := (if_pos hb).symm.trans z
        cases z'
        subst hb
        exact ⟨ha, by rw [List.length_map]; exact hl, vs, _, rv, ha⟩
      · have z' := (if_neg hb).symm.trans z
        cases z'
    · by_cases hb : b = a
      · exact hb
      · exact absurd (if_neg hb) z
end L2
namespace L2
open PySem PySem.Spec PyProof.Rows
theorem walk_of {l : PySem.W.OpenLaw} {n k : Nat} {q : Program} {loose : List Str} {XP : (Str → Option Value) → Heap → Prop} {YP : World → Heap → Prop} {d : DefRec} {K : Params → PySem.W.Frag} {CX : World → CXT} {sp : World → Sp} {x : Str}
    (hn : l.most = some n) (hn2 : n ≤ sizeLine) (hdf : d.params.defaults = []) (hr : Room k callerA)
    (hY : ∀ (w : World) (h : Heap), YP w h → (K w.params).In h)
    (F : ∀ (w : World) (mg : Str → Option Value) (fa : Addr) (h : Heap), (K w.params).In h → h.Ns mainGlobals mg → mg d.name = some (.ref fa) →
      ∃ fd : FuncData, (∀ (s : Shared) (u : Value), BindsTo s fd ⟨[u], []⟩ [(x, u)]) ∧
        ∀ base : Heap, (K w.params).In base → base.Ns mainGlobals mg → FnOk l.prog w (K w.params) mg base (CX w) k fa fd [x] (sp w))
    (hsp : ∀ (w : World) (H : Hp) (a : Addr) (ns : List Int), ns.length ≤ n → Only H → SqL (K w.params) H a (ns.map V.int) → sp w [.ref a] H (fun v _ => v = .bl true) fun _ _ _ => False)
    (hCX : ∀ (w : World) (H : Hp) (s : Shared) (e : Value) (s' : Shared), CX w [] H s (fun _ _ _ => False) e s' → False) :
    PySem.W.WalkO q loose XP YP l.row.toRowW d [] (fun f vs => PySem.call f vs) := by
  refine Att.attach_call hn hdf fun w s₀ s₁ mg mb fa o pm cd doc a vs ns G Y ho hd hcd hmg hobj hints hlen hg => ?_
  have KX := hY w _ Y
  obtain ⟨fd, hb, hF⟩ := F w mg fa _ KX G.T.g hmg
  exact law_call KX G.T.g G.T.b G.T.builtins G.T.nolimit hg hobj hints (Nat.le_trans hlen hn2) hr hF hb (fun H hO hS => hsp w H a ns hlen hO hS) fun H e s' => hCX w H s₁ e s'
end L2
namespace L2
open PySem PySem.Spec PyProof.Rows
noncomputable def defArgs (s : Stmt) : Arguments := match s with
  | .FunctionDef _ a _ _ _ _ _ _ _ _ => a
  | _ => { posonlyargs := [], args := [], vararg := none, kwonlyargs := [], kw_defaults := [], kwarg := none, defaults := [] }
noncomputable def defBody (s : Stmt) : List Stmt := match s with
  | .FunctionDef _ _ b _ _ _ _ _ _ _ => b
  | _ => []
noncomputable def defScope (s : Stmt) : Scope := match s with
  | .FunctionDef _ _ _ _ _ _ sc _ _ _ => sc
  | _ => { kind := .function, names := [], isGenerator := false, isCoroutine := false }
noncomputable abbrev CX0 : CXT := fun _ _ _ _ _ _ => False
noncomputable abbrev E0 : XK := fun _ _ _ => False
structure Fun (K : PySem.W.Frag) (x qual : Str) (st : Stmt) (f : Addr) (fd : FuncData) : Prop where
  ex : ∃ (oc : Value) (od : Option Addr) (kV doc pm : Value) (an : Option Addr) (cdv ct : Value) (osl : Array (Option Value)),
    fd = PySem.W.fnOf x qual (defArgs st) (defBody st) (defScope st) .none kV doc pm an cdv ct ∧ K.lookup f = some ⟨oc, od, .func fd, osl⟩ ∧ PySem.W.codeIn K cdv qual = true
  kp : PySem.W.keepIn K (.ref f) = true
section
variable {P : Program} {w : World} {K : PySem.W.Frag} {mg : Str → Option Value} {base : Heap}
theorem Fun.ok {x qual : Str} {st : Stmt} {f : Addr} {fd : FuncData} {N ps : List Str} {k : Nat} {sp : Sp} (F : Fun K x qual st f fd) (S : FnScope N ps (defScope st)) (len : ∀ vs H Q E, sp vs H Q E → vs.length = ps.length)
    (hbody : ∀ (cdv : Value) (A : Around) (outer : List Env) (s : Shared) (H : Hp) (vs : List V) (Q : VK) (E : XK), Room k (A.deeper (envOfC qual (defScope st) s.heap.objs.size f cdv)) → sp vs H Q E →
      ∃ t, PSs (cxOf CX0 P w K mg base N qual (defScope st) f cdv A outer s H E).nox (defBody st) t ∧ t { nx := fun _ H' => Q .non H', rt := Q } (start N vs) H) : FnOk P w K mg base CX0 (k + 1) f fd ps sp := by
  obtain ⟨oc, od, kV, doc, pm, an, cdv, ct, osl, rfl, lk, hcd⟩ := F.ex
  refine fn_of lk hcd S len fun A outer s H vs Q E hr hsp => ?_
  obtain ⟨t, h, q⟩ := hbody cdv A outer s H vs Q E hr hsp
  exact ⟨t, h.nox, q⟩
theorem Fun.binds {x qual : Str} {st : Stmt} {f : Addr} {fd : FuncData} {ps : List Str} (F : Fun K x qual st f fd)
    (h : ∀ (kV doc pm : Value) (an : Option Addr) (cdv ct : Value) (us : List Value), us.length = ps.length → bindArgs (PySem.W.fnOf x qual (defArgs st) (defBody st) (defScope st) .none kV doc pm an cdv ct) ⟨us, []⟩ = pure (ps.zip us)) : Binds K fd ps [] := by
  obtain ⟨oc, od, kV, doc, pm, an, cdv, ct, osl, rfl, lk, hcd⟩ := F.ex
  exact .all (h kV doc pm an cdv ct)
theorem fun_mk {x qual : Str} {st : Stmt} {f : Addr} {oc : Value} {od an : Option Addr} {osl : Array (Option Value)} {kV doc pm cdv ct : Value} (l : K.lookup f = some ⟨oc, od, .func (PySem.W.fnOf x qual (defArgs st) (defBody st) (defScope st) .none kV doc pm an cdv ct), osl⟩)
    (c : PySem.W.codeIn K cdv qual = true) (k : PySem.W.keepIn K (.ref f) = true) : Fun K x qual st f (PySem.W.fnOf x qual (defArgs st) (defBody st) (defScope st) .none kV doc pm an cdv ct) := ⟨⟨oc, od, kV, doc, pm, an, cdv, ct, osl, rfl, l, c⟩, k⟩
end
section
variable {X : Cx}
theorem pv (i : Nat) {x : Str} {pos : Pos} (hN : X.N[i]? = some x := by rfl) (hv : Vis X.env.scope x := by first | exact Or.inl rfl | exact Or.inr (Or.inl rfl) | exact Or.inr (Or.inr rfl)) (hd : (x == ("__debug__" : Str)) = false := by decide)
    (hcd : (x == ("__classdict__" : Str)) = false := by decide) : PE X (.Name x pos) (tVar i) := pe_var hN hv hd hcd
end
noncomputable def Same (H H' : Hp) : Prop := ∀ b o, H b = some o → H' b = some o
theorem Same.refl (H : Hp) : Same H H := fun _ _ h => h
theorem Same.trans {H H1 H2 : Hp} (a : Same H H1) (b : Same H1 H2) : Same H H2 := fun c o h => b c o (a c o h)
theorem Same.free {H H' : Hp} (e : Same H H') {l : Addr} (h : H' l = Option.none) : H l = Option.none := by
  cases q : H l with
  | none => rfl
  | some o =>
    rw [e l o q] at h
    cases h
theorem Same.seq {K : PySem.W.Frag} {H H' : Hp} {a : Addr} {xs : List V} (e : Same H H') (h : SqL K H a xs) : SqL K H' a xs := by
  rcases h with (h | ⟨o, h⟩) | h
  · exact .inl (.inl (e _ _ h))
  · exact .inl (.inr ⟨o, e _ _ h⟩)
  · exact .inr h
end L2
set_option Elab.async false
set_option linter.all false
set_option maxRecDepth 100000
namespace L2
open PySem PySem.Spec PyProof.Rows
section
variable {κ : Type} [DecidableEq κ]
noncomputable def valV (kvs : List (κ × V)) (k : κ) : Option V := (kvs.find? fun kv => decide (kv.1 = k)).map (·.2)
noncomputable def putK (kvs : List (κ × V)) (k : κ) (v : V) : List (κ × V) :=
  if (kvs.any fun kv => decide (kv.1 = k)) = true then kvs.map (fun kv => if kv.1 = k then (kv.1, v) else kv) else kvs ++ [(k, v)]
noncomputable def dropK (kvs : List (κ × V)) (k : κ) : List (κ × V) := kvs.filter fun kv => decide (kv.1 ≠ k)
theorem valV_pos {p : κ × V} {r : List (κ × V)} {k : κ} (e : p.1 = k) : valV (p :: r) k = some p.2 := by simp [valV, List.find?_cons, e]
theorem valV_neg {p : κ × V} {r : List (κ × V)} {k : κ} (e : ¬ p.1 = k) : valV (p :: r) k = valV r k := by simp [valV, List.find?_cons, e]
theorem valV_any (k : κ) : ∀ kvs : List (κ × V), (kvs.any fun kv => decide (kv.1 = k)) = (valV kvs k).isSome
  | [] => rfl
  | p :: r => by
    rw [List.any_cons]
    by_cases e : p.1 = k
    · simp only [valV_pos e, decide_eq_true e, Bool.true_or, Option.isSome_some]
    · rw [valV_neg e, decide_eq_false e, Bool.false_or]; exact valV_any k r
theorem RelO.isSome_eq {o : Option V} {u : Option Value} (r : RelO o u) : o.isSome = u.isSome := by
  cases o with
  | none => cases u with
    | none => rfl
    | some _ => exact (show False from r).elim
  | some _ => cases u with
    | none => exact (show False from r).elim
    | some _ => rfl
theorem RelO.getD {o : Option V} {u : Option Value} {d : V} {d' : Value} (r : RelO o u) (rd : RelV d d') : RelV (o.getD d) (u.getD d') := by
  cases o with
  | none => cases u with
    | none => exact rd
    | some _ => exact (show False from r).elim
  | some _ => cases u with
    | none => exact (show False from r).elim
    | some _ => exact r
theorem KV.val {kvs : List (κ × V)} {vs : List (κ × Value)} (r : KV kvs vs) (k : κ) : RelO (valV kvs k) (valueAt vs k) := by
  unfold KV at r
  induction r with
  | nil => exact True.intro
  | @cons p q ps qs h t ih =>
    obtain ⟨h1, h2⟩ := h
    by_cases e : p.1 = k
    · have e' : q.1 = k := h1.symm.trans e
      have b : valueAt (q :: qs) k = some q.2 := by simp [valueAt, List.find?_cons, e']
      rw [valV_pos e, b]; exact h2
    · have e' : ¬ q.1 = k := fun z => e (h1.trans z)
      have b : valueAt (q :: qs) k = valueAt qs k := by simp [valueAt, List.find?_cons, e']
      rw [valV_neg e, b]; exact ih
theorem KV.any {kvs : List (κ × V)} {vs : List (κ × Value)} (r : KV kvs vs) (k : κ) : (kvs.any fun kv => decide (kv.1 = k)) = vs.any fun kv => decide (kv.1 = k) := by
  unfold KV at r
  induction r with
  | nil => rfl
  | cons h t ih => rw [List.any_cons, List.any_cons, ih, h.1]
theorem KV.repl {kvs : List (κ × V)} {vs : List (κ × Value)} (r : KV kvs vs) (k : κ) {y : V} {u : Value} (ry : RelV y u) :
    KV (kvs.map fun kv => if kv.1 = k then (kv.1, y) else kv) (vs.map fun kv => if kv.1 = k then (kv.1, u) else kv) := by
  unfold KV at r ⊢
  induction r with
  | nil => exact .nil
  | @cons p q ps qs h t ih =>
    rw [List.map_cons, List.map_cons]
    refine .cons ?_ ih
    obtain ⟨h1, h2⟩ := h
    by_cases e : p.1 = k
    · rw [if_pos e, if_pos (h1.symm.trans e)]; exact ⟨h1, ry⟩
    · rw [if_neg e, if_neg (fun z => e (h1.trans z))]; exact ⟨h1, h2⟩
theorem KV.put {kvs : List (κ × V)} {vs : List (κ × Value)} (r : KV kvs vs) (k : κ) {y : V} {u : Value} (ry : RelV y u) : KV (putK kvs k y) (stored vs k u) := by
  unfold putK stored
  rw [r.any k]
  by_cases e : (vs.any fun kv => decide (kv.1 = k)) = true
  · rw [if_pos e, if_pos e]; exact r.repl k ry
  · rw [if_neg e, if_neg e]; exact Paired.snoc r ⟨rfl, ry⟩
theorem KV.drop {kvs : List (κ × V)} {vs : List (κ × Value)} (r : KV kvs vs) (k : κ) : KV (dropK kvs k) (without vs k) := by
  unfold KV at r ⊢
  unfold dropK without
  induction r with
  | nil => exact .nil
  | @cons p q ps qs h t ih =>
    obtain ⟨h1, h2⟩ := h
    rw [List.filter_cons, List.filter_cons]
    by_cases e : p.1 = k
    · have a : ¬ decide (p.1 ≠ k) = true := by simp [e]
      have b : ¬ decide (q.1 ≠ k) = true := by simp [h1.symm.trans e]
      rw [if_neg a, if_neg b]; exact ih
    · have e' : ¬ q.1 = k := fun z => e (h1.trans z)
      have a : decide (p.1 ≠ k) = true := by simp [e]
      have b : decide (q.1 ≠ k) = true := by simp [e']
      rw [if_pos a, if_pos b]; exact .cons ⟨h1, h2⟩ ih
theorem KV.keys {kvs : List (κ × V)} {vs : List (κ × Value)} (r : KV kvs vs) : kvs.map (·.1) = vs.map (·.1) := by
  unfold KV at r
  induction r with
  | nil => rfl
  | cons h t ih => rw [List.map_cons, List.map_cons, ih, h.1]
theorem KV.length {kvs : List (κ × V)} {vs : List (κ × Value)} (r : KV kvs vs) : kvs.length = vs.length := Paired.length r
end
noncomputable abbrev KT (H : Hp) : List (List Key × V) → List (List Key × Addr × Value) → Prop := Paired fun p q => p.1 = q.1 ∧ H q.2.1 = some (.tup (p.1.map kV)) ∧ RelV p.2 q.2.2
theorem KT.val {H : Hp} {kvs : List (List Key × V)} {xs : List (List Key × Addr × Value)} (r : KT H kvs xs) (k : List Key) : RelO (valV kvs k) ((atKey xs k).map (·.2)) := by
  induction r with
  | nil => exact True.intro
  | @cons p q ps qs h t ih =>
    obtain ⟨h1, _, h2⟩ := h
    by_cases e : p.1 = k
    · have e' : q.1 = k := h1.symm.trans e
      have b : atKey (q :: qs) k = some q.2 := by simp [atKey, List.find?_cons, e']
      rw [valV_pos e, b]; exact h2
    · have e' : ¬ q.1 = k := fun z => e (h1.trans z)
      have b : atKey (q :: qs) k = atKey qs k := by simp [atKey, List.find?_cons, e']
      rw [valV_neg e, b]; exact ih
theorem KT.repl {H : Hp} {kvs : List (List Key × V)} {xs : List (List Key × Addr × Value)} (r : KT H kvs xs) (k : List Key) {y : V} {u : Value} (ry : RelV y u) :
    KT H (kvs.map fun kv => if kv.1 = k then (kv.1, y) else kv) (xs.map (putAt k u)) := by
  induction r with
  | nil => exact .nil
  | @cons p q ps qs h t ih =>
    rw [List.map_cons, List.map_cons]
    refine .cons ?_ ih
    obtain ⟨h1, h2, h3⟩ := h
    unfold putAt
    by_cases e : p.1 = k
    · rw [if_pos e, if_pos (h1.symm.trans e)]; exact ⟨h1, h2, ry⟩
    · rw [if_neg e, if_neg (fun z => e (h1.trans z))]; exact ⟨h1, h2, h3⟩
theorem KT.put {H : Hp} {kvs : List (List Key × V)} {xs : List (List Key × Addr × Value)} (r : KT H kvs xs) (k : List Key) {b : Addr} {y : V} {u : Value} (hb : H b = some (.tup (k.map kV))) (ry : RelV y u) :
    KT H (putK kvs k y) (storedH xs k b u) := by
  have e : (kvs.any fun kv => decide (kv.1 = k)) = (atKey xs k).isSome := by
    rw [valV_any, (r.val k).isSome_eq, Option.isSome_map]
  unfold putK storedH
  rw [e]
  by_cases q : (atKey xs k).isSome = true
  · rw [if_pos q, if_pos q]; exact r.repl k ry
  · rw [if_neg q, if_neg q]; exact Paired.snoc r ⟨rfl, hb, ry⟩
theorem KT.keeps {H H' : Hp} {kvs : List (List Key × V)} {xs : List (List Key × Addr × Value)} (r : KT H kvs xs) (ht : ∀ b ys, H b = some (.tup ys) → H' b = some (.tup ys)) : KT H' kvs xs :=
  Paired.mapP r fun _ _ z => ⟨z.1, ht _ _ z.2.1, z.2.2⟩
noncomputable def DGet (H : Hp) (a : Addr) (y : V) (r : Option V) : Prop :=
  (∃ kvs k, Rd H a (.dK kvs) ∧ y = kV k ∧ r = valV kvs k) ∨ ∃ kvs k b, Rd H a (.dT kvs) ∧ y = .ref b ∧ H b = some (.tup (k.map kV)) ∧ r = valV kvs k
noncomputable def DPut (H : Hp) (a : Addr) (y v : V) (H' : Hp) : Prop :=
  (∃ kvs k, H a = some (.dK kvs) ∧ y = kV k ∧ kvs.length < sizeLine ∧ H' = upd H a (.dK (putK kvs k v))) ∨
  ∃ kvs k b, H a = some (.dT kvs) ∧ y = .ref b ∧ H b = some (.tup (k.map kV)) ∧ kvs.length < sizeLine ∧ H' = upd H a (.dT (putK kvs k v))
theorem DGet.k {H : Hp} {a : Addr} {kvs : List (Key × V)} {k : Key} (e : H a = some (.dK kvs)) : DGet H a (kV k) (valV kvs k) := .inl ⟨kvs, k, .inl e, rfl, rfl⟩
theorem DGet.t {H : Hp} {a b : Addr} {kvs : List (List Key × V)} {k : List Key} (e : H a = some (.dT kvs)) (eb : H b = some (.tup (k.map kV))) : DGet H a (.ref b) (valV kvs k) := .inr ⟨kvs, k, b, .inl e, rfl, eb, rfl⟩
theorem DPut.k {H : Hp} {a : Addr} {kvs : List (Key × V)} {k : Key} {v : V} (e : H a = some (.dK kvs)) (hl : kvs.length < sizeLine) : DPut H a (kV k) v (upd H a (.dK (putK kvs k v))) := .inl ⟨kvs, k, e, rfl, hl, rfl⟩
theorem DPut.t {H : Hp} {a b : Addr} {kvs : List (List Key × V)} {k : List Key} {v : V} (e : H a = some (.dT kvs)) (eb : H b = some (.tup (k.map kV))) (hl : kvs.length < sizeLine) :
    DPut H a (.ref b) v (upd H a (.dT (putK kvs k v))) := .inr ⟨kvs, k, b, e, rfl, eb, hl, rfl⟩
noncomputable def tDNewT : TE := fun _ H Q => ∀ p, H p = none → Q (.ref p) (upd H p (.dT []))
noncomputable def tPairs : List (TE × TE) → St → Hp → (List (V × V) → Hp → Prop) → Prop
  | [], _, H, Q => Q [] H
  | (tk, tv) :: r, σ, H, Q => tk σ H fun x H1 => tv σ H1 fun y H2 => tPairs r σ H2 fun ps H3 => Q ((x, y) :: ps) H3
noncomputable def mergeK (kvs more : List (Key × V)) : List (Key × V) := more.foldl (fun acc kv => putK acc kv.1 kv.2) kvs
noncomputable def tDisp (trs : List (TE × TE)) : TE := fun σ H Q => ∀ p, H p = none → tPairs trs σ (upd H p (.dK [])) fun ps H2 => H2 p = some (.dK []) ∧ ∃ kvs : List (Key × V), ps = kvs.map (fun kv => (kV kv.1, kv.2)) ∧ kvs.length ≤ 15 ∧ Q (.ref p) (upd H2 p (.dK (mergeK [] kvs)))
end L2
set_option Elab.async false
set_option linter.all false
set_option maxRecDepth 100000
namespace L2
open PySem PySem.Spec PyProof.Rows
noncomputable def Bd (n : Nat) (i : Int) : Prop := i.natAbs < 2 ^ n
theorem Bd.mono {m n : Nat} {i : Int} (h : Bd m i) (hm : m ≤ n) : Bd n i := Nat.lt_of_lt_of_le h (Nat.pow_le_pow_right (by decide) hm)
theorem Bd.mul {m n : Nat} {i j : Int} (h : Bd m i) (k : Bd n j) : Bd (m + n) (i * j) := by
  unfold Bd at *
  rw [Int.natAbs_mul, Nat.pow_add]
  exact Nat.mul_lt_mul'' h k
theorem pow_add_le (m n : Nat) : 2 ^ m + 2 ^ n ≤ 2 ^ (m + n + 1) := by
  have h1 : 2 ^ m ≤ 2 ^ (m + n) := Nat.pow_le_pow_right (by decide) (Nat.le_add_right _ _)
  have h2 : 2 ^ n ≤ 2 ^ (m + n) := Nat.pow_le_pow_right (by decide) (Nat.le_add_left _ _)
  have h3 : 2 ^ (m + n + 1) = 2 ^ (m + n) * 2 := Nat.pow_succ _ _
  omega
theorem Bd.add {m n : Nat} {i j : Int} (h : Bd m i) (k : Bd n j) : Bd (m + n + 1) (i + j) := by
  have e := pow_add_le m n
  unfold Bd at *
  omega
theorem Bd.sub {m n : Nat} {i j : Int} (h : Bd m i) (k : Bd n j) : Bd (m + n + 1) (i - j) := by
  have e := pow_add_le m n
  unfold Bd at *
  omega
theorem Bd.neg {m : Nat} {i : Int} (h : Bd m i) : Bd m (-i) := by
  unfold Bd at *
  omega
theorem Bd.abs {m : Nat} {i : Int} (h : Bd m i) : Bd m (if i < 0 then -i else i) := by
  split
  · exact h.neg
  · exact h
theorem Bd.of_le {n : Nat} {i : Int} (b : Int) (h1 : -b ≤ i) (h2 : i ≤ b) (hb : b.natAbs < 2 ^ n) : Bd n i := by
  unfold Bd
  omega
theorem Bd.bits {n : Nat} {i : Int} (h : Bd n i) : Builtin.Int.intBits i ≤ n := by
  unfold Bd at h
  unfold Builtin.Int.intBits
  split
  · exact Nat.zero_le _
  · rename_i z
    have : i.natAbs ≠ 0 := by
      intro e
      apply z
      have : i = 0 := by omega
      subst this
      rfl
    have := (Nat.log2_lt this).mpr h
    omega
theorem Bd.log {n : Nat} {i : Int} (h : Bd n i) (h0 : 0 < n) : i.natAbs.log2 < n := by
  by_cases e : i.natAbs = 0
  · rw [e]
    exact Nat.lt_of_le_of_lt (by decide) h0
  · exact (Nat.log2_lt e).mpr h
theorem Bd.sq {m : Nat} {i : Int} (h : Bd m i) : Bd (m + m) (i ^ 2) := by
  have e : i ^ 2 = i * i := by grind
  rw [e]
  exact h.mul h
section
variable {X : Cx}
noncomputable def CMulA (i j : Int) : Prop := CMul i j ∨ (Bd 100000 i ∧ Bd 100000 j)
theorem CMulA.ok {i j : Int} (h : CMulA i j) : IntMulOk i j := by
  rcases h with h | ⟨h1, h2⟩
  · exact h.ok
  · exact .of_bits (Nat.le_trans h1.bits (by decide)) (Nat.le_trans h2.bits (by decide))
theorem op_mulA : OpR X (binaryOp .Mult) (rI CMulA fun i j => .int (i * j)) := opI fun _ _ _ _ _ _ _ hc q => mul_int q hc.ok
theorem op_fdivB : OpR X (binaryOp .FloorDiv) (rI (fun _ j => j ≠ 0 ∧ Bd 9000 j) fun i j => .int (i.fdiv j)) := opI fun _ _ _ _ _ _ _ hc q => floordiv_int hc.1 q (.inl (PyProof.noPylong_of_log2 (hc.2.log (by decide))))
theorem op_powB : OpR X (binaryOp .Pow) (rI (fun i j => 0 ≤ j ∧ j ≤ 100 ∧ Bd 100000 i) fun i j => .int (i ^ j.toNat)) := opI fun i j _ _ _ _ _ hc q => by
  obtain ⟨h1, h2, h3⟩ := hc
  refine pow_int h1 ?_ q
  have hb : Builtin.Int.intBits i ≤ 100000 := h3.bits
  have e : ((Builtin.Int.intBits i : Nat) : Int) * j ≤ 100000 * 100 := Int.mul_le_mul (by omega) h2 h1 (by decide)
  exact Int.le_trans e (by decide)
end
end L2
set_option Elab.async false
set_option linter.all false
set_option maxRecDepth 100000
namespace L2
open PySem PySem.Spec PyProof.Rows
section
variable {prog : Program} {w : World} {A : Around} {E : Value → Shared → Prop} {s : Shared}
theorem draw_listL {it l : Addr} {items : Array Value} (hne : l ≠ it) : ∀ (n i : Nat) (s : Shared) (Q : List Value → Shared → Prop), s.heap.IsListIter it l i → s.heap.IsList l items → i + n ≤ items.size →
    (∀ h', h'.IsListIter it l (i + n) → Heap.SameBut it s.heap h' → Q ((items.toList.drop i).take n) { s with heap := h' }) → wpAny (model prog w) A (draw (.ref it) n) Q E s
  | 0, i, s, Q, hit, _, _, hQ => by
    show wpAny _ _ (pure []) Q E s
    exact wpAny_pure (by simpa using hQ s.heap hit (Heap.SameBut.refl ..))
  | n + 1, i, s, Q, hit, ht, hle, hQ => by
    have hlt : i < items.size := by omega
    show wpAny _ _ (pyNext (.ref it) >>= _) Q E s
    refine wpAny_bind (wpAny_pyNext_list_item hit ht (x := items[i]) (by simp [hlt]) fun h₁ hit₁ hs₁ => ?_)
    refine wpAny_bind (wpAny_holding (draw_listL hne n (i + 1) _ _ hit₁ (ht.extBut hs₁.extBut hne) (by omega) fun h₂ hit₂ hs₂ => wpAny_pure ?_))
    have hd : items.toList.drop i = items[i] :: items.toList.drop (i + 1) := by simp [List.drop_eq_getElem_cons, hlt]
    have := hQ h₂ (by rw [show i + (n + 1) = i + 1 + n by omega]; exact hit₂) (hs₁.trans hs₂)
    rw [hd, List.take_succ_cons] at this
    exact this
theorem unpackItems_listL {t : Addr} {items : Array Value} {Q : List Value → Shared → Prop} (hh : A.handled = none) (ht : s.heap.IsList t items)
    (hQ : ∀ h', Heap.ExtBut s.heap.objs.size s.heap h' → Q items.toList { s with heap := h' }) : wpAny (model prog w) A (unpackItems (.ref t) items.size none) Q E s := by
  have hlt : t ≠ s.heap.objs.size := by obtain ⟨o, ho, _⟩ := ht; exact Nat.ne_of_lt (Heap.lt_size ho)
  unfold unpackItems
  refine wpAny_bind ?_
  · unfold notIterableAtAll
    refine wpAny_bind (wpAny_specialOf ht.typeIs slot_list_iter.lookup ?_)
    refine wpAny_pure ?_
    simp only [Bool.false_eq_true, if_false]
    refine wpAny_bind (wpAny_holding (wpAny_pyIter_list ht ?_))
    have ht0 : (s.heap.push { cls := .type "list_iterator", data := .fields #[.ref t, .int 0 0] }).IsList t items := ht.at fun o e => Heap.get?_push_of_some _ e
    refine wpAny_bind (wpAny_holding (draw_listL hlt items.size 0 _ _ ⟨_, Heap.get?_push_size _ rfl, rfl, rfl⟩ ht0 (by omega) fun h₁ hit₁ hs₁ => ?_))
    have hall : List.take items.size (List.drop 0 items.toList) = items.toList := by
      rw [List.drop_zero]; exact List.take_of_length_le (by simp)
    rw [hall]
    rw [if_neg (by simp)]
    have ht₁ : h₁.IsList t items := ht0.extBut hs₁.extBut hlt
    refine wpAny_bind (wpAny_holding (wpAny_pyNext_list_end hh hit₁ ht₁ (by simp) fun h₂ he₂ => ?_))
    simp only [Option.isSome_none, Bool.false_eq_true, if_false]
    refine wpAny_pure (hQ h₂ fun b o hb e => he₂ b o hb (hs₁.extBut b o hb (Heap.get?_push_of_some _ e)))
theorem assign_Tuple_listL {env : Env} {elts : List Expr} {x1} {pos : Pos} {t : Addr} {items : Array Value} {Q : Unit → Shared → Prop} (hh : A.handled = none) (ht : s.heap.IsList t items)
    (hn : (assignEach elts env).length = items.size) (hstar : (assignEach elts env).findIdx? (·.1) = none)
    (h : ∀ h', Heap.ExtBut s.heap.objs.size s.heap h' → wpAny (model prog w) A (assignInOrder ((assignEach elts env).map (·.2)) items.toList) Q E { s with heap := h' }) :
    wpAny (model prog w) A (assign (.Tuple elts x1 pos) env (.ref t)) Q E s := by
  rw [assign_Tuple]
  refine wpAny_bind (wpAny_standAt ?_)
  unfold unpack
  rw [hn, hstar]
  exact wpAny_bind (wpAny_holding (unpackItems_listL hh ht h))
end
section
variable {X : Cx} {pos : Pos}
noncomputable def gLst (K : PySem.W.Frag) (n : Nat) (t : TGs) : TG := fun v σ H Q => ∃ a xs, v = .ref a ∧ SqL K H a xs ∧ xs.length = n ∧ t xs σ H Q
theorem pg_lst {es : List Expr} {k : Nat} {t : TGs} {n : Nat} (hc : X.calm = true) (h : PGs X es t)
    (hn : (assignEach es X.env).length = n := by rfl) (hst : (assignEach es X.env).findIdx? (·.1) = none := by rfl) : PG X (.Tuple es k pos) (gLst X.K n t) := by
  intro pins s σ H v u Q I r hw
  obtain ⟨a, xs, e1, hq, hl, hw⟩ := hw
  subst e1
  cases r
  obtain ⟨its, rv, ht, hz⟩ := I.list hq
  refine assign_Tuple_listL (I.ok.hd hc) ht.isList (by simp [hn, ← hl, rv.length]) hst fun h' hx => ?_
  have I1 : Inv X pins σ H { s with heap := h' } := I.kept (t' := s.toks) fun b o e => hx b o (Nat.ne_of_lt (Heap.lt_size e)) e
  exact h pins _ σ H xs _ Q I1 (by simpa using rv) hw
noncomputable def gSeq (K : PySem.W.Frag) (n : Nat) (t : TGs) : TG := fun v σ H Q => gTup K n t v σ H Q ∨ gLst K n t v σ H Q
theorem pg_seq {es : List Expr} {k : Nat} {t : TGs} {n : Nat} (hc : X.calm = true) (h : PGs X es t)
    (hn : (assignEach es X.env).length = n := by rfl) (hst : (assignEach es X.env).findIdx? (·.1) = none := by rfl) : PG X (.Tuple es k pos) (gSeq X.K n t) := by
  intro pins s σ H v u Q I r hw
  rcases hw with hw | hw
  · exact pg_tup hc h hn hst pins s σ H v u Q I r hw
  · exact pg_lst hc h hn hst pins s σ H v u Q I r hw
end
theorem closureFor_go {env : Env} : ∀ (names : List (Str × NameKind)) (acc : List (Str × Addr)), (∀ y ∈ names, y.2 = .free → ∃ c, env.cells.lookup y.1 = some c) → (∀ x c, acc.lookup x = some c → env.cells.lookup x = some c) →
    ∃ cl, (forIn (m := Sem) names acc fun y cs => (match y with | (name, kind) => do
        let mut cs := cs
        if kind == .free then cs := (name, ← cellOf env name) :: cs
        pure (ForInStep.yield cs) : Sem (ForInStep (List (Str × Addr))))) = pure cl ∧ (∀ x c, cl.lookup x = some c → env.cells.lookup x = some c) ∧ (∀ y ∈ names, y.2 = .free → ∃ c, cl.lookup y.1 = some c) ∧ (∀ x c, acc.lookup x = some c → ∃ c', cl.lookup x = some c')
  | [], acc, _, ha => ⟨acc, rfl, ha, fun _ z => absurd z List.not_mem_nil, fun x c h => ⟨c, h⟩⟩
  | (n, k) :: r, acc, hf, ha => by
    by_cases hk : k = .free
    · subst hk
      obtain ⟨c, hc⟩ := hf (n, .free) List.mem_cons_self rfl
      obtain ⟨cl, e, h1, h2, h3⟩ := closureFor_go r ((n, c) :: acc) (fun y hy => hf y (List.mem_cons_of_mem _ hy)) (fun x d hx => by
        rw [List.lookup_cons] at hx
        split at hx
        · rename_i z
          have : x = n := by simpa using z
          subst this
          cases hx
          exact hc
        · exact ha x d hx)
      refine ⟨cl, ?_, h1, fun y hy hyf => ?_, fun x d hx => ?_⟩
      · rw [List.forIn_cons]
        simp only [beq_self_eq_true, if_true, cellOf, hc, pure_bind, bind_pure_comp, map_pure]
        simp only [cellOf] at e
        simpa using e
      · rcases List.mem_cons.mp hy with z | z
        · subst z
          exact h3 n c (by simp)
        · exact h2 y z hyf
      · by_cases z : x = n
        · subst z
          exact h3 x c (by simp)
        · refine h3 x d ?_
          rw [List.lookup_cons]
          have : (x == n) = false := by simpa using z
          rw [this]
          exact hx
    · obtain ⟨cl, e, h1, h2, h3⟩ := closureFor_go r acc (fun y hy => hf y (List.mem_cons_of_mem _ hy)) ha
      have hb : (k == NameKind.free) = false := by simpa using hk
      refine ⟨cl, ?_, h1, fun y hy hyf => ?_, h3⟩
      · rw [List.forIn_cons]
        simp only [hb, Bool.false_eq_true, if_false, pure_bind]
        simpa using e
      · rcases List.mem_cons.mp hy with z | z
        · subst z
          exact absurd hyf hk
        · exact h2 y z hyf
theorem closureFor_ok {scope : Scope} {env : Env} (hf : ∀ y ∈ scope.names, y.2 = .free → ∃ c, env.cells.lookup y.1 = some c) :
    ∃ cl, closureFor scope env = pure cl ∧ (∀ x c, cl.lookup x = some c → env.cells.lookup x = some c) ∧ (∀ y ∈ scope.names, y.2 = .free → ∃ c, cl.lookup y.1 = some c) := by
  obtain ⟨cl, e, h1, h2, _⟩ := closureFor_go (env := env) scope.names [] hf (fun x c h => by simp at h)
  refine ⟨cl, ?_, h1, h2⟩
  unfold closureFor
  have e' := e
  simp only [bind_pure] at *
  first | exact e | (rw [e]; rfl) | simpa using e
end L2
set_option Elab.async false
set_option linter.all false
set_option maxRecDepth 100000
namespace L2
open PySem PySem.Spec PyProof.Rows
noncomputable def cxLC (X : Cx) (scope : Scope) (cl : List (Str × Addr)) (N : List Str) (C : Addr) (s : Shared) (H : Hp) (ex : List Addr) (pn : List (Addr × Obj)) : Cx where
  prog := X.prog
  w := X.w
  K := X.K
  mg := X.mg
  base := X.base
  A := X.A
  N := N
  s₀ := s
  H₀ := H
  env := compEnvC scope cl C X.env
  outer := X.stack
  stack := X.stack
  ex := ex
  fn := fun _ => false
  calm := X.calm
  pn := pn
  xe := fun _ _ => False
structure CScope (X : Cx) (scope : Scope) (N : List Str) (k : Nat) (js : List Nat) : Prop where
  kind : scope.kind = .function
  nocell : ∀ y ∈ scope.names, y.2 ≠ .cell
  names : ∀ y ∈ scope.names, y.2 = .local → scope.names.lookup y.1 = some .local
  frees : ∀ y ∈ scope.names, y.2 = .free → X.env.kindOf y.1 = some .cell ∨ X.env.kindOf y.1 = some .free
  len : N.length = k + js.length
  look : ∀ i j, js[i]? = some j → ∃ x, N[k + i]? = some x ∧ X.N[j]? = some x ∧ scope.names.lookup x = some .free
theorem relabel_lookup {scope : Scope} {env : Env} (x : Str) : (relabel scope env).names.lookup x = (scope.names.lookup x).map fun k => if (k == .free && env.scope.kind == .function && env.kindOf x == some .cell) then .cell else k := by
  unfold relabel
  dsimp only
  generalize scope.names = l
  induction l with
  | nil => rfl
  | cons y r ih =>
    obtain ⟨n, k⟩ := y
    rw [List.map_cons, List.lookup_cons]
    by_cases hx : x = n
    · subst hx
      dsimp only
      by_cases hc : (k == NameKind.free && env.scope.kind == ScopeKind.function && env.kindOf x == some NameKind.cell) = true
      · rw [if_pos hc]
        simp only [List.lookup_cons, beq_self_eq_true, Option.map_some]
        rw [if_pos hc]
      · rw [if_neg hc]
        simp only [List.lookup_cons, beq_self_eq_true, Option.map_some]
        rw [if_neg hc]
    · have hb : (x == n) = false := by simpa using hx
      dsimp only
      by_cases hc : (k == NameKind.free && env.scope.kind == ScopeKind.function && env.kindOf n == some NameKind.cell) = true
      · rw [if_pos hc]
        simp only [List.lookup_cons, hb]
        exact ih
      · rw [if_neg hc]
        simp only [List.lookup_cons, hb]
        exact ih
theorem lookup_mem {α : Type} : ∀ {l : List (Str × α)} {x : Str} {v : α}, l.lookup x = some v → (x, v) ∈ l
  | [], _, _, h => by simp at h
  | (n, k) :: r, x, v, h => by
    rw [List.lookup_cons] at h
    split at h
    · rename_i z
      have : x = n := by simpa using z
      subst this
      cases h
      exact List.mem_cons_self
    · exact List.mem_cons_of_mem _ (lookup_mem h)
noncomputable def frV (σ : St) (js : List Nat) : St := js.map fun j => (σ[j]?).join
noncomputable def stLC (σ : St) (k : Nat) (js : List Nat) : St := List.replicate k none ++ frV σ js
section
variable {X : Cx} {pins : List (Addr × Obj)} {σ : St} {H : Hp} {s : Shared} {scope : Scope} {N : List Str} {k : Nat} {js : List Nat} {cl : List (Str × Addr)} {fp : List Addr}
theorem Inv.block {h1 : Heap} {tk : Nat} (I : Inv X pins σ H s) (S : CScope X scope N k js)
    (hcl1 : ∀ x c, cl.lookup x = some c → X.env.cells.lookup x = some c) (hcl2 : ∀ y ∈ scope.names, y.2 = .free → ∃ c, cl.lookup y.1 = some c)
    (hns : h1.Ns s.heap.objs.size (fun _ => none)) (hk : ∀ b o, s.heap.get? b = some o → h1.get? b = some o)
    (hf : ∀ b ∈ fp, FpOk X pins H b) (hfp : ∀ b ∈ fp, ∃ o, s.heap.get? b = some o ∧ ∀ v, o.data ≠ .cell v) :
    Inv (cxLC X scope cl N s.heap.objs.size s H fp (X.pn ++ pins)) [] (stLC σ k js) H { s with heap := h1, toks := tk } := by
  have hxc : ∀ x c, cl.lookup x = some c → c < s.heap.objs.size := fun x c h => by
    obtain ⟨v, q⟩ := I.cell x c (hcl1 x c h)
    exact q.lt
  have lkL : ∀ x, (compEnvC scope cl s.heap.objs.size X.env).kindOf x = (scope.names.lookup x).map fun k => if (k == .free && X.env.scope.kind == .function && X.env.kindOf x == some .cell) then .cell else k := fun x => relabel_lookup x
  refine ⟨⟨I.ok.mod, S.kind, I.ok.glob, I.ok.blt, Nat.le_refl _, fun x y c h1 h2 => I.ok.inj x y c (hcl1 x c h1) (hcl1 y c h2), fun x hx => ?_, fun x c h _ => absurd (show false = true from h) (by decide), I.ok.hd, I.ok.frames, .inl rfl, fun b hb => ?_, I.bs,
    Nat.le_trans I.ok.bsz I.sz, fun b o e z => ?_, fun b hb z => ?_, I.stack, I.stkFree⟩, rfl, I.bare, Un.kept hk, ⟨_, hns, fun i x v e1 e2 e3 => ?_⟩, fun x c h => ?_, ?_, fun x c h => I.freeC x c (hcl1 x c h), fun p hp => ?_, I.hok.kept hk, ?_⟩
  · -- has
    have hx : ((scope.names.lookup x).map fun k => if (k == .free && X.env.scope.kind == .function && X.env.kindOf x == some .cell) then NameKind.cell else k) = some .cell ∨ ((scope.names.lookup x).map fun k => if (k == .free && X.env.scope.kind == .function && X.env.kindOf x == some .cell) then NameKind.cell else k) = some .free := by
      rcases hx with hx | hx
      · exact .inl ((lkL x).symm.trans hx)
      · exact .inr ((lkL x).symm.trans hx)
    have : scope.names.lookup x = some .free := by
      cases e : scope.names.lookup x with
      | none => rw [e] at hx; rcases hx with hx | hx <;> cases hx
      | some q =>
        rw [e] at hx
        by_cases hq : q = .free
        · rw [hq]
        · have hb : (q == NameKind.free) = false := by simpa using hq
          simp only [Option.map_some, hb, Bool.false_and, Bool.false_eq_true, if_false, Option.some.injEq] at hx
          rcases hx with hx | hx
          · exact absurd hx (S.nocell _ (lookup_mem e))
          · exact absurd hx hq
    obtain ⟨c, hc⟩ := hcl2 _ (lookup_mem this) rfl
    exact ⟨c, hc⟩
  · obtain ⟨f0, f1, f2, f3, f4, f5⟩ := hf b hb
    obtain ⟨o, ho, _⟩ := hfp b hb
    exact ⟨Nat.ne_of_lt (Heap.lt_size ho), fun x c h => f4 x c (hcl1 x c h)⟩
  · obtain ⟨f0, f1, f2, f3, f4, f5⟩ := hf b z
    rcases f3 with f3 | f3
    · exact I.ok.noex b o e f3
    · exact absurd (Nat.lt_of_lt_of_le (Heap.lt_size (I.ok.bs b o e).1) f3) (Nat.lt_irrefl _)
  · obtain ⟨f0, f1, f2, f3, f4, f5⟩ := hf b hb
    rcases List.mem_cons.mp (I.stkSub b z) with q | q
    · exact f1 q
    · exact f2 q
  · -- the values
    by_cases hi : i < k
    · have : (stLC σ k js)[i]? = some none := by
        unfold stLC
        rw [List.getElem?_append_left (by simpa using hi), List.getElem?_replicate, if_pos hi]
      rw [this] at e2
      cases e2
    · obtain ⟨d, rfl⟩ : ∃ d, i = k + d := ⟨i - k, by omega⟩
      have e2' : (frV σ js)[d]? = some (some v) := by
        unfold stLC at e2
        rw [List.getElem?_append_right (by simp)] at e2
        simpa using e2
      unfold frV at e2'
      rw [List.getElem?_map] at e2'
      cases ej : js[d]? with
      | none => rw [ej] at e2'; cases e2'
      | some j =>
        rw [ej] at e2'
        have ev : (σ[j]?).join = some v := Option.some.inj e2'
        have ev' : σ[j]? = some (some v) := by
          cases q : σ[j]? with
          | none => rw [q] at ev; cases ev
          | some z => rw [q] at ev; rw [show z = some v from ev]
        obtain ⟨x', n1, n2, n3⟩ := S.look d j ej
        have : x' = x := Option.some.inj (n1.symm.trans e1)
        subst this
        obtain ⟨m, hn, hl⟩ := I.loc
        have hkx := S.frees _ (lookup_mem n3) rfl
        have hvis : Vis X.env.scope x' := by
          rcases hkx with q | q
          · exact .inr (.inl q)
          · exact .inr (.inr q)
        obtain ⟨u, r, l⟩ := hl j x' v n2 ev' hvis
        refine ⟨u, r, ?_⟩
        obtain ⟨c, hc⟩ := hcl2 _ (lookup_mem n3) rfl
        rcases l with ⟨l1, _⟩ | ⟨l1, c', l2, l3⟩
        · rcases hkx with q | q
          · exact absurd (l1.symm.trans q) (by decide)
          · exact absurd (l1.symm.trans q) (by decide)
        · have : c' = c := Option.some.inj (l2.symm.trans (hcl1 _ c hc))
          subst this
          refine .inr ⟨?_, c', hc, ?_⟩
          · have q := lkL x'
            rw [n3] at q
            by_cases hb : ((NameKind.free == NameKind.free && X.env.scope.kind == .function && X.env.kindOf x' == some .cell)) = true
            · left
              show (compEnvC scope cl s.heap.objs.size X.env).kindOf x' = _
              rw [q]
              simp only [Option.map_some]
              rw [if_pos hb]
            · right
              show (compEnvC scope cl s.heap.objs.size X.env).kindOf x' = _
              rw [q]
              simp only [Option.map_some]
              rw [if_neg hb]
          · obtain ⟨o, ho, hd⟩ := l3
            exact ⟨o, hk _ o ho, hd⟩
  · obtain ⟨v, o, ho, hd⟩ := I.cell x c (hcl1 x c h)
    exact ⟨v, o, hk _ o ho, hd⟩
  · exact I.hok.fresh (Nat.le_refl _)
  · have hp' : p ∈ X.pn ++ pins := by simpa [cxLC] using hp
    obtain ⟨e, n, ne, nf, d⟩ := I.pin p hp'
    exact ⟨hk _ _ e, n, Nat.ne_of_lt (Heap.lt_size e), fun z => (List.mem_cons.mp (I.stkSub _ z)).elim ne nf, d⟩
  · show (stLC σ k js).length = N.length
    unfold stLC frV
    rw [S.len]
    simp
end
end L2
set_option Elab.async false
set_option linter.all false
set_option maxRecDepth 100000
namespace L2
open PySem PySem.Spec PyProof.Rows
noncomputable def PIfs (X : Cx) (ifs : List Expr) (t : TT) : Prop :=
  ∀ (pins : List (Addr × Obj)) (s : Shared) (σ : St) (H : Hp) (Q : Bool → Hp → Prop), Inv X pins σ H s → t σ H Q →
    wpAny (model X.prog X.w) X.A (forIn ifs true fun c r => if r = true then do let ok ← isTrue c X.env (eval c X.env); pure (ForInStep.yield ok) else pure (ForInStep.yield r)) (TP X pins σ Q) X.xe s
noncomputable def tYes : TT := fun _ H Q => Q true H
theorem pifs_nil {X : Cx} : PIfs X [] tYes := fun _ _ _ H _ I h => wpAny_tests_nil ⟨H, I, h⟩
noncomputable def tLC (wi : TI) (k : Nat) (js : List Nat) (g : TG) (tt : TT) (te : TE) : TE := fun σ H Q => wi σ H fun J H1 => ∀ D, H1 D = none →
  ∃ W : Nat → Nat → List V → Hp → Prop, (∃ m, W 0 m [] (upd H1 D (.lst []))) ∧ ∀ i m ys H, W i m ys H → H D = some (.lst ys) ∧
    ((J.stop i H ∧ Q (.ref D) H) ∨ (J.go i H ∧ ys.length < sizeLine ∧ ∃ N : List V → Hp → Prop, (∀ ys' H', N ys' H' → ∃ m', m' < m ∧ W (i + 1) m' ys' H') ∧
      ∀ x H', J.yld i H x H' → g x (stLC σ k js) H' fun σ2 H2 => (σ2.drop k = frV σ js ∧ σ2.length = k + js.length) ∧ tt σ2 H2 fun b H3 => if b = true then te σ2 H3 fun y H4 => H4 D = some (.lst ys) ∧ N (ys ++ [y]) (upd H4 D (.lst (ys ++ [y]))) else N ys H3))
section
variable {X : Cx} {scope : Scope} {N : List Str} {k : Nat} {js : List Nat} {elt iter tg : Expr} {ifs : List Expr} {pos : Pos} {wi : TI} {g : TG} {tt : TT} {te : TE}
theorem lc_keep {σ σ2 : St} (h1 : σ2.drop k = frV σ js) (h2 : σ2.length = k + js.length) (i : Nat) (v : V) (h : (stLC σ k js)[i]? = some (some v)) : σ2[i]? = some (some v) := by
  unfold stLC at h
  by_cases hi : i < k
  · rw [List.getElem?_append_left (by simpa using hi), List.getElem?_replicate, if_pos hi] at h
    cases h
  · rw [List.getElem?_append_right (by simpa using hi), ← h1, List.getElem?_drop] at h
    simp only [List.length_replicate] at h
    rw [show k + (i - k) = i by omega] at h
    exact h
theorem lc_block {pins : List (Addr × Obj)} {σ : St} {H : Hp} {s : Shared} {cl : List (Str × Addr)} {Q : VK} {it : Addr} {fp : List Addr} {tn : Nat → Heap → Prop} {J : It} {RR : Value → Addr → Result → Shared → Prop}
    (S : CScope X scope N k js) (hc : X.calm = true)
    (hg : ∀ cl C s H ex pn, PG (cxLC X scope cl N C s H ex pn) tg g) (ht : ∀ cl C s H ex pn, PIfs (cxLC X scope cl N C s H ex pn) ifs tt) (he : ∀ cl C s H ex pn, PE (cxLC X scope cl N C s H ex pn) elt te)
    (hcl1 : ∀ x c, cl.lookup x = some c → X.env.cells.lookup x = some c) (hcl2 : ∀ y ∈ scope.names, y.2 = .free → ∃ c, cl.lookup y.1 = some c)
    (I : Inv X pins σ H s) (T : Turn X.prog X.w X.K tg J fp it tn) (hst : tn 0 s.heap) (hf : ∀ b ∈ fp, FpOk X pins H b)
    (hr : ∀ D, H D = none →
      ∃ W : Nat → Nat → List V → Hp → Prop, (∃ m, W 0 m [] (upd H D (.lst []))) ∧ ∀ i m ys H, W i m ys H → H D = some (.lst ys) ∧
        ((J.stop i H ∧ Q (.ref D) H) ∨ (J.go i H ∧ ys.length < sizeLine ∧ ∃ N : List V → Hp → Prop, (∀ ys' H', N ys' H' → ∃ m', m' < m ∧ W (i + 1) m' ys' H') ∧
          ∀ x H', J.yld i H x H' → g x (stLC σ k js) H' fun σ2 H2 => (σ2.drop k = frV σ js ∧ σ2.length = k + js.length) ∧ tt σ2 H2 fun b H3 => if b = true then te σ2 H3 fun y H4 => H4 D = some (.lst ys) ∧ N (ys ++ [y]) (upd H4 D (.lst (ys ++ [y]))) else N ys H3)))
    (hend : ∀ D C H' s' m, Inv X pins σ H' s' → s'.heap.Ns C m → H' C = none → C ≠ X.env.locals → C ∉ frs X.stack → X.s₀.heap.objs.size ≤ C → (∀ x c, X.env.cells.lookup x = some c → c ≠ C) → (∀ p ∈ X.pn ++ pins, p.1 ≠ C) → D ≠ C → Q (.ref D) H' → RR (.ref D) C (.ok .next) s')
    {E : Value → Shared → Prop} :
    wpAny (model X.prog X.w) X.A (newList []) (fun acc s₃ => wpAny (model X.prog X.w) X.A (newFunctionEnv scope X.env.globals cl [] X.env.qual none .none (some X.env)) (fun cenv s₄ =>
      codeAny (model X.prog X.w) X.A (.compStart (.ListComp elt [⟨tg, iter, ifs, 0⟩] scope pos) 0 (.ref it) acc { cenv with scope := relabel scope X.env }) (RR acc cenv.locals) s₄) E s₃) E s := by
  refine wpAny_newObj_type (wpAny_newFunctionEnv S.nocell (by intro y hy; simp at hy) (fun h₁ hns₁ hsb₁ => ?_) S.kind)
  dsimp only at hns₁ hsb₁ ⊢
  have hD : H s.heap.objs.size = none := I.fresh
  obtain ⟨W, ⟨m0, w0⟩, turn⟩ := hr s.heap.objs.size hD
  have I2 : Inv X pins σ (upd H s.heap.objs.size (.lst [])) { s with heap := s.heap.push { cls := .type "list", dict := none, data := .seq ([] : List Value).toArray }, toks := s.toks } := I.lnew (its := []) .nil (Nat.zero_le _)
  generalize hH2 : s.heap.push { cls := .type "list", dict := none, data := .seq ([] : List Value).toArray } = H2 at hns₁ hsb₁ I2 ⊢
  have hsz : H2.objs.size = s.heap.objs.size + 1 := by rw [← hH2, Heap.size_push]
  generalize hs3 : ({ s with heap := H2, toks := s.toks } : Shared) = s3 at I2
  have hs3h : s3.heap = H2 := by rw [← hs3]
  have old : ∀ b o, s.heap.get? b = some o → H2.get? b = some o := fun b o e => by rw [← hH2]; exact Heap.get?_push_of_some _ e
  have old1 : ∀ b o, H2.get? b = some o → h₁.get? b = some o := fun b o e => hsb₁.extBut b o (Nat.ne_of_lt (Heap.lt_size e)) (Heap.get?_push_of_some _ e)
  have hfH : ∀ b ∈ fp, ∃ o, s.heap.get? b = some o ∧ ∀ v, o.data ≠ .cell v := T.obj 0 _ hst
  have ff : ∀ b ∈ fp, FpOk X pins (upd H s.heap.objs.size (.lst [])) b := fun b hb => by
    obtain ⟨f0, fr⟩ := hf b hb
    obtain ⟨o, ho, _⟩ := hfH b hb
    exact ⟨by rw [upd_ne (Nat.ne_of_lt (Heap.lt_size ho))]; exact f0, fr⟩
  have hns' : h₁.Ns s3.heap.objs.size (fun _ => none) := by
    rw [hs3h]
    simpa using hns₁
  have J0 : Inv (cxLC X scope cl N s3.heap.objs.size s3 (upd H s.heap.objs.size (.lst [])) fp (X.pn ++ pins)) [] (stLC σ k js) (upd H s.heap.objs.size (.lst [])) { s3 with heap := h₁, toks := s.toks + ([] : List (Str × Value)).length } :=
    I2.block (fp := fp) (tk := s.toks + ([] : List (Str × Value)).length) S hcl1 hcl2 hns' (fun b o e => old1 b o (by rw [← hs3h]; exact e)) ff (fun b hb => by
      obtain ⟨o, ho, hd⟩ := hfH b hb
      exact ⟨o, by rw [hs3h]; exact old b o ho, hd⟩)
  have es3 : ({ s3 with heap := h₁, toks := s.toks + ([] : List (Str × Value)).length } : Shared) = { s with heap := h₁, toks := s.toks + ([] : List (Str × Value)).length } := by rw [← hs3]
  rw [es3] at J0
  have hst1 : tn 0 h₁ := T.keep 0 _ _ hst fun b hb o e => old1 b o (old b o e)
  generalize hY : cxLC X scope cl N s3.heap.objs.size s3 (upd H s.heap.objs.size (.lst [])) fp (X.pn ++ pins) = Y at J0
  have eA : Y.A = X.A := by rw [← hY]; rfl
  have eP : Y.prog = X.prog := by rw [← hY]; rfl
  have eW : Y.w = X.w := by rw [← hY]; rfl
  have eK : Y.K = X.K := by rw [← hY]; rfl
  have eE : Y.env = compEnvC scope cl H2.objs.size X.env := by rw [← hY, ← hs3h]; rfl
  have eX : Y.xe = fun _ _ => False := by rw [← hY]; rfl
  have eC : Y.calm = true := by rw [← hY]; exact hc
  have stat : ∀ {H' : Hp}, (∀ b ∈ fp, H' b = none) → ∀ b ∈ fp, FpOk Y [] H' b := fun hn b hb => by
    obtain ⟨f0, f1, f2, f3, f4, f5⟩ := hf b hb
    obtain ⟨o, ho, _⟩ := hfH b hb
    refine ⟨hn b hb, ?_, ?_, .inl (by rw [← hY]; exact hb), fun x c h => ?_, fun p hp => ?_⟩
    · rw [eE]
      exact Nat.ne_of_lt (Nat.lt_of_lt_of_le (Heap.lt_size ho) (by rw [hsz]; exact Nat.le_succ _))
    · rw [← hY]
      intro z
      rcases List.mem_cons.mp (I.stkSub b z) with q | q
      · exact f1 q
      · exact f2 q
    · rw [eE] at h
      exact f4 x c (hcl1 x c h)
    · rw [← hY] at hp
      exact f5 p (by simpa [cxLC] using hp)
  have loop : ∀ s₂ : Shared, s₂ = { s with heap := h₁, toks := s.toks + ([] : List (Str × Value)).length } →
      codeAny (model X.prog X.w) X.A (.compLoop (.ListComp elt [⟨tg, iter, ifs, 0⟩] scope pos) 0 (.ref it) (.ref s.heap.objs.size) (compEnvC scope cl H2.objs.size X.env)) (RR (.ref s.heap.objs.size) H2.objs.size) s₂ := by
    rintro s₂ rfl
    have noE : ∀ (e : Value) (s' : Shared), False → notedBy (model X.prog X.w) X.A (compEnvC scope cl H2.objs.size X.env) (fun e s' => RR (.ref s.heap.objs.size) H2.objs.size (.error e) s') e s' := fun _ _ z => z.elim
    -- one turn, by hand: the step ahead of the store is the iterator's
    refine codeAny_loop rfl (fun n s' => ∃ i H' ys, Inv Y [] (stLC σ k js) H' s' ∧ tn i s'.heap ∧ (∀ b ∈ fp, H' b = none) ∧ W i n ys H') (fun n s5 hI => ?_) m0 ⟨0, _, [], J0, hst1, fun b hb => (ff b hb).1, w0⟩
    obtain ⟨i, H5, ys, I5, st5, fr5, w5⟩ := hI
    show wpAny _ X.A ((compTurn (.ListComp elt [⟨tg, iter, ifs, 0⟩] scope pos) 0 (.ref it) (.ref s.heap.objs.size) (compEnvC scope cl H2.objs.size X.env)).onRaise (fun x => do noteFrame x (compEnvC scope cl H2.objs.size X.env); theTreesLotGoes x)) _ _ s5
    refine wpAny_noted ?_
    rw [compTurn_list]
    refine wpAny_bind (wpAny_standAt (wpAny_bind ?_))
    obtain ⟨hDy, tr⟩ := turn i n ys H5 w5
    rcases tr with ⟨stop, q⟩ | ⟨go, hlen, NN, hN, step⟩
    · have h6 := T.done Y eP eW eK eC i [] s5 _ H5 (fun _ _ => False) I5 (stat fr5) st5 stop
      rw [eA] at h6
      refine wpAny_mono h6 (fun r s6 h => ?_) noE
      obtain ⟨rfl, I6⟩ := h
      refine wpAny_pure ?_
      obtain ⟨m6, hn6, _⟩ := I6.loc
      rw [eE] at hn6
      have hu : Un (frs X.stack) fp (upd H s.heap.objs.size (.lst [])) H5 s3.heap s6.heap := by
        have := I6.base
        rw [← hY] at this
        exact this
      have hok6 : HOk X.prog X.w H5 s6.heap := by
        have := I6.hok
        rw [eP, eW] at this
        exact this
      have I7 : Inv X pins σ H5 s6 := I2.call' (ch := fp) (by have := I6.os; rw [← hY] at this; exact this) hu hok6 I6.bare fun b hb => by
        obtain ⟨f0, f1, f2, f3, f4, f5⟩ := hf b hb
        exact ⟨f3, f1, f4, f5⟩
      have hfree : H5 H2.objs.size = none := by
        have := I6.free
        rw [eE] at this
        exact this
      refine hend _ _ H5 s6 m6 I7 hn6 hfree ?_ ?_ ?_ ?_ ?_ ?_ q
      · rw [← hs3h]; exact Nat.ne_of_gt I2.lt
      · rw [← hs3h]
        intro z
        rcases List.mem_cons.mp (I2.stkSub _ z) with q | q
        · exact absurd q (Nat.ne_of_gt I2.lt)
        · exact I2.nofs (Nat.le_refl _) q
      · rw [← hs3h]; exact I2.sz
      · intro x c h z
        obtain ⟨v, hv⟩ := I2.cell x c h
        have := hv.lt
        rw [hs3h, z] at this
        exact absurd this (Nat.lt_irrefl _)
      · intro p hp z
        have := Heap.lt_size (I2.pin p hp).1
        rw [hs3h, z] at this
        exact absurd this (Nat.lt_irrefl _)
      · rw [hsz]; exact Nat.ne_of_lt (Nat.lt_succ_self _)
    · have h6 := T.item Y eP eW eK eC i [] s5 _ H5 (fun _ _ => False) I5 (stat fr5) st5 go
      rw [eA] at h6
      refine wpAny_mono h6 (fun r s6 h => ?_) noE
      obtain ⟨u, rfl, h7⟩ := h
      refine wpAny_bind (wpAny_mono h7 (fun _ s7 h => ?_) noE)
      obtain ⟨x, H7, I7, rx, y7, st7, fr7⟩ := h
      have I7' := I7.pinned (stat fr7) (T.obj _ _ st7)
      have h8 := hg cl s3.heap.objs.size s3 (upd H s.heap.objs.size (.lst [])) fp (X.pn ++ pins)
      rw [hY] at h8
      have h8 := h8 _ s7 _ H7 x u _ I7' rx (step x H7 y7)
      rw [eP, eW, eA, eE, eX] at h8
      refine wpAny_bind (wpAny_mono h8 (fun _ s8 h => ?_) noE)
      obtain ⟨σ8, H8, I8, ⟨k1, k2⟩, q8⟩ := h
      have h9 := ht cl s3.heap.objs.size s3 (upd H s.heap.objs.size (.lst [])) fp (X.pn ++ pins)
      rw [hY] at h9
      have h9 := h9 _ s8 σ8 H8 _ I8 q8
      rw [eP, eW, eA, eE, eX] at h9
      refine wpAny_bind (wpAny_mono h9 (fun ok s9 h => ?_) noE)
      obtain ⟨H9, I9, q9⟩ := h
      have again : ∀ {H' : Hp} {ys' : List V} {s' : Shared}, Inv Y ([] ++ pinsAt fp s7.heap) σ8 H' s' → NN ys' H' → ∃ m, m < n ∧ ∃ i H' ys, Inv Y [] (stLC σ k js) H' s' ∧ tn i s'.heap ∧ (∀ b ∈ fp, H' b = none) ∧ W i m ys H' := fun {H' ys' s'} I' n' => by
        obtain ⟨m', hm, w'⟩ := hN ys' H' n'
        refine ⟨m', hm, i + 1, H', ys', (I'.unpinned).weak (by unfold stLC frV; rw [k2]; simp) (fun j v h => lc_keep k1 k2 j v h), T.keep _ _ _ st7 fun b hb o e => (I'.pin (b, o) (List.mem_append_right _ (List.mem_append_right _ (mem_pinsAt hb e)))).1, fun b hb => ?_, w'⟩
        obtain ⟨o, e, d⟩ := T.obj _ _ st7 b hb
        exact (I'.pin (b, o) (List.mem_append_right _ (List.mem_append_right _ (mem_pinsAt hb e)))).2.1
      cases ok with
      | false =>
        rw [if_neg Bool.false_ne_true] at q9
        exact wpAny_pure ⟨rfl, again I9 q9⟩
      | true =>
        rw [if_pos rfl] at q9
        have h10 := he cl s3.heap.objs.size s3 (upd H s.heap.objs.size (.lst [])) fp (X.pn ++ pins)
        rw [hY] at h10
        have h10 := h10 _ s9 σ8 H9 _ I9 q9
        rw [eP, eW, eA, eE, eX] at h10
        refine wpAny_bind (wpAny_bind (wpAny_mono h10 (fun y s10 h => ?_) noE))
        obtain ⟨yv, H10, I10, ry, e10, n10⟩ := h
        have h11 := mt_append (X := Y) _ s10 σ8 H10 (.ref s.heap.objs.size) [yv] (.ref s.heap.objs.size) [y] (fun _ H' => NN (ys ++ [yv]) H') I10 rfl (.cons ry .nil) ⟨_, ys, yv, rfl, rfl, e10, hlen, n10⟩
        rw [eP, eW, eA, eX] at h11
        refine wpAny_bind (wpAny_mono h11 (fun _ s11 h => ?_) noE)
        obtain ⟨_, H11, I11, _, n11⟩ := h
        exact wpAny_pure (wpAny_pure ⟨rfl, again I11 n11⟩)
  exact codeAny_compStart_list (loop _ rfl) (T.self X.A 0 _ _ _ hst1 (loop _ rfl))
end
end L2
namespace L2
open PySem PySem.Spec PyProof.Rows
section
variable {X : Cx} {scope : Scope} {N : List Str} {k : Nat} {js : List Nat} {elt iter tg : Expr} {ifs : List Expr} {pos : Pos} {wi : TI} {g : TG} {tt : TT} {te : TE}
theorem CScope.closure {pins : List (Addr × Obj)} {σ : St} {H : Hp} {s : Shared} (S : CScope X scope N k js) (I : Inv X pins σ H s) :
    ∃ cl, closureFor scope X.env = pure cl ∧ (∀ x c, cl.lookup x = some c → X.env.cells.lookup x = some c) ∧ (∀ y ∈ scope.names, y.2 = .free → ∃ c, cl.lookup y.1 = some c) :=
  closureFor_ok fun y hy hf => I.ok.has y.1 (S.frees y hy hf)
theorem pe_lc (S : CScope X scope N k js) (hc : X.calm = true) (hi : PI X tg iter wi)
    (hg : ∀ cl C s H ex pn, PG (cxLC X scope cl N C s H ex pn) tg g) (ht : ∀ cl C s H ex pn, PIfs (cxLC X scope cl N C s H ex pn) ifs tt) (he : ∀ cl C s H ex pn, PE (cxLC X scope cl N C s H ex pn) elt te)
    (hs : ∀ x, foldedSetIterable iter X.env x = pure x := by intro _; rfl) : PE X (.ListComp elt [⟨tg, iter, ifs, 0⟩] scope pos) (tLC wi k js g tt te) := by
  intro pins s σ H Q I h
  obtain ⟨cl, hclos, hcl1, hcl2⟩ := S.closure I
  rw [eval_ListComp]
  refine wpAny_comprehension_free (use := none) rfl hs hclos S.kind S.names (thn (hi pins s σ H _ I h) fun v s1 h1 => thn h1 fun itv s2 h2 => ?_)
  obtain ⟨it, fp, tn, J, H2, rfl, I2, T, st2, f2, hr⟩ := h2
  refine lc_block (Q := Q) (RR := fun acc C => compPost (model X.prog X.w) X.A X.xe none (EP X pins σ Q) acc C) S hc hg ht he hcl1 hcl2 I2 T st2 f2 hr ?_
  intro D C H' s' m I' hn h0 hL hF hz hcell hpin hDC q
  refine ⟨m, hn, fun h' sb => ⟨.ref D, H', ?_, rfl, q⟩⟩
  exact I'.turned (t' := s'.toks) (fun b o hb e => (sb.2 b hb).trans e) h0 hL (.inr hz) hcell hpin
end
end L2
namespace L2
open PySem PySem.Spec PyProof.Rows
section
variable {X : Cx} {scope : Scope} {N : List Str} {k : Nat} {js : List Nat} {elt iter tg : Expr} {ifs : List Expr} {pos : Pos} {wi : TI} {g : TG} {tt : TT} {te : TE}
theorem ps_lc {i : Nat} {y : Str} {py spos : Pos} (S : CScope X scope N k js) (hc : X.calm = true) (hi : PI X tg iter wi)
    (hg : ∀ cl C s H ex pn, PG (cxLC X scope cl N C s H ex pn) tg g) (ht : ∀ cl C s H ex pn, PIfs (cxLC X scope cl N C s H ex pn) ifs tt) (he : ∀ cl C s H ex pn, PE (cxLC X scope cl N C s H ex pn) elt te)
    (hN : X.N.Nodup) (hix : X.N[i]? = some y) (hy : X.env.scope.names.lookup y = some .local)
    (hsw : swapsWith (.ListComp elt [⟨tg, iter, ifs, 0⟩] scope pos) (some (.Name y py)) spos.line X.env = pure true := by rfl)
    (hs : ∀ x, foldedSetIterable iter X.env x = pure x := by intro _; rfl) : PS X (.Assign [.Name y py] (.ListComp elt [⟨tg, iter, ifs, 0⟩] scope pos) spos) (tAsg (tLC wi k js g tt te) (gName i)) := by
  intro pins s σ H D0 I h
  obtain ⟨cl, hclos, hcl1, hcl2⟩ := S.closure I
  rw [exec_Assign_Name_used _ _ _ _ hsw]
  refine wpAny_bind (wpAny_standAt (wpAny_bind ?_))
  show wpAny _ X.A (do let _ ← comprehension (.ListComp elt [⟨tg, iter, ifs, 0⟩] scope pos) scope X.env _ (newList []) false (eval iter X.env) (some (assign (.Name y py) X.env))) _ _ s
  refine wpAny_bind (wpAny_mono (wpAny_comprehension_free (use := some (assign (.Name y py) X.env)) (Q := fun _ s' => SP X pins D0 .next s') rfl hs hclos S.kind S.names
    (thn (hi pins s σ H _ I h) fun v s1 h1 => thn h1 fun itv s2 h2 => ?_)) (fun _ s' hq => wpAny_pure (wpAny_pure hq)) fun _ _ e => e)
  obtain ⟨it, fp, tn, J, H2, rfl, I2, T, st2, f2, hr⟩ := h2
  refine lc_block (Q := fun v H' => D0.nx (σ.set i (some v)) H') (RR := fun acc C => compPost (model X.prog X.w) X.A X.xe (some (assign (.Name y py) X.env)) (fun _ s' => SP X pins D0 .next s') acc C) S hc hg ht he hcl1 hcl2 I2 T st2 f2 hr ?_
  intro D C H' s' m I' hn h0 hL hF hz hcell hpin hDC q
  show wpAny _ X.A (assign (.Name y py) X.env (.ref D)) _ _ _
  refine wpAny_assign_Name (store_ok2 I' hN hix (.inl hy) (v := .ref D) rfl (fun s'' I'' hsb => ?_) (.inr hy))
  obtain ⟨a, sb, ha⟩ := hsb
  have haC : C ≠ a := by
    rcases ha with rfl | ha
    · exact hL
    · exact fun z => hcell y a ha z.symm
  refine ⟨m, hn.sameBut sb haC, fun h' sb' => ⟨σ.set i (some (.ref D)), H', ?_, q⟩⟩
  exact I''.turned (t' := s''.toks) (fun b o hb e => (sb'.2 b hb).trans e) h0 hL (.inr hz) hcell hpin
end
end L2
set_option Elab.async false
set_option linter.all false
set_option maxRecDepth 100000
namespace L2
open PySem PySem.Spec PyProof.Rows
mutual
inductive Rdy (K : PySem.W.Frag) (H : Hp) : V → PyData → Prop
  | non : Rdy K H .non .none
  | bl (b : Bool) : Rdy K H (.bl b) (.bool b)
  | int (i : Int) : Rdy K H (.int i) (.int i)
  | str (x : Str) : Rdy K H (.str x) (.str x)
  | tup {a : Addr} {xs : List V} {ds : List PyData} : SqT K H a xs → RdyAll K H xs ds → Rdy K H (.ref a) (.tuple ds)
  | lst {a : Addr} {xs : List V} {ds : List PyData} : SqL K H a xs → RdyAll K H xs ds → Rdy K H (.ref a) (.list ds)
inductive RdyAll (K : PySem.W.Frag) (H : Hp) : List V → List PyData → Prop
  | nil : RdyAll K H [] []
  | cons {x : V} {xs : List V} {d : PyData} {ds : List PyData} : Rdy K H x d → RdyAll K H xs ds → RdyAll K H (x :: xs) (d :: ds)
end
section
variable {X : Cx} {pins : List (Addr × Obj)} {σ : St} {H : Hp} {s : Shared}
mutual
theorem Rdy.reads (I : Inv X pins σ H s) : ∀ {x : V} {d : PyData}, Rdy X.K H x d → ∀ {u : Value}, RelV x u → ∃ as, Reads s.heap u d as
  | _, _, .non, u, r => by cases (show u = Value.none from r); exact ⟨_, .none⟩
  | _, _, .bl b, u, r => by cases (show u = Value.bool b from r); exact ⟨_, .bool b⟩
  | _, _, .int i, u, r => by obtain ⟨t, rfl⟩ := (show ∃ t, u = Value.int i t from r); exact ⟨_, .int i t⟩
  | _, _, .str x, u, r => by obtain ⟨t, rfl⟩ := (show ∃ t, u = Value.str x t from r); exact ⟨_, .str x t⟩
  | _, _, @Rdy.tup _ _ a xs ds hq ha, u, r => by
    cases (show u = Value.ref a from r)
    obtain ⟨its, rv, ⟨o, ho, hc, n, hd⟩, hz⟩ := I.tuple hq
    obtain ⟨as, ra⟩ := RdyAll.reads I ha rv
    exact ⟨_, .tuple ho hc hd (by simpa using ra)⟩
  | _, _, @Rdy.lst _ _ a xs ds hq ha, u, r => by
    cases (show u = Value.ref a from r)
    obtain ⟨its, rv, ⟨o, n, ho, hc, _, hd⟩, hz⟩ := I.list hq
    obtain ⟨as, ra⟩ := RdyAll.reads I ha rv
    exact ⟨_, .list ho hc hd (by simpa using ra)⟩
theorem RdyAll.reads (I : Inv X pins σ H s) : ∀ {xs : List V} {ds : List PyData}, RdyAll X.K H xs ds → ∀ {us : List Value}, Vals xs us → ∃ as, ReadsAll s.heap us ds as
  | _, _, .nil, _, .nil => ⟨_, .nil⟩
  | _, _, .cons h t, _, .cons r rs => by
    obtain ⟨as, h1⟩ := Rdy.reads I h r
    obtain ⟨bs, h2⟩ := RdyAll.reads I t rs
    exact ⟨_, .cons h1 h2⟩
end
end
section
variable {X : Cx}
open PySem.SeqAt in
noncomputable def rEqD (K : PySem.W.Frag) (f : Bool → Bool) : R2 := fun x y H Q => ∃ d e, Rdy K H x d ∧ Rdy K H y e ∧ shaped d = true ∧ shaped e = true ∧ Q (.bl (f (PyData.eqv d e))) H
theorem op_eqD (hu : X.A.units + 64 < cLine) : OpR X (compareOp .Eq) (rEqD X.K id) := by
  intro pins s σ H x y v u Q I rx ry h
  obtain ⟨d, e, hd, he, sd, se, q⟩ := h
  obtain ⟨as, ra⟩ := hd.reads I rx
  obtain ⟨bs, rb⟩ := he.reads I ry
  exact eq_dataH ra rb sd se hu ⟨.bl _, H, I, rfl, q⟩
theorem op_neD (hu : X.A.units + 64 < cLine) : OpR X (compareOp .NotEq) (rEqD X.K not) := by
  intro pins s σ H x y v u Q I rx ry h
  obtain ⟨d, e, hd, he, sd, se, q⟩ := h
  obtain ⟨as, ra⟩ := hd.reads I rx
  obtain ⟨bs, rb⟩ := he.reads I ry
  exact ne_dataH ra rb sd se hu ⟨.bl _, H, I, rfl, q⟩
end
noncomputable def Ext (H H' : Hp) : Prop := ∀ b o, H b = some o → H' b = some o
theorem Ext.refl (H : Hp) : Ext H H := fun _ _ h => h
theorem Ext.trans {H H1 H2 : Hp} (a : Ext H H1) (b : Ext H1 H2) : Ext H H2 := fun c o h => b c o (a c o h)
theorem Ext.upd {H : Hp} {p : Addr} {o : HO} (h : H p = none) : Ext H (upd H p o) := fun b u e => by rw [upd_ne (ne_of_none e h)]; exact e
theorem Ext.then {H H1 : Hp} {p : Addr} {o : HO} (a : Ext H H1) (h : H1 p = none) : Ext H (L2.upd H1 p o) := a.trans (Ext.upd h)
theorem Ext.none {H H' : Hp} (e : Ext H H') {l : Addr} (h : H' l = .none) : H l = .none := by
  cases q : H l with
  | none => rfl
  | some o => rw [e l o q] at h; cases h
theorem Ext.sqT {K : PySem.W.Frag} {H H' : Hp} {a : Addr} {xs : List V} (e : Ext H H') (h : SqT K H a xs) : SqT K H' a xs := by
  rcases h with (h | ⟨o, h⟩) | h
  · exact .inl (.inl (e _ _ h))
  · exact .inl (.inr ⟨o, e _ _ h⟩)
  · exact .inr h
theorem Ext.sqL {K : PySem.W.Frag} {H H' : Hp} {a : Addr} {xs : List V} (e : Ext H H') (h : SqL K H a xs) : SqL K H' a xs := by
  rcases h with (h | ⟨o, h⟩) | h
  · exact .inl (.inl (e _ _ h))
  · exact .inl (.inr ⟨o, e _ _ h⟩)
  · exact .inr h
mutual
theorem Rdy.ext {K : PySem.W.Frag} {H H' : Hp} (e : Ext H H') : ∀ {x : V} {d : PyData}, Rdy K H x d → Rdy K H' x d
  | _, _, .non => .non
  | _, _, .bl b => .bl b
  | _, _, .int b => .int b
  | _, _, .str b => .str b
  | _, _, .tup h t => .tup (e.sqT h) (RdyAll.ext e t)
  | _, _, .lst h t => .lst (e.sqL h) (RdyAll.ext e t)
theorem RdyAll.ext {K : PySem.W.Frag} {H H' : Hp} (e : Ext H H') : ∀ {xs : List V} {ds : List PyData}, RdyAll K H xs ds → RdyAll K H' xs ds
  | _, _, .nil => .nil
  | _, _, .cons h t => .cons (Rdy.ext e h) (RdyAll.ext e t)
end
end L2
set_option Elab.async false
set_option linter.all false
set_option maxRecDepth 100000
namespace L2
open PySem PySem.Spec PyProof.Rows
structure FnB (P : Program) (w : World) (K : PySem.W.Frag) (mg : Str → Option Value) (base : Heap) (CX : CXT) (k : Nat) (x : Str) (ps : List Str) (sp : Sp) : Prop where
  ex : ∃ f fd, FnOk P w K mg base CX k f fd ps sp ∧ mg x = some (.ref f) ∧ PySem.W.keepIn K (.ref f) = true ∧ Binds K fd ps []
section
variable {X : Cx} {CX : CXT} {k : Nat} {ps : List Str} {sp : Sp} {E : XK} {x : Str} {p pos : Pos} {e : Expr} {es : List Expr} {t : TA}
theorem pe_fn (F : FnB X.prog X.w X.K X.mg X.base CX k x ps sp) (hr : Room k X.A) (hg : Gl X x) (hx : Passes CX X E)
    (ha : PA X (e :: es) t) (hdb : (x == ("__debug__" : Str)) = false := by decide) (he : starEach (e :: es) X.env = (false, eval e X.env) :: starEach es X.env := by rfl) (hpl : (backTo pos (starEach es X.env)).any (·.1) = false := by rfl) :
    PE X (.Call (.Name x p) (e :: es) [] pos) (tCall sp [] E t) := by
  obtain ⟨f, fd, h1, h2, h3, h4⟩ := F.ex
  exact pe_call h1 hr hg h2 h3 h4 .nil hx ha hdb he hpl
end
theorem FnB.of {P : Program} {w : World} {K : PySem.W.Frag} {mg : Str → Option Value} {base : Heap} {CX : CXT} {k : Nat} {x : Str} {ps : List Str} {sp : Sp} {f : Addr} {fd : FuncData} (h : FnOk P w K mg base CX k f fd ps sp) (m : mg x = some (.ref f)) (kp : PySem.W.keepIn K (.ref f) = true) (b : Binds K fd ps []) : FnB P w K mg base CX k x ps sp := ⟨f, fd, h, m, kp, b⟩
noncomputable def optK {α : Type} (o : Option α) (k : α → Prop) : Prop := match o with | some v => k v | none => False
noncomputable def seqOf (o : Option HO) : Option (List V) := match o with
  | some (.lst xs) => some xs
  | some (.tup xs) => some xs
  | _ => none
theorem seqOf_l (xs : List V) : seqOf (some (.lst xs)) = some xs := rfl
theorem seqOf_t (xs : List V) : seqOf (some (.tup xs)) = some xs := rfl
noncomputable def ixF : R2 := fun x y H Q => match x, y with
  | .ref p, .int i => optK (seqOf (H p)) fun xs => optK (atI xs i) fun v => Q v H
  | _, _ => False
theorem ix_F {X : Cx} : IxR X ixF := by
  intro value slice pins s σ H x y v u Q I rx ry q hs
  unfold ixF at q
  split at q
  · rename_i p i
    cases e : H p with
    | none => rw [e] at q; exact q.elim
    | some o =>
      rw [e] at q
      cases o with
      | lst xs =>
        have q : optK (atI xs i) fun v => Q v H := q
        unfold optK at q
        split at q
        · rename_i w hw
          exact ix_list value slice pins s σ H _ _ v u Q I rx ry ⟨p, xs, i, w, rfl, rfl, SqL.of e, hw, q⟩ hs
        · exact q.elim
      | tup xs =>
        have q : optK (atI xs i) fun v => Q v H := q
        unfold optK at q
        split at q
        · rename_i w hw
          exact ix_tup value slice pins s σ H _ _ v u Q I rx ry ⟨p, xs, i, w, rfl, rfl, SqT.of e, hw, q⟩ hs
        · exact q.elim
      | _ => exact q.elim
  · exact q.elim
theorem atI_0 {α : Type} (a : α) (l : List α) : atI (a :: l) 0 = some a := atI_nat (j := 0) rfl
theorem atI_1 {α : Type} (a b : α) (l : List α) : atI (a :: b :: l) 1 = some b := atI_nat (j := 1) rfl
theorem atI_2 {α : Type} (a b c : α) (l : List α) : atI (a :: b :: c :: l) 2 = some c := atI_nat (j := 2) rfl
theorem atI_3 {α : Type} (a b c d : α) (l : List α) : atI (a :: b :: c :: d :: l) 3 = some d := atI_nat (j := 3) rfl
theorem optK_some {α : Type} (a : α) (k : α → Prop) : optK (some a) k = k a := rfl
noncomputable def setF : V → V → V → Hp → (Hp → Prop) → Prop := fun o i v H Q => match o, i with
  | .ref p, .int k => (match H p with
    | some (.lst xs) => optK (ixN xs.length k) fun j => Q (upd H p (.lst (xs.set j v)))
    | _ => False)
  | _, _ => False
theorem set_F {X : Cx} : PSet X setF := by
  intro pins s σ H o i v ov iv u Q I ro ri rv q
  unfold setF at q
  split at q
  · rename_i p k
    split at q
    · rename_i xs e
      unfold optK at q
      split at q
      · rename_i j hj
        exact set_list pins s σ H _ _ v ov iv u Q I ro ri rv ⟨p, xs, k, j, rfl, rfl, e, hj, q⟩
      · exact q.elim
    · exact q.elim
  · exact q.elim
noncomputable def cscOk (dsc scope : Scope) (N0 N : List Str) (k : Nat) (js : List Nat) : Bool :=
  scope.kind == .function && scope.names.all (fun y => y.2 != .cell) && scope.names.all (fun y => y.2 != .local || scope.names.lookup y.1 == some .local) &&
  scope.names.all (fun y => y.2 != .free || dsc.names.lookup y.1 == some .cell || dsc.names.lookup y.1 == some .free) && N.length == k + js.length &&
  (List.range js.length).all (fun i => match js[i]? with | some j => (match N[k + i]? with | some x => N0[j]? == some x && scope.names.lookup x == some .free | none => false) | none => false)
theorem CScope.of_ok {X : Cx} {dsc scope : Scope} {N0 N : List Str} {k : Nat} {js : List Nat} (e : X.env.scope = dsc) (n : X.N = N0) (h : cscOk dsc scope N0 N k js = true) : CScope X scope N k js := by
  subst e n
  unfold cscOk at h
  simp only [Bool.and_eq_true, List.all_eq_true] at h
  obtain ⟨⟨⟨⟨⟨h1, h2⟩, h3⟩, h4⟩, h5⟩, h6⟩ := h
  refine ⟨by simpa using h1, fun y hy => by simpa using h2 y hy, fun y hy hl => ?_, fun y hy hl => ?_, by simpa using h5, fun i j hj => ?_⟩
  · have := h3 y hy
    simpa [hl] using this
  · have := h4 y hy
    simp only [hl, bne_self_eq_false, Bool.false_or, Bool.or_eq_true, beq_iff_eq] at this
    exact this
  · have hi : i < js.length := (List.getElem?_eq_some_iff.mp hj).1
    have := h6 i (by simpa using hi)
    rw [hj] at this
    dsimp only at this
    cases q : N[k + i]? with
    | none => rw [q] at this; cases this
    | some x =>
      rw [q] at this
      simp only [Bool.and_eq_true, beq_iff_eq] at this
      exact ⟨x, rfl, this.1, this.2⟩
theorem lc_range {lo : Int} {n : Nat} {g : TG} {tt : TT} {te : TE} {k : Nat} {js : List Nat} {σ : St} {D : Addr} {Q : VK} {H : Hp} (Pv : Nat → List V → Hp → Prop) (h0 : Pv 0 [] (upd H D (.lst [])))
    (hn : n < sizeLine) (hl : ∀ i ys H, i ≤ n → Pv i ys H → H D = some (.lst ys) ∧ ys.length ≤ i)
    (hs : ∀ i ys H, i < n → Pv i ys H → g (.int (lo + i)) (stLC σ k js) H fun σ2 H2 => (σ2.drop k = frV σ js ∧ σ2.length = k + js.length) ∧ tt σ2 H2 fun b H3 => if b = true then te σ2 H3 fun y H4 => H4 D = some (.lst ys) ∧ Pv (i + 1) (ys ++ [y]) (upd H4 D (.lst (ys ++ [y]))) else Pv (i + 1) ys H3)
    (hd : ∀ ys H, Pv n ys H → Q (.ref D) H) :
    ∃ W : Nat → Nat → List V → Hp → Prop, (∃ m, W 0 m [] (upd H D (.lst []))) ∧ ∀ i m ys H, W i m ys H → H D = some (.lst ys) ∧
    (((Itr lo n).stop i H ∧ Q (.ref D) H) ∨ ((Itr lo n).go i H ∧ ys.length < sizeLine ∧ ∃ N : List V → Hp → Prop, (∀ ys' H', N ys' H' → ∃ m', m' < m ∧ W (i + 1) m' ys' H') ∧
      ∀ x H', (Itr lo n).yld i H x H' → g x (stLC σ k js) H' fun σ2 H2 => (σ2.drop k = frV σ js ∧ σ2.length = k + js.length) ∧ tt σ2 H2 fun b H3 => if b = true then te σ2 H3 fun y H4 => H4 D = some (.lst ys) ∧ N (ys ++ [y]) (upd H4 D (.lst (ys ++ [y]))) else N ys H3)) := by
  refine ⟨fun i m ys H => m = n - i ∧ i ≤ n ∧ Pv i ys H, ⟨n, by simp, Nat.zero_le _, h0⟩, ?_⟩
  rintro i m ys H ⟨rfl, hi, p⟩
  obtain ⟨e1, e2⟩ := hl i ys H hi p
  refine ⟨e1, ?_⟩
  by_cases hlt : i < n
  · refine .inr ⟨hlt, by omega, Pv (i + 1), fun ys' H' p' => ⟨n - (i + 1), by omega, rfl, hlt, p'⟩, fun x H' y => ?_⟩
    obtain ⟨e, y⟩ := y
    subst e y
    exact hs i ys _ hlt p
  · have e : i = n := by omega
    subst e
    exact .inl ⟨Nat.le_refl _, hd ys H p⟩
theorem lc_list {K : PySem.W.Frag} {a : Addr} {xs : List V} {g : TG} {tt : TT} {te : TE} {k : Nat} {js : List Nat} {σ : St} {D : Addr} {Q : VK} {H : Hp} (Pv : Nat → List V → Hp → Prop) (h0 : Pv 0 [] (upd H D (.lst [])))
    (hn : xs.length < sizeLine) (hl : ∀ i ys H, i ≤ xs.length → Pv i ys H → H D = some (.lst ys) ∧ ys.length ≤ i ∧ SqL K H a xs)
    (hs : ∀ i x ys H, xs[i]? = some x → Pv i ys H → g x (stLC σ k js) H fun σ2 H2 => (σ2.drop k = frV σ js ∧ σ2.length = k + js.length) ∧ tt σ2 H2 fun b H3 => if b = true then te σ2 H3 fun y H4 => H4 D = some (.lst ys) ∧ Pv (i + 1) (ys ++ [y]) (upd H4 D (.lst (ys ++ [y]))) else Pv (i + 1) ys H3)
    (hd : ∀ ys H, Pv xs.length ys H → Q (.ref D) H) :
    ∃ W : Nat → Nat → List V → Hp → Prop, (∃ m, W 0 m [] (upd H D (.lst []))) ∧ ∀ i m ys H, W i m ys H → H D = some (.lst ys) ∧
    (((Itl K a).stop i H ∧ Q (.ref D) H) ∨ ((Itl K a).go i H ∧ ys.length < sizeLine ∧ ∃ N : List V → Hp → Prop, (∀ ys' H', N ys' H' → ∃ m', m' < m ∧ W (i + 1) m' ys' H') ∧
      ∀ x H', (Itl K a).yld i H x H' → g x (stLC σ k js) H' fun σ2 H2 => (σ2.drop k = frV σ js ∧ σ2.length = k + js.length) ∧ tt σ2 H2 fun b H3 => if b = true then te σ2 H3 fun y H4 => H4 D = some (.lst ys) ∧ N (ys ++ [y]) (upd H4 D (.lst (ys ++ [y]))) else N ys H3)) := by
  refine ⟨fun i m ys H => m = xs.length - i ∧ i ≤ xs.length ∧ Pv i ys H, ⟨xs.length, by simp, Nat.zero_le _, h0⟩, ?_⟩
  rintro i m ys H ⟨rfl, hi, p⟩
  obtain ⟨e1, e2, q⟩ := hl i ys H hi p
  refine ⟨e1, ?_⟩
  by_cases hlt : i < xs.length
  · refine .inr ⟨⟨xs, xs[i], q, by simp [hlt]⟩, by omega, Pv (i + 1), fun ys' H' p' => ⟨xs.length - (i + 1), by omega, rfl, hlt, p'⟩, fun x H' y => ?_⟩
    obtain ⟨e, y⟩ := y
    subst e
    exact hs i x ys _ (y xs q) p
  · have e : i = xs.length := by omega
    subst e
    exact .inl ⟨⟨xs, q, Nat.le_refl _⟩, hd ys H p⟩
end L2
namespace L2
open PySem PySem.Spec PyProof.Rows
section
variable {X : Cx} {st : Stmt} {rest : List Stmt} {t u : TS}
noncomputable def tCut (t u : TS) : TS := fun D σ H => ∃ Pv : St → Hp → Prop, t { D with nx := Pv } σ H ∧ ∀ σ H, Pv σ H → u D σ H
theorem pss_cut (h1 : PS X st t) (h2 : PSs X rest u) : PSs X (st :: rest) (tCut t u) := by
  intro pins s σ H D I h
  obtain ⟨Pv, ha, hb⟩ := h
  refine wpAny_execs_cons (thn (h1 pins s σ H { D with nx := Pv } I ha) fun f s1 q => ?_)
  cases f with
  | next =>
    obtain ⟨σ', H', I', q⟩ := q
    exact h2 pins s1 σ' H' D I' (hb σ' H' q)
  | ret v => exact q
  | brk => exact q
  | cont => exact q
end
theorem CMulA.of {m n : Nat} {i j : Int} (h : Bd m i) (k : Bd n j) (hm : m ≤ 100000) (hn : n ≤ 100000) : CMulA i j := .inr ⟨h.mono hm, k.mono hn⟩
theorem CMulA.left {i j : Int} (h1 : -(2 ^ 64) < i) (h2 : i < 2 ^ 64) : CMulA i j := .inl (.inl ⟨h1, h2⟩)
theorem CMulA.right {i j : Int} (h1 : -(2 ^ 64) < j) (h2 : j < 2 ^ 64) : CMulA i j := .inl (.inr ⟨h1, h2⟩)
noncomputable def Feed (H : Hp) (p : Addr) : Prop := ∃ a b c : Int, H p = some (.lst [.int a, .int b, .int c])
structure FX (p : Addr) (H H' : Hp) : Prop where
  feed : Feed H' p
  keep : ∀ b o, b ≠ p → H b = some o → H' b = some o
theorem FX.trans {p : Addr} {H H1 H2 : Hp} (a : FX p H H1) (b : FX p H1 H2) : FX p H H2 := ⟨b.feed, fun c o hc h => b.keep c o hc (a.keep c o hc h)⟩
theorem FX.refl {p : Addr} {H : Hp} (h : Feed H p) : FX p H H := ⟨h, fun _ _ _ h => h⟩
theorem FX.upd {p q : Addr} {H H1 : Hp} {o : HO} (a : FX p H H1) (h : H1 q = none) : FX p H (L2.upd H1 q o) := by
  obtain ⟨x, y, z, e⟩ := a.feed
  exact ⟨⟨x, y, z, by rw [upd_ne (ne_of_none e h)]; exact e⟩, fun b u hb hu => by rw [upd_ne (ne_of_none (a.keep b u hb hu) h)]; exact a.keep b u hb hu⟩
theorem FX.set {p q : Addr} {H H1 : Hp} {o : HO} (a : FX p H H1) (hn : H q = none) (hq : q ≠ p) : FX p H (L2.upd H1 q o) := by
  obtain ⟨x, y, z, e⟩ := a.feed
  refine ⟨⟨x, y, z, by rw [upd_ne (Ne.symm hq)]; exact e⟩, fun b u hb hu => ?_⟩
  rw [upd_ne (ne_of_none hu hn)]
  exact a.keep b u hb hu
theorem FX.ext {p : Addr} {H H' : Hp} {o : HO} (h : H p = none) (a : FX p (L2.upd H p o) H') : Ext H H' := fun b u e => a.keep b u (ne_of_none e h) (by rw [upd_ne (ne_of_none e h)]; exact e)
theorem Feed.upd {p q : Addr} {H : Hp} {o : HO} (a : Feed H p) (h : H q = none) : Feed (L2.upd H q o) p := by
  obtain ⟨x, y, z, e⟩ := a
  exact ⟨x, y, z, by rw [upd_ne (ne_of_none e h)]; exact e⟩
theorem upd_f {H : Hp} {q b : Addr} {o u : HO} (h : H q = none) (e : H b = some u) : upd H q o b = some u := by rw [upd_ne (ne_of_none e h)]; exact e
end L2
namespace L2
open PySem PySem.Spec PyProof.Rows
theorem Bd.lit {n : Nat} {i : Int} (h : i.natAbs < 2 ^ 64) (hn : 64 ≤ n) : Bd n i := Bd.mono (m := 64) h hn
theorem bd10 : Bd 100000 10 = True := eq_true (Bd.lit (by decide) (by decide))
theorem bd64 : Bd 9000 64 = True := eq_true (Bd.lit (by decide) (by decide))
theorem bd2 : Bd 9000 2 = True := eq_true (Bd.lit (by decide) (by decide))
theorem bd4 : Bd 9000 4 = True := eq_true (Bd.lit (by decide) (by decide))
theorem bd3 : Bd 9000 3 = True := eq_true (Bd.lit (by decide) (by decide))
theorem CMulA.mod {x m y : Int} (h0 : 0 < m) (h : m ≤ 2 ^ 64) : CMulA (x % m) y := by
  have h1 := Int.emod_nonneg x (by omega : m ≠ 0)
  have h2 := Int.emod_lt_of_pos x h0
  exact .left (by omega) (by omega)
theorem ixN_3_0 : ixN 3 0 = some 0 := rfl
theorem ixN_3_1 : ixN 3 1 = some 1 := rfl
theorem ixN_3_2 : ixN 3 2 = some 2 := rfl
theorem ixN_2_0 : ixN 2 0 = some 0 := rfl
theorem ixN_2_1 : ixN 2 1 = some 1 := rfl
theorem ixN_4_0 : ixN 4 0 = some 0 := rfl
theorem ixN_4_1 : ixN 4 1 = some 1 := rfl
theorem ixN_4_2 : ixN 4 2 = some 2 := rfl
theorem ixN_4_3 : ixN 4 3 = some 3 := rfl
theorem atI_mod {xs : List Int} {k : Int} (h : 0 < xs.length) : ∃ x, atI (xs.map V.int) (k % (xs.length : Int)) = some (.int x) ∧ x ∈ xs := by
  have h1 := Int.emod_nonneg k (by omega : (xs.length : Int) ≠ 0)
  have h2 := Int.emod_lt_of_pos k (by omega : 0 < (xs.length : Int))
  obtain ⟨j, hj⟩ : ∃ j : Nat, k % (xs.length : Int) = (j : Int) := ⟨(k % (xs.length : Int)).toNat, by omega⟩
  rw [hj] at h2 ⊢
  have hjl : j < xs.length := by omega
  exact ⟨xs[j], atI_nat (by rw [List.getElem?_map]; simp [hjl]), List.getElem_mem hjl⟩
end L2
namespace L2
open PySem PySem.Spec PyProof.Rows
section
variable {g : TG} {tt : TT} {te tl : TE} {ta : TA} {k : Nat} {js : List Nat} {σ : St} {Q : VK} {H : Hp} {tb : TS} {Dn : Ends} {K : PySem.W.Frag} {a : Addr} {xs : List V}
theorem tlc_range (n : Nat) (ha : ∀ R : List V → Hp → Prop, R [.int n] H → ta σ H R) (hn : n < 1000000) (Pv : Addr → Nat → List V → Hp → Prop) (h0 : ∀ D, H D = none → Pv D 0 [] (upd H D (.lst [])))
    (hl : ∀ D i ys H, i ≤ n → Pv D i ys H → H D = some (.lst ys) ∧ ys.length ≤ i)
    (hs : ∀ D i ys H1, H D = none → i < n → Pv D i ys H1 → g (.int (0 + (i : Int))) (L2.stLC σ k js) H1 fun σ2 H2 => (σ2.drop k = frV σ js ∧ σ2.length = k + js.length) ∧ tt σ2 H2 fun b H3 => if b = true then te σ2 H3 fun y H4 => H4 D = some (.lst ys) ∧ Pv D (i + 1) (ys ++ [y]) (upd H4 D (.lst (ys ++ [y]))) else Pv D (i + 1) ys H3)
    (hd : ∀ D ys H1, H D = none → Pv D n ys H1 → Q (.ref D) H1) : tLC (iRng1 ta) k js g tt te σ H Q :=
  ha _ ⟨n, rfl, by omega, by omega, fun D hD => lc_range (lo := 0) (n := (n : Int).toNat) (Pv D) (h0 D hD) (Nat.lt_trans (by simpa using hn) (by decide)) (fun i ys H hi p => hl D i ys H (by simpa using hi) p) (fun i ys H hi p => hs D i ys H hD (by simpa using hi) p) (fun ys H p => hd D ys H hD (by simpa using p))⟩
theorem tlc_list (ha : ∀ R : VK, R (.ref a) H → tl σ H R) (hq : SqL K H a xs) (hn : xs.length < 1000000) (Pv : Addr → Nat → List V → Hp → Prop) (h0 : ∀ D, H D = none → Pv D 0 [] (upd H D (.lst [])))
    (hl : ∀ D i ys H, i ≤ xs.length → Pv D i ys H → H D = some (.lst ys) ∧ ys.length ≤ i ∧ SqL K H a xs)
    (hs : ∀ D i x ys H1, H D = none → xs[i]? = some x → Pv D i ys H1 → g x (L2.stLC σ k js) H1 fun σ2 H2 => (σ2.drop k = frV σ js ∧ σ2.length = k + js.length) ∧ tt σ2 H2 fun b H3 => if b = true then te σ2 H3 fun y H4 => H4 D = some (.lst ys) ∧ Pv D (i + 1) (ys ++ [y]) (upd H4 D (.lst (ys ++ [y]))) else Pv D (i + 1) ys H3)
    (hd : ∀ D ys H1, H D = none → Pv D xs.length ys H1 → Q (.ref D) H1) : tLC (iList K tl) k js g tt te σ H Q :=
  ha _ ⟨a, rfl, ⟨xs, hq⟩, fun D hD => lc_list (Pv D) (h0 D hD) (Nat.lt_trans hn (by decide)) (fun i ys H hi p => hl D i ys H hi p) (fun i x ys H hi p => hs D i x ys H hD hi p) (fun ys H p => hd D ys H hD p)⟩
theorem tfor_range (n : Nat) (ha : ∀ R : List V → Hp → Prop, R [.int n] H → ta σ H R) (hn : n < 1000000) (Pv : Nat → St → Hp → Prop) (h0 : Pv 0 σ H)
    (hs : ∀ i σ H, i < n → Pv i σ H → g (.int (0 + (i : Int))) σ H fun σ2 H2 => tb { Dn with nx := Pv (i + 1), ct := Pv (i + 1), bk := Dn.nx } σ2 H2) (hd : ∀ σ H, Pv n σ H → Dn.nx σ H) : tFor (iRng1 ta) g tb Dn σ H :=
  ha _ ⟨n, rfl, by omega, by omega, for_range (lo := 0) (n := (n : Int).toNat) Pv h0 (fun i σ H hi p => hs i σ H (by simpa using hi) p) (fun σ H p => hd σ H (by simpa using p))⟩
end
end L2
namespace L2
open PySem PySem.Spec PyProof.Rows
section
variable {X : Cx} {K : PySem.W.Frag}
noncomputable def rLenK (K : PySem.W.Frag) : List V → Hp → VK → Prop := fun xs H Q => ∃ p ys, xs = [.ref p] ∧ (SqL K H p ys ∨ SqT K H p ys) ∧ Q (.int ys.length) H
theorem call_lenK (hK : X.K = K) : CallR X (.builtin "len") (rLenK K) := by subst hK; exact call_len_seq
theorem ix_listK (hK : X.K = K) : IxR X (rIxL K) := by subst hK; exact ix_list
theorem op_eqDK (hK : X.K = K) (hu : X.A.units + 64 < cLine) : OpR X (compareOp .Eq) (rEqD K id) := by subst hK; exact op_eqD hu
theorem op_neDK (hK : X.K = K) (hu : X.A.units + 64 < cLine) : OpR X (compareOp .NotEq) (rEqD K not) := by subst hK; exact op_neD hu
theorem pi_listK {tg l : Expr} {tl : TE} (hK : X.K = K) (hl : PE X l tl) : PI X tg l (iList K tl) := by subst hK; exact pi_list hl
end
end L2
namespace L2
open PySem
theorem FX.noneOf {p t : Addr} {H H' : Hp} (fx : FX p H H') (hn : t ≠ p) (h : H' t = .none) : H t = .none := by
  cases q : H t with
  | none => rfl
  | some o => rw [fx.keep t o hn q] at h; cases h
theorem FX.of_upd {p t : Addr} {H H' : Hp} {o : HO} (ht : H t = none) (fx : FX p (L2.upd H t o) H') : FX p H H' := ⟨fx.feed, fun b u hb e => fx.keep b u hb (upd_f ht e)⟩
theorem Feed.ne {p t : Addr} {H : Hp} (h : Feed H p) (ht : H t = none) : t ≠ p := by
  obtain ⟨a, b, c, e⟩ := h
  exact (ne_of_none e ht).symm
end L2
set_option Elab.async false
set_option linter.all false
set_option maxRecDepth 100000
namespace L2
open PySem PySem.Spec PyProof.Rows
noncomputable def lstOf (o : Option HO) : Option (List V) := match o with
  | some (.lst xs) => some xs
  | _ => none
theorem lstOf_l (xs : List V) : lstOf (some (.lst xs)) = some xs := rfl
theorem optK_elim {α : Type} {o : Option α} {k : α → Prop} (h : optK o k) : ∃ v, o = some v ∧ k v := by
  unfold optK at h
  split at h
  · exact ⟨_, rfl, h⟩
  · exact h.elim
theorem seqOf_sq {K : PySem.W.Frag} {H : Hp} {p : Addr} {xs : List V} (h : seqOf (H p) = some xs) : SqL K H p xs ∨ SqT K H p xs := by
  cases e : H p with
  | none => rw [e] at h; cases h
  | some o =>
    rw [e] at h
    cases o with
    | lst ys => rw [show ys = xs from Option.some.inj h] at e; exact .inl (SqL.of e)
    | tup ys => rw [show ys = xs from Option.some.inj h] at e; exact .inr (SqT.of e)
    | _ => cases h
section
variable {X : Cx} {e : Expr}
noncomputable def tUp (t : TE) : TE := fun σ H Q => ∃ R : VK, t σ H R ∧ ∀ x H1, R x H1 → Q x H1
theorem PE.up {t : TE} (h : PE X e t) : PE X e (tUp t) := fun pins s σ H Q I ⟨R, hw, hq⟩ => thn (h pins s σ H R I hw) fun v s1 ⟨x, H1, I1, r1, q1⟩ => ⟨x, H1, I1, r1, hq x H1 q1⟩
end
noncomputable def appR : V → List V → Hp → VK → Prop := fun x vs H Q => match x, vs with
  | .ref l, [y] => optK (lstOf (H l)) fun xs => xs.length < 1000000 ∧ Q .non (upd H l (.lst (xs ++ [y])))
  | _, _ => False
noncomputable def popR : V → List V → Hp → VK → Prop := fun x vs H Q => match x, vs with
  | .ref l, [] => optK (lstOf (H l)) fun xs => optK xs.getLast? fun y => Q y (upd H l (.lst xs.dropLast))
  | _, _ => False
section
variable {X : Cx}
noncomputable def tML (r : V → List V → Hp → VK → Prop) (to : TE) (t : TA) : TE := fun σ H Q => to σ H fun x H1 => match x with
  | .ref l => (lstOf (H1 l)).isSome = true ∧ t σ H1 fun vs H2 => r x vs H2 Q
  | _ => False
end
section
variable {X : Cx} {K : PySem.W.Frag} {a b : Expr} {ta tb : TE} {pos : Pos}
noncomputable def catF : R2 := fun x y H Q => match x, y with
  | .ref a, .ref b => optK (lstOf (H a)) fun xs => optK (lstOf (H b)) fun ys => xs.length + ys.length < 1000000 ∧ ∀ p, H p = none → Q (.ref p) (upd H p (.lst (xs ++ ys)))
  | _, _ => False
noncomputable def listF : List V → Hp → VK → Prop := fun vs H Q => match vs with
  | [.ref p] => optK (seqOf (H p)) fun ys => ∀ l, H l = none → Q (.ref l) (upd H l (.lst ys))
  | _ => False
noncomputable def lenF : List V → Hp → VK → Prop := fun vs H Q => match vs with
  | [.ref p] => optK (seqOf (H p)) fun ys => Q (.int ys.length) H
  | _ => False
noncomputable def slF : V → Option Int → Option Int → Hp → VK → Prop := fun x lo hi H Q => match x with
  | .ref a => optK (lstOf (H a)) fun xs => ∀ p, H p = none → Q (.ref p) (upd H p (.lst (cutV xs lo hi)))
  | _ => False
noncomputable def tyN (H : Hp) : V → Option String
  | .non => some "NoneType"
  | .bl _ => some "bool"
  | .int _ => some "int"
  | .str _ => some "str"
  | .ref a => (match H a with
    | some (.lst _) => some "list"
    | some (.tup _) => some "tuple"
    | _ => none)
  | _ => none
noncomputable def isiT : String → String → Option Bool
  | "int", "int" => some true | "int", "bool" => some false | "bool", "int" => some true | "bool", "bool" => some true
  | "tuple", "tuple" => some true | "list", "list" => some true | "list", "tuple" => some false | "tuple", "list" => some false | _, _ => none
noncomputable def isiF : List V → Hp → VK → Prop := fun vs H Q => match vs with
  | [x, .ty T] => optK (tyN H x) fun n => optK (isiT n T) fun b => Q (.bl b) H
  | _ => False
end
section
variable {X : Cx} {o e : Expr} {to : TE} {t : TA} {apos cpos : Pos}
noncomputable def tML0 (r : V → List V → Hp → VK → Prop) (to : TE) : TE := fun σ H Q => to σ H fun x H1 => match x with
  | .ref l => (lstOf (H1 l)).isSome = true ∧ r x [] H1 Q
  | _ => False
end
theorem isiT_1 : isiT "int" "int" = some true := rfl
theorem isiT_2 : isiT "int" "bool" = some false := rfl
theorem isiT_3 : isiT "bool" "int" = some true := rfl
theorem isiT_4 : isiT "bool" "bool" = some true := rfl
theorem isiT_5 : isiT "tuple" "tuple" = some true := rfl
theorem isiT_6 : isiT "list" "list" = some true := rfl
theorem isiT_7 : isiT "list" "tuple" = some false := rfl
end L2
namespace L2
open PySem
theorem Ext.set {H H2 : Hp} {D : Addr} {o : HO} (x : Ext H H2) (hD : H D = .none) : Ext H (L2.upd H2 D o) := fun b u e => by rw [upd_ne (ne_of_none e hD)]; exact x b u e
theorem FX.more {p : Addr} {H H1 H2 : Hp} (f : FX p H H1) (x : Ext H1 H2) : FX p H H2 := by
  obtain ⟨a, b, c, e⟩ := f.feed
  exact ⟨⟨a, b, c, x _ _ e⟩, fun b u hb e => x _ _ (f.keep b u hb e)⟩
end L2
namespace L2
open PySem
noncomputable def tup3 (o : Option HO) : Option (Int × Int × Int) := match o with
  | some (.tup [.int a, .int b, .int c]) => some (a, b, c)
  | _ => none
theorem tup3_some (a b c : Int) : tup3 (some (.tup [.int a, .int b, .int c])) = some (a, b, c) := rfl
theorem tup3_eq {o : Option HO} {x : Int × Int × Int} (h : tup3 o = some x) : o = some (.tup [.int x.1, .int x.2.1, .int x.2.2]) := by
  unfold tup3 at h
  split at h
  · cases h
    rfl
  · cases h
noncomputable def tup2 (o : Option HO) : Option (Int × Int) := match o with
  | some (.tup [.int a, .int b]) => some (a, b)
  | _ => none
theorem tup2_some (a b : Int) : tup2 (some (.tup [.int a, .int b])) = some (a, b) := rfl
theorem tup2_eq {o : Option HO} {x : Int × Int} (h : tup2 o = some x) : o = some (.tup [.int x.1, .int x.2]) := by
  unfold tup2 at h
  split at h
  · cases h
    rfl
  · cases h
noncomputable def B3 (n : Nat) (x : Int × Int × Int) : Prop := Bd n x.1 ∧ Bd n x.2.1 ∧ Bd n x.2.2
noncomputable def B2 (n : Nat) (x : Int × Int) : Prop := Bd n x.1 ∧ Bd n x.2
end L2
namespace L2
open PySem
section
variable {X : Cx} {pos : Pos}
noncomputable def gSeqF (n : Nat) (t : TGs) : TG := fun v σ H Q => match v with
  | .ref a => optK (seqOf (H a)) fun xs => xs.length = n ∧ t xs σ H Q
  | _ => False
theorem pg_F {es : List Expr} {k : Nat} {t : TGs} {n : Nat} (hc : X.calm = true) (h : PGs X es t)
    (hn : (assignEach es X.env).length = n := by rfl) (hst : (assignEach es X.env).findIdx? (·.1) = none := by rfl) : PG X (.Tuple es k pos) (gSeqF n t) := by
  intro pins s σ H v u Q I r hw
  unfold gSeqF at hw
  split at hw
  · rename_i a
    obtain ⟨xs, e, hl, q⟩ := optK_elim hw
    rcases seqOf_sq (K := X.K) e with e | e
    · exact pg_seq hc h hn hst pins s σ H _ u Q I r (.inr ⟨a, xs, rfl, e, hl, q⟩)
    · exact pg_seq hc h hn hst pins s σ H _ u Q I r (.inl ⟨a, xs, rfl, e, hl, q⟩)
  · exact hw.elim
end
end L2
namespace L2
open PySem
theorem Ext.fx {p : Addr} {H H1 H2 : Hp} (x : Ext H H1) (hp : H p = .none) (f : FX p H1 H2) : Ext H H2 := fun b o e => f.keep b o (ne_of_none e hp) (x b o e)
end L2
namespace L2
open PySem
theorem eqv_t2 (a b c d : Int) : PyData.eqv (.tuple [.int a, .int b]) (.tuple [.int c, .int d]) = decide (a = c ∧ b = d) := by
  rw [Bool.eq_iff_iff]
  simp [PyData.eqv, PyData.eqvAll]
theorem rdy_t2 {K : PySem.W.Frag} {H : Hp} {q : Addr} {a b : Int} (e : H q = some (.tup [.int a, .int b])) : Rdy K H (.ref q) (.tuple [.int a, .int b]) := .tup (SqT.of e) (.cons (.int a) (.cons (.int b) .nil))
end L2
set_option Elab.async false
set_option linter.all false
set_option maxRecDepth 100000
namespace L2
open PySem PySem.Spec PyProof.Rows
structure ExcC (K : PySem.W.Frag) (C : Addr) : Prop where
  exc : PySem.W.excIn K C [.type "ValueError", .type "Exception", .type "BaseException", .type "object"] "ValueError.__new__" = true
  ga : PySem.W.findIn K (.ref C) "__getattribute__" = some (some (.builtin "BaseException.__getattribute__"))
  nog : PySem.W.findIn K (.ref C) "__getattr__" = some none
  cl : PySem.W.findIn K (.ref C) "__class__" = some (some (.builtin "object.__class__"))
  hn : PySem.W.specialIn K (.builtin "object.__class__") "__get__" = some (some (.builtin "getset_descriptor.__get__"))
  htk : PySem.W.takesIn K (.builtin "object.__class__") = some true
  isc : (PySem.W.clsIn K C).isSome = true
  sube : PySem.W.mroIn K C (.type "BaseException") = some true
  subo : PySem.W.mroIn K C (.type "object") = some true
noncomputable def IsExc (a C : Addr) (h : Heap) : Prop := ∃ (o : Obj) (vs : Array Value), h.get? a = some o ∧ o.cls = .ref C ∧ o.data = .fields vs
section
open PySem.W PySem.Builtin PySem.Builtin.ObjectAttr PySem.Builtin.Getset_descriptor
variable {prog : Program} {w : World} {A : Around} {E : Value → Shared → Prop} {h : Heap} {g : Array GenState} {d : Drawn} {t : Nat} {os : OsState} {a : Addr} {o : Obj} {vs : Array Value} {C : Addr} {K : PySem.W.Frag}
theorem IsExc.type {M : Model} (I : IsExc a C h) : Looks M h (typeOf (.ref a)) (.ref C) := by
  obtain ⟨o, vs, h1, h2, h3⟩ := I
  exact h2 ▸ (Looks.ld h1).andThen .now
end
noncomputable def excO (a C : Addr) : HO := .ext (IsExc a C)
end L2
set_option Elab.async false
set_option linter.all false
set_option maxRecDepth 100000
namespace L2
open PySem PySem.Spec PyProof.Rows
theorem ObjOk.there {P : Program} {w : World} {H : Hp} {h : Heap} {a : Addr} {o : HO} (x : ObjOk P w H h a o) : ∃ u, h.get? a = some u := by
  cases o with
  | lst xs => obtain ⟨_, _, _, _, e⟩ := x; exact ⟨_, e⟩
  | tup xs => obtain ⟨_, _, _, ob, e, _⟩ := x; exact ⟨_, e⟩
  | dK kvs => obtain ⟨_, _, _, _, ob, _, _, e, _⟩ := x; exact ⟨_, e⟩
  | dT kvs => obtain ⟨_, _, _, _, ob, _, _, e, _⟩ := x; exact ⟨_, e⟩
  | set S n => obtain ⟨ob, _, _, _, e, _⟩ := x; exact ⟨_, e⟩
  | ins C dx fs => obtain ⟨_, _, _, e, _⟩ := x; exact ⟨_, e⟩
  | own y => exact x
  | xd fs => obtain ⟨_, ⟨ob, _, _, e, _⟩, _⟩ := x; exact ⟨_, e⟩
  | rng lo hi => obtain ⟨_, _, _, e⟩ := x; exact ⟨_, e⟩
  | frz ob u => exact ⟨_, x.1⟩
  | tbl ps => exact ⟨_, (show h.get? a = some _ from x)⟩
  | met f y => exact ⟨_, (show h.get? a = some _ from x)⟩
  | ext φ => exact x.2.1
noncomputable def CXE (P : Program) (w : World) : CXT := fun outer H s E ev s' => ∃ (e C : Addr) (a0 : Value) (B : Heap) (H' : Hp), ev = .ref e ∧ s'.os = s.os ∧ AllBare s'.gens ∧ Un (frs outer) [] H H' s.heap s'.heap ∧
  HOk P w H' s'.heap ∧ Heap.FlyingW B outer e (.ref C) a0 s'.heap ∧ (∀ b u, H' b = some u → ∃ o, B.get? b = some o) ∧ (∀ b o, s.heap.get? b = some o → b ∉ frs outer → ∃ o', B.get? b = some o') ∧ E (.ref C) none H'
theorem passE0 {X : Cx} {P : Program} {w : World} : Passes (CXE P w) X E0 := fun _ _ _ _ _ _ _ h => by
  obtain ⟨_, _, _, _, _, _, _, _, _, _, _, _, _, hE⟩ := h
  exact hE.elim
noncomputable def tRaise (C : Addr) (E : XK) (t : TA) : TS := fun _ σ H => t σ H fun vs H1 => vs.length ≤ 3 ∧ E (.ref C) none H1
end L2
set_option Elab.async false
set_option linter.all false
set_option maxRecDepth 100000
namespace L2
open PySem PySem.Spec PyProof.Rows
noncomputable def tCallS (σ0 : St) (sp : Sp) (E : XK) (t : TA) : TE := fun σ H Q => t σ H fun vs H1 => σ = σ0 ∧ sp vs H1 Q E
noncomputable abbrev Cx.suite (X : Cx) (ev : Value) : Cx := { X with A := X.A.mark (some ev), calm := false, xe := fun _ _ => False }
section
variable {X : Cx} {pins pins' pn : List (Addr × Obj)} {σ : St} {H : Hp} {s : Shared} {W : Value → Shared → Prop} {ev : Value} {D : Ends} {f : Flow}
theorem Cx.Ok.suite (ok : X.Ok) : (X.suite ev).Ok :=
  ⟨ok.mod, ok.kind, ok.glob, ok.blt, ok.above, ok.inj, ok.has, ok.cab, (fun z => nomatch z), ok.frames, ok.stk, ok.exf, ok.bs, ok.bsz, ok.noex, ok.exfs, ok.funs, ok.frf⟩
theorem Inv.suite (I : Inv X pins σ H s) : Inv (X.suite ev) pins σ H s := ⟨I.ok.suite, I.os, I.bare, I.base, I.loc, I.cell, I.free, I.freeC, I.pin, I.hok, I.len⟩
end
noncomputable def goneEnds (D : Ends) (i : Nat) : Ends := { nx := fun σ H => D.nx (σ.set i none) H, rt := D.rt, bk := fun σ H => D.bk (σ.set i none) H, ct := fun σ H => D.ct (σ.set i none) H }
noncomputable def tryE (K : PySem.W.Frag) (cD : Addr) (i : Nat) (th : TS) (D : Ends) (σ : St) : XK := fun cls _ H' => ∃ C, cls = .ref C ∧ ExcC K C ∧ PySem.W.exmOne K (.ref C) (.ref cD) = some true ∧
  ∀ e, H' e = none → th (goneEnds D i) (σ.set i (some (.ref e))) (upd H' e (excO e C))
noncomputable def tTry (K : PySem.W.Frag) (cD : Addr) (i : Nat) (tb : XK → St → TS) (th : TS) : TS := fun D σ H => tb (tryE K cD i th D σ) σ D σ H
end L2
namespace L2
open PySem PySem.Spec PyProof.Rows
section
variable {P : Program} {w : World} {K : PySem.W.Frag} {mg : Str → Option Value} {base : Heap} {x qual : Str} {st : Stmt} {f : Addr} {fd : FuncData} {N ps : List Str} {k : Nat} {sp : Sp}
theorem okE (F : Fun K x qual st f fd) (S : FnScope N ps (defScope st)) (len : ∀ vs H Q E, sp vs H Q E → vs.length = ps.length)
    (hb : ∀ (cdv : Value) (A : Around) (outer : List Env) (s : Shared) (H : Hp) (vs : List V) (Q : VK) (E : XK), Room k (A.deeper (envOfC qual (defScope st) s.heap.objs.size f cdv)) → sp vs H Q E →
      ∃ t, PSs (cxOf (CXE P w) P w K mg base N qual (defScope st) f cdv A outer s H E) (defBody st) t ∧ t { nx := fun _ H' => Q .non H', rt := Q } (start N vs) H) : FnOk P w K mg base (CXE P w) (k + 1) f fd ps sp := by
  have e := F.ex
  obtain ⟨oc, od, kV, doc, pm, an, cdv, ct, osl, e, lk, hcd⟩ := e
  subst e
  exact fn_of lk hcd S len (hb cdv)
theorem okN (F : Fun K x qual st f fd) (S : FnScope N ps (defScope st)) (len : ∀ vs H Q E, sp vs H Q E → vs.length = ps.length)
    (hb : ∀ (cdv : Value) (A : Around) (outer : List Env) (s : Shared) (H : Hp) (vs : List V) (Q : VK) (E : XK), Room k (A.deeper (envOfC qual (defScope st) s.heap.objs.size f cdv)) → sp vs H Q E →
      ∃ t, PSs (cxOf (CXE P w) P w K mg base N qual (defScope st) f cdv A outer s H E).nox (defBody st) t ∧ t { nx := fun _ H' => Q .non H', rt := Q } (start N vs) H) : FnOk P w K mg base (CXE P w) (k + 1) f fd ps sp :=
  okE F S len fun cdv A outer s H vs Q E hr h => by
    obtain ⟨t, h1, h2⟩ := hb cdv A outer s H vs Q E hr h
    exact ⟨t, h1.nox, h2⟩
end
end L2
set_option Elab.async false
set_option linter.all false
set_option maxRecDepth 100000
set_option Elab.async false
set_option linter.all false
set_option maxRecDepth 100000
set_option Elab.async false
set_option linter.all false
set_option maxRecDepth 100000
namespace L2
open PySem PySem.Spec PyProof.Rows
noncomputable def tRaise0 (C : Addr) (E : XK) : TS := fun _ _ H => E (.ref C) none H
end L2
set_option Elab.async false
set_option linter.all false
set_option maxRecDepth 100000
namespace L2
open PySem PySem.Spec PyProof.Rows
section
variable {X : Cx} {pos : Pos}
noncomputable def tPar3 (i j k : Nat) (ta : TA) : TS := fun D σ H => ta σ H fun vs H1 => ∃ v w u, vs = [v, w, u] ∧ D.nx (((σ.set i (some v)).set j (some w)).set k (some u)) H1
end
end L2
set_option Elab.async false
set_option linter.all false
set_option maxRecDepth 100000
namespace L2
open PySem PySem.Spec PyProof.Rows
noncomputable def dkOf (o : Option HO) : Option (List (Key × V)) := match o with
  | some (.dK kvs) => some kvs
  | _ => none
theorem dkOf_k (kvs : List (Key × V)) : dkOf (some (.dK kvs)) = some kvs := rfl
noncomputable def tDg (k : Str) (td : TE) : TE := fun σ H Q => td σ H fun x H1 => match x with
  | .ref a => optK (dkOf (H1 a)) fun kvs => optK (valV kvs (Sum.inr k)) fun v => Q v H1
  | _ => False
noncomputable def tDp (k : Str) (td tv : TE) : TS := fun D σ H => tv σ H fun v H1 => td σ H1 fun x H2 => match x with
  | .ref a => optK (dkOf (H2 a)) fun kvs => kvs.length < 1000000 ∧ D.nx σ (upd H2 a (.dK (putK kvs (Sum.inr k) v)))
  | _ => False
theorem FnB.no {P : Program} {w : World} {K : PySem.W.Frag} {mg : Str → Option Value} {base : Heap} {CX : CXT} {x : Str} {ps : List Str} {f : Addr} {fd : FuncData} (m : mg x = some (.ref f)) (kp : PySem.W.keepIn K (.ref f) = true) (b : Binds K fd ps []) : FnB P w K mg base CX 0 x ps (fun _ _ _ _ => False) :=
  ⟨f, fd, ⟨fun _ _ _ _ h => h.elim, fun _ _ _ _ _ _ _ _ _ _ _ _ _ h => h.elim⟩, m, kp, b⟩
end L2
set_option Elab.async false
set_option linter.all false
set_option maxRecDepth 100000
namespace L2
open PySem PySem.Spec PyProof.Rows
section
variable {X : Cx} {pos pos' : Pos}
noncomputable def keyF : List V → Option (List Key)
  | [] => some []
  | .int i :: r => (keyF r).map (Sum.inl i :: ·)
  | _ => none
noncomputable def tDpT (td ty tv : TE) : TS := fun D σ H => tv σ H fun v H1 => td σ H1 fun x H2 => ty σ H2 fun y H3 => ∃ a b kvs xs k, x = .ref a ∧ y = .ref b ∧ H3 a = some (.dT kvs) ∧ H3 b = some (.tup xs) ∧ keyF xs = some k ∧ kvs.length < 1000000 ∧ D.nx σ (upd H3 a (.dT (putK kvs k v)))
end
end L2
set_option Elab.async false
set_option linter.all false
set_option maxRecDepth 100000
set_option Elab.async false
set_option linter.all false
set_option maxRecDepth 100000
set_option Elab.async false
set_option linter.all false
set_option maxRecDepth 100000
set_option Elab.async false
set_option linter.all false
set_option maxRecDepth 100000
namespace L2
open PySem PySem.Spec PyProof.Rows
section
variable {X : Cx}
noncomputable def clrR : V → List V → Hp → VK → Prop := fun x vs H Q => match x, vs with
  | .ref l, [] => optK (lstOf (H l)) fun _ => Q .non (upd H l (.lst []))
  | _, _ => False
variable {o : Expr} {to : TE} {apos cpos : Pos}
end
end L2
set_option Elab.async false
set_option linter.all false
set_option maxRecDepth 100000
namespace L2
open PySem
mutual
noncomputable def plainD : PyData → Bool
  | .int _ => true
  | .none => true
  | .list xs => plainDs xs
  | .tuple xs => plainDs xs
  | _ => false
noncomputable def plainDs : List PyData → Bool
  | [] => true
  | x :: xs => plainD x && plainDs xs
end
mutual
theorem eqv_iff : ∀ (d e : PyData), plainD d = true → plainD e = true → (PyData.eqv d e = true ↔ d = e)
  | .int a, e, _, he => by
    cases e <;> simp [PyData.eqv, plainD] at he ⊢
  | .none, e, _, he => by
    cases e <;> simp [PyData.eqv, plainD] at he ⊢
  | .list xs, e, hd, he => by
    cases e with
    | list ys =>
      simp only [plainD] at hd he
      simp only [PyData.eqv, PyData.list.injEq]
      exact eqvAll_iff xs ys hd he
    | _ => simp [PyData.eqv, plainD] at he ⊢
  | .tuple xs, e, hd, he => by
    cases e with
    | tuple ys =>
      simp only [plainD] at hd he
      simp only [PyData.eqv, PyData.tuple.injEq]
      exact eqvAll_iff xs ys hd he
    | _ => simp [PyData.eqv, plainD] at he ⊢
  | .bool _, e, hd, _ => by simp [plainD] at hd
  | .str _, e, hd, _ => by simp [plainD] at hd
  | .dict _, e, hd, _ => by simp [plainD] at hd
theorem eqvAll_iff : ∀ (xs ys : List PyData), plainDs xs = true → plainDs ys = true → (PyData.eqvAll xs ys = true ↔ xs = ys)
  | [], [], _, _ => by simp [PyData.eqvAll]
  | [], y :: ys, _, _ => by simp [PyData.eqvAll]
  | x :: xs, [], _, _ => by simp [PyData.eqvAll]
  | x :: xs, y :: ys, hx, hy => by
    simp only [plainDs, Bool.and_eq_true] at hx hy
    simp only [PyData.eqvAll, Bool.and_eq_true, List.cons.injEq]
    rw [eqv_iff x y hx.1 hy.1, eqvAll_iff xs ys hx.2 hy.2]
end
theorem eqv_pos {d e : PyData} (hd : plainD d = true) (h : d = e) : PyData.eqv d e = true := (eqv_iff d e hd (h ▸ hd)).mpr h
end L2
namespace L2
open PySem PySem.Spec PyProof.Rows
section
variable {g : TG} {tt : TT} {te tl : TE} {k : Nat} {js : List Nat} {σ : St} {Q : VK} {H : Hp} {K : PySem.W.Frag}
theorem tlc_list_up (R : VK) (h : tl σ H R)
    (hb : ∀ x H1, R x H1 → ∃ (a : Addr) (xs : List V), x = .ref a ∧ SqL K H1 a xs ∧ xs.length < 1000000 ∧ ∃ Pv : Addr → Nat → List V → Hp → Prop, (∀ D, H1 D = none → Pv D 0 [] (upd H1 D (.lst []))) ∧
      (∀ D i ys H, i ≤ xs.length → Pv D i ys H → H D = some (.lst ys) ∧ ys.length ≤ i ∧ SqL K H a xs) ∧
      (∀ D i x ys H2, H1 D = none → xs[i]? = some x → Pv D i ys H2 → g x (L2.stLC σ k js) H2 fun σ2 H3 => (σ2.drop k = frV σ js ∧ σ2.length = k + js.length) ∧ tt σ2 H3 fun b H4 => if b = true then te σ2 H4 fun y H5 => H5 D = some (.lst ys) ∧ Pv D (i + 1) (ys ++ [y]) (upd H5 D (.lst (ys ++ [y]))) else Pv D (i + 1) ys H4) ∧
      ∀ D ys H2, H1 D = none → Pv D xs.length ys H2 → Q (.ref D) H2) : tLC (iList K (tUp tl)) k js g tt te σ H Q := by
  refine ⟨R, h, fun x H1 q => ?_⟩
  obtain ⟨a, xs, rfl, hq, hn, Pv, h0, hl, hs, hd⟩ := hb x H1 q
  exact ⟨a, rfl, ⟨xs, hq⟩, fun D hD => lc_list (Pv D) (h0 D hD) (Nat.lt_trans hn (by decide)) (fun i ys H hi p => hl D i ys H hi p) (fun i x ys H hi p => hs D i x ys H hD hi p) (fun ys H p => hd D ys H hD p)⟩
end
end L2
set_option Elab.async false
set_option linter.all false
set_option maxRecDepth 100000
set_option Elab.async false
set_option linter.all false
set_option maxRecDepth 100000
namespace TZ
open PySem
noncomputable def Up (xs : Array Nat) : Prop := ∀ (i j a b : Nat), i < j → xs[i]? = some a → xs[j]? = some b → a < b
theorem getD_of {xs : Array Nat} {i d : Nat} (h : i < xs.size) : xs[i]? = some (xs.getD i d) := by
  rw [Array.getElem?_eq_getElem h, Array.getD_eq_getD_getElem?, Array.getElem?_eq_getElem h]; rfl
theorem below_go {xs : Array Nat} {j : Nat} (u : Up xs) : ∀ (f lo hi : Nat), hi - lo ≤ f → lo ≤ hi → hi ≤ xs.size → (∀ i a, i < lo → xs[i]? = some a → a < j) → (∀ i a, hi ≤ i → xs[i]? = some a → j ≤ a) →
    (∀ i a, i < SetTable.below.go xs j f lo hi → xs[i]? = some a → a < j) ∧ (∀ i a, SetTable.below.go xs j f lo hi ≤ i → xs[i]? = some a → j ≤ a) := by
  intro f
  induction f with
  | zero =>
    intro lo hi h1 h2 h3 h4 h5
    have : lo = hi := by omega
    subst this
    exact ⟨h4, h5⟩
  | succ f ih =>
    intro lo hi h1 h2 h3 h4 h5
    unfold SetTable.below.go
    by_cases hl : lo < hi
    · rw [if_pos hl]
      dsimp only
      have hm : (lo + hi) / 2 < xs.size := by omega
      have em := getD_of (d := j) hm
      by_cases hc : xs.getD ((lo + hi) / 2) j < j
      · rw [if_pos hc]
        refine ih _ _ (by omega) (by omega) h3 (fun i a hi' ha => ?_) h5
        by_cases e : i = (lo + hi) / 2
        · subst e; rw [em] at ha; cases ha; exact hc
        · exact Nat.lt_trans (u i _ a _ (by omega) ha em) hc
      · rw [if_neg hc]
        refine ih _ _ (by omega) (by omega) (by omega) h4 (fun i a hi' ha => ?_)
        by_cases e : i = (lo + hi) / 2
        · subst e; rw [em] at ha; cases ha; omega
        · have := u _ i _ a (by omega) em ha
          omega
    · rw [if_neg hl]
      have : lo = hi := by omega
      subst this
      exact ⟨h4, h5⟩
theorem below_ok {xs : Array Nat} (u : Up xs) (j : Nat) : (∀ i a, i < SetTable.below xs j → xs[i]? = some a → a < j) ∧ (∀ i a, SetTable.below xs j ≤ i → xs[i]? = some a → j ≤ a) := by
  refine below_go u xs.size 0 xs.size (by omega) (by omega) (Nat.le_refl _) (fun i a h => absurd h (Nat.not_lt_zero _)) (fun i a h ha => ?_)
  have := (Array.getElem?_eq_some_iff.mp ha).1
  omega
theorem below_eq {xs : Array Nat} (u : Up xs) {i j : Nat} (h : xs[i]? = some j) : SetTable.below xs j = i := by
  obtain ⟨h1, h2⟩ := below_ok u j
  rcases Nat.lt_trichotomy (SetTable.below xs j) i with c | c | c
  · have hs : SetTable.below xs j < xs.size := Nat.lt_trans c (Array.getElem?_eq_some_iff.mp h).1
    have e := getD_of (d := 0) hs
    have a1 := h2 _ _ (Nat.le_refl _) e
    have a2 := u _ _ _ _ c e h
    omega
  · exact c
  · have := h1 i j c h
    omega
theorem below_le {xs : Array Nat} (u : Up xs) (j : Nat) : SetTable.below xs j ≤ xs.size := by
  rcases Nat.lt_or_ge xs.size (SetTable.below xs j) with c | c
  · -- beyond the end: the search stays within
    exfalso
    have key : ∀ (f lo hi : Nat), lo ≤ hi → SetTable.below.go xs j f lo hi ≤ hi := by
      intro f
      induction f with
      | zero => intro lo hi h; exact h
      | succ f ih =>
        intro lo hi h
        unfold SetTable.below.go
        by_cases hl : lo < hi
        · rw [if_pos hl]
          dsimp only
          split
          · exact ih _ _ (by omega)
          · exact Nat.le_trans (ih _ _ (by omega)) (by omega)
        · rw [if_neg hl]; exact h
    have := key xs.size 0 xs.size (Nat.zero_le _)
    unfold SetTable.below at c
    omega
  · exact c
structure Sm (t : SetTable) : Prop where
  m : t.mask = 7
  d : t.dummies = #[]
  up : Up t.place
  le : ∀ (i a : Nat), t.place[i]? = some a → a < 8
theorem slot_live {t : SetTable} (h : Sm t) {i j : Nat} (e : t.place[i]? = some j) : t.slot j = .live i := by
  unfold SetTable.slot
  rw [below_eq h.up e]
  dsimp only
  rw [e]
  simp
theorem slot_of {t : SetTable} {i j : Nat} (e : t.slot j = .live i) : t.place[i]? = some j := by
  unfold SetTable.slot at e
  dsimp only at e
  split at e
  · rename_i h
    cases e
    exact eq_of_beq h
  · split at e <;> cases e
theorem slot_cases {t : SetTable} (h : Sm t) (j : Nat) : t.slot j = .empty ∨ ∃ i, t.slot j = .live i := by
  unfold SetTable.slot
  dsimp only
  split
  · exact .inr ⟨_, rfl⟩
  · rw [h.d]
    left
    rfl
theorem slot_empty {t : SetTable} (h : Sm t) {j : Nat} (e : t.slot j = .empty) (i : Nat) : t.place[i]? ≠ some j := fun z => by
  rw [slot_live h z] at e
  cases e
theorem ins_at {α : Type} (xs : Array α) (p : Nat) (x : α) (hp : p ≤ xs.size) (i : Nat) : (SetTable.insertAt xs p x)[i]? = if i < p then xs[i]? else if i = p then some x else xs[i - 1]? := by
  unfold SetTable.insertAt
  have e1 : (xs.extract 0 p).size = p := by rw [Array.size_extract]; omega
  by_cases h1 : i < p
  · rw [if_pos h1, Array.getElem?_append_left (by rw [Array.size_push, e1]; omega), Array.getElem?_push_lt (by rw [e1]; exact h1), Array.getElem_extract, Array.getElem?_eq_getElem (by omega)]
    simp
  · rw [if_neg h1]
    by_cases h2 : i = p
    · subst h2
      rw [if_pos rfl, Array.getElem?_append_left (by rw [Array.size_push, e1]; omega)]
      have := Array.getElem?_push_size (xs := xs.extract 0 i) (x := x)
      rw [e1] at this
      exact this
    · rw [if_neg h2, Array.getElem?_append_right (by rw [Array.size_push, e1]; omega), Array.size_push, e1, Array.getElem?_extract]
      split
      · congr 1
        omega
      · rename_i hh
        rw [Array.getElem?_eq_none (by omega)]
theorem ins_size {α : Type} (xs : Array α) (p : Nat) (x : α) (hp : p ≤ xs.size) : (SetTable.insertAt xs p x).size = xs.size + 1 := by
  unfold SetTable.insertAt
  rw [Array.size_append, Array.size_push, Array.size_extract, Array.size_extract]
  omega
theorem put_place {t : SetTable} (h : Sm t) (j : Nat) : (t.put j).1.place = SetTable.insertAt t.place (SetTable.below t.place j) j ∧ (t.put j).2 = SetTable.below t.place j ∧ (t.put j).1.mask = 7 ∧ (t.put j).1.dummies = #[] := by
  refine ⟨rfl, rfl, h.m, ?_⟩
  show (if SetTable.has t.dummies j = true then _ else t.dummies) = _
  rw [h.d]
  rfl
theorem put_sm {t : SetTable} (h : Sm t) {j : Nat} (e : t.slot j = .empty) (hj : j < 8) : Sm (t.put j).1 := by
  obtain ⟨h1, h2, h3, h4⟩ := put_place h j
  have hp := below_le h.up j
  obtain ⟨b1, b2⟩ := below_ok h.up j
  have ne := slot_empty h e
  refine ⟨h3, h4, ?_, ?_⟩
  · intro a b x y ab ha hb
    rw [h1, ins_at _ _ _ hp] at ha hb
    by_cases c1 : b < SetTable.below t.place j
    · rw [if_pos (by omega)] at ha
      rw [if_pos c1] at hb
      exact h.up _ _ _ _ ab ha hb
    · rw [if_neg c1] at hb
      by_cases c2 : b = SetTable.below t.place j
      · rw [if_pos c2] at hb
        rw [if_pos (by omega)] at ha
        cases hb
        exact b1 a x (by omega) ha
      · rw [if_neg c2] at hb
        have hy := b2 _ _ (by omega) hb
        have hyj : y ≠ j := fun z => ne (b - 1) (by rw [hb, z])
        by_cases c3 : a < SetTable.below t.place j
        · rw [if_pos c3] at ha
          exact h.up _ _ _ _ (by omega) ha hb
        · rw [if_neg c3] at ha
          by_cases c4 : a = SetTable.below t.place j
          · rw [if_pos c4] at ha
            cases ha
            omega
          · rw [if_neg c4] at ha
            exact h.up _ _ _ _ (by omega) ha hb
  · intro i a ha
    rw [h1, ins_at _ _ _ hp] at ha
    split at ha
    · exact h.le _ _ ha
    · split at ha
      · cases ha; exact hj
      · exact h.le _ _ ha
noncomputable def st (x : Nat × Nat) : Nat × Nat := ((x.1 * 5 + 1 + x.2 / 32) % 8, x.2 / 32)
noncomputable def sq : Nat × Nat → Nat → Nat × Nat
  | x, 0 => x
  | x, n + 1 => sq (st x) n
noncomputable def pb (x : Nat × Nat) : SetTable.Probe := ⟨x.1, 0, x.1, x.2, none⟩
theorem adv {t : SetTable} (h : t.mask = 7) (x : Nat × Nat) : t.advance (pb x) = pb (st x) := by
  unfold SetTable.advance pb SetTable.leap SetTable.runEnd
  dsimp only
  rw [h, if_neg (Nat.lt_irrefl 0), if_neg (by omega)]
  simp [st]
theorem start {t : SetTable} (h : t.mask = 7) (v : Int) : t.probeStart v = pb (SetTable.bits v % 8, SetTable.bits v) := by
  unfold SetTable.probeStart SetTable.runEnd pb
  dsimp only
  rw [h, if_neg (by omega)]
  simp
theorem sq_add (x : Nat × Nat) : ∀ a b, sq x (a + b) = sq (sq x a) b := by
  intro a
  induction a generalizing x with
  | zero => intro b; rw [Nat.zero_add]; rfl
  | succ a ih => intro b; rw [Nat.add_right_comm]; exact ih (st x) b
theorem sq_snd (x : Nat × Nat) : ∀ n, (sq x n).2 = x.2 / 32 ^ n := by
  intro n
  induction n generalizing x with
  | zero => simp [sq]
  | succ n ih =>
    show (sq (st x) n).2 = _
    rw [ih, Nat.pow_succ, Nat.mul_comm, ← Nat.div_div_eq_div_mul]
    rfl
theorem sq_all : ∀ i, i < 8 → ∀ j, j < 8 → ∃ m, m < 8 ∧ (sq (i, 0) m).1 = j := by decide
theorem least {p : Nat → Prop} [DecidablePred p] : ∀ (n : Nat), p n → ∃ m, m ≤ n ∧ p m ∧ ∀ k, k < m → ¬ p k := by
  intro n
  induction n using Nat.strongRecOn with
  | _ n ih =>
    intro h
    by_cases hc : ∃ k, k < n ∧ p k
    · obtain ⟨k, hk, pk⟩ := hc
      obtain ⟨m, h1, h2, h3⟩ := ih k hk pk
      exact ⟨m, by omega, h2, h3⟩
    · exact ⟨n, Nat.le_refl _, h, fun k hk pk => hc ⟨k, hk, pk⟩⟩
theorem some_free {t : SetTable} (h : Sm t) (hn : t.place.size < 8) : ∃ j, j < 8 ∧ t.slot j = .empty := by
  by_cases hc : ∃ j, j < 8 ∧ t.slot j = .empty
  · exact hc
  exfalso
  have all : ∀ j, j < 8 → ∃ i, t.place[i]? = some j := fun j hj => by
    rcases slot_cases h j with c | ⟨i, c⟩
    · exact absurd ⟨j, hj, c⟩ hc
    · exact ⟨i, slot_of c⟩
  have up : ∀ j, j < 8 → ∀ i, t.place[i]? = some j → j ≤ i := by
    intro j
    induction j with
    | zero => intro _ i _; exact Nat.zero_le _
    | succ j ih =>
      intro hj i hi
      obtain ⟨i', hi'⟩ := all j (by omega)
      have := ih (by omega) i' hi'
      rcases Nat.lt_trichotomy i i' with c | c | c
      · have := h.up _ _ _ _ c hi hi'
        omega
      · subst c
        rw [hi] at hi'
        cases hi'
      · omega
  obtain ⟨i, hi⟩ := all 7 (by omega)
  have := up 7 (by omega) i hi
  have := (Array.getElem?_eq_some_iff.mp hi).1
  omega
noncomputable instance {t : SetTable} {x : Nat × Nat} : DecidablePred fun n => t.slot (sq x n).1 = .empty := fun n => inferInstanceAs (Decidable (_ = _))
theorem ends {t : SetTable} (h : Sm t) (hn : t.place.size < 8) (x : Nat × Nat) (hx : x.2 < 2 ^ 64) : ∃ e, e ≤ 20 ∧ t.slot (sq x e).1 = .empty ∧ ∀ m, m < e → t.slot (sq x m).1 ≠ .empty := by
  obtain ⟨j, hj, ej⟩ := some_free h hn
  have h0 : (sq x 13).2 = 0 := by
    rw [sq_snd]
    exact Nat.div_eq_of_lt (Nat.lt_of_lt_of_le hx (by decide))
  have h1 : (sq x 13).1 < 8 := by
    rw [show (13 : Nat) = 12 + 1 from rfl, sq_add]
    show (st _).1 < 8
    exact Nat.mod_lt _ (by decide)
  obtain ⟨m, hm, em⟩ := sq_all _ h1 j hj
  have e13 : sq x 13 = ((sq x 13).1, 0) := by rw [← h0]
  rw [← e13, ← sq_add] at em
  obtain ⟨e, he, pe, lt⟩ := least (p := fun n => t.slot (sq x n).1 = .empty) (13 + m) (by rw [em]; exact ej)
  exact ⟨e, by omega, pe, lt⟩
theorem go_ok {t : SetTable} (h : Sm t) (at_ : Nat → Int) (v : Int) : ∀ (e f : Nat) (x : Nat × Nat), e < f → t.slot (sq x e).1 = .empty → (∀ m, m < e → t.slot (sq x m).1 ≠ .empty) →
    (∃ m i, m < e ∧ t.slot (sq x m).1 = .live i ∧ at_ i = v ∧ SetTable.probe.go t at_ v f (pb x) = some (.candidate (sq x m).1 i (pb (sq x (m + 1)))) ∧ ∀ k i', k < m → t.slot (sq x k).1 = .live i' → at_ i' ≠ v) ∨
    (SetTable.probe.go t at_ v f (pb x) = some (.empty (sq x e).1 none) ∧ ∀ k i', k < e → t.slot (sq x k).1 = .live i' → at_ i' ≠ v) := by
  intro e
  induction e with
  | zero =>
    intro f x hf h1 h2
    obtain ⟨f, rfl⟩ : ∃ g, f = g + 1 := ⟨f - 1, by omega⟩
    refine .inr ⟨?_, fun k i' hk => absurd hk (Nat.not_lt_zero _)⟩
    unfold SetTable.probe.go
    show (match t.slot x.1 with | .empty => _ | .dummy => _ | .live i => _) = _
    rw [show t.slot x.1 = .empty from h1]
    rfl
  | succ e ih =>
    intro f x hf h1 h2
    obtain ⟨f, rfl⟩ : ∃ g, f = g + 1 := ⟨f - 1, by omega⟩
    obtain ⟨i, hi⟩ : ∃ i, t.slot x.1 = .live i := by
      rcases slot_cases h x.1 with c | c
      · exact absurd c (h2 0 (by omega))
      · exact c
    have ego : SetTable.probe.go t at_ v (f + 1) (pb x) = if at_ i == v then some (.candidate x.1 i (t.advance (pb x))) else SetTable.probe.go t at_ v f (t.advance (pb x)) := by
      rw [SetTable.probe.go]
      show (match t.slot x.1 with | .empty => _ | .dummy => _ | .live i => _) = _
      rw [hi]
      rfl
    rw [ego, adv h.m]
    by_cases hv : at_ i = v
    · rw [if_pos (by rw [hv]; exact beq_self_eq_true v)]
      exact .inl ⟨0, i, by omega, hi, hv, rfl, fun k i' hk => absurd hk (Nat.not_lt_zero _)⟩
    · rw [if_neg (by simpa using hv)]
      rcases ih f (st x) (by omega) h1 (fun m hm => h2 (m + 1) (by omega)) with ⟨m, i2, a1, a2, a3, a4, a5⟩ | ⟨a1, a2⟩
      · refine .inl ⟨m + 1, i2, by omega, a2, a3, a4, fun k i' hk hk' => ?_⟩
        cases k with
        | zero => rw [show sq x 0 = x from rfl, hi] at hk'; cases hk'; exact hv
        | succ k => exact a5 k i' (by omega) hk'
      · refine .inr ⟨a1, fun k i' hk hk' => ?_⟩
        cases k with
        | zero => rw [show sq x 0 = x from rfl, hi] at hk'; cases hk'; exact hv
        | succ k => exact a2 k i' (by omega) hk'
section
variable {prog : Program} {w : World} {A : Around} {E : Value → Shared → Prop} {s : Shared}
noncomputable abbrev Tk (prog : Program) (w : World) (h : Heap) (k : List Int) (a : Addr) : Prop := IsTupleKey (intKind prog w) h k a
noncomputable abbrev hs (prog : Program) (w : World) (k : List Int) : Int := tupleKeyHash (intKind prog w) k
noncomputable def Rch (t : SetTable) (v : Int) (j : Nat) : Prop := ∃ n, (sq (SetTable.bits v % 8, SetTable.bits v) n).1 = j ∧ ∀ m, m < n → t.slot (sq (SetTable.bits v % 8, SetTable.bits v) m).1 ≠ .empty
structure TS (prog : Program) (w : World) (h : Heap) (S : Addr) (es : Array (Int × Value)) (t : SetTable) (ks : List (List Int)) : Prop where
  at_ : ∃ o ep, h.get? S = some o ∧ o.ExactSet ∧ o.data = .set es ep t
  sm : Sm t
  sz : t.place.size = es.size
  n : es.size = ks.length
  own : ∀ (i : Nat) e, es[i]? = some e → ∃ k a j, e = (hs prog w k, .ref a) ∧ Tk prog w h k a ∧ k ∈ ks ∧ t.place[i]? = some j ∧ Rch t (hs prog w k) j
  has : ∀ k ∈ ks, ∃ (i : Nat) (a : Addr), es[i]? = some (hs prog w k, .ref a) ∧ Tk prog w h k a
theorem TS.fits {h : Heap} {S : Addr} {es : Array (Int × Value)} {t : SetTable} {ks : List (List Int)} (T : TS prog w h S es t ks) (n4 : ks.length < 8) : t.fits es.size = true := by
  unfold SetTable.fits SetTable.fill
  rw [T.sm.d, T.sm.m, T.sz, T.n]
  simp
  omega
theorem class_no {x : Addr} {k : List Int} {Q : Bool → Shared → Prop} (hx : Tk prog w s.heap k x) (h : Q false s) : wpAny (model prog w) A (ofAClassStatement 8 (.ref x)) Q E s := by
  have hT := hx.typeIs
  obtain ⟨o, items, n, ho, _, hd, hi⟩ := hx
  unfold ofAClassStatement
  refine wpAny_bind (wpAny_typeOf hT ?_)
  dsimp only
  rw [if_pos (beq_self_eq_true _)]
  refine wpAny_bind (wpAny_pure ?_)
  simp only [Bool.not_true, Bool.false_eq_true, ↓reduceIte]
  refine wpAny_bind (wpAny_seqItems ho hd ?_)
  dsimp only
  refine wpAny_bind ?_
  rw [← Array.forIn_toList]
  refine wpAny_forIn_list _ (fun rest r s' => r.1 = none ∧ s' = s ∧ ∀ v ∈ rest, carriedByValue v = true) _ ?_ ?_ _ _ ⟨rfl, rfl, hi.byValue⟩
  · rintro v rest r s' ⟨hr, rfl, ha⟩
    have hv := ha v List.mem_cons_self
    have e : ofAClassStatement 7 v = pure false := by
      cases v with
      | ref a => simp [carriedByValue] at hv
      | _ => first | rfl | simp [ofAClassStatement]
    rw [e]
    refine wpAny_bind (wpAny_pure ?_)
    simp only [Bool.false_eq_true, ↓reduceIte]
    exact wpAny_pure ⟨rfl, rfl, fun u hu' => ha u (List.mem_cons_of_mem _ hu')⟩
  · rintro ⟨r1, r2⟩ s' ⟨hr, rfl, _⟩
    simp only at hr
    subst hr
    exact wpAny_pure h
theorem seen_no {x : Addr} {k : List Int} {l : List Value} {Q : Bool → Shared → Prop} (hx : Tk prog w s.heap k x) (hl : ∀ v ∈ l, ∃ k' a, v = .ref a ∧ Tk prog w s.heap k' a) (h : Q false s) : wpAny (model prog w) A (searchCouldBeSeen (.ref x) l) Q E s := by
  unfold searchCouldBeSeen
  refine wpAny_bind ?_
  refine wpAny_forIn_list _ (fun rest r s' => r.1 = none ∧ s' = s ∧ ∀ v ∈ rest, ∃ k' a, v = .ref a ∧ Tk prog w s.heap k' a) _ ?_ ?_ _ _ ⟨rfl, rfl, hl⟩
  · rintro v rest r s' ⟨hr, rfl, ha⟩
    obtain ⟨k', a, rfl, hk'⟩ := ha v List.mem_cons_self
    have fin : ∀ u ∈ rest, ∃ k' a, u = .ref a ∧ Tk prog w s'.heap k' a := fun u hu' => ha u (List.mem_cons_of_mem _ hu')
    dsimp only
    split
    · exact wpAny_pure ⟨rfl, rfl, fin⟩
    · refine wpAny_bind (wpAny_eqIsQuiet_tuple hx ?_)
      simp only [Bool.not_true, Bool.false_eq_true, ↓reduceIte]
      refine wpAny_bind (wpAny_eqIsQuiet_tuple hk' ?_)
      simp only [Bool.not_true, Bool.false_eq_true, ↓reduceIte]
      refine wpAny_bind (class_no hx ?_)
      simp only [Bool.false_eq_true, ↓reduceIte]
      refine wpAny_bind (class_no hk' ?_)
      simp only [Bool.false_eq_true, ↓reduceIte]
      exact wpAny_pure ⟨rfl, rfl, fin⟩
  · rintro ⟨r1, r2⟩ s' ⟨hr, rfl, _⟩
    simp only at hr
    subst hr
    exact wpAny_pure h
theorem search {x S : Addr} {k : List Int} {es : Array (Int × Value)} {t : SetTable} {ks : List (List Int)} (hu : A.units < cLine) (hx : Tk prog w s.heap k x) (T : TS prog w s.heap S es t ks) (n4 : ks.length < 8) {Q : SetFound → Shared → Prop} :
    ∀ (e f : Nat) (y : Nat × Nat) (stand : Option SetTable.Probe), e ≤ 20 → e < f → stand.getD (t.probeStart (hs prog w k)) = pb y → t.slot (sq y e).1 = .empty → (∀ m, m < e → t.slot (sq y m).1 ≠ .empty) →
      (∀ m i a, m < e → t.slot (sq y m).1 = .live i → es[i]? = some (hs prog w k, .ref a) → Tk prog w s.heap k a → Q (.there none) s) →
      ((∀ m i a, m < e → t.slot (sq y m).1 = .live i → es[i]? = some (hs prog w k, .ref a) → ¬ Tk prog w s.heap k a) → Q (.free (sq y e).1 false) s) →
      wpAny (model prog w) A (setSearchFrom S (.ref x) (hs prog w k) true f stand) Q E s := by
  have hf := T.fits n4
  obtain ⟨o, ep, ho, hex, hd⟩ := T.at_
  intro e
  induction e using Nat.strongRecOn with
  | _ e ih =>
    intro f y stand e20 ef hst h1 h2 q1 q2
    obtain ⟨f, rfl⟩ : ∃ g, f = g + 1 := ⟨f - 1, by omega⟩
    unfold setSearchFrom
    refine wpAny_bind (wpAny_setState_of ho hd hf ?_)
    dsimp only
    have gw : t.gaveWay = false := by unfold SetTable.gaveWay; rw [T.sm.m]; rfl
    rw [gw, hst]
    simp only [Bool.false_eq_true, ↓reduceIte]
    unfold SetTable.probe
    rcases go_ok T.sm (fun i => (es[i]?.map (·.1)).getD 0) (hs prog w k) e (10 * SetTable.turns t.mask) y (by rw [T.sm.m]; unfold SetTable.turns; omega) h1 h2 with ⟨m, i, a1, a2, a3, a4, a5⟩ | ⟨a1, a2⟩
    · replace a4 : SetTable.probe.go t _ (hs prog w k) (10 * SetTable.turns t.mask) (pb y) = _ := a4
      have hp := slot_of a2
      have hi : i < es.size := by rw [← T.sz]; exact (Array.getElem?_eq_some_iff.mp hp).1
      obtain ⟨k', a, j, e1, e2, e3, e4, e5⟩ := T.own i _ (Array.getElem?_eq_getElem hi)
      have ei : es[i]? = some (hs prog w k', .ref a) := by rw [Array.getElem?_eq_getElem hi, e1]
      have eh : hs prog w k' = hs prog w k := by
        have := a3
        rw [ei] at this
        exact this
      erw [a4]
      dsimp only
      split
      · refine wpAny_bind (seen_no hx (fun v hv => ?_) ?_)
        · rw [List.mem_map] at hv
          obtain ⟨z, hz, rfl⟩ := hv
          have hz' := (Array.mem_filter.mp (Array.mem_toList_iff.mp hz)).1
          obtain ⟨iz, hiz⟩ := Array.getElem?_of_mem hz'
          obtain ⟨k2, a2', _, q, q', _⟩ := T.own iz _ hiz
          exact ⟨k2, a2', by rw [q], q'⟩
        · simp only [Bool.false_eq_true, ↓reduceIte]
          rw [ei]
          dsimp only
          refine wpAny_bind (wpAny_holding (wpAny_eqBool_tuple hu e2 hx ?_))
          refine wpAny_bind (wpAny_setState_of ho hd hf ?_)
          dsimp only
          by_cases ek : k' = k
          · subst ek
            simp only [decide_true, Bool.and_self, ↓reduceIte]
            exact wpAny_pure (q1 m i a a1 a2 ei e2)
          · have sm : t.sameMemory t.moves t.mask = some true := by unfold SetTable.sameMemory; rw [if_pos (beq_self_eq_true _)]
            simp only [decide_eq_false ek, Bool.and_false, Bool.false_eq_true, ↓reduceIte, sm, a2, ei]
            refine wpAny_bind (wpAny_isSame_ref_self ?_)
            refine wpAny_bind (wpAny_pure ?_)
            simp only [↓reduceIte]
            have ad : ∀ r, sq (sq y (m + 1)) r = sq y (m + 1 + r) := fun r => (sq_add y (m + 1) r).symm
            have ee : m + 1 + (e - (m + 1)) = e := by omega
            refine ih (e - (m + 1)) (by omega) f (sq y (m + 1)) _ (by omega) (by omega) rfl (by rw [ad, ee]; exact h1) (fun r hr => by rw [ad]; exact h2 _ (by omega)) (fun r i' a' hr hs' he hk => ?_) (fun no => ?_)
            · rw [ad] at hs'
              exact q1 _ i' a' (by omega) hs' he hk
            · rw [ad, ee]
              refine q2 fun r i' a' hr hs' he hk => ?_
              rcases Nat.lt_trichotomy r m with c | c | c
              · refine a5 r i' c hs' ?_
                rw [he]
                rfl
              · subst c
                rw [a2] at hs'
                cases hs'
                rw [ei] at he
                have he2 := (Prod.mk.inj (Option.some.inj he)).2
                injection he2 with he3
                subst he3
                exact ek (e2.inj hk)
              · refine no (r - (m + 1)) i' a' (by omega) ?_ he hk
                rw [ad, show m + 1 + (r - (m + 1)) = r from by omega]
                exact hs'
      · rw [ei]
        dsimp only
        refine wpAny_bind (wpAny_holding (wpAny_eqBool_tuple hu e2 hx ?_))
        refine wpAny_bind (wpAny_setState_of ho hd hf ?_)
        dsimp only
        by_cases ek : k' = k
        · subst ek
          simp only [decide_true, Bool.and_self, ↓reduceIte]
          exact wpAny_pure (q1 m i a a1 a2 ei e2)
        · have sm : t.sameMemory t.moves t.mask = some true := by unfold SetTable.sameMemory; rw [if_pos (beq_self_eq_true _)]
          simp only [decide_eq_false ek, Bool.and_false, Bool.false_eq_true, ↓reduceIte, sm, a2, ei]
          refine wpAny_bind (wpAny_isSame_ref_self ?_)
          refine wpAny_bind (wpAny_pure ?_)
          simp only [↓reduceIte]
          have ad : ∀ r, sq (sq y (m + 1)) r = sq y (m + 1 + r) := fun r => (sq_add y (m + 1) r).symm
          have ee : m + 1 + (e - (m + 1)) = e := by omega
          refine ih (e - (m + 1)) (by omega) f (sq y (m + 1)) _ (by omega) (by omega) rfl (by rw [ad, ee]; exact h1) (fun r hr => by rw [ad]; exact h2 _ (by omega)) (fun r i' a' hr hs' he hk => ?_) (fun no => ?_)
          · rw [ad] at hs'
            exact q1 _ i' a' (by omega) hs' he hk
          · rw [ad, ee]
            refine q2 fun r i' a' hr hs' he hk => ?_
            rcases Nat.lt_trichotomy r m with c | c | c
            · refine a5 r i' c hs' ?_
              rw [he]
              rfl
            · subst c
              rw [a2] at hs'
              cases hs'
              rw [ei] at he
              have he2 := (Prod.mk.inj (Option.some.inj he)).2
              injection he2 with he3
              subst he3
              exact ek (e2.inj hk)
            · refine no (r - (m + 1)) i' a' (by omega) ?_ he hk
              rw [ad, show m + 1 + (r - (m + 1)) = r from by omega]
              exact hs'
    · replace a1 : SetTable.probe.go t _ (hs prog w k) (10 * SetTable.turns t.mask) (pb y) = _ := a1
      erw [a1]
      refine wpAny_pure (q2 fun m i a hm hs' he hk => ?_)
      refine a2 m i hm hs' ?_
      rw [he]
      rfl
theorem sq_lt {x : Nat × Nat} (h : x.1 < 8) : ∀ n, (sq x n).1 < 8 := by
  intro n
  induction n generalizing x with
  | zero => exact h
  | succ n ih => exact ih (x := st x) (Nat.mod_lt _ (by decide))
theorem bits_lt (v : Int) : SetTable.bits v < 2 ^ 64 := by
  unfold SetTable.bits
  omega
theorem Tk.but {h h' : Heap} {k : List Int} {a S : Addr} {o : Obj} {es : Array (Int × Value)} {ep : Nat} {t : SetTable} (x : Tk prog w h k a) (hS : h.get? S = some o) (hd : o.data = .set es ep t) (sb : Heap.SameBut S h h') : Tk prog w h' k a := by
  obtain ⟨ob, items, n, ho, hc, hdt, hi⟩ := x
  refine ⟨ob, items, n, ?_, hc, hdt, hi⟩
  rw [sb.2 a (fun z => by subst z; rw [hS] at ho; cases ho; rw [hd] at hdt; cases hdt)]
  exact ho
theorem ints_of {ks : List Int} {vs : List Value} (hh : ItemsAre (intKind prog w) ks vs) : ∀ v ∈ vs, ∃ n t, v = .int n t := by
  induction hh with
  | nil => intro v hv; cases hv
  | cons h1 _ ih =>
    intro v hv
    rcases List.mem_cons.mp hv with rfl | hv
    · obtain ⟨t', rfl⟩ := Value.isInt_shape h1
      exact ⟨_, t', rfl⟩
    · exact ih v hv
theorem byval {x : Addr} {k : List Int} {Q : Bool → Shared → Prop} (hx : Tk prog w s.heap k x) (h : Q true s) : wpAny (model prog w) A (hashByValue 8 (.ref x)) Q E s := by
  have hT := hx.typeIs
  obtain ⟨o, items, n, ho, _, hd, hi⟩ := hx
  unfold hashByValue
  refine wpAny_bind (wpAny_specialOf hT F.slot_tuple_hash.lookup ?_)
  show wpAny _ _ (seqItems? (.ref x) >>= _) _ _ s
  refine wpAny_bind (wpAny_seqItems ho hd ?_)
  refine wpAny_bind ?_
  show wpAny _ _ (forIn items _ _) _ _ s
  rw [← Array.forIn_toList]
  refine wpAny_forIn_list _ (fun rest r s' => r.1 = none ∧ s' = s ∧ ∀ v ∈ rest, ∃ n t, v = Value.int n t) _ ?_ ?_ _ _ ⟨rfl, rfl, ints_of hi⟩
  · rintro v rest r s' ⟨hr, rfl, ha⟩
    obtain ⟨n', t', rfl⟩ := ha v List.mem_cons_self
    refine wpAny_bind (m := hashByValue 7 (.int n' t')) (wpAny_of_eq (show hashByValue 7 (.int n' t') = pure true from by simp [hashByValue]) (wpAny_pure ?_))
    simp only [Bool.not_true, Bool.false_eq_true, ↓reduceIte]
    exact ⟨trivial, trivial, fun u hu' => ha u (List.mem_cons_of_mem _ hu')⟩
  · rintro ⟨r1, r2⟩ s' ⟨hr, rfl, _⟩
    simp only at hr
    subst hr
    exact wpAny_pure h
theorem keep_slot {t : SetTable} (h : Sm t) {j q : Nat} (e : t.slot j = .empty) (hj : j < 8) (hq : t.slot q ≠ .empty) : (t.put j).1.slot q ≠ .empty := by
  rcases slot_cases h q with c | ⟨i, c⟩
  · exact absurd c hq
  have hp := slot_of c
  obtain ⟨p1, p2, p3, p4⟩ := put_place h j
  have hm := put_sm h e hj
  have hb := below_le h.up j
  have : ∃ i' : Nat, (t.put j).1.place[i']? = some q := by
    by_cases ci : i < SetTable.below t.place j
    · exact ⟨i, by rw [p1, ins_at _ _ _ hb, if_pos ci]; exact hp⟩
    · refine ⟨i + 1, ?_⟩
      rw [p1, ins_at _ _ _ hb, if_neg (by omega), if_neg (by omega)]
      exact hp
  obtain ⟨i', hi'⟩ := this
  rw [slot_live hm hi']
  intro z
  cases z
theorem TS.add {h h' : Heap} {x S : Addr} {k : List Int} {es : Array (Int × Value)} {t t' : SetTable} {ks : List (List Int)} (T : TS prog w h S es t ks) (hx : Tk prog w h k x) {e j : Nat}
    (ej : (sq (SetTable.bits (hs prog w k) % 8, SetTable.bits (hs prog w k)) e).1 = j) (h1 : t.slot j = .empty) (h2 : ∀ m, m < e → t.slot (sq (SetTable.bits (hs prog w k) % 8, SetTable.bits (hs prog w k)) m).1 ≠ .empty)
    (et : t'.place = (t.put j).1.place ∧ t'.mask = (t.put j).1.mask ∧ t'.dummies = (t.put j).1.dummies) (sb : Heap.SameBut S h h')
    (at_ : ∃ o ep, h'.get? S = some o ∧ o.ExactSet ∧ o.data = .set (SetTable.insertAt es (t.put j).2 (hs prog w k, .ref x)) ep t') : TS prog w h' S (SetTable.insertAt es (t.put j).2 (hs prog w k, .ref x)) t' (ks ++ [k]) := by
  have hj : j < 8 := by rw [← ej]; exact sq_lt (Nat.mod_lt _ (by decide)) _
  obtain ⟨p1, p2, p3, p4⟩ := put_place T.sm j
  have hm := put_sm T.sm h1 hj
  have hb := below_le T.sm.up j
  obtain ⟨o, ep, ho, hex, hd⟩ := T.at_
  have es1 : ∀ q, t'.slot q = (t.put j).1.slot q := fun q => by unfold SetTable.slot; rw [et.1, et.2.2]
  have ks1 : ∀ {q : Nat}, t.slot q ≠ .empty → t'.slot q ≠ .empty := fun {q} hq => by rw [es1]; exact keep_slot T.sm h1 hj hq
  have hbe : SetTable.below t.place j ≤ es.size := by rw [← T.sz]; exact hb
  have rc : ∀ {v : Int} {q : Nat}, Rch t v q → Rch t' v q := fun ⟨n, a, b⟩ => ⟨n, a, fun m hm' => ks1 (b m hm')⟩
  refine ⟨at_, ⟨et.2.1.trans hm.m, et.2.2.trans hm.d, by rw [et.1]; exact hm.up, by rw [et.1]; exact hm.le⟩, ?_, ?_, ?_, ?_⟩
  · rw [et.1, p1, p2, ins_size _ _ _ hb, ins_size _ _ _ hbe, T.sz]
  · rw [p2, ins_size _ _ _ hbe, T.n, List.length_append]
    rfl
  · intro i z hz
    rw [p2, ins_at _ _ _ hbe] at hz
    have pl : ∀ i : Nat, t'.place[i]? = if i < SetTable.below t.place j then t.place[i]? else if i = SetTable.below t.place j then some j else t.place[i - 1]? := fun i => by rw [et.1, p1]; exact ins_at t.place _ j hb i
    split at hz
    · rename_i c
      obtain ⟨k', a, j', q1, q2, q3, q4, q5⟩ := T.own i z hz
      exact ⟨k', a, j', q1, q2.but ho hd sb, List.mem_append_left _ q3, by rw [pl, if_pos c]; exact q4, rc q5⟩
    · rename_i c
      split at hz
      · rename_i c2
        cases hz
        exact ⟨k, x, j, rfl, hx.but ho hd sb, List.mem_append_right _ (List.mem_singleton.mpr rfl), by rw [pl, if_neg c, if_pos c2], ⟨e, ej, fun m hm' => ks1 (h2 m hm')⟩⟩
      · rename_i c2
        obtain ⟨k', a, j', q1, q2, q3, q4, q5⟩ := T.own _ z hz
        exact ⟨k', a, j', q1, q2.but ho hd sb, List.mem_append_left _ q3, by rw [pl, if_neg c, if_neg c2]; exact q4, rc q5⟩
  · intro k' hk'
    rcases List.mem_append.mp hk' with g | g
    · obtain ⟨i, a, q1, q2⟩ := T.has k' g
      by_cases ci : i < SetTable.below t.place j
      · exact ⟨i, a, by rw [p2, ins_at _ _ _ hbe, if_pos ci]; exact q1, q2.but ho hd sb⟩
      · refine ⟨i + 1, a, ?_, q2.but ho hd sb⟩
        rw [p2, ins_at _ _ _ hbe, if_neg (by omega), if_neg (by omega)]
        exact q1
    · rw [List.mem_singleton] at g
      subst g
      exact ⟨SetTable.below t.place j, x, by rw [p2, ins_at _ _ _ hbe, if_neg (Nat.lt_irrefl _), if_pos rfl], hx.but ho hd sb⟩
noncomputable def more (ks : List (List Int)) (k : List Int) : List (List Int) := if k ∈ ks then ks else ks ++ [k]
theorem add {x S : Addr} {k : List Int} {es : Array (Int × Value)} {t : SetTable} {ks : List (List Int)} (hu : A.units < cLine) (hx : Tk prog w s.heap k x) (T : TS prog w s.heap S es t ks) (n4 : ks.length < 4) {Q : Bool → Shared → Prop}
    (h : ∀ b h' es' t', Heap.SameBut S s.heap h' → TS prog w h' S es' t' (more ks k) → Q b { s with heap := h' }) : wpAny (model prog w) A (setAddHashed S (.ref x) (hs prog w k)) Q E s := by
  have hf := T.fits (by omega)
  obtain ⟨o, ep, ho, hex, hd⟩ := T.at_
  have n8 : t.place.size < 8 := by rw [T.sz, T.n]; omega
  obtain ⟨e, e20, h1, h2⟩ := ends T.sm n8 (SetTable.bits (hs prog w k) % 8, SetTable.bits (hs prog w k)) (bits_lt _)
  unfold setAddHashed setAddHashedIn
  refine wpAny_holding (wpAny_bind (wpAny_setState_of ho hd hf ?_))
  dsimp only
  have bs : byScan (.ref x) es = false := by simp [byScan, Value.scannable]
  rw [bs]
  simp only [Bool.false_eq_true, ↓reduceIte]
  unfold setSearch
  refine wpAny_bind (search hu hx T (by omega) e 100000 _ none e20 (by omega) (start T.sm.m _) h1 h2 (fun m i a hm hs' he hk => ?_) (fun no => ?_))
  · dsimp only
    refine wpAny_pure ?_
    obtain ⟨k', a', j, q1, q2, q3, q4, q5⟩ := T.own i _ he
    have hin : k ∈ ks := by
      have q := (Prod.mk.inj q1).2
      injection q with q
      subst q
      rw [hk.inj q2]
      exact q3
    have := h false s.heap es t (Heap.SameBut.refl S s.heap) (by unfold more; rw [if_pos hin]; exact T)
    exact this
  · dsimp only
    have hno : k ∉ ks := fun hin => by
      obtain ⟨i, a, q1, q2⟩ := T.has k hin
      obtain ⟨k', a', j, r1, r2, r3, r4, n, r5, r6⟩ := T.own i _ q1
      have q := Prod.mk.inj r1
      have q' := q.2
      injection q' with q'
      subst q'
      have ek := q2.inj r2
      subst ek
      have sl := slot_live T.sm r4
      rw [← r5] at sl
      have hne : n < e := by
        rcases Nat.lt_trichotomy n e with c | c | c
        · exact c
        · subst c
          rw [h1] at sl
          cases sl
        · exact absurd h1 (r6 e c)
      exact no n i a hne sl q1 q2
    refine wpAny_bind (wpAny_setState_of ho hd hf ?_)
    dsimp only
    generalize ej : (sq (SetTable.bits (hs prog w k) % 8, SetTable.bits (hs prog w k)) e).1 = j at h1 ⊢
    obtain ⟨p1, p2, p3, p4⟩ := put_place T.sm j
    have hb := below_le T.sm.up j
    have z1 : (SetTable.insertAt es (t.put j).2 (hs prog w k, Value.ref x)).size = es.size + 1 := by rw [p2]; exact ins_size _ _ _ (by rw [← T.sz]; exact hb)
    have hz : (SetTable.insertAt es (t.put j).2 (hs prog w k, Value.ref x)).size ≤ sizeLine := by rw [z1, T.n, sizeLine_eq]; omega
    have full : (t.put j).1.tooFull = false := by
      unfold SetTable.tooFull SetTable.fill
      rw [p3, p4, p1, ins_size _ _ _ hb, T.sz, T.n]
      simp
      omega
    have new : ∃ o' ep', (s.heap.update S (Obj.putSet (SetTable.insertAt es (t.put j).2 (hs prog w k, Value.ref x)) (t.put j).1)).get? S = some o' ∧ o'.ExactSet ∧ o'.data = .set (SetTable.insertAt es (t.put j).2 (hs prog w k, Value.ref x)) ep' (t.put j).1 := by
      have g := Heap.get?_update_self (Obj.putSet (SetTable.insertAt es (t.put j).2 (hs prog w k, Value.ref x)) (t.put j).1) ho (by rw [putSet_of _ _ hd]; rfl)
      rw [putSet_of _ _ hd] at g
      exact ⟨_, _, g, hex, rfl⟩
    split
    · refine wpAny_bind (byval hx ?_)
      simp only [↓reduceIte]
      refine wpAny_bind (wpAny_storeSet_of ho hd ?_ hz)
      rw [full]
      simp only [Bool.not_false, Bool.and_false, Bool.false_eq_true, ↓reduceIte]
      refine wpAny_pure (h true _ (SetTable.insertAt es (t.put j).2 (hs prog w k, Value.ref x)) (t.put j).1 (Heap.SameBut.update _ _ _) ?_)
      unfold more
      rw [if_neg hno]
      exact T.add hx ej h1 h2 ⟨rfl, rfl, rfl⟩ (Heap.SameBut.update _ _ _) new
    · refine wpAny_bind (wpAny_pure ?_)
      simp only [↓reduceIte]
      refine wpAny_bind (wpAny_storeSet_of ho hd ?_ hz)
      rw [full]
      simp only [Bool.not_false, Bool.and_false, Bool.false_eq_true, ↓reduceIte]
      refine wpAny_pure (h true _ (SetTable.insertAt es (t.put j).2 (hs prog w k, Value.ref x)) (t.put j).1 (Heap.SameBut.update _ _ _) ?_)
      unfold more
      rw [if_neg hno]
      exact T.add hx ej h1 h2 ⟨rfl, rfl, rfl⟩ (Heap.SameBut.update _ _ _) new
end
section
variable {prog : Program} {w : World} {A : Around} {E : Value → Shared → Prop} {s : Shared}
noncomputable def ksOf (kf : Nat → List Int) : Nat → List (List Int)
  | 0 => []
  | i + 1 => more (ksOf kf i) (kf i)
theorem ksOf_len (kf : Nat → List Int) : ∀ i, (ksOf kf i).length ≤ i
  | 0 => Nat.le_refl _
  | i + 1 => by
    have := ksOf_len kf i
    unfold ksOf more
    split
    · omega
    · rw [List.length_append, List.length_singleton]
      omega
theorem TS.kept {h h' : Heap} {S : Addr} {es : Array (Int × Value)} {t : SetTable} {ks : List (List Int)} (T : TS prog w h S es t ks) (hS : ∀ o, h.get? S = some o → h'.get? S = some o) (hk : ∀ k a, Tk prog w h k a → Tk prog w h' k a) : TS prog w h' S es t ks := by
  obtain ⟨o, ep, ho, hex, hd⟩ := T.at_
  refine ⟨⟨o, ep, hS o ho, hex, hd⟩, T.sm, T.sz, T.n, fun i e he => ?_, fun k hk' => ?_⟩
  · obtain ⟨k, a, j, q1, q2, q3⟩ := T.own i e he
    exact ⟨k, a, j, q1, hk k a q2, q3⟩
  · obtain ⟨i, a, q1, q2⟩ := T.has k hk'
    exact ⟨i, a, q1, hk k a q2⟩
theorem Tk.kept {h h' : Heap} {k : List Int} {a : Addr} (x : Tk prog w h k a) (hk : ∀ o, o.cls = .type "tuple" → h.get? a = some o → h'.get? a = some o) : Tk prog w h' k a := by
  obtain ⟨o, items, n, ho, hc, hd, hi⟩ := x
  exact ⟨o, items, n, hk o hc ho, hc, hd, hi⟩
theorem loopT {R : Result → Shared → Prop} {I : Addr} {fp wr : List Addr} {G : Array GenState → Array GenState → Prop} {n : Nat} {P : Nat → Value → Prop} {St : Nat → Shared → Prop} (W : PySem.WalksS prog w A.in1 I fp wr G n P St)
    (S : Addr) (out : S ∉ fp) (as : Nat → Addr) (kf : Nat → List Int) (isP : ∀ i v, P i v → v = .ref (as i)) (hw : ∀ i s, St i s → ∀ b ∈ wr, ∀ o, s.heap.get? b = some o → o.cls ≠ .type "tuple") (hu : A.in1.units < cLine) (n4 : n ≤ 4) :
    ∀ (k i : Nat) (s : Shared), n - i = k → i ≤ n → St i s → (∀ j, j < n → Tk prog w s.heap (kf j) (as j)) → (∃ es t, TS prog w s.heap S es t (ksOf kf i)) →
      (∀ s', PySem.Moved (S :: wr) G s s' → (∃ es t, TS prog w s'.heap S es t (ksOf kf n)) → R (.ok (.ret .none)) s') →
      codeAny (model prog w) A (.builtin "set.update.loop" ⟨[.ref S, .ref I], []⟩) R s := by
  have outw : S ∉ wr := fun z => out (W.sub _ z)
  have wide : ∀ b ∈ wr, b ∈ S :: wr := fun b z => List.mem_cons_of_mem _ z
  intro k
  induction k with
  | zero =>
    intro i s hk hi hst hT hS hR
    obtain rfl : i = n := by omega
    refine codeAny_builtin PyProof.Rows.F.entry_set_update_loop ?_
    rw [Around.under_plainId PyProof.Rows.F.plain_set_update_loop _]
    show wpAny _ A.in1 (pyNext (.ref I) >>= _) _ _ s
    refine wpAny_bind (W.done s _ _ hst fun s' mv => ?_)
    show wpAny _ A.in1 (ret Value.none) _ _ s'
    refine wpAny_pure (hR s' (mv.mono wide) ?_)
    obtain ⟨es, t, T⟩ := hS
    exact ⟨es, t, T.kept (fun o e => mv.heap S o outw e) fun k a x => x.kept fun o hc e => mv.heap a o (fun z => hw _ s hst a z o e hc) e⟩
  | succ k ih =>
    intro i s hk hi hst hT hS hR
    have lt : i < n := by omega
    refine codeAny_builtin PyProof.Rows.F.entry_set_update_loop ?_
    rw [Around.under_plainId PyProof.Rows.F.plain_set_update_loop _]
    show wpAny _ A.in1 (pyNext (.ref I) >>= _) _ _ s
    refine wpAny_bind (W.item i s _ _ lt hst fun v s' hP st' mv => ?_)
    obtain rfl := isP i v hP
    have keepT : ∀ {k : List Int} {a : Addr}, Tk prog w s.heap k a → Tk prog w s'.heap k a := fun {k a} x => x.kept fun o hc e => mv.heap a o (fun z => hw _ s hst a z o e hc) e
    obtain ⟨es, t, T⟩ := hS
    have T' : TS prog w s'.heap S es t (ksOf kf i) := T.kept (fun o e => mv.heap S o outw e) fun k a x => keepT x
    have kT := keepT (hT i lt)
    have len := ksOf_len kf i
    show wpAny _ A.in1 (holding [Value.ref (as i)] (setAdd S (.ref (as i))) >>= _) _ _ s'
    refine wpAny_bind (wpAny_holding ?_)
    unfold setAdd
    refine wpAny_holding ?_
    refine wpAny_bind (wpAny_pyHash_tuple hu kT ?_)
    refine add (s := { s' with toks := s'.toks + ((kf i).length + 1) }) hu kT T' (by omega) fun b h' es' t' sb TS' => ?_
    obtain ⟨oS, _, hoS, _, hdS⟩ := T'.at_
    refine wpAny_pure ⟨plainId_quiet PyProof.Rows.F.plain_set_update_loop _, ih (i + 1) _ (by omega) lt (W.frame _ s' _ _ st' (Nat.le_add_right _ _) fun b z o e => ?_) (fun j hj => ?_) ⟨es', t', TS'⟩ fun s'' mv2 fin => ?_⟩
    · rw [sb.2 b (fun q : b = S => out (by rw [← q]; exact z))]
      exact e
    · exact (keepT (hT j hj)).but hoS hdS sb
    · refine hR s'' (PySem.Moved.trans W.gtrans ((mv.mono wide).then_heap (Nat.le_add_right _ _) fun b o z e => ?_) mv2) fin
      rw [sb.2 b (fun q : b = S => z (by rw [q]; exact List.mem_cons_self))]
      exact e
theorem TS.fresh {h : Heap} {S : Addr} {led : Bool} (hS : h.get? S = some { cls := .type "set", dict := none, data := .set #[] 0 (.fresh 0 0 led) }) : TS prog w h S #[] (.fresh 0 0 led) [] :=
  ⟨⟨_, 0, hS, ⟨rfl, rfl, rfl⟩, rfl⟩, ⟨rfl, rfl, fun i j a b _ e => by simp [SetTable.fresh] at e, fun i a e => by simp [SetTable.fresh] at e⟩, rfl, rfl, fun i e z => by simp at z, fun k z => absurd z List.not_mem_nil⟩
set_option maxHeartbeats 3200000 in
theorem call_set_tups {l : Addr} {items : Array Value} {n : Nat} {as : Nat → Addr} {kf : Nat → List Int} {Q : Value → Shared → Prop} (nohand : A.handled = none) (isL : s.heap.IsList l items) (sz : items.size = n) (refs : ∀ (i : Nat) (v : Value), items[i]? = some v → v = .ref (as i))
    (keys : ∀ j, j < n → Tk prog w s.heap (kf j) (as j)) (n4 : n ≤ 4) (hu : A.units + 10 < cLine)
    (goal : ∀ (h' : Heap) (tk : Nat) es t, TS prog w h' s.heap.objs.size es t (ksOf kf n) → (∀ b o, b < s.heap.objs.size → s.heap.get? b = some o → h'.get? b = some o) → Q (.ref s.heap.objs.size) { s with heap := h', toks := tk }) :
    wpAny (model prog w) A (call (.type "set") [.ref l]) Q E s := by
  subst sz
  obtain ⟨mc, mt, mro⟩ := F.called_set.mro
  have made := F.called_set.made
  have subt := F.called_set.sub
  refine wpAny_call (codeAny_of_tree ?_)
  show wpAny _ _ (callAny (.type "set") _) _ _ _
  refine wpAny_pure ⟨Code.quiet_builtin _ (by decide +kernel), codeAny_builtin F.entry_type_call ?_⟩
  rw [Around.under_plain (weight_type_call_type "set" [.ref l] []) rfl]
  have c1 := F.called_set.notType
  have c2 := F.called_set.canCreate
  have c3 := F.typeCall_set_1 (.ref l)
  repeat (any_goals (first | assumption | wp_step))
  refine codeAny_mono (code_set_new_1 (.ref l) (E := E) (Q₁ := fun ob z => ∃ ld : Bool, ob = .ref s.heap.objs.size ∧ z = { s with heap := s.heap.push { cls := .type "set", dict := none, data := .set #[] 0 (.fresh 0 0 ld) } }) fun ld => ⟨ld, rfl, rfl⟩) fun r z hr => ?_
  cases r with
  | error e => exact hr
  | ok fl =>
    cases fl with
    | ret ob =>
      obtain ⟨ld, rfl, rfl⟩ := hr
      have atS : (s.heap.push { cls := .type "set", dict := none, data := .set #[] 0 (.fresh 0 0 ld) }).get? s.heap.objs.size = some { cls := .type "set", dict := none, data := .set #[] 0 (.fresh 0 0 ld) } := Heap.get?_push_size _ rfl
      have tyS : Shared.TypeIs { s with heap := s.heap.push { cls := .type "set", dict := none, data := .set #[] 0 (.fresh 0 0 ld) } } (.ref s.heap.objs.size) "set" := ⟨_, atS, rfl⟩
      have i1 := F.called_set.init.lookup
      have i2 := F.called_set.init.bind (.ref s.heap.objs.size)
      repeat (any_goals (first | assumption | wp_step))
      refine codeAny_mono (codeAny_call_builtin (R := wants (fun r z => r = .none ∧ ∃ h' tk es t, z = { s with heap := h', toks := tk } ∧ TS prog w h' s.heap.objs.size es t (ksOf kf items.size) ∧
          (∀ b o, b < s.heap.objs.size → s.heap.get? b = some o → h'.get? b = some o)) E) F.called_set.init.plain F.entry_set_init (check_set_init_1 tyS ?_)) fun r2 z2 hr2 => ?_
      · obtain ⟨ol, hol, hcl, nl, hdl⟩ := isL
        obtain ⟨ocls, odict, odata, oslots⟩ := ol
        simp only at hcl hdl
        subst hcl; subst hdl
        have atl : (s.heap.push { cls := .type "set", dict := none, data := .set #[] 0 (.fresh 0 0 ld) }).get? l = some { cls := .type "list", dict := odict, data := .seq items nl, slots := oslots } := Heap.get?_push_of_some _ hol
        have k1 := F.sub_list_set
        have k2 := F.sub_list_frozenset
        have k3 : (Value.type "list" == Value.type "dict") = false := by decide
        have isl1 : (s.heap.push { cls := .type "set", dict := none, data := .set #[] 0 (.fresh 0 0 ld) }).IsList l items := ⟨_, atl, rfl, nl, rfl⟩
        unfold Builtin.«set.__init__» noKeywords Builtin.Frozenset.updateFrom
        generalize hPI : pyIter = PI
        wp_walk
        subst hPI
        refine wpAny_pyIter_list isl1 ?_
        refine wpAny_bind (wpAny_runValue ?_)
        have ltl : l < s.heap.objs.size := Heap.lt_size hol
        have nh3 : A.in1.in1.in1.handled = none := by simp [nohand]
        have szp : (s.heap.push { cls := .type "set", dict := none, data := .set #[] 0 (.fresh 0 0 ld) }).objs.size = s.heap.objs.size + 1 := Heap.size_push ..
        have neI : l ≠ (s.heap.push { cls := .type "set", dict := none, data := .set #[] 0 (.fresh 0 0 ld) }).objs.size := by rw [szp]; exact Nat.ne_of_lt (Nat.lt_succ_of_lt ltl)
        have outS : s.heap.objs.size ∉ [(s.heap.push { cls := .type "set", dict := none, data := .set #[] 0 (.fresh 0 0 ld) }).objs.size, l] := by
          rw [szp]
          simp only [List.mem_cons, List.not_mem_nil, or_false, not_or]
          exact ⟨Nat.ne_of_lt (Nat.lt_succ_self _), Nat.ne_of_gt ltl⟩
        refine loopT ((Walks.list nh3 _ l neI items).toS) s.heap.objs.size outS as kf refs (fun i z st b hb o e => ?hw) (by show A.units + 1 + 1 + 1 < cLine; omega) n4 (items.size - 0) 0 _ (by omega) (Nat.zero_le _) ⟨⟨_, Heap.get?_push_size _ rfl, rfl, rfl⟩, (isl1.push _)⟩ (fun j hj => ?hT) ⟨#[], .fresh 0 0 ld, ?hS0⟩ ?hR
        case hS0 => exact TS.fresh (Heap.get?_push_of_some _ atS)
        case hT =>
          refine (keys j hj).kept fun o _ e => ?_
          exact Heap.get?_push_of_some _ (Heap.get?_push_of_some _ e)
        case hw =>
          obtain ⟨⟨oi, hoi, hci, _⟩, _⟩ := st
          rw [List.mem_singleton] at hb
          subst hb
          rw [hoi] at e
          cases e
          rw [hci]
          decide
        case hR =>
          rintro z mv ⟨es, t, TT⟩
          obtain ⟨h', g', d', tk', os'⟩ := z
          obtain rfl : g' = s.gens := mv.gens
          obtain rfl : d' = s.drawn := mv.drawn
          obtain rfl : os' = s.os := mv.os
          show wpAny _ _ _ _ _ _
          refine wpAny_pure ?_
          show wpAny _ _ (ret Value.none) _ _ _
          refine wpAny_pure ⟨rfl, h', tk', es, t, rfl, TT, fun b o hb e => ?_⟩
          refine mv.heap b o ?_ (Heap.get?_push_of_some _ (Heap.get?_push_of_some _ e))
          rw [szp]
          simp only [List.mem_cons, List.not_mem_nil, or_false, not_or]
          exact ⟨Nat.ne_of_lt hb, Nat.ne_of_lt (Nat.lt_succ_of_lt hb)⟩
      · cases r2 with
        | error e => exact hr2
        | ok fl2 =>
          cases fl2 with
          | ret r =>
            obtain ⟨rfl, h', tk, es, t, rfl, TT, kp⟩ := hr2
            repeat (any_goals (first | assumption | wp_step))
            exact goal _ _ _ _ TT kp
          | _ => exact hr2.elim
    | _ => exact hr.elim
end
end TZ
namespace L2
open PySem PyProof.Rows
noncomputable def setT (p : Addr) (n : Nat) : HO := .ext fun h => ∃ o es ep t, h.get? p = some o ∧ o.ExactSet ∧ o.data = .set es ep t ∧ t.fits es.size = true ∧ es.size = n
noncomputable def kOf (kk : List (List Int)) (i : Nat) : List Int := kk.getD i []
noncomputable def rSetT (K : PySem.W.Frag) : List V → Hp → VK → Prop := fun vs H Q => ∃ (l : Addr) (qs : List Addr) (kk : List (List Int)), vs = [.ref l] ∧ SqL K H l (qs.map V.ref) ∧ qs.length = kk.length ∧ kk.length ≤ 4 ∧
  (∀ (i : Nat) q k, qs[i]? = some q → kk[i]? = some k → H q = some (.tup (k.map V.int))) ∧ ∀ p, H p = none → Q (.ref p) (upd H p (setT p (TZ.ksOf (kOf kk) kk.length).length))
section
variable {X : Cx}
theorem items_ints : ∀ {k : List Int} {us : List Value}, Vals (k.map V.int) us → ItemsAre (intKind X.prog X.w) k us
  | [], _, .nil => .nil
  | _ :: _, _, .cons r rs => by
    obtain ⟨t, rfl⟩ := r
    exact .cons (intKind_is _ _ _ _) (items_ints rs)
theorem call_setT {K : PySem.W.Frag} (hK : X.K = K) (hcalm : X.calm = true) (hu : X.A.units + 64 < cLine) : CallR X (.type "set") (rSetT K) := by
  subst hK
  intro pins s σ H xs us Q I r h
  obtain ⟨l, qs, kk, rfl, hl, ln, n4, ht, q⟩ := h
  obtain ⟨u, rfl, rx⟩ := vals1 r
  cases rx
  obtain ⟨its, r', pl, hz⟩ := I.list hl
  have hlen : its.length = kk.length := by rw [← r'.length, List.length_map, ln]
  refine TZ.call_set_tups (n := kk.length) (as := fun i => qs.getD i 0) (kf := kOf kk) (I.ok.hd hcalm) pl.isList (by rw [List.size_toArray, hlen]) (fun i v hv => ?_) (fun j hj => ?_) n4 (by omega) fun h' tk es t T kp => ?_
  · rw [← Array.getElem?_toList] at hv
    have hv' : its[i]? = some v := by simpa using hv
    have hi : i < qs.length := by rw [ln, ← hlen]; exact (List.getElem?_eq_some_iff.mp hv').1
    obtain ⟨u, hu', rv⟩ := r'.get (i := i) (x := .ref (qs.getD i 0)) (by rw [List.getElem?_map, List.getD_eq_getElem?_getD, List.getElem?_eq_getElem hi]; rfl)
    rw [hv'] at hu'
    cases hu'
    cases rv
    rfl
  · have e1 : qs[j]? = some (qs.getD j 0) := by rw [List.getD_eq_getElem?_getD, List.getElem?_eq_getElem (by omega)]; rfl
    have e2 : kk[j]? = some (kOf kk j) := by unfold kOf; rw [List.getD_eq_getElem?_getD, List.getElem?_eq_getElem hj]; rfl
    obtain ⟨_, its2, r2, o, h1, h2, n, h3⟩ := (show ObjOk X.prog X.w H s.heap (qs.getD j 0) (.tup ((kOf kk j).map V.int)) from I.hok _ _ (ht j _ _ e1 e2))
    exact ⟨o, its2.toArray, n, h1, h2, h3, by simpa using items_ints r2⟩
  · have l3 := TZ.ksOf_len (kOf kk) kk.length
    obtain ⟨o, ep, ho, hex, hd⟩ := T.at_
    refine ⟨.ref s.heap.objs.size, _, I.laid (t' := tk) (o := setT s.heap.objs.size (TZ.ksOf (kOf kk) kk.length).length) (fun b ob e => kp b ob (Heap.lt_size e) e) (Nat.le_refl _) ⟨⟨o, es, ep, t, ho, hex, hd, T.fits (by omega), T.n⟩, ⟨o, ho⟩, ?_⟩, rfl, q _ (I.hok.fresh (Nat.le_refl _))⟩
    rintro h1 h2 ⟨o, es, ep, t, a1, a2⟩ k
    exact ⟨o, es, ep, t, k o a1, a2⟩
noncomputable def rLenT : List V → Hp → VK → Prop := fun vs H Q => ∃ (p : Addr) (n : Nat), vs = [.ref p] ∧ H p = some (setT p n) ∧ n < 100000 ∧ Q (.int n) H
theorem call_lenT : CallR X (.builtin "len") rLenT := by
  intro pins s σ H xs us Q I r h
  obtain ⟨p, n, rfl, hp, hn, q⟩ := h
  obtain ⟨u, rfl, rx⟩ := vals1 r
  cases rx
  obtain ⟨⟨o, es, ep, t, ho, hex, hd, hf, e⟩, _, _⟩ := I.hok p _ hp
  subst e
  exact PySem.call_len_set ho hex hd hf (by omega) ⟨.int es.size, H, I.tok _, ⟨s.toks + 1, rfl⟩, q⟩
theorem setT_three {a b c : List Int} : ((TZ.ksOf (kOf [a, b, c]) 3).length = 3) ↔ (a ≠ b ∧ a ≠ c ∧ b ≠ c) := by
  simp only [TZ.ksOf, TZ.more, kOf, List.getD_cons_zero, List.getD_cons_succ, List.not_mem_nil, if_false, List.nil_append]
  by_cases h1 : b = a
  · subst h1
    simp
    split <;> simp
  · have h1' : a ≠ b := fun z => h1 z.symm
    by_cases h2 : c = a
    · subst h2; simp [h1]
    · by_cases h3 : c = b
      · subst h3; simp [h1]
      · simp [h1, h2, h3, h1', Ne.symm h2, Ne.symm h3]
end
end L2
namespace MA
noncomputable def sgn (n : Int) : Int := if n < 0 then -1 else if 0 < n then 1 else 0
theorem sgn_pos {n : Int} (h : 0 < n) : sgn n = 1 := by unfold sgn; rw [if_neg (by omega), if_pos h]
theorem sgn_neg {n : Int} (h : n < 0) : sgn n = -1 := by unfold sgn; rw [if_pos h]
theorem sgn_zero : sgn 0 = 0 := rfl
theorem sgn_range (n : Int) : sgn n = -1 ∨ sgn n = 0 ∨ sgn n = 1 := by unfold sgn; split <;> (try split) <;> simp
noncomputable def ab (i : Int) : Int := if i < 0 then -i else i
theorem ab_eq (i : Int) : ab i = (i.natAbs : Int) := by unfold ab; split <;> omega
theorem gcd_step {a b : Int} (hb : 0 < b) : Int.gcd b (a % b) = Int.gcd a b := by
  rw [Int.gcd_comm a b]
  have h : Int.gcd b (a % b + b * (a / b)) = Int.gcd b (a % b) := Int.gcd_add_mul_left_right ..
  rw [Int.emod_add_mul_ediv] at h
  exact h.symm
theorem gcd_abs_left (a b : Int) : Int.gcd (a.natAbs : Int) b = Int.gcd a b := by
  rw [Int.gcd_eq_natAbs_gcd_natAbs, Int.gcd_eq_natAbs_gcd_natAbs]; simp
theorem gcd_abs_right (a b : Int) : Int.gcd a (b.natAbs : Int) = Int.gcd a b := by
  rw [Int.gcd_eq_natAbs_gcd_natAbs, Int.gcd_eq_natAbs_gcd_natAbs]; simp
theorem gcd_zero {a : Int} (ha : 0 ≤ a) : (Int.gcd a 0 : Int) = a := by simp; omega
noncomputable def com (x y w : Int) : Int := (Int.gcd (Int.gcd w x) y : Int) * sgn w
structure IsPt (x y w a b c : Int) : Prop where
  pos : 0 < c
  ex : a * w = x * c
  ey : b * w = y * c
  low : Int.gcd (Int.gcd a b) c = 1
  la : a.natAbs ≤ x.natAbs
  lb : b.natAbs ≤ y.natAbs
  lc : c.natAbs ≤ w.natAbs
structure IsFr (x w a c : Int) : Prop where
  pos : 0 < c
  ex : a * w = x * c
  low : Int.gcd a c = 1
  la : a.natAbs ≤ x.natAbs
  lc : c.natAbs ≤ w.natAbs
theorem com_ne {x y w : Int} (hw : w ≠ 0) : com x y w ≠ 0 := by
  unfold com
  have h1 : Int.gcd (Int.gcd w x) y ≠ 0 := by
    intro h
    have := Int.gcd_eq_zero_iff.mp h
    have h2 : Int.gcd w x = 0 := by have := this.1; omega
    exact hw (Int.gcd_eq_zero_iff.mp h2).1
  intro h
  rcases Int.mul_eq_zero.mp h with h | h
  · omega
  · rcases Int.lt_or_gt_of_ne hw with z | z
    · rw [sgn_neg z] at h; omega
    · rw [sgn_pos z] at h; omega
theorem com_dvd (x y w : Int) (hw : w ≠ 0) : com x y w ∣ x ∧ com x y w ∣ y ∧ com x y w ∣ w := by
  have key : ∀ z, (Int.gcd (Int.gcd w x) y : Int) ∣ z → com x y w ∣ z := by
    intro z hz
    unfold com
    rcases Int.lt_or_gt_of_ne hw with q | q
    · rw [sgn_neg q]
      rw [show (Int.gcd (Int.gcd w x) y : Int) * -1 = -(Int.gcd (Int.gcd w x) y : Int) by omega]
      exact Int.neg_dvd.mpr hz
    · rw [sgn_pos q, Int.mul_one]
      exact hz
  have g1 : (Int.gcd (Int.gcd w x) y : Int) ∣ (Int.gcd w x : Int) := Int.gcd_dvd_left _ _
  exact ⟨key x (Int.dvd_trans g1 (Int.gcd_dvd_right _ _)), key y (Int.gcd_dvd_right _ _), key w (Int.dvd_trans g1 (Int.gcd_dvd_left _ _))⟩
theorem fdiv_exact {a b : Int} (h : b ∣ a) : a.fdiv b = a / b := by
  exact Int.fdiv_eq_ediv_of_dvd h
theorem natAbs_ediv_le (a b : Int) (h : b ∣ a) : (a / b).natAbs ≤ a.natAbs := by
  rw [Int.natAbs_ediv_of_dvd h]
  exact Nat.div_le_self _ _
theorem isPt_of {x y w : Int} (hw : w ≠ 0) : IsPt x y w (x.fdiv (com x y w)) (y.fdiv (com x y w)) (w.fdiv (com x y w)) := by
  obtain ⟨dx, dy, dw⟩ := com_dvd x y w hw
  have hc := com_ne (x := x) (y := y) hw
  rw [fdiv_exact dx, fdiv_exact dy, fdiv_exact dw]
  obtain ⟨a, ha⟩ := dx
  obtain ⟨b, hb⟩ := dy
  obtain ⟨c, hcw⟩ := dw
  have ea : x / com x y w = a := by
    have := Int.mul_ediv_cancel_left a hc
    rw [← ha] at this; exact this
  have eb : y / com x y w = b := by
    have := Int.mul_ediv_cancel_left b hc
    rw [← hb] at this; exact this
  have ec : w / com x y w = c := by
    have := Int.mul_ediv_cancel_left c hc
    rw [← hcw] at this; exact this
  have la := natAbs_ediv_le x _ (⟨a, ha⟩ : com x y w ∣ x)
  have lb := natAbs_ediv_le y _ (⟨b, hb⟩ : com x y w ∣ y)
  have lc := natAbs_ediv_le w _ (⟨c, hcw⟩ : com x y w ∣ w)
  rw [ea] at la ⊢
  rw [eb] at lb ⊢
  rw [ec] at lc ⊢
  generalize hG : com x y w = G at *
  have hgg : (Int.gcd (Int.gcd w x) y : Int) * sgn w = G := by rw [← hG]; rfl
  have gpos : 0 < (Int.gcd (Int.gcd w x) y : Int) := by
    have : (Int.gcd (Int.gcd w x) y : Int) ≠ 0 := by
      intro z
      rw [z, Int.zero_mul] at hgg
      exact hc hgg.symm
    omega
  refine ⟨?_, by rw [ha, hcw]; grind, by rw [hb, hcw]; grind, ?_, la, lb, lc⟩
  · -- c is above 0
    rcases Int.lt_or_gt_of_ne hw with q | q
    · rw [sgn_neg q] at hgg
      have hGn : G < 0 := by omega
      have h1 : G * c < 0 := by rw [← hcw]; exact q
      exact Int.pos_of_mul_neg_right h1 hGn
    · rw [sgn_pos q, Int.mul_one] at hgg
      have h1 : 0 < G * c := by rw [← hcw]; exact q
      exact Int.pos_of_mul_pos_right h1 (by omega)
  · -- lowest terms
    have e1 : Int.gcd (Int.gcd w x) y = G.natAbs := by
      have := congrArg Int.natAbs hgg
      rw [Int.natAbs_mul] at this
      have h2 : (sgn w).natAbs = 1 := by
        rcases Int.lt_or_gt_of_ne hw with q | q
        · rw [sgn_neg q]; rfl
        · rw [sgn_pos q]; rfl
      rw [h2, Nat.mul_one] at this
      simpa using this
    have e2 : Int.gcd (Int.gcd w x) y = G.natAbs * Int.gcd (Int.gcd c a) b := by
      rw [hcw, ha, hb]
      rw [Int.gcd_mul_left]
      have : ((G.natAbs * Int.gcd c a : Nat) : Int).gcd (G * b) = G.natAbs * Int.gcd (Int.gcd c a) b := by
        rw [Int.gcd_eq_natAbs_gcd_natAbs, Int.natAbs_mul]
        simp only [Int.natAbs_natCast]
        rw [Nat.gcd_mul_left, Int.gcd_eq_natAbs_gcd_natAbs (Int.gcd c a : Int) b]
        simp
      exact this
    have gn : 0 < G.natAbs := by omega
    have e3 : Int.gcd (Int.gcd c a) b = 1 := by
      rw [e1] at e2
      have : G.natAbs * 1 = G.natAbs * Int.gcd (Int.gcd c a) b := by omega
      exact (Nat.eq_of_mul_eq_mul_left gn this).symm
    have e4 : Int.gcd (Int.gcd a b) c = Int.gcd (Int.gcd c a) b := by
      rw [Int.gcd_comm (Int.gcd a b : Int) c, Int.gcd_assoc]
    rw [e4, e3]
theorem isFr_of {x w : Int} (hw : w ≠ 0) : IsFr x w (x.fdiv ((Int.gcd w x : Int) * sgn w)) (w.fdiv ((Int.gcd w x : Int) * sgn w)) := by
  have h := isPt_of (x := x) (y := 0) (w := w) hw
  have e : com x 0 w = (Int.gcd w x : Int) * sgn w := by
    unfold com
    simp
  rw [e] at h
  have h0 : (0 : Int).fdiv ((Int.gcd w x : Int) * sgn w) = 0 := Int.zero_fdiv _
  rw [h0] at h
  refine ⟨h.pos, h.ex, ?_, h.la, h.lc⟩
  have := h.low
  rw [Int.gcd_zero, gcd_abs_left] at this
  exact this
end MA
namespace MA
theorem isPt_same {x y w a b c x' y' w' a' b' c' : Int} (h : IsPt x y w a b c) (k : IsPt x' y' w' a' b' c') (hw : w ≠ 0) (hw' : w' ≠ 0) (e1 : x * w' = x' * w) (e2 : y * w' = y' * w) : a = a' ∧ b = b' ∧ c = c' := by
  have f1 : a * c' = a' * c := by
    have h1 := h.ex
    have h2 := k.ex
    have : (w * w') * (a * c' - a' * c) = 0 := by grind
    rcases Int.mul_eq_zero.mp this with z | z
    · rcases Int.mul_eq_zero.mp z with z | z
      · exact absurd z hw
      · exact absurd z hw'
    · omega
  have f2 : b * c' = b' * c := by
    have h1 := h.ey
    have h2 := k.ey
    have : (w * w') * (b * c' - b' * c) = 0 := by grind
    rcases Int.mul_eq_zero.mp this with z | z
    · rcases Int.mul_eq_zero.mp z with z | z
      · exact absurd z hw
      · exact absurd z hw'
    · omega
  have dv : ∀ {a b c a' b' c' : Int}, Int.gcd (Int.gcd a b) c = 1 → a * c' = a' * c → b * c' = b' * c → c ∣ c' := by
    intro a b c a' b' c' hl e1 e2
    have d1 : c ∣ a * c' := ⟨a', by rw [e1, Int.mul_comm]⟩
    have d2 : c ∣ b * c' := ⟨b', by rw [e2, Int.mul_comm]⟩
    have d3 : c ∣ (Int.gcd (a * c') (b * c') : Int) := Int.dvd_coe_gcd d1 d2
    rw [Int.gcd_mul_right] at d3
    have d4 : c ∣ ((Int.gcd a b : Int) * (c'.natAbs : Int)) := by
      have := d3
      push_cast at this
      exact this
    have d5 : c ∣ c * (c'.natAbs : Int) := Int.dvd_mul_right _ _
    have d6 : c ∣ (Int.gcd ((Int.gcd a b : Int) * (c'.natAbs : Int)) (c * (c'.natAbs : Int)) : Int) := Int.dvd_coe_gcd d4 d5
    rw [Int.gcd_mul_right, hl] at d6
    simp only [Nat.one_mul, Int.natAbs_natCast] at d6
    exact Int.dvd_natAbs.mp d6
  have g1 : c ∣ c' := dv h.low f1 f2
  have g2 : c' ∣ c := dv k.low f1.symm f2.symm
  have ec : c = c' := Int.dvd_antisymm (by have := h.pos; omega) (by have := k.pos; omega) g1 g2
  subst ec
  have hc := h.pos
  exact ⟨Int.eq_of_mul_eq_mul_right (by omega) f1, Int.eq_of_mul_eq_mul_right (by omega) f2, rfl⟩
theorem isFr_same {x w a c x' w' a' c' : Int} (h : IsFr x w a c) (k : IsFr x' w' a' c') (hw : w ≠ 0) (hw' : w' ≠ 0) (e1 : x * w' = x' * w) : a = a' ∧ c = c' := by
  have p1 : IsPt x 0 w a 0 c := ⟨h.pos, h.ex, by simp, by rw [Int.gcd_zero, gcd_abs_left]; exact h.low, h.la, by simp, h.lc⟩
  have p2 : IsPt x' 0 w' a' 0 c' := ⟨k.pos, k.ex, by simp, by rw [Int.gcd_zero, gcd_abs_left]; exact k.low, k.la, by simp, k.lc⟩
  have := isPt_same p1 p2 hw hw' e1 (by simp)
  exact ⟨this.1, this.2.2⟩
structure IsLn (a b c x y z : Int) : Prop where
  ex : ∃ g : Int, 0 < g ∧ a = g * x ∧ b = g * y ∧ c = g * z ∧ g = (Int.gcd (Int.gcd a b) c : Int)
  low : Int.gcd (Int.gcd x y) z = 1
  la : x.natAbs ≤ a.natAbs
  lb : y.natAbs ≤ b.natAbs
  lc : z.natAbs ≤ c.natAbs
theorem isLn_of {a b c : Int} (h : ¬ (a = 0 ∧ b = 0)) : IsLn a b c (a.fdiv (Int.gcd (Int.gcd a b) c : Int)) (b.fdiv (Int.gcd (Int.gcd a b) c : Int)) (c.fdiv (Int.gcd (Int.gcd a b) c : Int)) ∧ (Int.gcd (Int.gcd a b) c : Int) ≠ 0 := by
  have hne : Int.gcd (Int.gcd a b) c ≠ 0 := by
    intro z
    have z1 := (Int.gcd_eq_zero_iff.mp z).1
    have z2 : Int.gcd a b = 0 := by omega
    exact h (Int.gcd_eq_zero_iff.mp z2)
  have d0 : (Int.gcd (Int.gcd a b) c : Int) ∣ (Int.gcd a b : Int) := Int.gcd_dvd_left _ _
  have da : (Int.gcd (Int.gcd a b) c : Int) ∣ a := Int.dvd_trans d0 (Int.gcd_dvd_left _ _)
  have db : (Int.gcd (Int.gcd a b) c : Int) ∣ b := Int.dvd_trans d0 (Int.gcd_dvd_right _ _)
  have dc : (Int.gcd (Int.gcd a b) c : Int) ∣ c := Int.gcd_dvd_right _ _
  have la := natAbs_ediv_le a _ da
  have lb := natAbs_ediv_le b _ db
  have lc := natAbs_ediv_le c _ dc
  refine ⟨?_, by omega⟩
  rw [fdiv_exact da, fdiv_exact db, fdiv_exact dc]
  generalize hG : (Int.gcd (Int.gcd a b) c : Int) = G at *
  have gp : 0 < G := by omega
  have hG' : Int.gcd (Int.gcd a b) c = G.natAbs := by omega
  have ea : a = G * (a / G) := (Int.mul_ediv_cancel' da).symm
  have eb : b = G * (b / G) := (Int.mul_ediv_cancel' db).symm
  have ec : c = G * (c / G) := (Int.mul_ediv_cancel' dc).symm
  refine ⟨⟨G, gp, ea, eb, ec, hG.symm⟩, ?_, la, lb, lc⟩
  generalize a / G = x at *
  generalize b / G = y at *
  generalize c / G = z at *
  subst ea eb ec
  rw [Int.gcd_mul_left] at hG'
  have e2 : ((G.natAbs * Int.gcd x y : Nat) : Int).gcd (G * z) = G.natAbs * Int.gcd (Int.gcd x y) z := by
    rw [Int.gcd_eq_natAbs_gcd_natAbs, Int.natAbs_mul]
    simp only [Int.natAbs_natCast]
    rw [Nat.gcd_mul_left, Int.gcd_eq_natAbs_gcd_natAbs (Int.gcd x y : Int) z]
    simp
  rw [e2] at hG'
  have : G.natAbs * Int.gcd (Int.gcd x y) z = G.natAbs * 1 := by omega
  exact Nat.eq_of_mul_eq_mul_left (by omega) this
end MA
namespace LW
open PySem L2 MA PyProof.Rows
noncomputable def top (i : Nat) : Stmt := PySem.Challenge.pw_nearlands_k09_whole_three_lines_meet.main.body.getD i (.Pass ⟨0, 0, 0, 0⟩)
noncomputable abbrev s_divisor : Stmt := top 5
noncomputable abbrev s_sign : Stmt := top 6
noncomputable abbrev s_point_of : Stmt := top 8
noncomputable abbrev s_fraction_of : Stmt := top 9
noncomputable abbrev s_turn : Stmt := top 10
noncomputable abbrev s_scaled_square : Stmt := top 11
noncomputable abbrev s_square : Stmt := top 12
noncomputable abbrev s_nearer : Stmt := top 13
noncomputable abbrev s_line_of : Stmt := top 15
noncomputable abbrev s_between : Stmt := top 16
noncomputable abbrev s_excess : Stmt := top 17
noncomputable abbrev s_place : Stmt := top 18
noncomputable abbrev s_meet : Stmt := top 19
noncomputable abbrev s__law_feed : Stmt := top 21
noncomputable abbrev s__law_next : Stmt := top 22
noncomputable abbrev s__law_great : Stmt := top 23
noncomputable abbrev s__law_spots : Stmt := top 24
noncomputable abbrev s_law : Stmt := top 25
theorem hu64 {A : Around} {k : Nat} (hr : Room k A) : A.units + 64 < cLine := hr.units
structure Cz where
structure Txt (K : PySem.W.Frag) (mg : Str → Option Value) (C : Cz) : Prop where
  b_abs : mg "abs" = none
  b_len : mg "len" = none
  b_min : mg "min" = none
  b_range : mg "range" = none
  b_set : mg "set" = none
end LW
namespace LW
open PySem L2 MA PyProof.Rows
noncomputable def sp_divisor : Sp := fun vs H Q _ => ∃ a b : Int, vs = [.int a, .int b] ∧ Q (.int (Int.gcd a b : Int)) H
noncomputable def sp_sign : Sp := fun vs H Q _ => ∃ n : Int, vs = [.int n] ∧ Q (.int (sgn n)) H
noncomputable def sp_point_of : Sp := fun vs H Q _ => ∃ x y w : Int, vs = [.int x, .int y, .int w] ∧ w ≠ 0 ∧ Bd 8000 w ∧
  ∀ p a b c, H p = none → IsPt x y w a b c → Q (.ref p) (upd H p (.tup [.int a, .int b, .int c]))
noncomputable def sp_fraction_of : Sp := fun vs H Q _ => ∃ x w : Int, vs = [.int x, .int w] ∧ w ≠ 0 ∧ Bd 8000 w ∧
  ∀ p a c, H p = none → IsFr x w a c → Q (.ref p) (upd H p (.tup [.int a, .int c]))
noncomputable def det3 (a b c d e f g h i : Int) : Int := a * (e * i - h * f) - b * (d * i - g * f) + c * (d * h - g * e)
noncomputable def sp_turn : Sp := fun vs H Q _ => ∃ (p q r : Addr), vs = [.ref p, .ref q, .ref r] ∧ optK (tup3 (H p)) fun x => optK (tup3 (H q)) fun y => optK (tup3 (H r)) fun z => B3 2000 x ∧ B3 2000 y ∧ B3 2000 z ∧ Q (.int (sgn (det3 x.1 x.2.1 x.2.2 y.1 y.2.1 y.2.2 z.1 z.2.1 z.2.2))) H
noncomputable def sqr (x : Int × Int × Int) (y : Int × Int) : Int := (x.1 - y.1 * x.2.2) ^ 2 + (x.2.1 - y.2 * x.2.2) ^ 2
noncomputable def sp_scaled_square : Sp := fun vs H Q _ => ∃ (p q : Addr), vs = [.ref p, .ref q] ∧ optK (tup3 (H p)) fun x => optK (tup2 (H q)) fun y => B3 2000 x ∧ B2 2000 y ∧ Q (.int (sqr x y)) H
noncomputable def sp_square : Sp := fun vs H Q _ => ∃ (p q : Addr), vs = [.ref p, .ref q] ∧ optK (tup3 (H p)) fun x => optK (tup2 (H q)) fun y => B3 2000 x ∧ B2 2000 y ∧ 0 < x.2.2 ∧ ∀ t a c, H t = none → IsFr (sqr x y) (x.2.2 ^ 2) a c → Q (.ref t) (upd H t (.tup [.int a, .int c]))
noncomputable def sp_nearer : Sp := fun vs H Q _ => ∃ (p q r : Addr), vs = [.ref p, .ref q, .ref r] ∧ optK (tup3 (H p)) fun x => optK (tup2 (H q)) fun y => optK (tup2 (H r)) fun z => B3 2000 x ∧ B2 2000 y ∧ B2 2000 z ∧ Q (.int (sgn (sqr x y - sqr x z))) H
noncomputable def sp_line_of : Sp := fun vs H Q _ => ∃ a b c : Int, vs = [.int a, .int b, .int c] ∧ ¬ (a = 0 ∧ b = 0) ∧ (Bd 4000 a ∧ Bd 4000 b ∧ Bd 4000 c) ∧
  ∀ p x y z, H p = none → IsLn a b c x y z → Q (.ref p) (upd H p (.tup [.int x, .int y, .int z]))
noncomputable def BtwOk (x y : Int × Int) (H : Hp) (Q : VK) : Prop := ¬ x = y ∧ ∀ t a b c, H t = none → IsLn (2 * (y.1 - x.1)) (2 * (y.2 - x.2)) (y.1 * y.1 + y.2 * y.2 - x.1 * x.1 - x.2 * x.2) a b c → Q (.ref t) (upd H t (.tup [.int a, .int b, .int c]))
noncomputable def sp_between : Sp := fun vs H Q _ => ∃ (p q : Addr), vs = [.ref p, .ref q] ∧ optK (tup2 (H p)) fun x => optK (tup2 (H q)) fun y => B2 400 x ∧ B2 400 y ∧ BtwOk x y H Q
noncomputable def exc3 (x y : Int × Int × Int) : Int := x.1 * y.1 + x.2.1 * y.2.1 - x.2.2 * y.2.2
noncomputable def sp_excess : Sp := fun vs H Q _ => ∃ (p q : Addr), vs = [.ref p, .ref q] ∧ optK (tup3 (H p)) fun x => optK (tup3 (H q)) fun y => B3 2000 x ∧ B3 2000 y ∧ Q (.int (exc3 x y)) H
noncomputable def sp_place : Sp := fun vs H Q _ => ∃ (p q : Addr), vs = [.ref p, .ref q] ∧ optK (tup3 (H p)) fun x => optK (tup3 (H q)) fun y => B3 2000 x ∧ B3 2000 y ∧ Q (.int (sgn (exc3 x y))) H
noncomputable def MeetOk (x y : Int × Int × Int) (H : Hp) (Q : VK) : Prop := (x.1 * y.2.1 = x.2.1 * y.1 → Q .non H) ∧
  (¬ x.1 * y.2.1 = x.2.1 * y.1 → ∀ t a b c, H t = none → IsPt (x.2.2 * y.2.1 - x.2.1 * y.2.2) (x.1 * y.2.2 - x.2.2 * y.1) (x.1 * y.2.1 - x.2.1 * y.1) a b c → Q (.ref t) (upd H t (.tup [.int a, .int b, .int c])))
noncomputable def sp_meet : Sp := fun vs H Q _ => ∃ (p q : Addr), vs = [.ref p, .ref q] ∧ optK (tup3 (H p)) fun x => optK (tup3 (H q)) fun y => B3 1000 x ∧ B3 1000 y ∧ MeetOk x y H Q
noncomputable def sp_feed (K : PySem.W.Frag) : Sp := fun vs H Q _ => ∃ (a : Addr) (ns : List Int) (k : Int), vs = [.ref a, .int k] ∧ SqL K H a (ns.map V.int) ∧ ∀ p x y z, H p = none → Q (.ref p) (upd H p (.lst [.int x, .int y, .int z]))
noncomputable def sp_next : Sp := fun vs H Q _ => ∃ (p : Addr) (m : Int), vs = [.ref p, .int m] ∧ Feed H p ∧ 0 < m ∧ m < 10000000000000000000000000000000000000000 ∧ ∀ r H', 0 ≤ r → r < m → FX p H H' → Q (.int r) H'
noncomputable def sp_great : Sp := fun vs H Q _ => ∃ (p : Addr) (far : Int), vs = [.ref p, .int far] ∧ Feed H p ∧ 0 ≤ far ∧ ∀ r H', -far ≤ r → r ≤ far → FX p H H' → Q (.int r) H'
theorem bdm2 {n : Nat} {a b : Int} (h : Bd n a) (k : Bd n b) : Bd (n + 1) (a - b) := by
  unfold Bd at *
  have : 2 ^ (n + 1) = 2 ^ n * 2 := Nat.pow_succ ..
  omega
theorem bd4 {n : Nat} {a b c d : Int} (h : Bd n a) (k : Bd n b) (l : Bd n c) (m : Bd n d) : Bd (n + 2) (a + b - c - d) := by
  unfold Bd at *
  have : 2 ^ (n + 2) = 2 ^ n * 4 := by rw [Nat.pow_add]
  omega
theorem bd5 {x y s : Int} (h : Bd 97 x) (k : Bd 97 y) (h1 : -2 ≤ s) (h2 : s ≤ 2) : Bd 100 (x + s * (y - x)) := by
  unfold Bd at *
  have : (2 : Nat) ^ 100 = 2 ^ 97 * 8 := by decide
  have : s = -2 ∨ s = -1 ∨ s = 0 ∨ s = 1 ∨ s = 2 := by omega
  rcases this with rfl | rfl | rfl | rfl | rfl <;> omega
noncomputable def T2 (n : Nat) (H : Hp) (v : V) : Prop := ∃ q x y, v = .ref q ∧ H q = some (.tup [.int x, .int y]) ∧ Bd n x ∧ Bd n y
theorem T2.ext {n : Nat} {H H' : Hp} {v : V} (h : T2 n H v) (e : Ext H H') : T2 n H' v := by
  obtain ⟨q, x, y, a, b, c⟩ := h
  exact ⟨q, x, y, a, e _ _ b, c⟩
theorem T2.fx {n : Nat} {p : Addr} {H H' : Hp} {v : V} (hF : Feed H p) (h : T2 n H v) (e : FX p H H') : T2 n H' v := by
  obtain ⟨q, x, y, a, b, c⟩ := h
  obtain ⟨_, _, _, z⟩ := hF
  exact ⟨q, x, y, a, e.keep _ _ (ne_of b z (by intro u; cases u)) b, c⟩
theorem T2.setL {n : Nat} {H : Hp} {v : V} {D : Addr} {xs ys : List V} (h : T2 n H v) (hD : H D = some (.lst xs)) : T2 n (upd H D (.lst ys)) v := by
  obtain ⟨q, x, y, a, b, c⟩ := h
  exact ⟨q, x, y, a, (upd_ne (ne_of b hD (by intro u; cases u))).trans b, c⟩
theorem T2.mono {m n : Nat} {H : Hp} {v : V} (h : T2 m H v) (hm : m ≤ n) : T2 n H v := by
  obtain ⟨q, x, y, a, b, c, d⟩ := h
  exact ⟨q, x, y, a, b, c.mono hm, d.mono hm⟩
structure S3 (n : Nat) (H : Hp) (D : Addr) (v1 v2 v3 : V) : Prop where
  at_ : H D = some (.lst [v1, v2, v3])
  one : T2 n H v1
  two : T2 n H v2
  three : T2 n H v3
theorem S3.fx {n : Nat} {p : Addr} {H H' : Hp} {D : Addr} {v1 v2 v3 : V} (hF : Feed H p) (nD : D ≠ p) (h : S3 n H D v1 v2 v3) (e : FX p H H') : S3 n H' D v1 v2 v3 :=
  ⟨e.keep D _ nD h.at_, h.one.fx hF e, h.two.fx hF e, h.three.fx hF e⟩
theorem S3.mono {m n : Nat} {H : Hp} {D : Addr} {v1 v2 v3 : V} (h : S3 m H D v1 v2 v3) (hm : m ≤ n) : S3 n H D v1 v2 v3 := ⟨h.at_, h.one.mono hm, h.two.mono hm, h.three.mono hm⟩
noncomputable def sp_spots : Sp := fun vs H Q _ => ∃ (p : Addr), vs = [.ref p] ∧ Feed H p ∧ ∀ t v1 v2 v3 H', FX p H H' → S3 100 H' t v1 v2 v3 → Q (.ref t) H'
noncomputable def sp_law (K : PySem.W.Frag) : Sp := fun vs H Q _ => ∃ (a : Addr) (ns : List Int), vs = [.ref a] ∧ SqL K H a (ns.map V.int) ∧ ns.length ≤ 63 ∧ ∀ H', Q (.bl true) H'
noncomputable abbrev BL (x y : Int × Int) (a b c : Int) : Prop := IsLn (2 * (y.1 - x.1)) (2 * (y.2 - x.2)) (y.1 * y.1 + y.2 * y.2 - x.1 * x.1 - x.2 * x.2) a b c
theorem btw_g {x y : Int × Int} {a b c : Int} (hl : BL x y a b c) (z : Int × Int × Int) : ∃ g : Int, 0 < g ∧ g * exc3 (a, b, c) z = 2 * (y.1 - x.1) * z.1 + 2 * (y.2 - x.2) * z.2.1 - (y.1 * y.1 + y.2 * y.2 - x.1 * x.1 - x.2 * x.2) * z.2.2 := by
  obtain ⟨g, hg, ea, eb, ec, _⟩ := hl.ex
  refine ⟨g, hg, ?_⟩
  rw [ea, eb, ec]
  show g * (a * z.1 + b * z.2.1 - c * z.2.2) = _
  grind
structure S9 (K : PySem.W.Frag) (ns : List Int) (a q1 q2 q3 : Addr) (x y z : Int × Int) (H : Hp) : Prop where
  s : SqL K H a (ns.map V.int)
  e1 : H q1 = some (.tup [.int x.1, .int x.2])
  e2 : H q2 = some (.tup [.int y.1, .int y.2])
  e3 : H q3 = some (.tup [.int z.1, .int z.2])
  bx : B2 100 x
  by_ : B2 100 y
  bz : B2 100 z
theorem S9.ext {K : PySem.W.Frag} {ns : List Int} {a q1 q2 q3 : Addr} {x y z : Int × Int} {H H' : Hp} (h : S9 K ns a q1 q2 q3 x y z H) (e : Ext H H') : S9 K ns a q1 q2 q3 x y z H' :=
  ⟨e.sqL h.s, e _ _ h.e1, e _ _ h.e2, e _ _ h.e3, h.bx, h.by_, h.bz⟩
theorem BL.bd {x y : Int × Int} {a b c : Int} (bx : B2 100 x) (by' : B2 100 y) (h : BL x y a b c) : B3 210 (a, b, c) := by
  have two : Bd 2 2 := Bd.of_le 2 (by decide) (by decide) (by decide)
  refine ⟨?_, ?_, ?_⟩
  · exact Nat.lt_of_le_of_lt h.la (Bd.mono (two.mul (bdm2 by'.1 bx.1)) (by decide))
  · exact Nat.lt_of_le_of_lt h.lb (Bd.mono (two.mul (bdm2 by'.2 bx.2)) (by decide))
  · exact Nat.lt_of_le_of_lt h.lc (Bd.mono (bd4 (by'.1.mul by'.1) (by'.2.mul by'.2) (bx.1.mul bx.1) (bx.2.mul bx.2)) (by decide))
noncomputable abbrev P3' := Int × Int × Int
structure L9 (x y z : Int × Int) (L l1 l2 l3 : Addr) (A B C : P3') (H : Hp) : Prop where
  at_ : H L = some (.lst [.ref l1, .ref l2, .ref l3])
  e1 : H l1 = some (.tup [.int A.1, .int A.2.1, .int A.2.2])
  e2 : H l2 = some (.tup [.int B.1, .int B.2.1, .int B.2.2])
  e3 : H l3 = some (.tup [.int C.1, .int C.2.1, .int C.2.2])
  b1 : BL x y A.1 A.2.1 A.2.2
  b2 : BL y z B.1 B.2.1 B.2.2
  b3 : BL z x C.1 C.2.1 C.2.2
  c1 : B3 210 A
  c2 : B3 210 B
  c3 : B3 210 C
theorem L9.ext {x y z : Int × Int} {L l1 l2 l3 : Addr} {A B C : P3'} {H H' : Hp} (h : L9 x y z L l1 l2 l3 A B C H) (e : Ext H H') : L9 x y z L l1 l2 l3 A B C H' :=
  ⟨e _ _ h.at_, e _ _ h.e1, e _ _ h.e2, e _ _ h.e3, h.b1, h.b2, h.b3, h.c1, h.c2, h.c3⟩
theorem sgn_zero_iff {n : Int} : sgn n = 0 ↔ n = 0 := by
  rcases Int.lt_trichotomy n 0 with h | h | h
  · rw [sgn_neg h]; omega
  · subst h; simp [sgn_zero]
  · rw [sgn_pos h]; omega
noncomputable def dt2 (x y z : Int × Int) : Int := (y.1 - x.1) * (z.2 - x.2) - (y.2 - x.2) * (z.1 - x.1)
noncomputable def NX (x y z : Int × Int) : Int := (y.1 * y.1 + y.2 * y.2 - x.1 * x.1 - x.2 * x.2) * (2 * (z.2 - y.2)) - 2 * (y.2 - x.2) * (z.1 * z.1 + z.2 * z.2 - y.1 * y.1 - y.2 * y.2)
noncomputable def NY (x y z : Int × Int) : Int := 2 * (y.1 - x.1) * (z.1 * z.1 + z.2 * z.2 - y.1 * y.1 - y.2 * y.2) - (y.1 * y.1 + y.2 * y.2 - x.1 * x.1 - x.2 * x.2) * (2 * (z.1 - y.1))
theorem NX_turn (x y z : Int × Int) : NX y z x = NX x y z := by unfold NX; grind
theorem NY_turn (x y z : Int × Int) : NY y z x = NY x y z := by unfold NY; grind
theorem dt2_turn (x y z : Int × Int) : dt2 y z x = dt2 x y z := by unfold dt2; grind
theorem cross_of {x y z : Int × Int} {a b c d e f : Int} (h : BL x y a b c) (k : BL y z d e f) : ∃ g : Int, 0 < g ∧ g * (c * e - b * f) = NX x y z ∧ g * (a * f - c * d) = NY x y z ∧ g * (a * e - b * d) = 4 * dt2 x y z := by
  obtain ⟨g, hg, ea, eb, ec, _⟩ := h.ex
  obtain ⟨g', hg', ea', eb', ec', _⟩ := k.ex
  refine ⟨g * g', Int.mul_pos hg hg', ?_, ?_, ?_⟩
  · unfold NX
    rw [ec, eb, eb', ec']
    grind
  · unfold NY
    rw [ea, ec, ec', ea']
    grind
  · have e4 : 4 * dt2 x y z = 2 * (y.1 - x.1) * (2 * (z.2 - y.2)) - 2 * (y.2 - x.2) * (2 * (z.1 - y.1)) := by unfold dt2; grind
    rw [e4, ea, eb, ea', eb']
    grind
theorem cross_zero {x y z : Int × Int} {a b c d e f : Int} (h : BL x y a b c) (k : BL y z d e f) : a * e = b * d ↔ dt2 x y z = 0 := by
  obtain ⟨g, hg, _, _, e3⟩ := cross_of h k
  constructor
  · intro q
    have : g * (a * e - b * d) = 0 := by rw [q, Int.sub_self, Int.mul_zero]
    omega
  · intro q
    rw [q, Int.mul_zero] at e3
    rcases Int.mul_eq_zero.mp e3 with z | z
    · omega
    · omega
theorem scale_eq {g g' n m u v u' v' : Int} (hg : 0 < g) (hg' : 0 < g') (e1 : g * u = n) (e2 : g * v = m) (e3 : g' * u' = n) (e4 : g' * v' = m) : u * v' = u' * v := by
  have h : (g * g') * (u * v' - u' * v) = 0 := by grind
  rcases Int.mul_eq_zero.mp h with z | z
  · have := Int.mul_pos hg hg'
    omega
  · omega
theorem meet_same {x y z : Int × Int} {a b c d e f u v t p q r p' q' r' : Int} (h : BL x y a b c) (k : BL y z d e f) (l : BL z x u v t) (hd : dt2 x y z ≠ 0) (h1 : IsPt (c * e - b * f) (a * f - c * d) (a * e - b * d) p q r) (h2 : IsPt (f * v - e * t) (d * t - f * u) (d * v - e * u) p' q' r') : p = p' ∧ q = q' ∧ r = r' := by
  obtain ⟨g, hg, e1, e2, e3⟩ := cross_of h k
  obtain ⟨g', hg', e4, e5, e6⟩ := cross_of k l
  rw [NX_turn] at e4
  rw [NY_turn] at e5
  rw [dt2_turn] at e6
  have n1 : a * e - b * d ≠ 0 := fun z => by rw [z, Int.mul_zero] at e3; omega
  have n2 : d * v - e * u ≠ 0 := fun z => by rw [z, Int.mul_zero] at e6; omega
  exact isPt_same h1 h2 n1 n2 (scale_eq hg hg' e1 e3 e4 e6) (scale_eq hg hg' e2 e3 e5 e6)
theorem on_two {a b c d e f p q r : Int} (n : a * e - b * d ≠ 0) (h : IsPt (c * e - b * f) (a * f - c * d) (a * e - b * d) p q r) : exc3 (a, b, c) (p, q, r) = 0 ∧ exc3 (d, e, f) (p, q, r) = 0 := by
  have h1 := h.ex
  have h2 := h.ey
  have k1 : (a * e - b * d) * exc3 (a, b, c) (p, q, r) = 0 := by unfold exc3; dsimp only; grind
  have k2 : (a * e - b * d) * exc3 (d, e, f) (p, q, r) = 0 := by unfold exc3; dsimp only; grind
  exact ⟨(Int.mul_eq_zero.mp k1).resolve_left n, (Int.mul_eq_zero.mp k2).resolve_left n⟩
theorem way_same {x y : Int × Int} {a b c : Int} {z : Int × Int × Int} (h : BL x y a b c) (e : exc3 (a, b, c) z = 0) : sqr z x = sqr z y := by
  obtain ⟨g, hg, e1⟩ := btw_g h z
  rw [e, Int.mul_zero] at e1
  unfold sqr
  grind
theorem third_on {x y z : Int × Int} {a b c d e f u v t : Int} {P : Int × Int × Int} (h : BL x y a b c) (k : BL y z d e f) (l : BL z x u v t) (e1 : exc3 (a, b, c) P = 0) (e2 : exc3 (d, e, f) P = 0) : exc3 (u, v, t) P = 0 := by
  obtain ⟨g, hg, r1⟩ := btw_g h P
  obtain ⟨g', hg', r2⟩ := btw_g k P
  obtain ⟨g2, hg2, r3⟩ := btw_g l P
  rw [e1, Int.mul_zero] at r1
  rw [e2, Int.mul_zero] at r2
  have : g2 * exc3 (u, v, t) P = 0 := by grind
  rcases Int.mul_eq_zero.mp this with z | z
  · omega
  · exact z
structure M9 (A B C : P3') (P t1 t2 t3 : Addr) (p : P3') (H : Hp) : Prop where
  at_ : H P = some (.lst [.ref t1, .ref t2, .ref t3])
  e1 : H t1 = some (.tup [.int p.1, .int p.2.1, .int p.2.2])
  e2 : H t2 = some (.tup [.int p.1, .int p.2.1, .int p.2.2])
  e3 : H t3 = some (.tup [.int p.1, .int p.2.1, .int p.2.2])
  o1 : exc3 A p = 0
  o2 : exc3 B p = 0
  o3 : exc3 C p = 0
  pos : 0 < p.2.2
  bd : B3 500 p
theorem M9.ext {A B C : P3'} {P t1 t2 t3 : Addr} {p : P3'} {H H' : Hp} (h : M9 A B C P t1 t2 t3 p H) (e : Ext H H') : M9 A B C P t1 t2 t3 p H' :=
  ⟨e _ _ h.at_, e _ _ h.e1, e _ _ h.e2, e _ _ h.e3, h.o1, h.o2, h.o3, h.pos, h.bd⟩
theorem meet_bd {A B : P3'} {p q r : Int} (hA : B3 210 A) (hB : B3 210 B) (h : IsPt (A.2.2 * B.2.1 - A.2.1 * B.2.2) (A.1 * B.2.2 - A.2.2 * B.1) (A.1 * B.2.1 - A.2.1 * B.1) p q r) : B3 500 (p, q, r) :=
  ⟨Nat.lt_of_le_of_lt h.la (Bd.mono (bdm2 (hA.2.2.mul hB.2.1) (hA.2.1.mul hB.2.2)) (by decide)), Nat.lt_of_le_of_lt h.lb (Bd.mono (bdm2 (hA.1.mul hB.2.2) (hA.2.2.mul hB.1)) (by decide)), Nat.lt_of_le_of_lt h.lc (Bd.mono (bdm2 (hA.1.mul hB.2.1) (hA.2.1.mul hB.1)) (by decide))⟩
end LW
namespace LW
open PySem L2 MA PyProof.Rows
section
variable {P : Program} {w : World} {K : PySem.W.Frag} {mg : Str → Option Value} {base : Heap}
theorem sc_divisor : FnScope ["one", "other"] ["one", "other"] (defScope s_divisor) := ⟨rfl, rfl, rfl, by decide +kernel, rfl, by decide +kernel, by decide +kernel⟩
set_option maxHeartbeats 0 in
theorem ok_divisor {C : Cz} {f : Addr} {fd : FuncData} (F : Fun K "divisor" "divisor" s_divisor f fd) (T : Txt K mg C)  : FnOk P w K mg base (CXE P w) 1 f fd ["one", "other"] sp_divisor := by
  refine okN F (k := 0) sc_divisor (fun vs H Q E h => ?_) (fun cdv A outer s H vs Q E hr h => ?_)
  · obtain ⟨a, b, rfl, _⟩ := h
    rfl
  · obtain ⟨a, b, rfl, h⟩ := h
    refine' ⟨_, ?main, ?rest⟩
    case main =>
     refine' pss_cons ?c1 ?c2
     case c1 =>
      refine' ps_set (i := 0) sc_divisor.nd rfl (Or.inl rfl) ?c3
      case c3 =>
       refine' pe_callB call_abs (by rfl) T.b_abs boot_abs ?c4
       case c4 =>
        exact (pa_cons (pv 0) pa_nil)
     case c2 =>
      refine' pss_cons ?c5 ?c6
      case c5 =>
       refine' ps_set (i := 1) sc_divisor.nd rfl (Or.inl rfl) ?c7
       case c7 =>
        refine' pe_callB call_abs (by rfl) T.b_abs boot_abs ?c8
        case c8 =>
         exact (pa_cons (pv 1) pa_nil)
      case c6 =>
       refine' pss_cons ?c9 ?c10
       case c9 =>
        refine' ps_while PassesOwn.never ?c11 ?c12
        case c11 =>
         exact (pt_cmpR op_ne (pv 1) pe_int (nomark _))
        case c12 =>
         refine' pss_one ?c13
         case c13 =>
          refine' ps_par (i := 0) (j := 1) rfl sc_divisor.nd rfl rfl (by decide) rfl rfl ?c14 rfl
          case c14 =>
           refine' pa_cons (pv 1) ?c15
           case c15 =>
            exact (pa_cons (pe_op op_mod (pv 0) (pv 1)) pa_nil)
       case c10 =>
        exact (pss_one (ps_ret (pv 0)))
    case rest =>
     simp only [L2.start, List.map_cons, List.map_nil, List.length_cons, List.length_nil, Nat.reduceAdd, Nat.reduceSub, List.replicate_succ, List.replicate_zero, List.cons_append, List.nil_append, List.append_nil]
     simp only [tSeq, List.cons_inj_right, tNext, tIfS, tTest, tOp, tUn, rI, rI0, rU, tVar, tC, tAsg, gName, tRet, tRetN, tDrop, tCall, tCons, tNil, tCB, tTup, tLst, rEq, rNe, ixF, setF, gSub, tPar, tNot, tAnd, tOr, tB, tNotV, tAndV, tOrV, tIf, List.append_nil, List.getElem?_cons_zero, List.getElem?_cons_succ, List.set_cons_zero, List.set_cons_succ, Option.some.injEq, V.int.injEq, V.bl.injEq, V.ref.injEq, exists_eq_left', exists_eq_left, exists_eq_right, exists_and_left, exists_and_right, and_true, true_and, and_assoc, List.cons.injEq, optK_some, seqOf_l, seqOf_t, tYes, tIsN, tNotN, rLenK, tML, tML0, appR, popR, clrR, catF, listF, lenF, slF, tSl, tPart, tNoPart, tyN, isiF, isiT_1, isiT_2, isiT_3, isiT_4, isiT_5, isiT_6, isiT_7, lstOf_l, tup3_some, tup2_some, Option.isSome_some, List.dropLast, List.getLast?, L2.stLC, frV, List.map_cons, List.map_nil, List.replicate_succ, List.replicate_zero, List.cons_append, List.nil_append, List.drop_succ_cons, List.drop_zero, Option.join_some, atI_0, atI_1, atI_2, atI_3, scal, if_true, if_false, Bool.false_eq_true, Bool.true_eq_false, reduceIte, reduceCtorEq, decide_eq_true_eq, Bool.not_eq_true', decide_eq_false_iff_not, eq_self, List.length_cons, List.length_nil, Nat.zero_add, Nat.reduceAdd, Nat.reduceLT, upd_same, Int.cast_ofNat_Int, Int.reduceToNat, Int.reducePow, Int.reduceLE, Int.reduceLT, Int.reduceSub, Int.reduceAdd, Int.reduceMul, Int.reduceNeg, bd10, bd64, bd2, bd3, bd4, ixN_3_0, ixN_3_1, ixN_3_2, ixN_2_0, ixN_2_1, ixN_4_0, ixN_4_1, ixN_4_2, ixN_4_3, ne_eq, Int.reduceEq, not_false_eq_true, not_true_eq_false, false_or, or_false, false_and, and_false, exists_false, exists_const, tCont, tRaise, tRaise0, tTry, tCallS, goneEnds, tPar3, tDg, tDp, dkOf_k, tDisp, tPairs, tDpT, tDNewT]
     refine ⟨fun m σ H' => ∃ x y : Int, σ = [some (.int x), some (.int y)] ∧ H' = H ∧ 0 ≤ x ∧ 0 ≤ y ∧ Int.gcd x y = Int.gcd a b ∧ m = y.toNat, ⟨_, _, _, rfl, rfl, ?_, ?_, ?_, rfl⟩, ?_⟩
     · show 0 ≤ ab a
       rw [ab_eq]; omega
     · show 0 ≤ ab b
       rw [ab_eq]; omega
     · show Int.gcd (ab a) (ab b) = _
       rw [ab_eq, ab_eq, gcd_abs_left, gcd_abs_right]
     · rintro m σ H' ⟨x, y, rfl, rfl, hx, hy, hg, rfl⟩
       simp only [tSeq, List.cons_inj_right, tNext, tIfS, tTest, tOp, tUn, rI, rI0, rU, tVar, tC, tAsg, gName, tRet, tRetN, tDrop, tCall, tCons, tNil, tCB, tTup, tLst, rEq, rNe, ixF, setF, gSub, tPar, tNot, tAnd, tOr, tB, tNotV, tAndV, tOrV, tIf, List.append_nil, List.getElem?_cons_zero, List.getElem?_cons_succ, List.set_cons_zero, List.set_cons_succ, Option.some.injEq, V.int.injEq, V.bl.injEq, V.ref.injEq, exists_eq_left', exists_eq_left, exists_eq_right, exists_and_left, exists_and_right, and_true, true_and, and_assoc, List.cons.injEq, optK_some, seqOf_l, seqOf_t, tYes, tIsN, tNotN, rLenK, tML, tML0, appR, popR, clrR, catF, listF, lenF, slF, tSl, tPart, tNoPart, tyN, isiF, isiT_1, isiT_2, isiT_3, isiT_4, isiT_5, isiT_6, isiT_7, lstOf_l, tup3_some, tup2_some, Option.isSome_some, List.dropLast, List.getLast?, L2.stLC, frV, List.map_cons, List.map_nil, List.replicate_succ, List.replicate_zero, List.cons_append, List.nil_append, List.drop_succ_cons, List.drop_zero, Option.join_some, atI_0, atI_1, atI_2, atI_3, scal, if_true, if_false, Bool.false_eq_true, Bool.true_eq_false, reduceIte, reduceCtorEq, decide_eq_true_eq, Bool.not_eq_true', decide_eq_false_iff_not, eq_self, List.length_cons, List.length_nil, Nat.zero_add, Nat.reduceAdd, Nat.reduceLT, upd_same, Int.cast_ofNat_Int, Int.reduceToNat, Int.reducePow, Int.reduceLE, Int.reduceLT, Int.reduceSub, Int.reduceAdd, Int.reduceMul, Int.reduceNeg, bd10, bd64, bd2, bd3, bd4, ixN_3_0, ixN_3_1, ixN_3_2, ixN_2_0, ixN_2_1, ixN_4_0, ixN_4_1, ixN_4_2, ixN_4_3, ne_eq, Int.reduceEq, not_false_eq_true, not_true_eq_false, false_or, or_false, false_and, and_false, exists_false, exists_const, tCont, tRaise, tRaise0, tTry, tCallS, goneEnds, tPar3, tDg, tDp, dkOf_k, tDisp, tPairs, tDpT, tDNewT]
       by_cases hy0 : y = 0
       · subst hy0
         rw [if_neg (by simp)]
         have e := gcd_zero hx
         rw [hg] at e
         rw [e] at h
         exact h
       · rw [if_pos (by simpa using hy0)]
         have hp : 0 < y := by omega
         refine ⟨fun σ' H1 => ∃ x y' : Int, σ' = [some (.int x), some (.int y')] ∧ H1 = H' ∧ 0 ≤ x ∧ 0 ≤ y' ∧ Int.gcd x y' = Int.gcd a b ∧ y' < y, ?_, ?_⟩
         · rintro σ' H1 ⟨x, y', rfl, rfl, h1, h2, h3, h4⟩
           exact ⟨y'.toNat, by omega, x, y', rfl, rfl, h1, h2, h3, rfl⟩
         · simp only [tSeq, List.cons_inj_right, tNext, tIfS, tTest, tOp, tUn, rI, rI0, rU, tVar, tC, tAsg, gName, tRet, tRetN, tDrop, tCall, tCons, tNil, tCB, tTup, tLst, rEq, rNe, ixF, setF, gSub, tPar, tNot, tAnd, tOr, tB, tNotV, tAndV, tOrV, tIf, List.append_nil, List.getElem?_cons_zero, List.getElem?_cons_succ, List.set_cons_zero, List.set_cons_succ, Option.some.injEq, V.int.injEq, V.bl.injEq, V.ref.injEq, exists_eq_left', exists_eq_left, exists_eq_right, exists_and_left, exists_and_right, and_true, true_and, and_assoc, List.cons.injEq, optK_some, seqOf_l, seqOf_t, tYes, tIsN, tNotN, rLenK, tML, tML0, appR, popR, clrR, catF, listF, lenF, slF, tSl, tPart, tNoPart, tyN, isiF, isiT_1, isiT_2, isiT_3, isiT_4, isiT_5, isiT_6, isiT_7, lstOf_l, tup3_some, tup2_some, Option.isSome_some, List.dropLast, List.getLast?, L2.stLC, frV, List.map_cons, List.map_nil, List.replicate_succ, List.replicate_zero, List.cons_append, List.nil_append, List.drop_succ_cons, List.drop_zero, Option.join_some, atI_0, atI_1, atI_2, atI_3, scal, if_true, if_false, Bool.false_eq_true, Bool.true_eq_false, reduceIte, reduceCtorEq, decide_eq_true_eq, Bool.not_eq_true', decide_eq_false_iff_not, eq_self, List.length_cons, List.length_nil, Nat.zero_add, Nat.reduceAdd, Nat.reduceLT, upd_same, Int.cast_ofNat_Int, Int.reduceToNat, Int.reducePow, Int.reduceLE, Int.reduceLT, Int.reduceSub, Int.reduceAdd, Int.reduceMul, Int.reduceNeg, bd10, bd64, bd2, bd3, bd4, ixN_3_0, ixN_3_1, ixN_3_2, ixN_2_0, ixN_2_1, ixN_4_0, ixN_4_1, ixN_4_2, ixN_4_3, ne_eq, Int.reduceEq, not_false_eq_true, not_true_eq_false, false_or, or_false, false_and, and_false, exists_false, exists_const, tCont, tRaise, tRaise0, tTry, tCallS, goneEnds, tPar3, tDg, tDp, dkOf_k, tDisp, tPairs, tDpT, tDNewT]
           exact ⟨hp, hy, Int.emod_nonneg _ hy0, by rw [gcd_step hp]; exact hg, Int.emod_lt_of_pos _ hp⟩
end
end LW
namespace LW
open PySem L2 MA PyProof.Rows
section
variable {P : Program} {w : World} {K : PySem.W.Frag} {mg : Str → Option Value} {base : Heap}
theorem sc_sign : FnScope ["number"] ["number"] (defScope s_sign) := ⟨rfl, rfl, rfl, by decide +kernel, rfl, by decide +kernel, by decide +kernel⟩
set_option maxHeartbeats 0 in
theorem ok_sign {C : Cz} {f : Addr} {fd : FuncData} (F : Fun K "sign" "sign" s_sign f fd) (T : Txt K mg C)  : FnOk P w K mg base (CXE P w) 1 f fd ["number"] sp_sign := by
  refine okN F (k := 0) sc_sign (fun vs H Q E h => ?_) (fun cdv A outer s H vs Q E hr h => ?_)
  · obtain ⟨n, rfl, _⟩ := h
    rfl
  · obtain ⟨n, rfl, h⟩ := h
    refine' ⟨_, ?main, ?rest⟩
    case main =>
     refine' pss_cons ?c1 ?c2
     case c1 =>
      refine' ps_if ?c3 ?c4 pss_nil
      case c3 =>
       exact (pt_cmpR op_lt (pv 0) pe_int (nomark _))
      case c4 =>
       refine' pss_one ?c5
       case c5 =>
        refine' ps_ret ?c6
        case c6 =>
         exact (pe_un un_neg pe_int)
     case c2 =>
      refine' pss_cons ?c7 ?c8
      case c7 =>
       refine' ps_if ?c9 ?c10 pss_nil
       case c9 =>
        exact (pt_cmpR op_gt (pv 0) pe_int (nomark _))
       case c10 =>
        refine' pss_one ?c11
        case c11 =>
         exact (ps_ret pe_int)
      case c8 =>
       refine' pss_one ?c12
       case c12 =>
        exact (ps_ret pe_int)
    case rest =>
     simp only [L2.start, List.map_cons, List.map_nil, List.length_cons, List.length_nil, Nat.reduceAdd, Nat.reduceSub, List.replicate_succ, List.replicate_zero, List.cons_append, List.nil_append, List.append_nil]
     simp only [tSeq, List.cons_inj_right, tNext, tIfS, tTest, tOp, tUn, rI, rI0, rU, tVar, tC, tAsg, gName, tRet, tRetN, tDrop, tCall, tCons, tNil, tCB, tTup, tLst, rEq, rNe, ixF, setF, gSub, tPar, tNot, tAnd, tOr, tB, tNotV, tAndV, tOrV, tIf, List.append_nil, List.getElem?_cons_zero, List.getElem?_cons_succ, List.set_cons_zero, List.set_cons_succ, Option.some.injEq, V.int.injEq, V.bl.injEq, V.ref.injEq, exists_eq_left', exists_eq_left, exists_eq_right, exists_and_left, exists_and_right, and_true, true_and, and_assoc, List.cons.injEq, optK_some, seqOf_l, seqOf_t, tYes, tIsN, tNotN, rLenK, tML, tML0, appR, popR, clrR, catF, listF, lenF, slF, tSl, tPart, tNoPart, tyN, isiF, isiT_1, isiT_2, isiT_3, isiT_4, isiT_5, isiT_6, isiT_7, lstOf_l, tup3_some, tup2_some, Option.isSome_some, List.dropLast, List.getLast?, L2.stLC, frV, List.map_cons, List.map_nil, List.replicate_succ, List.replicate_zero, List.cons_append, List.nil_append, List.drop_succ_cons, List.drop_zero, Option.join_some, atI_0, atI_1, atI_2, atI_3, scal, if_true, if_false, Bool.false_eq_true, Bool.true_eq_false, reduceIte, reduceCtorEq, decide_eq_true_eq, Bool.not_eq_true', decide_eq_false_iff_not, eq_self, List.length_cons, List.length_nil, Nat.zero_add, Nat.reduceAdd, Nat.reduceLT, upd_same, Int.cast_ofNat_Int, Int.reduceToNat, Int.reducePow, Int.reduceLE, Int.reduceLT, Int.reduceSub, Int.reduceAdd, Int.reduceMul, Int.reduceNeg, bd10, bd64, bd2, bd3, bd4, ixN_3_0, ixN_3_1, ixN_3_2, ixN_2_0, ixN_2_1, ixN_4_0, ixN_4_1, ixN_4_2, ixN_4_3, ne_eq, Int.reduceEq, not_false_eq_true, not_true_eq_false, false_or, or_false, false_and, and_false, exists_false, exists_const, tCont, tRaise, tRaise0, tTry, tCallS, goneEnds, tPar3, tDg, tDp, dkOf_k, tDisp, tPairs, tDpT, tDNewT]
     unfold sgn at h
     split
     · rename_i z
       rw [if_pos z] at h
       exact h
     · rename_i z
       rw [if_neg z] at h
       split
       · rename_i z
         rw [if_pos z] at h
         exact h
       · rename_i z
         rw [if_neg z] at h
         exact h
end
end LW
namespace LW
open PySem L2 MA PyProof.Rows
section
variable {P : Program} {w : World} {K : PySem.W.Frag} {mg : Str → Option Value} {base : Heap}
theorem sc_point_of : FnScope ["x", "y", "w", "common"] ["x", "y", "w"] (defScope s_point_of) := ⟨rfl, rfl, rfl, by decide +kernel, rfl, by decide +kernel, by decide +kernel⟩
set_option maxHeartbeats 0 in
theorem ok_point_of {C : Cz} {f : Addr} {fd : FuncData} (F : Fun K "point_of" "point_of" s_point_of f fd) (T : Txt K mg C) (F_divisor : FnB P w K mg base (CXE P w) 1 "divisor" ["one", "other"] sp_divisor) (F_sign : FnB P w K mg base (CXE P w) 1 "sign" ["number"] sp_sign) : FnOk P w K mg base (CXE P w) 2 f fd ["x", "y", "w"] sp_point_of := by
  refine okN F (k := 1) sc_point_of (fun vs H Q E h => ?_) (fun cdv A outer s H vs Q E hr h => ?_)
  · obtain ⟨x, y, u, rfl, _⟩ := h
    rfl
  · obtain ⟨x, y, u, rfl, h⟩ := h
    refine' ⟨_, ?main, ?rest⟩
    case main =>
     refine' pss_cons ?c1 ?c2
     case c1 =>
      refine' ps_if ?c3 ?c4 pss_nil
      case c3 =>
       exact (pt_cmpR op_eq (pv 2) pe_int (nomark _))
      case c4 =>
       exact (pss_one ps_never)
     case c2 =>
      refine' pss_cons ?c5 ?c6
      case c5 =>
       refine' ps_set (i := 3) sc_point_of.nd rfl (Or.inl rfl) ?c7
       case c7 =>
        refine' pe_op ?c8 ?c9 ?c10
        case c8 => exact op_mulA
        case c9 =>
         refine' pe_fn F_divisor (hr.mono (by decide)) rfl passE0 ?c11
         case c11 =>
          refine' pa_cons ?c12 ?c13
          case c12 =>
           refine' pe_fn F_divisor (hr.mono (by decide)) rfl passE0 ?c14
           case c14 =>
            refine' pa_cons (pv 2) ?c15
            case c15 =>
             exact (pa_cons (pv 0) pa_nil)
          case c13 =>
           exact (pa_cons (pv 1) pa_nil)
        case c10 =>
         refine' pe_fn F_sign (hr.mono (by decide)) rfl passE0 ?c16
         case c16 =>
          exact (pa_cons (pv 2) pa_nil)
      case c6 =>
       refine' pss_one ?c17
       case c17 =>
        refine' ps_ret ?c18
        case c18 =>
         refine' pe_tup ?c19
         case c19 =>
          refine' pa_cons (pe_op op_fdivB (pv 0) (pv 3)) ?c20
          case c20 =>
           refine' pa_cons (pe_op op_fdivB (pv 1) (pv 3)) ?c21
           case c21 =>
            exact (pa_cons (pe_op op_fdivB (pv 2) (pv 3)) pa_nil)
    case rest =>
     obtain ⟨hw, hb, h⟩ := h
     simp only [L2.start, List.map_cons, List.map_nil, List.length_cons, List.length_nil, Nat.reduceAdd, Nat.reduceSub, List.replicate_succ, List.replicate_zero, List.cons_append, List.nil_append, List.append_nil]
     rw [tSeq] 
     simp only [tSeq, List.cons_inj_right, tNext, tIfS, tTest, tOp, tUn, rI, rI0, rU, tVar, tC, tAsg, gName, tRet, tRetN, tDrop, tCall, tCons, tNil, tCB, tTup, tLst, rEq, rNe, ixF, setF, gSub, tPar, tNot, tAnd, tOr, tB, tNotV, tAndV, tOrV, tIf, List.append_nil, List.getElem?_cons_zero, List.getElem?_cons_succ, List.set_cons_zero, List.set_cons_succ, Option.some.injEq, V.int.injEq, V.bl.injEq, V.ref.injEq, exists_eq_left', exists_eq_left, exists_eq_right, exists_and_left, exists_and_right, and_true, true_and, and_assoc, List.cons.injEq, optK_some, seqOf_l, seqOf_t, tYes, tIsN, tNotN, rLenK, tML, tML0, appR, popR, clrR, catF, listF, lenF, slF, tSl, tPart, tNoPart, tyN, isiF, isiT_1, isiT_2, isiT_3, isiT_4, isiT_5, isiT_6, isiT_7, lstOf_l, tup3_some, tup2_some, Option.isSome_some, List.dropLast, List.getLast?, L2.stLC, frV, List.map_cons, List.map_nil, List.replicate_succ, List.replicate_zero, List.cons_append, List.nil_append, List.drop_succ_cons, List.drop_zero, Option.join_some, atI_0, atI_1, atI_2, atI_3, scal, if_true, if_false, Bool.false_eq_true, Bool.true_eq_false, reduceIte, reduceCtorEq, decide_eq_true_eq, Bool.not_eq_true', decide_eq_false_iff_not, eq_self, List.length_cons, List.length_nil, Nat.zero_add, Nat.reduceAdd, Nat.reduceLT, upd_same, Int.cast_ofNat_Int, Int.reduceToNat, Int.reducePow, Int.reduceLE, Int.reduceLT, Int.reduceSub, Int.reduceAdd, Int.reduceMul, Int.reduceNeg, bd10, bd64, bd2, bd3, bd4, ixN_3_0, ixN_3_1, ixN_3_2, ixN_2_0, ixN_2_1, ixN_4_0, ixN_4_1, ixN_4_2, ixN_4_3, ne_eq, Int.reduceEq, not_false_eq_true, not_true_eq_false, false_or, or_false, false_and, and_false, exists_false, exists_const, tCont, tRaise, tRaise0, tTry, tCallS, goneEnds, tPar3, tDg, tDp, dkOf_k, tDisp, tPairs, tDpT, tDNewT, sp_divisor, sp_sign, hw]
     have hc : com x y u = (Int.gcd (Int.gcd u x) y : Int) * sgn u := rfl
     rw [← hc]
     have h1 : com x y u ≠ 0 := com_ne hw
     have h2 : Bd 9000 (com x y u) := by
       refine Bd.mono (m := 8000) ?_ (by decide)
       have := (com_dvd x y u hw).2.2
       exact Nat.lt_of_le_of_lt (Nat.le_of_dvd (by omega) (Int.natAbs_dvd_natAbs.mpr this)) hb
     refine ⟨.inl (.inr ?_), h1, h2, h1, h2, h1, h2, by decide, fun p hp => h p _ _ _ hp (isPt_of hw)⟩
     rcases sgn_range u with e | e | e <;> rw [e] <;> decide
end
end LW
namespace LW
open PySem L2 MA PyProof.Rows
section
variable {P : Program} {w : World} {K : PySem.W.Frag} {mg : Str → Option Value} {base : Heap}
theorem sc_fraction_of : FnScope ["top", "bottom", "common"] ["top", "bottom"] (defScope s_fraction_of) := ⟨rfl, rfl, rfl, by decide +kernel, rfl, by decide +kernel, by decide +kernel⟩
set_option maxHeartbeats 0 in
theorem ok_fraction_of {C : Cz} {f : Addr} {fd : FuncData} (F : Fun K "fraction_of" "fraction_of" s_fraction_of f fd) (T : Txt K mg C) (F_divisor : FnB P w K mg base (CXE P w) 1 "divisor" ["one", "other"] sp_divisor) (F_sign : FnB P w K mg base (CXE P w) 1 "sign" ["number"] sp_sign) : FnOk P w K mg base (CXE P w) 2 f fd ["top", "bottom"] sp_fraction_of := by
  refine okN F (k := 1) sc_fraction_of (fun vs H Q E h => ?_) (fun cdv A outer s H vs Q E hr h => ?_)
  · obtain ⟨x, u, rfl, _⟩ := h
    rfl
  · obtain ⟨x, u, rfl, h⟩ := h
    refine' ⟨_, ?main, ?rest⟩
    case main =>
     refine' pss_cons ?c1 ?c2
     case c1 =>
      refine' ps_if ?c3 ?c4 pss_nil
      case c3 =>
       exact (pt_cmpR op_eq (pv 1) pe_int (nomark _))
      case c4 =>
       exact (pss_one ps_never)
     case c2 =>
      refine' pss_cons ?c5 ?c6
      case c5 =>
       refine' ps_set (i := 2) sc_fraction_of.nd rfl (Or.inl rfl) ?c7
       case c7 =>
        refine' pe_op op_mulA ?c8 ?c9
        case c8 =>
         refine' pe_fn F_divisor (hr.mono (by decide)) rfl passE0 ?c10
         case c10 =>
          refine' pa_cons (pv 1) ?c11
          case c11 =>
           exact (pa_cons (pv 0) pa_nil)
        case c9 =>
         refine' pe_fn F_sign (hr.mono (by decide)) rfl passE0 ?c12
         case c12 =>
          exact (pa_cons (pv 1) pa_nil)
      case c6 =>
       refine' pss_one ?c13
       case c13 =>
        refine' ps_ret ?c14
        case c14 =>
         refine' pe_tup ?c15
         case c15 =>
          refine' pa_cons (pe_op op_fdivB (pv 0) (pv 2)) ?c16
          case c16 =>
           exact (pa_cons (pe_op op_fdivB (pv 1) (pv 2)) pa_nil)
    case rest =>
     obtain ⟨hw, hb, h⟩ := h
     simp only [L2.start, List.map_cons, List.map_nil, List.length_cons, List.length_nil, Nat.reduceAdd, Nat.reduceSub, List.replicate_succ, List.replicate_zero, List.cons_append, List.nil_append, List.append_nil]
     simp only [tSeq, List.cons_inj_right, tNext, tIfS, tTest, tOp, tUn, rI, rI0, rU, tVar, tC, tAsg, gName, tRet, tRetN, tDrop, tCall, tCons, tNil, tCB, tTup, tLst, rEq, rNe, ixF, setF, gSub, tPar, tNot, tAnd, tOr, tB, tNotV, tAndV, tOrV, tIf, List.append_nil, List.getElem?_cons_zero, List.getElem?_cons_succ, List.set_cons_zero, List.set_cons_succ, Option.some.injEq, V.int.injEq, V.bl.injEq, V.ref.injEq, exists_eq_left', exists_eq_left, exists_eq_right, exists_and_left, exists_and_right, and_true, true_and, and_assoc, List.cons.injEq, optK_some, seqOf_l, seqOf_t, tYes, tIsN, tNotN, rLenK, tML, tML0, appR, popR, clrR, catF, listF, lenF, slF, tSl, tPart, tNoPart, tyN, isiF, isiT_1, isiT_2, isiT_3, isiT_4, isiT_5, isiT_6, isiT_7, lstOf_l, tup3_some, tup2_some, Option.isSome_some, List.dropLast, List.getLast?, L2.stLC, frV, List.map_cons, List.map_nil, List.replicate_succ, List.replicate_zero, List.cons_append, List.nil_append, List.drop_succ_cons, List.drop_zero, Option.join_some, atI_0, atI_1, atI_2, atI_3, scal, if_true, if_false, Bool.false_eq_true, Bool.true_eq_false, reduceIte, reduceCtorEq, decide_eq_true_eq, Bool.not_eq_true', decide_eq_false_iff_not, eq_self, List.length_cons, List.length_nil, Nat.zero_add, Nat.reduceAdd, Nat.reduceLT, upd_same, Int.cast_ofNat_Int, Int.reduceToNat, Int.reducePow, Int.reduceLE, Int.reduceLT, Int.reduceSub, Int.reduceAdd, Int.reduceMul, Int.reduceNeg, bd10, bd64, bd2, bd3, bd4, ixN_3_0, ixN_3_1, ixN_3_2, ixN_2_0, ixN_2_1, ixN_4_0, ixN_4_1, ixN_4_2, ixN_4_3, ne_eq, Int.reduceEq, not_false_eq_true, not_true_eq_false, false_or, or_false, false_and, and_false, exists_false, exists_const, tCont, tRaise, tRaise0, tTry, tCallS, goneEnds, tPar3, tDg, tDp, dkOf_k, tDisp, tPairs, tDpT, tDNewT, sp_divisor, sp_sign, hw]
     have hc : com x 0 u = (Int.gcd u x : Int) * sgn u := by unfold com; simp
     rw [← hc]
     have h1 : com x 0 u ≠ 0 := com_ne hw
     have h2 : Bd 9000 (com x 0 u) := by
       refine Bd.mono (m := 8000) ?_ (by decide)
       have := (com_dvd x 0 u hw).2.2
       exact Nat.lt_of_le_of_lt (Nat.le_of_dvd (by omega) (Int.natAbs_dvd_natAbs.mpr this)) hb
     have h3 := isFr_of (x := x) hw
     rw [← hc] at h3
     refine ⟨.inl (.inr ?_), h1, h2, h1, h2, by decide, fun p hp => h p _ _ hp h3⟩
     rcases sgn_range u with e | e | e <;> rw [e] <;> decide
end
end LW
namespace LW
open PySem L2 MA PyProof.Rows
section
variable {P : Program} {w : World} {K : PySem.W.Frag} {mg : Str → Option Value} {base : Heap}
theorem sc_turn : FnScope ["one", "other", "third"] ["one", "other", "third"] (defScope s_turn) := ⟨rfl, rfl, rfl, by decide +kernel, rfl, by decide +kernel, by decide +kernel⟩
set_option maxHeartbeats 0 in
theorem ok_turn {C : Cz} {f : Addr} {fd : FuncData} (F : Fun K "turn" "turn" s_turn f fd) (T : Txt K mg C) (F_sign : FnB P w K mg base (CXE P w) 1 "sign" ["number"] sp_sign) : FnOk P w K mg base (CXE P w) 2 f fd ["one", "other", "third"] sp_turn := by
  refine okN F (k := 1) sc_turn (fun vs H Q E h => ?_) (fun cdv A outer s H vs Q E hr h => ?_)
  · obtain ⟨p, q, r, rfl, _⟩ := h
    rfl
  · obtain ⟨p, q, r, rfl, h⟩ := h
    refine' ⟨_, ?main, ?rest⟩
    case main =>
     refine' pss_one ?c1
     case c1 =>
      refine' ps_ret ?c2
      case c2 =>
       refine' pe_fn ?c3 ?c4 ?c5 ?c6 ?c7
       case c3 => exact F_sign
       case c4 => exact (hr.mono (by decide))
       case c5 => exact rfl
       case c6 => exact passE0
       case c7 =>
        refine' pa_cons ?c8 ?c9
        case c8 =>
         refine' pe_op ?c10 ?c11 ?c12
         case c10 => exact op_add
         case c11 =>
          refine' pe_op ?c13 ?c14 ?c15
          case c13 => exact op_sub
          case c14 =>
           refine' pe_op ?c16 ?c17 ?c18
           case c16 => exact op_mulA
           case c17 =>
            exact (pe_ix ix_F (pv 0) pe_int (fun _ _ => rfl))
           case c18 =>
            refine' pe_op ?c19 ?c20 ?c21
            case c19 => exact op_sub
            case c20 =>
             refine' pe_op op_mulA ?c22 ?c23
             case c22 =>
              exact (pe_ix ix_F (pv 1) pe_int (fun _ _ => rfl))
             case c23 =>
              exact (pe_ix ix_F (pv 2) pe_int (fun _ _ => rfl))
            case c21 =>
             refine' pe_op op_mulA ?c24 ?c25
             case c24 =>
              exact (pe_ix ix_F (pv 2) pe_int (fun _ _ => rfl))
             case c25 =>
              exact (pe_ix ix_F (pv 1) pe_int (fun _ _ => rfl))
          case c15 =>
           refine' pe_op ?c26 ?c27 ?c28
           case c26 => exact op_mulA
           case c27 =>
            exact (pe_ix ix_F (pv 0) pe_int (fun _ _ => rfl))
           case c28 =>
            refine' pe_op ?c29 ?c30 ?c31
            case c29 => exact op_sub
            case c30 =>
             refine' pe_op op_mulA ?c32 ?c33
             case c32 =>
              exact (pe_ix ix_F (pv 1) pe_int (fun _ _ => rfl))
             case c33 =>
              exact (pe_ix ix_F (pv 2) pe_int (fun _ _ => rfl))
            case c31 =>
             refine' pe_op op_mulA ?c34 ?c35
             case c34 =>
              exact (pe_ix ix_F (pv 2) pe_int (fun _ _ => rfl))
             case c35 =>
              exact (pe_ix ix_F (pv 1) pe_int (fun _ _ => rfl))
         case c12 =>
          refine' pe_op ?c36 ?c37 ?c38
          case c36 => exact op_mulA
          case c37 =>
           exact (pe_ix ix_F (pv 0) pe_int (fun _ _ => rfl))
          case c38 =>
           refine' pe_op ?c39 ?c40 ?c41
           case c39 => exact op_sub
           case c40 =>
            refine' pe_op op_mulA ?c42 ?c43
            case c42 =>
             exact (pe_ix ix_F (pv 1) pe_int (fun _ _ => rfl))
            case c43 =>
             exact (pe_ix ix_F (pv 2) pe_int (fun _ _ => rfl))
           case c41 =>
            refine' pe_op op_mulA ?c44 ?c45
            case c44 =>
             exact (pe_ix ix_F (pv 2) pe_int (fun _ _ => rfl))
            case c45 =>
             exact (pe_ix ix_F (pv 1) pe_int (fun _ _ => rfl))
        case c9 => exact pa_nil
    case rest =>
     obtain ⟨⟨a, b, c⟩, hp, h⟩ := optK_elim h
     obtain ⟨⟨d, e, f⟩, hq, h⟩ := optK_elim h
     obtain ⟨⟨g, u, i⟩, hr', ⟨b1, b2, b3⟩, ⟨b4, b5, b6⟩, ⟨b7, b8, b9⟩, h⟩ := optK_elim h
     replace hp := tup3_eq hp
     replace hq := tup3_eq hq
     replace hr' := tup3_eq hr'
     dsimp only at hp hq hr' b1 b2 b3 b4 b5 b6 b7 b8 b9 h
     simp only [L2.start, List.map_cons, List.map_nil, List.length_cons, List.length_nil, Nat.reduceAdd, Nat.reduceSub, List.replicate_succ, List.replicate_zero, List.cons_append, List.nil_append, List.append_nil]
     simp only [tSeq, List.cons_inj_right, tNext, tIfS, tTest, tOp, tUn, rI, rI0, rU, tVar, tC, tAsg, gName, tRet, tRetN, tDrop, tCall, tCons, tNil, tCB, tTup, tLst, rEq, rNe, ixF, setF, gSub, tPar, tNot, tAnd, tOr, tB, tNotV, tAndV, tOrV, tIf, List.append_nil, List.getElem?_cons_zero, List.getElem?_cons_succ, List.set_cons_zero, List.set_cons_succ, Option.some.injEq, V.int.injEq, V.bl.injEq, V.ref.injEq, exists_eq_left', exists_eq_left, exists_eq_right, exists_and_left, exists_and_right, and_true, true_and, and_assoc, List.cons.injEq, optK_some, seqOf_l, seqOf_t, tYes, tIsN, tNotN, rLenK, tML, tML0, appR, popR, clrR, catF, listF, lenF, slF, tSl, tPart, tNoPart, tyN, isiF, isiT_1, isiT_2, isiT_3, isiT_4, isiT_5, isiT_6, isiT_7, lstOf_l, tup3_some, tup2_some, Option.isSome_some, List.dropLast, List.getLast?, L2.stLC, frV, List.map_cons, List.map_nil, List.replicate_succ, List.replicate_zero, List.cons_append, List.nil_append, List.drop_succ_cons, List.drop_zero, Option.join_some, atI_0, atI_1, atI_2, atI_3, scal, if_true, if_false, Bool.false_eq_true, Bool.true_eq_false, reduceIte, reduceCtorEq, decide_eq_true_eq, Bool.not_eq_true', decide_eq_false_iff_not, eq_self, List.length_cons, List.length_nil, Nat.zero_add, Nat.reduceAdd, Nat.reduceLT, upd_same, Int.cast_ofNat_Int, Int.reduceToNat, Int.reducePow, Int.reduceLE, Int.reduceLT, Int.reduceSub, Int.reduceAdd, Int.reduceMul, Int.reduceNeg, bd10, bd64, bd2, bd3, bd4, ixN_3_0, ixN_3_1, ixN_3_2, ixN_2_0, ixN_2_1, ixN_4_0, ixN_4_1, ixN_4_2, ixN_4_3, ne_eq, Int.reduceEq, not_false_eq_true, not_true_eq_false, false_or, or_false, false_and, and_false, exists_false, exists_const, tCont, tRaise, tRaise0, tTry, tCallS, goneEnds, tPar3, tDg, tDp, dkOf_k, tDisp, tPairs, tDpT, tDNewT, hp, hq, hr', sp_sign]
     exact ⟨(by first | exact CMulA.left (by decide) (by decide) | exact CMulA.right (by decide) (by decide) | (apply CMulA.of; (repeat (first | assumption | apply Bd.mul | apply Bd.sub | apply Bd.add | apply Bd.neg | apply Bd.sq)); all_goals decide)), (by first | exact CMulA.left (by decide) (by decide) | exact CMulA.right (by decide) (by decide) | (apply CMulA.of; (repeat (first | assumption | apply Bd.mul | apply Bd.sub | apply Bd.add | apply Bd.neg | apply Bd.sq)); all_goals decide)), (by first | exact CMulA.left (by decide) (by decide) | exact CMulA.right (by decide) (by decide) | (apply CMulA.of; (repeat (first | assumption | apply Bd.mul | apply Bd.sub | apply Bd.add | apply Bd.neg | apply Bd.sq)); all_goals decide)), (by first | exact CMulA.left (by decide) (by decide) | exact CMulA.right (by decide) (by decide) | (apply CMulA.of; (repeat (first | assumption | apply Bd.mul | apply Bd.sub | apply Bd.add | apply Bd.neg | apply Bd.sq)); all_goals decide)), (by first | exact CMulA.left (by decide) (by decide) | exact CMulA.right (by decide) (by decide) | (apply CMulA.of; (repeat (first | assumption | apply Bd.mul | apply Bd.sub | apply Bd.add | apply Bd.neg | apply Bd.sq)); all_goals decide)), (by first | exact CMulA.left (by decide) (by decide) | exact CMulA.right (by decide) (by decide) | (apply CMulA.of; (repeat (first | assumption | apply Bd.mul | apply Bd.sub | apply Bd.add | apply Bd.neg | apply Bd.sq)); all_goals decide)), (by first | exact CMulA.left (by decide) (by decide) | exact CMulA.right (by decide) (by decide) | (apply CMulA.of; (repeat (first | assumption | apply Bd.mul | apply Bd.sub | apply Bd.add | apply Bd.neg | apply Bd.sq)); all_goals decide)), (by first | exact CMulA.left (by decide) (by decide) | exact CMulA.right (by decide) (by decide) | (apply CMulA.of; (repeat (first | assumption | apply Bd.mul | apply Bd.sub | apply Bd.add | apply Bd.neg | apply Bd.sq)); all_goals decide)), (by first | exact CMulA.left (by decide) (by decide) | exact CMulA.right (by decide) (by decide) | (apply CMulA.of; (repeat (first | assumption | apply Bd.mul | apply Bd.sub | apply Bd.add | apply Bd.neg | apply Bd.sq)); all_goals decide)), h⟩
end
end LW
namespace LW
open PySem L2 MA PyProof.Rows
section
variable {P : Program} {w : World} {K : PySem.W.Frag} {mg : Str → Option Value} {base : Heap}
theorem sc_scaled_square : FnScope ["point", "spot", "x", "y", "w"] ["point", "spot"] (defScope s_scaled_square) := ⟨rfl, rfl, rfl, by decide +kernel, rfl, by decide +kernel, by decide +kernel⟩
set_option maxHeartbeats 0 in
theorem ok_scaled_square {C : Cz} {f : Addr} {fd : FuncData} (F : Fun K "scaled_square" "scaled_square" s_scaled_square f fd) (T : Txt K mg C)  : FnOk P w K mg base (CXE P w) 1 f fd ["point", "spot"] sp_scaled_square := by
  refine okN F (k := 0) sc_scaled_square (fun vs H Q E h => ?_) (fun cdv A outer s H vs Q E hr h => ?_)
  · obtain ⟨p, q, rfl, _⟩ := h
    rfl
  · obtain ⟨p, q, rfl, h⟩ := h
    refine' ⟨_, ?main, ?rest⟩
    case main =>
     refine' pss_cons ?c1 ?c2
     case c1 =>
      refine' ps_asg (pv 0) ?c3
      case c3 =>
       refine' pg_F (n := 3) rfl ?c4
       case c4 =>
        refine' pgs_cons (pg_name (i := 2) sc_scaled_square.nd rfl (Or.inl rfl)) ?c5
        case c5 =>
         refine' pgs_cons (pg_name (i := 3) sc_scaled_square.nd rfl (Or.inl rfl)) ?c6
         case c6 =>
          exact (pgs_cons (pg_name (i := 4) sc_scaled_square.nd rfl (Or.inl rfl)) pgs_nil)
     case c2 =>
      refine' pss_one ?c7
      case c7 =>
       refine' ps_ret ?c8
       case c8 =>
        refine' pe_op ?c9 ?c10 ?c11
        case c9 => exact op_add
        case c10 =>
         refine' pe_op op_powB ?c12 pe_int
         case c12 =>
          refine' pe_op op_sub (pv 2) ?c13
          case c13 =>
           refine' pe_op op_mulA ?c14 (pv 4)
           case c14 =>
            exact (pe_ix ix_F (pv 1) pe_int (fun _ _ => rfl))
        case c11 =>
         refine' pe_op op_powB ?c15 pe_int
         case c15 =>
          refine' pe_op op_sub (pv 3) ?c16
          case c16 =>
           refine' pe_op op_mulA ?c17 (pv 4)
           case c17 =>
            exact (pe_ix ix_F (pv 1) pe_int (fun _ _ => rfl))
    case rest =>
     obtain ⟨⟨a, b, c⟩, hp, h⟩ := optK_elim h
     obtain ⟨⟨d, e⟩, hq, ⟨b1, b2, b3⟩, ⟨b4, b5⟩, h⟩ := optK_elim h
     replace hp := tup3_eq hp
     replace hq := tup2_eq hq
     dsimp only at hp hq b1 b2 b3 b4 b5 h
     simp only [L2.start, List.map_cons, List.map_nil, List.length_cons, List.length_nil, Nat.reduceAdd, Nat.reduceSub, List.replicate_succ, List.replicate_zero, List.cons_append, List.nil_append, List.append_nil]
     simp only [tSeq, List.cons_inj_right, tNext, tIfS, tTest, tOp, tUn, rI, rI0, rU, tVar, tC, tAsg, gName, tRet, tRetN, tDrop, tCall, tCons, tNil, tCB, tTup, tLst, rEq, rNe, ixF, setF, gSub, tPar, tNot, tAnd, tOr, tB, tNotV, tAndV, tOrV, tIf, List.append_nil, List.getElem?_cons_zero, List.getElem?_cons_succ, List.set_cons_zero, List.set_cons_succ, Option.some.injEq, V.int.injEq, V.bl.injEq, V.ref.injEq, exists_eq_left', exists_eq_left, exists_eq_right, exists_and_left, exists_and_right, and_true, true_and, and_assoc, List.cons.injEq, optK_some, seqOf_l, seqOf_t, tYes, tIsN, tNotN, rLenK, tML, tML0, appR, popR, clrR, catF, listF, lenF, slF, tSl, tPart, tNoPart, tyN, isiF, isiT_1, isiT_2, isiT_3, isiT_4, isiT_5, isiT_6, isiT_7, lstOf_l, tup3_some, tup2_some, Option.isSome_some, List.dropLast, List.getLast?, L2.stLC, frV, List.map_cons, List.map_nil, List.replicate_succ, List.replicate_zero, List.cons_append, List.nil_append, List.drop_succ_cons, List.drop_zero, Option.join_some, atI_0, atI_1, atI_2, atI_3, scal, if_true, if_false, Bool.false_eq_true, Bool.true_eq_false, reduceIte, reduceCtorEq, decide_eq_true_eq, Bool.not_eq_true', decide_eq_false_iff_not, eq_self, List.length_cons, List.length_nil, Nat.zero_add, Nat.reduceAdd, Nat.reduceLT, upd_same, Int.cast_ofNat_Int, Int.reduceToNat, Int.reducePow, Int.reduceLE, Int.reduceLT, Int.reduceSub, Int.reduceAdd, Int.reduceMul, Int.reduceNeg, bd10, bd64, bd2, bd3, bd4, ixN_3_0, ixN_3_1, ixN_3_2, ixN_2_0, ixN_2_1, ixN_4_0, ixN_4_1, ixN_4_2, ixN_4_3, ne_eq, Int.reduceEq, not_false_eq_true, not_true_eq_false, false_or, or_false, false_and, and_false, exists_false, exists_const, tCont, tRaise, tRaise0, tTry, tCallS, goneEnds, tPar3, tDg, tDp, dkOf_k, tDisp, tPairs, tDpT, tDNewT, gSeqF, gCons, gNil, hp, hq]
     exact ⟨(by first | exact CMulA.left (by decide) (by decide) | exact CMulA.right (by decide) (by decide) | (apply CMulA.of; (repeat (first | assumption | apply Bd.mul | apply Bd.sub | apply Bd.add | apply Bd.neg | apply Bd.sq)); all_goals decide)), (b1.sub (b4.mul b3)).mono (by decide), (by first | exact CMulA.left (by decide) (by decide) | exact CMulA.right (by decide) (by decide) | (apply CMulA.of; (repeat (first | assumption | apply Bd.mul | apply Bd.sub | apply Bd.add | apply Bd.neg | apply Bd.sq)); all_goals decide)), (b2.sub (b5.mul b3)).mono (by decide), h⟩
end
end LW
namespace LW
open PySem L2 MA PyProof.Rows
section
variable {P : Program} {w : World} {K : PySem.W.Frag} {mg : Str → Option Value} {base : Heap}
theorem sc_square : FnScope ["point", "spot"] ["point", "spot"] (defScope s_square) := ⟨rfl, rfl, rfl, by decide +kernel, rfl, by decide +kernel, by decide +kernel⟩
set_option maxHeartbeats 0 in
theorem ok_square {C : Cz} {f : Addr} {fd : FuncData} (F : Fun K "square" "square" s_square f fd) (T : Txt K mg C) (F_scaled_square : FnB P w K mg base (CXE P w) 1 "scaled_square" ["point", "spot"] sp_scaled_square) (F_fraction_of : FnB P w K mg base (CXE P w) 2 "fraction_of" ["top", "bottom"] sp_fraction_of) : FnOk P w K mg base (CXE P w) 3 f fd ["point", "spot"] sp_square := by
  refine okN F (k := 2) sc_square (fun vs H Q E h => ?_) (fun cdv A outer s H vs Q E hr h => ?_)
  · obtain ⟨p, q, rfl, _⟩ := h
    rfl
  · obtain ⟨p, q, rfl, h⟩ := h
    refine' ⟨_, ?main, ?rest⟩
    case main =>
     refine' pss_one ?c1
     case c1 =>
      refine' ps_ret ?c2
      case c2 =>
       refine' pe_fn ?c3 ?c4 ?c5 ?c6 ?c7
       case c3 => exact F_fraction_of
       case c4 => exact (hr.mono (by decide))
       case c5 => exact rfl
       case c6 => exact passE0
       case c7 =>
        refine' pa_cons ?c8 ?c9
        case c8 =>
         refine' pe_fn F_scaled_square (hr.mono (by decide)) rfl passE0 ?c10
         case c10 =>
          refine' pa_cons (pv 0) ?c11
          case c11 =>
           exact (pa_cons (pv 1) pa_nil)
        case c9 =>
         refine' pa_cons ?c12 pa_nil
         case c12 =>
          refine' pe_op op_powB ?c13 pe_int
          case c13 =>
           exact (pe_ix ix_F (pv 0) pe_int (fun _ _ => rfl))
    case rest =>
     obtain ⟨⟨a, b, c⟩, hp, h⟩ := optK_elim h
     obtain ⟨⟨d, e⟩, hq, ⟨b1, b2, b3⟩, ⟨b4, b5⟩, hc, h⟩ := optK_elim h
     replace hp := tup3_eq hp
     replace hq := tup2_eq hq
     dsimp only at hp hq b1 b2 b3 b4 b5 h hc
     simp only [L2.start, List.map_cons, List.map_nil, List.length_cons, List.length_nil, Nat.reduceAdd, Nat.reduceSub, List.replicate_succ, List.replicate_zero, List.cons_append, List.nil_append, List.append_nil]
     simp only [tSeq, List.cons_inj_right, tNext, tIfS, tTest, tOp, tUn, rI, rI0, rU, tVar, tC, tAsg, gName, tRet, tRetN, tDrop, tCall, tCons, tNil, tCB, tTup, tLst, rEq, rNe, ixF, setF, gSub, tPar, tNot, tAnd, tOr, tB, tNotV, tAndV, tOrV, tIf, List.append_nil, List.getElem?_cons_zero, List.getElem?_cons_succ, List.set_cons_zero, List.set_cons_succ, Option.some.injEq, V.int.injEq, V.bl.injEq, V.ref.injEq, exists_eq_left', exists_eq_left, exists_eq_right, exists_and_left, exists_and_right, and_true, true_and, and_assoc, List.cons.injEq, optK_some, seqOf_l, seqOf_t, tYes, tIsN, tNotN, rLenK, tML, tML0, appR, popR, clrR, catF, listF, lenF, slF, tSl, tPart, tNoPart, tyN, isiF, isiT_1, isiT_2, isiT_3, isiT_4, isiT_5, isiT_6, isiT_7, lstOf_l, tup3_some, tup2_some, Option.isSome_some, List.dropLast, List.getLast?, L2.stLC, frV, List.map_cons, List.map_nil, List.replicate_succ, List.replicate_zero, List.cons_append, List.nil_append, List.drop_succ_cons, List.drop_zero, Option.join_some, atI_0, atI_1, atI_2, atI_3, scal, if_true, if_false, Bool.false_eq_true, Bool.true_eq_false, reduceIte, reduceCtorEq, decide_eq_true_eq, Bool.not_eq_true', decide_eq_false_iff_not, eq_self, List.length_cons, List.length_nil, Nat.zero_add, Nat.reduceAdd, Nat.reduceLT, upd_same, Int.cast_ofNat_Int, Int.reduceToNat, Int.reducePow, Int.reduceLE, Int.reduceLT, Int.reduceSub, Int.reduceAdd, Int.reduceMul, Int.reduceNeg, bd10, bd64, bd2, bd3, bd4, ixN_3_0, ixN_3_1, ixN_3_2, ixN_2_0, ixN_2_1, ixN_4_0, ixN_4_1, ixN_4_2, ixN_4_3, ne_eq, Int.reduceEq, not_false_eq_true, not_true_eq_false, false_or, or_false, false_and, and_false, exists_false, exists_const, tCont, tRaise, tRaise0, tTry, tCallS, goneEnds, tPar3, tDg, tDp, dkOf_k, tDisp, tPairs, tDpT, tDNewT, sp_scaled_square, sp_fraction_of, hp, hq]
     refine ⟨⟨b1, b2, b3⟩, ⟨b4, b5⟩, b3.mono (by decide), ?_, b3.sq.mono (by decide), fun t a' c' ht hf => h t a' c' ht hf⟩
     have : 0 < c ^ 2 := Int.pow_pos hc
     omega
end
end LW
namespace LW
open PySem L2 MA PyProof.Rows
section
variable {P : Program} {w : World} {K : PySem.W.Frag} {mg : Str → Option Value} {base : Heap}
theorem sc_nearer : FnScope ["point", "one", "other"] ["point", "one", "other"] (defScope s_nearer) := ⟨rfl, rfl, rfl, by decide +kernel, rfl, by decide +kernel, by decide +kernel⟩
set_option maxHeartbeats 0 in
theorem ok_nearer {C : Cz} {f : Addr} {fd : FuncData} (F : Fun K "nearer" "nearer" s_nearer f fd) (T : Txt K mg C) (F_scaled_square : FnB P w K mg base (CXE P w) 1 "scaled_square" ["point", "spot"] sp_scaled_square) (F_sign : FnB P w K mg base (CXE P w) 1 "sign" ["number"] sp_sign) : FnOk P w K mg base (CXE P w) 2 f fd ["point", "one", "other"] sp_nearer := by
  refine okN F (k := 1) sc_nearer (fun vs H Q E h => ?_) (fun cdv A outer s H vs Q E hr h => ?_)
  · obtain ⟨p, q, r, rfl, _⟩ := h
    rfl
  · obtain ⟨p, q, r, rfl, h⟩ := h
    refine' ⟨_, ?main, ?rest⟩
    case main =>
     refine' pss_one ?c1
     case c1 =>
      refine' ps_ret ?c2
      case c2 =>
       refine' pe_fn ?c3 ?c4 ?c5 ?c6 ?c7
       case c3 => exact F_sign
       case c4 => exact (hr.mono (by decide))
       case c5 => exact rfl
       case c6 => exact passE0
       case c7 =>
        refine' pa_cons ?c8 ?c9
        case c8 =>
         refine' pe_op op_sub ?c10 ?c11
         case c10 =>
          refine' pe_fn F_scaled_square (hr.mono (by decide)) rfl passE0 ?c12
          case c12 =>
           refine' pa_cons (pv 0) ?c13
           case c13 =>
            exact (pa_cons (pv 1) pa_nil)
         case c11 =>
          refine' pe_fn F_scaled_square (hr.mono (by decide)) rfl passE0 ?c14
          case c14 =>
           refine' pa_cons (pv 0) ?c15
           case c15 =>
            exact (pa_cons (pv 2) pa_nil)
        case c9 => exact pa_nil
    case rest =>
     obtain ⟨⟨a, b, c⟩, hp, h⟩ := optK_elim h
     obtain ⟨⟨d, e⟩, hq, h⟩ := optK_elim h
     obtain ⟨⟨f, g⟩, hr', b1, b2, b3, h⟩ := optK_elim h
     replace hp := tup3_eq hp
     replace hq := tup2_eq hq
     replace hr' := tup2_eq hr'
     dsimp only at hp hq hr'
     simp only [L2.start, List.map_cons, List.map_nil, List.length_cons, List.length_nil, Nat.reduceAdd, Nat.reduceSub, List.replicate_succ, List.replicate_zero, List.cons_append, List.nil_append, List.append_nil]
     simp only [tSeq, List.cons_inj_right, tNext, tIfS, tTest, tOp, tUn, rI, rI0, rU, tVar, tC, tAsg, gName, tRet, tRetN, tDrop, tCall, tCons, tNil, tCB, tTup, tLst, rEq, rNe, ixF, setF, gSub, tPar, tNot, tAnd, tOr, tB, tNotV, tAndV, tOrV, tIf, List.append_nil, List.getElem?_cons_zero, List.getElem?_cons_succ, List.set_cons_zero, List.set_cons_succ, Option.some.injEq, V.int.injEq, V.bl.injEq, V.ref.injEq, exists_eq_left', exists_eq_left, exists_eq_right, exists_and_left, exists_and_right, and_true, true_and, and_assoc, List.cons.injEq, optK_some, seqOf_l, seqOf_t, tYes, tIsN, tNotN, rLenK, tML, tML0, appR, popR, clrR, catF, listF, lenF, slF, tSl, tPart, tNoPart, tyN, isiF, isiT_1, isiT_2, isiT_3, isiT_4, isiT_5, isiT_6, isiT_7, lstOf_l, tup3_some, tup2_some, Option.isSome_some, List.dropLast, List.getLast?, L2.stLC, frV, List.map_cons, List.map_nil, List.replicate_succ, List.replicate_zero, List.cons_append, List.nil_append, List.drop_succ_cons, List.drop_zero, Option.join_some, atI_0, atI_1, atI_2, atI_3, scal, if_true, if_false, Bool.false_eq_true, Bool.true_eq_false, reduceIte, reduceCtorEq, decide_eq_true_eq, Bool.not_eq_true', decide_eq_false_iff_not, eq_self, List.length_cons, List.length_nil, Nat.zero_add, Nat.reduceAdd, Nat.reduceLT, upd_same, Int.cast_ofNat_Int, Int.reduceToNat, Int.reducePow, Int.reduceLE, Int.reduceLT, Int.reduceSub, Int.reduceAdd, Int.reduceMul, Int.reduceNeg, bd10, bd64, bd2, bd3, bd4, ixN_3_0, ixN_3_1, ixN_3_2, ixN_2_0, ixN_2_1, ixN_4_0, ixN_4_1, ixN_4_2, ixN_4_3, ne_eq, Int.reduceEq, not_false_eq_true, not_true_eq_false, false_or, or_false, false_and, and_false, exists_false, exists_const, tCont, tRaise, tRaise0, tTry, tCallS, goneEnds, tPar3, tDg, tDp, dkOf_k, tDisp, tPairs, tDpT, tDNewT, sp_scaled_square, sp_sign, hp, hq, hr']
     exact ⟨b1, b2, b1, b3, h⟩
end
end LW
namespace LW
open PySem L2 MA PyProof.Rows
section
variable {P : Program} {w : World} {K : PySem.W.Frag} {mg : Str → Option Value} {base : Heap}
theorem sc_line_of : FnScope ["a", "b", "c", "common"] ["a", "b", "c"] (defScope s_line_of) := ⟨rfl, rfl, rfl, by decide +kernel, rfl, by decide +kernel, by decide +kernel⟩
set_option maxHeartbeats 0 in
theorem ok_line_of {C : Cz} {f : Addr} {fd : FuncData} (F : Fun K "line_of" "line_of" s_line_of f fd) (T : Txt K mg C) (F_divisor : FnB P w K mg base (CXE P w) 1 "divisor" ["one", "other"] sp_divisor) : FnOk P w K mg base (CXE P w) 2 f fd ["a", "b", "c"] sp_line_of := by
  refine okN F (k := 1) sc_line_of (fun vs H Q E h => ?_) (fun cdv A outer s H vs Q E hr h => ?_)
  · obtain ⟨a, b, c, rfl, _⟩ := h
    rfl
  · obtain ⟨a, b, c, rfl, h⟩ := h
    refine' ⟨_, ?main, ?rest⟩
    case main =>
     refine' pss_cut ?c1 ?c2
     case c1 =>
      refine' ps_if ?c3 ?c4 pss_nil
      case c3 =>
       refine' PW.pt ?c5
       case c5 =>
        refine' pw_and ?c6 ?c7
        case c6 =>
         exact (pt_cmpR op_eq (pv 0) pe_int (nomark _))
        case c7 =>
         refine' pw_and1 ?c8
         case c8 =>
          exact (pt_cmpR op_eq (pv 1) pe_int (nomark _))
      case c4 =>
       exact (pss_one ps_never)
     case c2 =>
      refine' pss_cons ?c9 ?c10
      case c9 =>
       refine' ps_set (i := 3) sc_line_of.nd rfl (Or.inl rfl) ?c11
       case c11 =>
        refine' pe_fn F_divisor (hr.mono (by decide)) rfl passE0 ?c12
        case c12 =>
         refine' pa_cons ?c13 ?c14
         case c13 =>
          refine' pe_fn F_divisor (hr.mono (by decide)) rfl passE0 ?c15
          case c15 =>
           refine' pa_cons (pv 0) ?c16
           case c16 =>
            exact (pa_cons (pv 1) pa_nil)
         case c14 =>
          exact (pa_cons (pv 2) pa_nil)
      case c10 =>
       refine' pss_one ?c17
       case c17 =>
        refine' ps_ret ?c18
        case c18 =>
         refine' pe_tup ?c19
         case c19 =>
          refine' pa_cons (pe_op op_fdivB (pv 0) (pv 3)) ?c20
          case c20 =>
           refine' pa_cons (pe_op op_fdivB (pv 1) (pv 3)) ?c21
           case c21 =>
            exact (pa_cons (pe_op op_fdivB (pv 2) (pv 3)) pa_nil)
    case rest =>
     obtain ⟨hn, ⟨b1, b2, b3⟩, h⟩ := h
     simp only [L2.start, List.map_cons, List.map_nil, List.length_cons, List.length_nil, Nat.reduceAdd, Nat.reduceSub, List.replicate_succ, List.replicate_zero, List.cons_append, List.nil_append, List.append_nil]
     refine ⟨fun σ H' => σ = [some (.int a), some (.int b), some (.int c), none] ∧ H' = H, ?_, ?_⟩
     · simp only [tSeq, List.cons_inj_right, tNext, tIfS, tTest, tOp, tUn, rI, rI0, rU, tVar, tC, tAsg, gName, tRet, tRetN, tDrop, tCall, tCons, tNil, tCB, tTup, tLst, rEq, rNe, ixF, setF, gSub, tPar, tNot, tAnd, tOr, tB, tNotV, tAndV, tOrV, tIf, List.append_nil, List.getElem?_cons_zero, List.getElem?_cons_succ, List.set_cons_zero, List.set_cons_succ, Option.some.injEq, V.int.injEq, V.bl.injEq, V.ref.injEq, exists_eq_left', exists_eq_left, exists_eq_right, exists_and_left, exists_and_right, and_true, true_and, and_assoc, List.cons.injEq, optK_some, seqOf_l, seqOf_t, tYes, tIsN, tNotN, rLenK, tML, tML0, appR, popR, clrR, catF, listF, lenF, slF, tSl, tPart, tNoPart, tyN, isiF, isiT_1, isiT_2, isiT_3, isiT_4, isiT_5, isiT_6, isiT_7, lstOf_l, tup3_some, tup2_some, Option.isSome_some, List.dropLast, List.getLast?, L2.stLC, frV, List.map_cons, List.map_nil, List.replicate_succ, List.replicate_zero, List.cons_append, List.nil_append, List.drop_succ_cons, List.drop_zero, Option.join_some, atI_0, atI_1, atI_2, atI_3, scal, if_true, if_false, Bool.false_eq_true, Bool.true_eq_false, reduceIte, reduceCtorEq, decide_eq_true_eq, Bool.not_eq_true', decide_eq_false_iff_not, eq_self, List.length_cons, List.length_nil, Nat.zero_add, Nat.reduceAdd, Nat.reduceLT, upd_same, Int.cast_ofNat_Int, Int.reduceToNat, Int.reducePow, Int.reduceLE, Int.reduceLT, Int.reduceSub, Int.reduceAdd, Int.reduceMul, Int.reduceNeg, bd10, bd64, bd2, bd3, bd4, ixN_3_0, ixN_3_1, ixN_3_2, ixN_2_0, ixN_2_1, ixN_4_0, ixN_4_1, ixN_4_2, ixN_4_3, ne_eq, Int.reduceEq, not_false_eq_true, not_true_eq_false, false_or, or_false, false_and, and_false, exists_false, exists_const, tCont, tRaise, tRaise0, tTry, tCallS, goneEnds, tPar3, tDg, tDp, dkOf_k, tDisp, tPairs, tDpT, tDNewT]
       split
       · rename_i ea
         split
         · rename_i eb
           exact absurd ⟨ea, eb⟩ hn
         · trivial
       · trivial
     · rintro σ H' ⟨rfl, rfl⟩
       simp only [tSeq, List.cons_inj_right, tNext, tIfS, tTest, tOp, tUn, rI, rI0, rU, tVar, tC, tAsg, gName, tRet, tRetN, tDrop, tCall, tCons, tNil, tCB, tTup, tLst, rEq, rNe, ixF, setF, gSub, tPar, tNot, tAnd, tOr, tB, tNotV, tAndV, tOrV, tIf, List.append_nil, List.getElem?_cons_zero, List.getElem?_cons_succ, List.set_cons_zero, List.set_cons_succ, Option.some.injEq, V.int.injEq, V.bl.injEq, V.ref.injEq, exists_eq_left', exists_eq_left, exists_eq_right, exists_and_left, exists_and_right, and_true, true_and, and_assoc, List.cons.injEq, optK_some, seqOf_l, seqOf_t, tYes, tIsN, tNotN, rLenK, tML, tML0, appR, popR, clrR, catF, listF, lenF, slF, tSl, tPart, tNoPart, tyN, isiF, isiT_1, isiT_2, isiT_3, isiT_4, isiT_5, isiT_6, isiT_7, lstOf_l, tup3_some, tup2_some, Option.isSome_some, List.dropLast, List.getLast?, L2.stLC, frV, List.map_cons, List.map_nil, List.replicate_succ, List.replicate_zero, List.cons_append, List.nil_append, List.drop_succ_cons, List.drop_zero, Option.join_some, atI_0, atI_1, atI_2, atI_3, scal, if_true, if_false, Bool.false_eq_true, Bool.true_eq_false, reduceIte, reduceCtorEq, decide_eq_true_eq, Bool.not_eq_true', decide_eq_false_iff_not, eq_self, List.length_cons, List.length_nil, Nat.zero_add, Nat.reduceAdd, Nat.reduceLT, upd_same, Int.cast_ofNat_Int, Int.reduceToNat, Int.reducePow, Int.reduceLE, Int.reduceLT, Int.reduceSub, Int.reduceAdd, Int.reduceMul, Int.reduceNeg, bd10, bd64, bd2, bd3, bd4, ixN_3_0, ixN_3_1, ixN_3_2, ixN_2_0, ixN_2_1, ixN_4_0, ixN_4_1, ixN_4_2, ixN_4_3, ne_eq, Int.reduceEq, not_false_eq_true, not_true_eq_false, false_or, or_false, false_and, and_false, exists_false, exists_const, tCont, tRaise, tRaise0, tTry, tCallS, goneEnds, tPar3, tDg, tDp, dkOf_k, tDisp, tPairs, tDpT, tDNewT, sp_divisor]
       obtain ⟨hl, hne⟩ := isLn_of (c := c) hn
       have hb : Bd 9000 (Int.gcd (Int.gcd a b) c : Int) := by
         refine Bd.mono (m := 4000) ?_ (by decide)
         obtain ⟨g, hg, ea, eb, ec, eg⟩ := hl.ex
         rw [← eg]
         by_cases z : a = 0
         · have : b ≠ 0 := fun z' => hn ⟨z, z'⟩
           exact Nat.lt_of_le_of_lt (Nat.le_of_dvd (by omega) (Int.natAbs_dvd_natAbs.mpr ⟨_, eb⟩)) b2
         · exact Nat.lt_of_le_of_lt (Nat.le_of_dvd (by omega) (Int.natAbs_dvd_natAbs.mpr ⟨_, ea⟩)) b1
       exact ⟨hne, hb, hne, hb, hne, hb, by decide, fun p hp => h p _ _ _ hp hl⟩
end
end LW
namespace LW
open PySem L2 MA PyProof.Rows
section
variable {P : Program} {w : World} {K : PySem.W.Frag} {mg : Str → Option Value} {base : Heap}
theorem sc_between : FnScope ["one", "other", "x", "y", "u", "v"] ["one", "other"] (defScope s_between) := ⟨rfl, rfl, rfl, by decide +kernel, rfl, by decide +kernel, by decide +kernel⟩
set_option maxHeartbeats 0 in
theorem ok_between {C : Cz} {f : Addr} {fd : FuncData} (F : Fun K "between" "between" s_between f fd) (T : Txt K mg C) (F_line_of : FnB P w K mg base (CXE P w) 2 "line_of" ["a", "b", "c"] sp_line_of) : FnOk P w K mg base (CXE P w) 3 f fd ["one", "other"] sp_between := by
  refine okN F (k := 2) sc_between (fun vs H Q E h => ?_) (fun cdv A outer s H vs Q E hr h => ?_)
  · obtain ⟨p, q, rfl, _⟩ := h
    rfl
  · obtain ⟨p, q, rfl, h⟩ := h
    refine' ⟨_, ?main, ?rest⟩
    case main =>
     refine' pss_cut ?c1 ?c2
     case c1 =>
      refine' ps_if (pt_cmpR (op_eqDK (K := K) rfl (hu64 hr)) (pv 0) (pv 1) (nomark _)) ?c3 pss_nil
      case c3 =>
       exact (pss_one ps_never)
     case c2 =>
      refine' pss_cons ?c4 ?c5
      case c4 =>
       refine' ps_asg (pv 0) ?c6
       case c6 =>
        refine' pg_F (n := 2) rfl ?c7
        case c7 =>
         refine' pgs_cons (pg_name (i := 2) sc_between.nd rfl (Or.inl rfl)) ?c8
         case c8 =>
          exact (pgs_cons (pg_name (i := 3) sc_between.nd rfl (Or.inl rfl)) pgs_nil)
      case c5 =>
       refine' pss_cons ?c9 ?c10
       case c9 =>
        refine' ps_asg (pv 1) ?c11
        case c11 =>
         refine' pg_F (n := 2) rfl ?c12
         case c12 =>
          refine' pgs_cons (pg_name (i := 4) sc_between.nd rfl (Or.inl rfl)) ?c13
          case c13 =>
           exact (pgs_cons (pg_name (i := 5) sc_between.nd rfl (Or.inl rfl)) pgs_nil)
       case c10 =>
        refine' pss_one ?c14
        case c14 =>
         refine' ps_ret ?c15
         case c15 =>
          refine' pe_fn ?c16 ?c17 ?c18 ?c19 ?c20
          case c16 => exact F_line_of
          case c17 => exact (hr.mono (by decide))
          case c18 => exact rfl
          case c19 => exact passE0
          case c20 =>
           refine' pa_cons ?c21 ?c22
           case c21 =>
            exact (pe_op op_mulA pe_int (pe_op op_sub (pv 4) (pv 2)))
           case c22 =>
            refine' pa_cons ?c23 ?c24
            case c23 =>
             exact (pe_op op_mulA pe_int (pe_op op_sub (pv 5) (pv 3)))
            case c24 =>
             refine' pa_cons ?c25 pa_nil
             case c25 =>
              refine' pe_op op_sub ?c26 (pe_op op_mulA (pv 3) (pv 3))
              case c26 =>
               refine' pe_op op_sub ?c27 (pe_op op_mulA (pv 2) (pv 2))
               case c27 =>
                exact (pe_op op_add (pe_op op_mulA (pv 4) (pv 4)) (pe_op op_mulA (pv 5) (pv 5)))
    case rest =>
     obtain ⟨⟨a, b⟩, hp, h⟩ := optK_elim h
     obtain ⟨⟨d, e⟩, hq, ⟨b1, b2⟩, ⟨b3, b4⟩, hne, h⟩ := optK_elim h
     replace hp := tup2_eq hp
     replace hq := tup2_eq hq
     dsimp only at hp hq b1 b2 b3 b4
     simp only [L2.start, List.map_cons, List.map_nil, List.length_cons, List.length_nil, Nat.reduceAdd, Nat.reduceSub, List.replicate_succ, List.replicate_zero, List.cons_append, List.nil_append, List.append_nil]
     have hn : ¬ (a = d ∧ b = e) := fun z => hne (by rw [z.1, z.2])
     refine ⟨fun σ H' => σ = [some (.ref p), some (.ref q), none, none, none, none] ∧ H' = H, ?_, ?_⟩
     · simp only [tSeq, List.cons_inj_right, tNext, tIfS, tTest, tOp, tUn, rI, rI0, rU, tVar, tC, tAsg, gName, tRet, tRetN, tDrop, tCall, tCons, tNil, tCB, tTup, tLst, rEq, rNe, ixF, setF, gSub, tPar, tNot, tAnd, tOr, tB, tNotV, tAndV, tOrV, tIf, List.append_nil, List.getElem?_cons_zero, List.getElem?_cons_succ, List.set_cons_zero, List.set_cons_succ, Option.some.injEq, V.int.injEq, V.bl.injEq, V.ref.injEq, exists_eq_left', exists_eq_left, exists_eq_right, exists_and_left, exists_and_right, and_true, true_and, and_assoc, List.cons.injEq, optK_some, seqOf_l, seqOf_t, tYes, tIsN, tNotN, rLenK, tML, tML0, appR, popR, clrR, catF, listF, lenF, slF, tSl, tPart, tNoPart, tyN, isiF, isiT_1, isiT_2, isiT_3, isiT_4, isiT_5, isiT_6, isiT_7, lstOf_l, tup3_some, tup2_some, Option.isSome_some, List.dropLast, List.getLast?, L2.stLC, frV, List.map_cons, List.map_nil, List.replicate_succ, List.replicate_zero, List.cons_append, List.nil_append, List.drop_succ_cons, List.drop_zero, Option.join_some, atI_0, atI_1, atI_2, atI_3, scal, if_true, if_false, Bool.false_eq_true, Bool.true_eq_false, reduceIte, reduceCtorEq, decide_eq_true_eq, Bool.not_eq_true', decide_eq_false_iff_not, eq_self, List.length_cons, List.length_nil, Nat.zero_add, Nat.reduceAdd, Nat.reduceLT, upd_same, Int.cast_ofNat_Int, Int.reduceToNat, Int.reducePow, Int.reduceLE, Int.reduceLT, Int.reduceSub, Int.reduceAdd, Int.reduceMul, Int.reduceNeg, bd10, bd64, bd2, bd3, bd4, ixN_3_0, ixN_3_1, ixN_3_2, ixN_2_0, ixN_2_1, ixN_4_0, ixN_4_1, ixN_4_2, ixN_4_3, ne_eq, Int.reduceEq, not_false_eq_true, not_true_eq_false, false_or, or_false, false_and, and_false, exists_false, exists_const, tCont, tRaise, tRaise0, tTry, tCallS, goneEnds, tPar3, tDg, tDp, dkOf_k, tDisp, tPairs, tDpT, tDNewT]
       refine ⟨_, _, rdy_t2 hp, rdy_t2 hq, rfl, rfl, _, rfl, ?_⟩
       rw [eqv_t2, decide_eq_false hn]
       simp only [tSeq, List.cons_inj_right, tNext, tIfS, tTest, tOp, tUn, rI, rI0, rU, tVar, tC, tAsg, gName, tRet, tRetN, tDrop, tCall, tCons, tNil, tCB, tTup, tLst, rEq, rNe, ixF, setF, gSub, tPar, tNot, tAnd, tOr, tB, tNotV, tAndV, tOrV, tIf, List.append_nil, List.getElem?_cons_zero, List.getElem?_cons_succ, List.set_cons_zero, List.set_cons_succ, Option.some.injEq, V.int.injEq, V.bl.injEq, V.ref.injEq, exists_eq_left', exists_eq_left, exists_eq_right, exists_and_left, exists_and_right, and_true, true_and, and_assoc, List.cons.injEq, optK_some, seqOf_l, seqOf_t, tYes, tIsN, tNotN, rLenK, tML, tML0, appR, popR, clrR, catF, listF, lenF, slF, tSl, tPart, tNoPart, tyN, isiF, isiT_1, isiT_2, isiT_3, isiT_4, isiT_5, isiT_6, isiT_7, lstOf_l, tup3_some, tup2_some, Option.isSome_some, List.dropLast, List.getLast?, L2.stLC, frV, List.map_cons, List.map_nil, List.replicate_succ, List.replicate_zero, List.cons_append, List.nil_append, List.drop_succ_cons, List.drop_zero, Option.join_some, atI_0, atI_1, atI_2, atI_3, scal, if_true, if_false, Bool.false_eq_true, Bool.true_eq_false, reduceIte, reduceCtorEq, decide_eq_true_eq, Bool.not_eq_true', decide_eq_false_iff_not, eq_self, List.length_cons, List.length_nil, Nat.zero_add, Nat.reduceAdd, Nat.reduceLT, upd_same, Int.cast_ofNat_Int, Int.reduceToNat, Int.reducePow, Int.reduceLE, Int.reduceLT, Int.reduceSub, Int.reduceAdd, Int.reduceMul, Int.reduceNeg, bd10, bd64, bd2, bd3, bd4, ixN_3_0, ixN_3_1, ixN_3_2, ixN_2_0, ixN_2_1, ixN_4_0, ixN_4_1, ixN_4_2, ixN_4_3, ne_eq, Int.reduceEq, not_false_eq_true, not_true_eq_false, false_or, or_false, false_and, and_false, exists_false, exists_const, tCont, tRaise, tRaise0, tTry, tCallS, goneEnds, tPar3, tDg, tDp, dkOf_k, tDisp, tPairs, tDpT, tDNewT, id]
     · rintro σ H' ⟨rfl, rfl⟩
       simp only [tSeq, List.cons_inj_right, tNext, tIfS, tTest, tOp, tUn, rI, rI0, rU, tVar, tC, tAsg, gName, tRet, tRetN, tDrop, tCall, tCons, tNil, tCB, tTup, tLst, rEq, rNe, ixF, setF, gSub, tPar, tNot, tAnd, tOr, tB, tNotV, tAndV, tOrV, tIf, List.append_nil, List.getElem?_cons_zero, List.getElem?_cons_succ, List.set_cons_zero, List.set_cons_succ, Option.some.injEq, V.int.injEq, V.bl.injEq, V.ref.injEq, exists_eq_left', exists_eq_left, exists_eq_right, exists_and_left, exists_and_right, and_true, true_and, and_assoc, List.cons.injEq, optK_some, seqOf_l, seqOf_t, tYes, tIsN, tNotN, rLenK, tML, tML0, appR, popR, clrR, catF, listF, lenF, slF, tSl, tPart, tNoPart, tyN, isiF, isiT_1, isiT_2, isiT_3, isiT_4, isiT_5, isiT_6, isiT_7, lstOf_l, tup3_some, tup2_some, Option.isSome_some, List.dropLast, List.getLast?, L2.stLC, frV, List.map_cons, List.map_nil, List.replicate_succ, List.replicate_zero, List.cons_append, List.nil_append, List.drop_succ_cons, List.drop_zero, Option.join_some, atI_0, atI_1, atI_2, atI_3, scal, if_true, if_false, Bool.false_eq_true, Bool.true_eq_false, reduceIte, reduceCtorEq, decide_eq_true_eq, Bool.not_eq_true', decide_eq_false_iff_not, eq_self, List.length_cons, List.length_nil, Nat.zero_add, Nat.reduceAdd, Nat.reduceLT, upd_same, Int.cast_ofNat_Int, Int.reduceToNat, Int.reducePow, Int.reduceLE, Int.reduceLT, Int.reduceSub, Int.reduceAdd, Int.reduceMul, Int.reduceNeg, bd10, bd64, bd2, bd3, bd4, ixN_3_0, ixN_3_1, ixN_3_2, ixN_2_0, ixN_2_1, ixN_4_0, ixN_4_1, ixN_4_2, ixN_4_3, ne_eq, Int.reduceEq, not_false_eq_true, not_true_eq_false, false_or, or_false, false_and, and_false, exists_false, exists_const, tCont, tRaise, tRaise0, tTry, tCallS, goneEnds, tPar3, tDg, tDp, dkOf_k, tDisp, tPairs, tDpT, tDNewT, gSeqF, gCons, gNil, hp, hq, sp_line_of]
       refine ⟨.left (by decide) (by decide), .left (by decide) (by decide), (by first | exact CMulA.left (by decide) (by decide) | exact CMulA.right (by decide) (by decide) | (apply CMulA.of; (repeat (first | assumption | apply Bd.mul | apply Bd.sub | apply Bd.add | apply Bd.neg | apply Bd.sq)); all_goals decide)), (by first | exact CMulA.left (by decide) (by decide) | exact CMulA.right (by decide) (by decide) | (apply CMulA.of; (repeat (first | assumption | apply Bd.mul | apply Bd.sub | apply Bd.add | apply Bd.neg | apply Bd.sq)); all_goals decide)), (by first | exact CMulA.left (by decide) (by decide) | exact CMulA.right (by decide) (by decide) | (apply CMulA.of; (repeat (first | assumption | apply Bd.mul | apply Bd.sub | apply Bd.add | apply Bd.neg | apply Bd.sq)); all_goals decide)), (by first | exact CMulA.left (by decide) (by decide) | exact CMulA.right (by decide) (by decide) | (apply CMulA.of; (repeat (first | assumption | apply Bd.mul | apply Bd.sub | apply Bd.add | apply Bd.neg | apply Bd.sq)); all_goals decide)), fun z => hn ⟨by omega, by omega⟩, ?_, ?_, ?_, fun t x y z ht hl => h t x y z ht hl⟩
       · exact ((Bd.of_le (n := 2) 2 (by decide) (by decide) (by decide)).mul (b3.sub b1)).mono (by decide)
       · exact ((Bd.of_le (n := 2) 2 (by decide) (by decide) (by decide)).mul (b4.sub b2)).mono (by decide)
       · exact ((((b3.mul b3).add (b4.mul b4)).sub (b1.mul b1)).sub (b2.mul b2)).mono (by decide)
end
end LW
namespace LW
open PySem L2 MA PyProof.Rows
section
variable {P : Program} {w : World} {K : PySem.W.Frag} {mg : Str → Option Value} {base : Heap}
theorem sc_excess : FnScope ["line", "point"] ["line", "point"] (defScope s_excess) := ⟨rfl, rfl, rfl, by decide +kernel, rfl, by decide +kernel, by decide +kernel⟩
set_option maxHeartbeats 0 in
theorem ok_excess {C : Cz} {f : Addr} {fd : FuncData} (F : Fun K "excess" "excess" s_excess f fd) (T : Txt K mg C)  : FnOk P w K mg base (CXE P w) 1 f fd ["line", "point"] sp_excess := by
  refine okN F (k := 0) sc_excess (fun vs H Q E h => ?_) (fun cdv A outer s H vs Q E hr h => ?_)
  · obtain ⟨p, q, rfl, _⟩ := h
    rfl
  · obtain ⟨p, q, rfl, h⟩ := h
    refine' ⟨_, ?main, ?rest⟩
    case main =>
     refine' pss_one ?c1
     case c1 =>
      refine' ps_ret ?c2
      case c2 =>
       refine' pe_op ?c3 ?c4 ?c5
       case c3 => exact op_sub
       case c4 =>
        refine' pe_op ?c6 ?c7 ?c8
        case c6 => exact op_add
        case c7 =>
         refine' pe_op op_mulA ?c9 ?c10
         case c9 =>
          exact (pe_ix ix_F (pv 0) pe_int (fun _ _ => rfl))
         case c10 =>
          exact (pe_ix ix_F (pv 1) pe_int (fun _ _ => rfl))
        case c8 =>
         refine' pe_op op_mulA ?c11 ?c12
         case c11 =>
          exact (pe_ix ix_F (pv 0) pe_int (fun _ _ => rfl))
         case c12 =>
          exact (pe_ix ix_F (pv 1) pe_int (fun _ _ => rfl))
       case c5 =>
        refine' pe_op op_mulA ?c13 ?c14
        case c13 =>
         exact (pe_ix ix_F (pv 0) pe_int (fun _ _ => rfl))
        case c14 =>
         exact (pe_ix ix_F (pv 1) pe_int (fun _ _ => rfl))
    case rest =>
     obtain ⟨⟨a, b, c⟩, hp, h⟩ := optK_elim h
     obtain ⟨⟨d, e, f⟩, hq, ⟨b1, b2, b3⟩, ⟨b4, b5, b6⟩, h⟩ := optK_elim h
     replace hp := tup3_eq hp
     replace hq := tup3_eq hq
     dsimp only at hp hq b1 b2 b3 b4 b5 b6 h
     simp only [L2.start, List.map_cons, List.map_nil, List.length_cons, List.length_nil, Nat.reduceAdd, Nat.reduceSub, List.replicate_succ, List.replicate_zero, List.cons_append, List.nil_append, List.append_nil]
     simp only [tSeq, List.cons_inj_right, tNext, tIfS, tTest, tOp, tUn, rI, rI0, rU, tVar, tC, tAsg, gName, tRet, tRetN, tDrop, tCall, tCons, tNil, tCB, tTup, tLst, rEq, rNe, ixF, setF, gSub, tPar, tNot, tAnd, tOr, tB, tNotV, tAndV, tOrV, tIf, List.append_nil, List.getElem?_cons_zero, List.getElem?_cons_succ, List.set_cons_zero, List.set_cons_succ, Option.some.injEq, V.int.injEq, V.bl.injEq, V.ref.injEq, exists_eq_left', exists_eq_left, exists_eq_right, exists_and_left, exists_and_right, and_true, true_and, and_assoc, List.cons.injEq, optK_some, seqOf_l, seqOf_t, tYes, tIsN, tNotN, rLenK, tML, tML0, appR, popR, clrR, catF, listF, lenF, slF, tSl, tPart, tNoPart, tyN, isiF, isiT_1, isiT_2, isiT_3, isiT_4, isiT_5, isiT_6, isiT_7, lstOf_l, tup3_some, tup2_some, Option.isSome_some, List.dropLast, List.getLast?, L2.stLC, frV, List.map_cons, List.map_nil, List.replicate_succ, List.replicate_zero, List.cons_append, List.nil_append, List.drop_succ_cons, List.drop_zero, Option.join_some, atI_0, atI_1, atI_2, atI_3, scal, if_true, if_false, Bool.false_eq_true, Bool.true_eq_false, reduceIte, reduceCtorEq, decide_eq_true_eq, Bool.not_eq_true', decide_eq_false_iff_not, eq_self, List.length_cons, List.length_nil, Nat.zero_add, Nat.reduceAdd, Nat.reduceLT, upd_same, Int.cast_ofNat_Int, Int.reduceToNat, Int.reducePow, Int.reduceLE, Int.reduceLT, Int.reduceSub, Int.reduceAdd, Int.reduceMul, Int.reduceNeg, bd10, bd64, bd2, bd3, bd4, ixN_3_0, ixN_3_1, ixN_3_2, ixN_2_0, ixN_2_1, ixN_4_0, ixN_4_1, ixN_4_2, ixN_4_3, ne_eq, Int.reduceEq, not_false_eq_true, not_true_eq_false, false_or, or_false, false_and, and_false, exists_false, exists_const, tCont, tRaise, tRaise0, tTry, tCallS, goneEnds, tPar3, tDg, tDp, dkOf_k, tDisp, tPairs, tDpT, tDNewT, hp, hq]
     exact ⟨(by first | exact CMulA.left (by decide) (by decide) | exact CMulA.right (by decide) (by decide) | (apply CMulA.of; (repeat (first | assumption | apply Bd.mul | apply Bd.sub | apply Bd.add | apply Bd.neg | apply Bd.sq)); all_goals decide)), (by first | exact CMulA.left (by decide) (by decide) | exact CMulA.right (by decide) (by decide) | (apply CMulA.of; (repeat (first | assumption | apply Bd.mul | apply Bd.sub | apply Bd.add | apply Bd.neg | apply Bd.sq)); all_goals decide)), (by first | exact CMulA.left (by decide) (by decide) | exact CMulA.right (by decide) (by decide) | (apply CMulA.of; (repeat (first | assumption | apply Bd.mul | apply Bd.sub | apply Bd.add | apply Bd.neg | apply Bd.sq)); all_goals decide)), h⟩
end
end LW
namespace LW
open PySem L2 MA PyProof.Rows
section
variable {P : Program} {w : World} {K : PySem.W.Frag} {mg : Str → Option Value} {base : Heap}
theorem sc_place : FnScope ["line", "point"] ["line", "point"] (defScope s_place) := ⟨rfl, rfl, rfl, by decide +kernel, rfl, by decide +kernel, by decide +kernel⟩
set_option maxHeartbeats 0 in
theorem ok_place {C : Cz} {f : Addr} {fd : FuncData} (F : Fun K "place" "place" s_place f fd) (T : Txt K mg C) (F_excess : FnB P w K mg base (CXE P w) 1 "excess" ["line", "point"] sp_excess) (F_sign : FnB P w K mg base (CXE P w) 1 "sign" ["number"] sp_sign) : FnOk P w K mg base (CXE P w) 2 f fd ["line", "point"] sp_place := by
  refine okN F (k := 1) sc_place (fun vs H Q E h => ?_) (fun cdv A outer s H vs Q E hr h => ?_)
  · obtain ⟨p, q, rfl, _⟩ := h
    rfl
  · obtain ⟨p, q, rfl, h⟩ := h
    refine' ⟨_, ?main, ?rest⟩
    case main =>
     refine' pss_one ?c1
     case c1 =>
      refine' ps_ret ?c2
      case c2 =>
       refine' pe_fn F_sign (hr.mono (by decide)) rfl passE0 ?c3
       case c3 =>
        refine' pa_cons ?c4 pa_nil
        case c4 =>
         refine' pe_fn F_excess (hr.mono (by decide)) rfl passE0 ?c5
         case c5 =>
          refine' pa_cons (pv 0) ?c6
          case c6 =>
           exact (pa_cons (pv 1) pa_nil)
    case rest =>
     simp only [L2.start, List.map_cons, List.map_nil, List.length_cons, List.length_nil, Nat.reduceAdd, Nat.reduceSub, List.replicate_succ, List.replicate_zero, List.cons_append, List.nil_append, List.append_nil]
     simp only [tSeq, List.cons_inj_right, tNext, tIfS, tTest, tOp, tUn, rI, rI0, rU, tVar, tC, tAsg, gName, tRet, tRetN, tDrop, tCall, tCons, tNil, tCB, tTup, tLst, rEq, rNe, ixF, setF, gSub, tPar, tNot, tAnd, tOr, tB, tNotV, tAndV, tOrV, tIf, List.append_nil, List.getElem?_cons_zero, List.getElem?_cons_succ, List.set_cons_zero, List.set_cons_succ, Option.some.injEq, V.int.injEq, V.bl.injEq, V.ref.injEq, exists_eq_left', exists_eq_left, exists_eq_right, exists_and_left, exists_and_right, and_true, true_and, and_assoc, List.cons.injEq, optK_some, seqOf_l, seqOf_t, tYes, tIsN, tNotN, rLenK, tML, tML0, appR, popR, clrR, catF, listF, lenF, slF, tSl, tPart, tNoPart, tyN, isiF, isiT_1, isiT_2, isiT_3, isiT_4, isiT_5, isiT_6, isiT_7, lstOf_l, tup3_some, tup2_some, Option.isSome_some, List.dropLast, List.getLast?, L2.stLC, frV, List.map_cons, List.map_nil, List.replicate_succ, List.replicate_zero, List.cons_append, List.nil_append, List.drop_succ_cons, List.drop_zero, Option.join_some, atI_0, atI_1, atI_2, atI_3, scal, if_true, if_false, Bool.false_eq_true, Bool.true_eq_false, reduceIte, reduceCtorEq, decide_eq_true_eq, Bool.not_eq_true', decide_eq_false_iff_not, eq_self, List.length_cons, List.length_nil, Nat.zero_add, Nat.reduceAdd, Nat.reduceLT, upd_same, Int.cast_ofNat_Int, Int.reduceToNat, Int.reducePow, Int.reduceLE, Int.reduceLT, Int.reduceSub, Int.reduceAdd, Int.reduceMul, Int.reduceNeg, bd10, bd64, bd2, bd3, bd4, ixN_3_0, ixN_3_1, ixN_3_2, ixN_2_0, ixN_2_1, ixN_4_0, ixN_4_1, ixN_4_2, ixN_4_3, ne_eq, Int.reduceEq, not_false_eq_true, not_true_eq_false, false_or, or_false, false_and, and_false, exists_false, exists_const, tCont, tRaise, tRaise0, tTry, tCallS, goneEnds, tPar3, tDg, tDp, dkOf_k, tDisp, tPairs, tDpT, tDNewT, sp_excess, sp_sign]
     exact h
end
end LW
namespace LW
open PySem L2 MA PyProof.Rows
section
variable {P : Program} {w : World} {K : PySem.W.Frag} {mg : Str → Option Value} {base : Heap}
theorem sc_meet : FnScope ["one", "other", "a", "b", "c", "d", "e", "f"] ["one", "other"] (defScope s_meet) := ⟨rfl, rfl, rfl, by decide +kernel, rfl, by decide +kernel, by decide +kernel⟩
set_option maxHeartbeats 0 in
theorem ok_meet {C : Cz} {f : Addr} {fd : FuncData} (F : Fun K "meet" "meet" s_meet f fd) (T : Txt K mg C) (F_point_of : FnB P w K mg base (CXE P w) 2 "point_of" ["x", "y", "w"] sp_point_of) : FnOk P w K mg base (CXE P w) 3 f fd ["one", "other"] sp_meet := by
  refine okN F (k := 2) sc_meet (fun vs H Q E h => ?_) (fun cdv A outer s H vs Q E hr h => ?_)
  · obtain ⟨p, q, rfl, _⟩ := h
    rfl
  · obtain ⟨p, q, rfl, h⟩ := h
    refine' ⟨_, ?main, ?rest⟩
    case main =>
     refine' pss_cons ?c1 ?c2
     case c1 =>
      refine' ps_asg (pv 0) ?c3
      case c3 =>
       refine' pg_F (n := 3) rfl ?c4
       case c4 =>
        refine' pgs_cons (pg_name (i := 2) sc_meet.nd rfl (Or.inl rfl)) ?c5
        case c5 =>
         refine' pgs_cons (pg_name (i := 3) sc_meet.nd rfl (Or.inl rfl)) ?c6
         case c6 =>
          exact (pgs_cons (pg_name (i := 4) sc_meet.nd rfl (Or.inl rfl)) pgs_nil)
     case c2 =>
      refine' pss_cons ?c7 ?c8
      case c7 =>
       refine' ps_asg (pv 1) ?c9
       case c9 =>
        refine' pg_F (n := 3) rfl ?c10
        case c10 =>
         refine' pgs_cons (pg_name (i := 5) sc_meet.nd rfl (Or.inl rfl)) ?c11
         case c11 =>
          refine' pgs_cons (pg_name (i := 6) sc_meet.nd rfl (Or.inl rfl)) ?c12
          case c12 =>
           exact (pgs_cons (pg_name (i := 7) sc_meet.nd rfl (Or.inl rfl)) pgs_nil)
      case c8 =>
       refine' pss_cons ?c13 ?c14
       case c13 =>
        refine' ps_if ?c15 ?c16 pss_nil
        case c15 =>
         exact (pt_cmpR op_eq (pe_op op_mulA (pv 2) (pv 6)) (pe_op op_mulA (pv 3) (pv 5)) (nomark _))
        case c16 =>
         refine' pss_one ?c17
         case c17 =>
          exact (ps_ret pe_non)
       case c14 =>
        refine' pss_one ?c18
        case c18 =>
         refine' ps_ret ?c19
         case c19 =>
          refine' pe_fn ?c20 ?c21 ?c22 ?c23 ?c24
          case c20 => exact F_point_of
          case c21 => exact (hr.mono (by decide))
          case c22 => exact rfl
          case c23 => exact passE0
          case c24 =>
           refine' pa_cons ?c25 ?c26
           case c25 =>
            exact (pe_op op_sub (pe_op op_mulA (pv 4) (pv 6)) (pe_op op_mulA (pv 3) (pv 7)))
           case c26 =>
            refine' pa_cons ?c27 ?c28
            case c27 =>
             exact (pe_op op_sub (pe_op op_mulA (pv 2) (pv 7)) (pe_op op_mulA (pv 4) (pv 5)))
            case c28 =>
             refine' pa_cons ?c29 pa_nil
             case c29 =>
              exact (pe_op op_sub (pe_op op_mulA (pv 2) (pv 6)) (pe_op op_mulA (pv 3) (pv 5)))
    case rest =>
     obtain ⟨⟨a, b, c⟩, hp, h⟩ := optK_elim h
     obtain ⟨⟨d, e, f⟩, hq, ⟨b1, b2, b3⟩, ⟨b4, b5, b6⟩, h1, h2⟩ := optK_elim h
     replace hp := tup3_eq hp
     replace hq := tup3_eq hq
     dsimp only at hp hq b1 b2 b3 b4 b5 b6 h1 h2
     simp only [L2.start, List.map_cons, List.map_nil, List.length_cons, List.length_nil, Nat.reduceAdd, Nat.reduceSub, List.replicate_succ, List.replicate_zero, List.cons_append, List.nil_append, List.append_nil]
     simp only [tSeq, List.cons_inj_right, tNext, tIfS, tTest, tOp, tUn, rI, rI0, rU, tVar, tC, tAsg, gName, tRet, tRetN, tDrop, tCall, tCons, tNil, tCB, tTup, tLst, rEq, rNe, ixF, setF, gSub, tPar, tNot, tAnd, tOr, tB, tNotV, tAndV, tOrV, tIf, List.append_nil, List.getElem?_cons_zero, List.getElem?_cons_succ, List.set_cons_zero, List.set_cons_succ, Option.some.injEq, V.int.injEq, V.bl.injEq, V.ref.injEq, exists_eq_left', exists_eq_left, exists_eq_right, exists_and_left, exists_and_right, and_true, true_and, and_assoc, List.cons.injEq, optK_some, seqOf_l, seqOf_t, tYes, tIsN, tNotN, rLenK, tML, tML0, appR, popR, clrR, catF, listF, lenF, slF, tSl, tPart, tNoPart, tyN, isiF, isiT_1, isiT_2, isiT_3, isiT_4, isiT_5, isiT_6, isiT_7, lstOf_l, tup3_some, tup2_some, Option.isSome_some, List.dropLast, List.getLast?, L2.stLC, frV, List.map_cons, List.map_nil, List.replicate_succ, List.replicate_zero, List.cons_append, List.nil_append, List.drop_succ_cons, List.drop_zero, Option.join_some, atI_0, atI_1, atI_2, atI_3, scal, if_true, if_false, Bool.false_eq_true, Bool.true_eq_false, reduceIte, reduceCtorEq, decide_eq_true_eq, Bool.not_eq_true', decide_eq_false_iff_not, eq_self, List.length_cons, List.length_nil, Nat.zero_add, Nat.reduceAdd, Nat.reduceLT, upd_same, Int.cast_ofNat_Int, Int.reduceToNat, Int.reducePow, Int.reduceLE, Int.reduceLT, Int.reduceSub, Int.reduceAdd, Int.reduceMul, Int.reduceNeg, bd10, bd64, bd2, bd3, bd4, ixN_3_0, ixN_3_1, ixN_3_2, ixN_2_0, ixN_2_1, ixN_4_0, ixN_4_1, ixN_4_2, ixN_4_3, ne_eq, Int.reduceEq, not_false_eq_true, not_true_eq_false, false_or, or_false, false_and, and_false, exists_false, exists_const, tCont, tRaise, tRaise0, tTry, tCallS, goneEnds, tPar3, tDg, tDp, dkOf_k, tDisp, tPairs, tDpT, tDNewT, gSeqF, gCons, gNil, hp, hq, sp_point_of]
     refine ⟨(by first | exact CMulA.left (by decide) (by decide) | exact CMulA.right (by decide) (by decide) | (apply CMulA.of; (repeat (first | assumption | apply Bd.mul | apply Bd.sub | apply Bd.add | apply Bd.neg | apply Bd.sq)); all_goals decide)), (by first | exact CMulA.left (by decide) (by decide) | exact CMulA.right (by decide) (by decide) | (apply CMulA.of; (repeat (first | assumption | apply Bd.mul | apply Bd.sub | apply Bd.add | apply Bd.neg | apply Bd.sq)); all_goals decide)), ?_⟩
     by_cases z : a * e = b * d
     · rw [if_pos z]
       exact h1 z
     · rw [if_neg z]
       refine ⟨(by first | exact CMulA.left (by decide) (by decide) | exact CMulA.right (by decide) (by decide) | (apply CMulA.of; (repeat (first | assumption | apply Bd.mul | apply Bd.sub | apply Bd.add | apply Bd.neg | apply Bd.sq)); all_goals decide)), (by first | exact CMulA.left (by decide) (by decide) | exact CMulA.right (by decide) (by decide) | (apply CMulA.of; (repeat (first | assumption | apply Bd.mul | apply Bd.sub | apply Bd.add | apply Bd.neg | apply Bd.sq)); all_goals decide)), (by first | exact CMulA.left (by decide) (by decide) | exact CMulA.right (by decide) (by decide) | (apply CMulA.of; (repeat (first | assumption | apply Bd.mul | apply Bd.sub | apply Bd.add | apply Bd.neg | apply Bd.sq)); all_goals decide)), (by first | exact CMulA.left (by decide) (by decide) | exact CMulA.right (by decide) (by decide) | (apply CMulA.of; (repeat (first | assumption | apply Bd.mul | apply Bd.sub | apply Bd.add | apply Bd.neg | apply Bd.sq)); all_goals decide)), (by first | exact CMulA.left (by decide) (by decide) | exact CMulA.right (by decide) (by decide) | (apply CMulA.of; (repeat (first | assumption | apply Bd.mul | apply Bd.sub | apply Bd.add | apply Bd.neg | apply Bd.sq)); all_goals decide)), (by first | exact CMulA.left (by decide) (by decide) | exact CMulA.right (by decide) (by decide) | (apply CMulA.of; (repeat (first | assumption | apply Bd.mul | apply Bd.sub | apply Bd.add | apply Bd.neg | apply Bd.sq)); all_goals decide)), by omega, ?_, fun t x y w' ht hpt => h2 z t x y w' ht hpt⟩
       exact ((b1.mul b5).sub (b2.mul b4)).mono (by decide)
end
end LW
namespace LW
open PySem L2 MA PyProof.Rows
section
variable {P : Program} {w : World} {K : PySem.W.Frag} {mg : Str → Option Value} {base : Heap}
theorem sc__law_feed : FnScope ["_law_script", "_law_k", "_law_cell"] ["_law_script", "_law_k"] (defScope s__law_feed) := ⟨rfl, rfl, rfl, by decide +kernel, rfl, by decide +kernel, by decide +kernel⟩
set_option maxHeartbeats 0 in
theorem ok__law_feed {C : Cz} {f : Addr} {fd : FuncData} (F : Fun K "_law_feed" "_law_feed" s__law_feed f fd) (T : Txt K mg C)  : FnOk P w K mg base (CXE P w) 1 f fd ["_law_script", "_law_k"] (sp_feed K) := by
  refine okN F (k := 0) sc__law_feed (fun vs H Q E h => ?_) (fun cdv A outer s H vs Q E hr h => ?_)
  · obtain ⟨a, ns, k, rfl, _⟩ := h
    rfl
  · obtain ⟨a, ns, k, rfl, h⟩ := h
    refine' ⟨_, ?main, ?rest⟩
    case main =>
     refine' pss_cons ?c1 ?c2
     case c1 =>
      exact (ps_set (i := 2) sc__law_feed.nd rfl (Or.inl rfl) pe_int)
     case c2 =>
      refine' pss_cons ?c3 ?c4
      case c3 =>
       refine' ps_if ?c5 ?c6 pss_nil
       case c5 =>
        refine' pt_cmpR op_gt ?c7 pe_int (nomark _)
        case c7 =>
         refine' pe_callB (call_lenK (K := K) rfl) (by rfl) T.b_len PySem.boot_len ?c8
         case c8 =>
          exact (pa_cons (pv 0) pa_nil)
       case c6 =>
        refine' pss_one ?c9
        case c9 =>
         refine' ps_set (i := 2) sc__law_feed.nd rfl (Or.inl rfl) ?c10
         case c10 =>
          refine' pe_ix (ix_listK (K := K) rfl) (pv 0) ?c11 (fun _ _ => rfl)
          case c11 =>
           refine' pe_op op_mod (pv 1) ?c12
           case c12 =>
            refine' pe_callB (call_lenK (K := K) rfl) (by rfl) T.b_len PySem.boot_len ?c13
            case c13 =>
             exact (pa_cons (pv 0) pa_nil)
      case c4 =>
       refine' pss_one ?c14
       case c14 =>
        refine' ps_ret ?c15
        case c15 =>
         refine' pe_lst ?c16
         case c16 =>
          refine' pa_cons (pv 2) ?c17
          case c17 =>
           refine' pa_cons ?c18 ?c19
           case c18 =>
            exact (pe_op op_mod (pv 2) pe_int)
           case c19 =>
            refine' pa_cons ?c20 pa_nil
            case c20 =>
             exact (pe_op op_mulA pe_int (pv 1))
    case rest =>
     obtain ⟨hs, h⟩ := h
     simp only [L2.start, List.map_cons, List.map_nil, List.length_cons, List.length_nil, Nat.reduceAdd, Nat.reduceSub, List.replicate_succ, List.replicate_zero, List.cons_append, List.nil_append, List.append_nil]
     simp only [tSeq, List.cons_inj_right, tNext, tIfS, tTest, tOp, tUn, rI, rI0, rU, tVar, tC, tAsg, gName, tRet, tRetN, tDrop, tCall, tCons, tNil, tCB, tTup, tLst, rEq, rNe, ixF, setF, gSub, tPar, tNot, tAnd, tOr, tB, tNotV, tAndV, tOrV, tIf, List.append_nil, List.getElem?_cons_zero, List.getElem?_cons_succ, List.set_cons_zero, List.set_cons_succ, Option.some.injEq, V.int.injEq, V.bl.injEq, V.ref.injEq, exists_eq_left', exists_eq_left, exists_eq_right, exists_and_left, exists_and_right, and_true, true_and, and_assoc, List.cons.injEq, optK_some, seqOf_l, seqOf_t, tYes, tIsN, tNotN, rLenK, tML, tML0, appR, popR, clrR, catF, listF, lenF, slF, tSl, tPart, tNoPart, tyN, isiF, isiT_1, isiT_2, isiT_3, isiT_4, isiT_5, isiT_6, isiT_7, lstOf_l, tup3_some, tup2_some, Option.isSome_some, List.dropLast, List.getLast?, L2.stLC, frV, List.map_cons, List.map_nil, List.replicate_succ, List.replicate_zero, List.cons_append, List.nil_append, List.drop_succ_cons, List.drop_zero, Option.join_some, atI_0, atI_1, atI_2, atI_3, scal, if_true, if_false, Bool.false_eq_true, Bool.true_eq_false, reduceIte, reduceCtorEq, decide_eq_true_eq, Bool.not_eq_true', decide_eq_false_iff_not, eq_self, List.length_cons, List.length_nil, Nat.zero_add, Nat.reduceAdd, Nat.reduceLT, upd_same, Int.cast_ofNat_Int, Int.reduceToNat, Int.reducePow, Int.reduceLE, Int.reduceLT, Int.reduceSub, Int.reduceAdd, Int.reduceMul, Int.reduceNeg, bd10, bd64, bd2, bd3, bd4, ixN_3_0, ixN_3_1, ixN_3_2, ixN_2_0, ixN_2_1, ixN_4_0, ixN_4_1, ixN_4_2, ixN_4_3, ne_eq, Int.reduceEq, not_false_eq_true, not_true_eq_false, false_or, or_false, false_and, and_false, exists_false, exists_const, tCont, tRaise, tRaise0, tTry, tCallS, goneEnds, tPar3, tDg, tDp, dkOf_k, tDisp, tPairs, tDpT, tDNewT]
     refine ⟨_, .inl hs, ?_⟩
     split
     · rename_i z
       rw [List.length_map] at z
       obtain ⟨x, hx, _⟩ := atI_mod (xs := ns) (k := k) (by omega)
       refine ⟨_, .inl hs, by rw [List.length_map]; omega, a, _, _, _, rfl, rfl, hs, by rw [List.length_map]; exact hx, _, rfl, .left (by decide) (by decide), by decide, fun p hp => h p _ _ _ hp⟩
     · exact ⟨.left (by decide) (by decide), by decide, fun p hp => h p _ _ _ hp⟩
end
end LW
namespace LW
open PySem L2 MA PyProof.Rows
section
variable {P : Program} {w : World} {K : PySem.W.Frag} {mg : Str → Option Value} {base : Heap}
theorem sc__law_next : FnScope ["_law_feed_here", "_law_many", "_law_digit", "_law_number"] ["_law_feed_here", "_law_many"] (defScope s__law_next) := ⟨rfl, rfl, rfl, by decide +kernel, rfl, by decide +kernel, by decide +kernel⟩
set_option maxHeartbeats 0 in
theorem ok__law_next {C : Cz} {f : Addr} {fd : FuncData} (F : Fun K "_law_next" "_law_next" s__law_next f fd) (T : Txt K mg C)  : FnOk P w K mg base (CXE P w) 1 f fd ["_law_feed_here", "_law_many"] sp_next := by
  refine okN F (k := 0) sc__law_next (fun vs H Q E h => ?_) (fun cdv A outer s H vs Q E hr h => ?_)
  · obtain ⟨p, m, rfl, _⟩ := h
    rfl
  · obtain ⟨p, m, rfl, h⟩ := h
    refine' ⟨_, ?main, ?rest⟩
    case main =>
     refine' pss_cons ?c1 ?c2
     case c1 =>
      refine' ps_if ?c3 ?c4 pss_nil
      case c3 =>
       refine' pt_cmpR op_ge ?c5 ?c6 (nomark _)
       case c5 =>
        exact (pe_ix ix_F (pv 0) pe_int (fun _ _ => rfl))
       case c6 =>
        exact (pe_op op_powB pe_int pe_int)
      case c4 =>
       refine' pss_cons ?c7 ?c8
       case c7 =>
        refine' ps_set (i := 2) sc__law_next.nd rfl (Or.inl rfl) ?c9
        case c9 =>
         refine' pe_op op_mod ?c10 (pv 1)
         case c10 =>
          exact (pe_ix ix_F (pv 0) pe_int (fun _ _ => rfl))
       case c8 =>
        refine' pss_cons ?c11 ?c12
        case c11 =>
         refine' ps_asg ?c13 ?c14
         case c13 =>
          refine' pe_op op_fdivB ?c15 (pv 1)
          case c15 =>
           exact (pe_ix ix_F (pv 0) pe_int (fun _ _ => rfl))
         case c14 =>
          exact (pg_sub (pv 0) pe_int set_F)
        case c12 =>
         exact (pss_one (ps_ret (pv 2)))
     case c2 =>
      refine' pss_cons ?c16 ?c17
      case c16 =>
       refine' ps_asg ?c18 ?c19
       case c18 =>
        refine' pe_op op_add ?c20 pe_int
        case c20 =>
         exact (pe_ix ix_F (pv 0) pe_int (fun _ _ => rfl))
       case c19 =>
        exact (pg_sub (pv 0) pe_int set_F)
      case c17 =>
       refine' pss_cons ?c21 ?c22
       case c21 =>
        refine' ps_set (i := 3) sc__law_next.nd rfl (Or.inl rfl) ?c23
        case c23 =>
         refine' pe_op ?c24 ?c25 ?c26
         case c24 => exact op_mod
         case c25 =>
          refine' pe_op op_mulA ?c27 pe_int
          case c27 =>
           refine' pe_op op_add ?c28 ?c29
           case c28 =>
            exact (pe_ix ix_F (pv 0) pe_int (fun _ _ => rfl))
           case c29 =>
            refine' pe_op op_mulA pe_int ?c30
            case c30 =>
             exact (pe_ix ix_F (pv 0) pe_int (fun _ _ => rfl))
         case c26 => exact pe_int
       case c22 =>
        refine' pss_cons ?c31 ?c32
        case c31 =>
         refine' ps_set (i := 3) sc__law_next.nd rfl (Or.inl rfl) ?c33
         case c33 =>
          refine' pe_op op_mod ?c34 pe_int
          case c34 =>
           refine' pe_op op_add (pe_op op_mulA (pv 3) (pv 3)) ?c35
           case c35 =>
            refine' pe_op op_mulA pe_int ?c36
            case c36 =>
             exact (pe_ix ix_F (pv 0) pe_int (fun _ _ => rfl))
        case c32 =>
         refine' pss_one ?c37
         case c37 =>
          refine' ps_ret ?c38
          case c38 =>
           refine' pe_op ?c39 ?c40 ?c41
           case c39 => exact op_mod
           case c40 =>
            refine' pe_op op_fdivB ?c42 pe_int
            case c42 =>
             refine' pe_op op_mod ?c43 pe_int
             case c43 =>
              refine' pe_op op_mulA (pv 3) ?c44
              case c44 =>
               refine' pe_op op_add ?c45 pe_int
               case c45 =>
                exact (pe_op op_mod (pv 3) pe_int)
           case c41 => exact (pv 1)
    case rest =>
     obtain ⟨⟨a, b, c, hp⟩, hm0, hm1, h⟩ := h
     simp only [L2.start, List.map_cons, List.map_nil, List.length_cons, List.length_nil, Nat.reduceAdd, Nat.reduceSub, List.replicate_succ, List.replicate_zero, List.cons_append, List.nil_append, List.append_nil]
     simp only [tSeq, List.cons_inj_right, tNext, tIfS, tTest, tOp, tUn, rI, rI0, rU, tVar, tC, tAsg, gName, tRet, tRetN, tDrop, tCall, tCons, tNil, tCB, tTup, tLst, rEq, rNe, ixF, setF, gSub, tPar, tNot, tAnd, tOr, tB, tNotV, tAndV, tOrV, tIf, List.append_nil, List.getElem?_cons_zero, List.getElem?_cons_succ, List.set_cons_zero, List.set_cons_succ, Option.some.injEq, V.int.injEq, V.bl.injEq, V.ref.injEq, exists_eq_left', exists_eq_left, exists_eq_right, exists_and_left, exists_and_right, and_true, true_and, and_assoc, List.cons.injEq, optK_some, seqOf_l, seqOf_t, tYes, tIsN, tNotN, rLenK, tML, tML0, appR, popR, clrR, catF, listF, lenF, slF, tSl, tPart, tNoPart, tyN, isiF, isiT_1, isiT_2, isiT_3, isiT_4, isiT_5, isiT_6, isiT_7, lstOf_l, tup3_some, tup2_some, Option.isSome_some, List.dropLast, List.getLast?, L2.stLC, frV, List.map_cons, List.map_nil, List.replicate_succ, List.replicate_zero, List.cons_append, List.nil_append, List.drop_succ_cons, List.drop_zero, Option.join_some, atI_0, atI_1, atI_2, atI_3, scal, if_true, if_false, Bool.false_eq_true, Bool.true_eq_false, reduceIte, reduceCtorEq, decide_eq_true_eq, Bool.not_eq_true', decide_eq_false_iff_not, eq_self, List.length_cons, List.length_nil, Nat.zero_add, Nat.reduceAdd, Nat.reduceLT, upd_same, Int.cast_ofNat_Int, Int.reduceToNat, Int.reducePow, Int.reduceLE, Int.reduceLT, Int.reduceSub, Int.reduceAdd, Int.reduceMul, Int.reduceNeg, bd10, bd64, bd2, bd3, bd4, ixN_3_0, ixN_3_1, ixN_3_2, ixN_2_0, ixN_2_1, ixN_4_0, ixN_4_1, ixN_4_2, ixN_4_3, ne_eq, Int.reduceEq, not_false_eq_true, not_true_eq_false, false_or, or_false, false_and, and_false, exists_false, exists_const, tCont, tRaise, tRaise0, tTry, tCallS, goneEnds, tPar3, tDg, tDp, dkOf_k, tDisp, tPairs, tDpT, tDNewT, hp]
     have fx : ∀ x y z : Int, FX p H (upd H p (.lst [.int x, .int y, .int z])) := fun x y z => ⟨⟨x, y, z, upd_same⟩, fun b o hb e => by rw [upd_ne hb]; exact e⟩
     have hmb : Bd 9000 m := Bd.mono (m := 140) (Bd.of_le 10000000000000000000000000000000000000000 (by omega) (by omega) (by decide)) (by decide)
     have hm2 : ¬ m = 0 := by omega
     split
     · exact ⟨hm0, hm2, hmb, h _ _ (Int.emod_nonneg _ hm2) (Int.emod_lt_of_pos _ hm0) (fx _ _ _)⟩
     · exact ⟨.left (by decide) (by decide), .right (by decide) (by decide), .mod (by decide) (by decide), .left (by decide) (by decide), .mod (by decide) (by decide), hm0, h _ _ (Int.emod_nonneg _ hm2) (Int.emod_lt_of_pos _ hm0) (fx _ _ _)⟩
end
end LW
namespace LW
open PySem L2 MA PyProof.Rows
section
variable {P : Program} {w : World} {K : PySem.W.Frag} {mg : Str → Option Value} {base : Heap}
theorem sc__law_great : FnScope ["_law_feed_here", "_law_far", "_law_number", "_law_k"] ["_law_feed_here", "_law_far"] (defScope s__law_great) := ⟨rfl, rfl, rfl, by decide +kernel, rfl, by decide +kernel, by decide +kernel⟩
set_option maxHeartbeats 0 in
theorem ok__law_great {C : Cz} {f : Addr} {fd : FuncData} (F : Fun K "_law_great" "_law_great" s__law_great f fd) (T : Txt K mg C) (F__law_next : FnB P w K mg base (CXE P w) 1 "_law_next" ["_law_feed_here", "_law_many"] sp_next) : FnOk P w K mg base (CXE P w) 2 f fd ["_law_feed_here", "_law_far"] sp_great := by
  refine okN F (k := 1) sc__law_great (fun vs H Q E h => ?_) (fun cdv A outer s H vs Q E hr h => ?_)
  · obtain ⟨p, far, rfl, _⟩ := h
    rfl
  · obtain ⟨p, far, rfl, h⟩ := h
    refine' ⟨_, ?main, ?rest⟩
    case main =>
     refine' pss_cons ?c1 ?c2
     case c1 =>
      refine' ps_if ?c3 ?c4 pss_nil
      case c3 =>
       refine' pt_cmpR op_lt (pv 1) ?c5 (nomark _)
       case c5 =>
        exact (pe_op op_powB pe_int pe_int)
      case c4 =>
       refine' pss_one ?c6
       case c6 =>
        refine' ps_ret ?c7
        case c7 =>
         refine' pe_op op_sub ?c8 (pv 1)
         case c8 =>
          refine' pe_fn F__law_next (hr.mono (by decide)) rfl passE0 ?c9
          case c9 =>
           refine' pa_cons (pv 0) ?c10
           case c10 =>
            refine' pa_cons ?c11 pa_nil
            case c11 =>
             refine' pe_op op_add ?c12 pe_int
             case c12 =>
              exact (pe_op op_mulA pe_int (pv 1))
     case c2 =>
      refine' pss_cons ?c13 ?c14
      case c13 =>
       exact (ps_set (i := 2) sc__law_great.nd rfl (Or.inl rfl) pe_int)
      case c14 =>
       refine' pss_cons ?c15 ?c16
       case c15 =>
        refine' ps_for PassesOwn.never rfl ?c17 (pg_name (i := 3) sc__law_great.nd rfl (Or.inl rfl)) ?c18
        case c17 =>
         refine' pi_range1 rfl T.b_range ?c19
         case c19 =>
          exact (pa_cons pe_int pa_nil)
        case c18 =>
         refine' pss_one ?c20
         case c20 =>
          refine' ps_set (i := 2) sc__law_great.nd rfl (Or.inl rfl) ?c21
          case c21 =>
           refine' pe_op ?c22 ?c23 ?c24
           case c22 => exact op_add
           case c23 =>
            refine' pe_op op_mulA (pv 2) ?c25
            case c25 =>
             exact (pe_op op_powB pe_int pe_int)
           case c24 =>
            refine' pe_fn F__law_next (hr.mono (by decide)) rfl passE0 ?c26
            case c26 =>
             refine' pa_cons (pv 0) ?c27
             case c27 =>
              refine' pa_cons ?c28 pa_nil
              case c28 =>
               exact (pe_op op_powB pe_int pe_int)
       case c16 =>
        refine' pss_one ?c29
        case c29 =>
         refine' ps_ret ?c30
         case c30 =>
          refine' pe_op op_sub ?c31 (pv 1)
          case c31 =>
           refine' pe_op op_mod (pv 2) ?c32
           case c32 =>
            refine' pe_op op_add ?c33 pe_int
            case c33 =>
             exact (pe_op op_mulA pe_int (pv 1))
    case rest =>
     obtain ⟨hf, h0, h⟩ := h
     simp only [L2.start, List.map_cons, List.map_nil, List.length_cons, List.length_nil, Nat.reduceAdd, Nat.reduceSub, List.replicate_succ, List.replicate_zero, List.cons_append, List.nil_append, List.append_nil]
     simp only [tSeq, List.cons_inj_right, tNext, tIfS, tTest, tOp, tUn, rI, rI0, rU, tVar, tC, tAsg, gName, tRet, tRetN, tDrop, tCall, tCons, tNil, tCB, tTup, tLst, rEq, rNe, ixF, setF, gSub, tPar, tNot, tAnd, tOr, tB, tNotV, tAndV, tOrV, tIf, List.append_nil, List.getElem?_cons_zero, List.getElem?_cons_succ, List.set_cons_zero, List.set_cons_succ, Option.some.injEq, V.int.injEq, V.bl.injEq, V.ref.injEq, exists_eq_left', exists_eq_left, exists_eq_right, exists_and_left, exists_and_right, and_true, true_and, and_assoc, List.cons.injEq, optK_some, seqOf_l, seqOf_t, tYes, tIsN, tNotN, rLenK, tML, tML0, appR, popR, clrR, catF, listF, lenF, slF, tSl, tPart, tNoPart, tyN, isiF, isiT_1, isiT_2, isiT_3, isiT_4, isiT_5, isiT_6, isiT_7, lstOf_l, tup3_some, tup2_some, Option.isSome_some, List.dropLast, List.getLast?, L2.stLC, frV, List.map_cons, List.map_nil, List.replicate_succ, List.replicate_zero, List.cons_append, List.nil_append, List.drop_succ_cons, List.drop_zero, Option.join_some, atI_0, atI_1, atI_2, atI_3, scal, if_true, if_false, Bool.false_eq_true, Bool.true_eq_false, reduceIte, reduceCtorEq, decide_eq_true_eq, Bool.not_eq_true', decide_eq_false_iff_not, eq_self, List.length_cons, List.length_nil, Nat.zero_add, Nat.reduceAdd, Nat.reduceLT, upd_same, Int.cast_ofNat_Int, Int.reduceToNat, Int.reducePow, Int.reduceLE, Int.reduceLT, Int.reduceSub, Int.reduceAdd, Int.reduceMul, Int.reduceNeg, bd10, bd64, bd2, bd3, bd4, ixN_3_0, ixN_3_1, ixN_3_2, ixN_2_0, ixN_2_1, ixN_4_0, ixN_4_1, ixN_4_2, ixN_4_3, ne_eq, Int.reduceEq, not_false_eq_true, not_true_eq_false, false_or, or_false, false_and, and_false, exists_false, exists_const, tCont, tRaise, tRaise0, tTry, tCallS, goneEnds, tPar3, tDg, tDp, dkOf_k, tDisp, tPairs, tDpT, tDNewT, sp_next]
     split
     · refine ⟨.left (by decide) (by decide), hf, by omega, by omega, fun r H' h1 h2 fx => h _ _ (by omega) (by omega) fx⟩
     · refine ⟨6, rfl, by decide, by decide, for_range (lo := 0) (n := 6) (fun i σ H' => ∃ n o, σ = [some (.ref p), some (.int far), some (.int n), o] ∧ FX p H H') ⟨0, none, rfl, .refl hf⟩ ?_ ?_⟩
       · rintro i σ H1 hi ⟨n, o, rfl, fx⟩
         simp only [tSeq, List.cons_inj_right, tNext, tIfS, tTest, tOp, tUn, rI, rI0, rU, tVar, tC, tAsg, gName, tRet, tRetN, tDrop, tCall, tCons, tNil, tCB, tTup, tLst, rEq, rNe, ixF, setF, gSub, tPar, tNot, tAnd, tOr, tB, tNotV, tAndV, tOrV, tIf, List.append_nil, List.getElem?_cons_zero, List.getElem?_cons_succ, List.set_cons_zero, List.set_cons_succ, Option.some.injEq, V.int.injEq, V.bl.injEq, V.ref.injEq, exists_eq_left', exists_eq_left, exists_eq_right, exists_and_left, exists_and_right, and_true, true_and, and_assoc, List.cons.injEq, optK_some, seqOf_l, seqOf_t, tYes, tIsN, tNotN, rLenK, tML, tML0, appR, popR, clrR, catF, listF, lenF, slF, tSl, tPart, tNoPart, tyN, isiF, isiT_1, isiT_2, isiT_3, isiT_4, isiT_5, isiT_6, isiT_7, lstOf_l, tup3_some, tup2_some, Option.isSome_some, List.dropLast, List.getLast?, L2.stLC, frV, List.map_cons, List.map_nil, List.replicate_succ, List.replicate_zero, List.cons_append, List.nil_append, List.drop_succ_cons, List.drop_zero, Option.join_some, atI_0, atI_1, atI_2, atI_3, scal, if_true, if_false, Bool.false_eq_true, Bool.true_eq_false, reduceIte, reduceCtorEq, decide_eq_true_eq, Bool.not_eq_true', decide_eq_false_iff_not, eq_self, List.length_cons, List.length_nil, Nat.zero_add, Nat.reduceAdd, Nat.reduceLT, upd_same, Int.cast_ofNat_Int, Int.reduceToNat, Int.reducePow, Int.reduceLE, Int.reduceLT, Int.reduceSub, Int.reduceAdd, Int.reduceMul, Int.reduceNeg, bd10, bd64, bd2, bd3, bd4, ixN_3_0, ixN_3_1, ixN_3_2, ixN_2_0, ixN_2_1, ixN_4_0, ixN_4_1, ixN_4_2, ixN_4_3, ne_eq, Int.reduceEq, not_false_eq_true, not_true_eq_false, false_or, or_false, false_and, and_false, exists_false, exists_const, tCont, tRaise, tRaise0, tTry, tCallS, goneEnds, tPar3, tDg, tDp, dkOf_k, tDisp, tPairs, tDpT, tDNewT, sp_next]
         refine ⟨.right (by decide) (by decide), fx.feed, fun r H2 h1 h2 fx2 => ?_⟩
         exact fx.trans fx2
       · rintro σ H1 ⟨n, o, rfl, fx⟩
         simp only [tSeq, List.cons_inj_right, tNext, tIfS, tTest, tOp, tUn, rI, rI0, rU, tVar, tC, tAsg, gName, tRet, tRetN, tDrop, tCall, tCons, tNil, tCB, tTup, tLst, rEq, rNe, ixF, setF, gSub, tPar, tNot, tAnd, tOr, tB, tNotV, tAndV, tOrV, tIf, List.append_nil, List.getElem?_cons_zero, List.getElem?_cons_succ, List.set_cons_zero, List.set_cons_succ, Option.some.injEq, V.int.injEq, V.bl.injEq, V.ref.injEq, exists_eq_left', exists_eq_left, exists_eq_right, exists_and_left, exists_and_right, and_true, true_and, and_assoc, List.cons.injEq, optK_some, seqOf_l, seqOf_t, tYes, tIsN, tNotN, rLenK, tML, tML0, appR, popR, clrR, catF, listF, lenF, slF, tSl, tPart, tNoPart, tyN, isiF, isiT_1, isiT_2, isiT_3, isiT_4, isiT_5, isiT_6, isiT_7, lstOf_l, tup3_some, tup2_some, Option.isSome_some, List.dropLast, List.getLast?, L2.stLC, frV, List.map_cons, List.map_nil, List.replicate_succ, List.replicate_zero, List.cons_append, List.nil_append, List.drop_succ_cons, List.drop_zero, Option.join_some, atI_0, atI_1, atI_2, atI_3, scal, if_true, if_false, Bool.false_eq_true, Bool.true_eq_false, reduceIte, reduceCtorEq, decide_eq_true_eq, Bool.not_eq_true', decide_eq_false_iff_not, eq_self, List.length_cons, List.length_nil, Nat.zero_add, Nat.reduceAdd, Nat.reduceLT, upd_same, Int.cast_ofNat_Int, Int.reduceToNat, Int.reducePow, Int.reduceLE, Int.reduceLT, Int.reduceSub, Int.reduceAdd, Int.reduceMul, Int.reduceNeg, bd10, bd64, bd2, bd3, bd4, ixN_3_0, ixN_3_1, ixN_3_2, ixN_2_0, ixN_2_1, ixN_4_0, ixN_4_1, ixN_4_2, ixN_4_3, ne_eq, Int.reduceEq, not_false_eq_true, not_true_eq_false, false_or, or_false, false_and, and_false, exists_false, exists_const, tCont, tRaise, tRaise0, tTry, tCallS, goneEnds, tPar3, tDg, tDp, dkOf_k, tDisp, tPairs, tDpT, tDNewT]
         have hp : 0 < 2 * far + 1 := by omega
         have e1 := Int.emod_nonneg n (by omega : 2 * far + 1 ≠ 0)
         have e2 := Int.emod_lt_of_pos n hp
         exact ⟨.left (by decide) (by decide), hp, h _ _ (by omega) (by omega) fx⟩
end
end LW
namespace LW
open PySem L2 MA PyProof.Rows
section
variable {P : Program} {w : World} {K : PySem.W.Frag} {mg : Str → Option Value} {base : Heap}
theorem sc__law_spots : FnScope ["_law_feed_here", "_law_far", "_law_found", "_law_share", "_law_ways"] ["_law_feed_here"] (defScope s__law_spots) := ⟨rfl, rfl, rfl, by decide +kernel, rfl, by decide +kernel, by decide +kernel⟩
set_option maxHeartbeats 0 in
theorem ok__law_spots {C : Cz} {f : Addr} {fd : FuncData} (F : Fun K "_law_spots" "_law_spots" s__law_spots f fd) (T : Txt K mg C) (F__law_next : FnB P w K mg base (CXE P w) 1 "_law_next" ["_law_feed_here", "_law_many"] sp_next) (F__law_great : FnB P w K mg base (CXE P w) 2 "_law_great" ["_law_feed_here", "_law_far"] sp_great) : FnOk P w K mg base (CXE P w) 3 f fd ["_law_feed_here"] sp_spots := by
  refine okN F (k := 2) sc__law_spots (fun vs H Q E h => ?_) (fun cdv A outer s H vs Q E hr h => ?_)
  · obtain ⟨p, rfl, _⟩ := h
    rfl
  · obtain ⟨p, rfl, h⟩ := h
    refine' ⟨_, ?main, ?rest⟩
    case main =>
     refine' pss_cut ?c1 ?c2
     case c1 =>
      refine' ps_set (i := 1) sc__law_spots.nd rfl (Or.inr rfl) ?c3
      case c3 =>
       refine' pe_ix ?c4 ?c5 ?c6 ?c7
       case c4 => exact ix_F
       case c5 =>
        refine' pe_lst ?c8
        case c8 =>
         refine' pa_cons ?c9 ?c10
         case c9 => exact pe_int
         case c10 =>
          refine' pa_cons ?c11 ?c12
          case c11 => exact pe_int
          case c12 =>
           refine' pa_cons ?c13 ?c14
           case c13 =>
            exact (pe_op op_powB pe_int pe_int)
           case c14 =>
            refine' pa_cons ?c15 pa_nil
            case c15 =>
             exact (pe_op op_powB pe_int pe_int)
       case c6 =>
        refine' pe_fn F__law_next (hr.mono (by decide)) rfl passE0 ?c16
        case c16 =>
         refine' pa_cons (pv 0) ?c17
         case c17 =>
          exact (pa_cons pe_int pa_nil)
       case c7 => exact (fun _ _ => rfl)
     case c2 =>
      refine' pss_cut ?c18 ?c19
      case c18 =>
       refine' ps_set (i := 2) sc__law_spots.nd rfl (Or.inr rfl) ?c20
       case c20 =>
        refine' pe_lc (CScope.of_ok (dsc := defScope s__law_spots) (N0 := ["_law_feed_here", "_law_far", "_law_found", "_law_share", "_law_ways"]) (N := ["_law_k", "_law_feed_here", "_law_far"]) (k := 1) (js := [0, 1]) rfl rfl (by decide +kernel)) rfl ?c21 ?c22 ?c23 ?c24
        case c21 =>
         refine' pi_range1 rfl T.b_range ?c25
         case c25 =>
          exact (pa_cons pe_int pa_nil)
        case c22 =>
         intro _ _ _ _ _ _
         exact (pg_name (i := 0) (by show List.Nodup (["_law_k", "_law_feed_here", "_law_far"] : List Str); decide +kernel) rfl (Or.inl rfl))
        case c23 =>
         intro _ _ _ _ _ _
         exact pifs_nil
        case c24 =>
         intro _ _ _ _ _ _
         refine' pe_tup ?c26
         case c26 =>
          refine' pa_cons ?c27 ?c28
          case c27 =>
           refine' pe_fn F__law_great (hr.mono (by decide)) rfl passE0 ?c29
           case c29 =>
            refine' pa_cons (pv 1) ?c30
            case c30 =>
             exact (pa_cons (pv 2) pa_nil)
          case c28 =>
           refine' pa_cons ?c31 pa_nil
           case c31 =>
            refine' pe_fn F__law_great (hr.mono (by decide)) rfl passE0 ?c32
            case c32 =>
             refine' pa_cons (pv 1) ?c33
             case c33 =>
              exact (pa_cons (pv 2) pa_nil)
      case c19 =>
       refine' pss_cut ?c34 ?c35
       case c34 =>
        refine' ps_if ?c36 ?c37 pss_nil
        case c36 =>
         refine' pt_cmpR op_eq ?c38 pe_int (nomark _)
         case c38 =>
          refine' pe_fn F__law_next (hr.mono (by decide)) rfl passE0 ?c39
          case c39 =>
           refine' pa_cons (pv 0) ?c40
           case c40 =>
            exact (pa_cons pe_int pa_nil)
        case c37 =>
         refine' pss_cons ?c41 ?c42
         case c41 =>
          refine' ps_set (i := 3) sc__law_spots.nd rfl (Or.inl rfl) ?c43
          case c43 =>
           refine' pe_op op_sub ?c44 pe_int
           case c44 =>
            refine' pe_fn F__law_next (hr.mono (by decide)) rfl passE0 ?c45
            case c45 =>
             refine' pa_cons (pv 0) ?c46
             case c46 =>
              exact (pa_cons pe_int pa_nil)
         case c42 =>
          refine' pss_cut ?c47 ?c48
          case c47 =>
           refine' ps_lc (i := 4) (CScope.of_ok (dsc := defScope s__law_spots) (N0 := ["_law_feed_here", "_law_far", "_law_found", "_law_share", "_law_ways"]) (N := ["_law_j", "_law_found"]) (k := 1) (js := [2]) rfl rfl (by decide +kernel)) rfl ?c49 ?c50 ?c51 ?c52 sc__law_spots.nd rfl rfl
           case c49 =>
            refine' pi_range1 rfl T.b_range ?c53
            case c53 =>
             exact (pa_cons pe_int pa_nil)
           case c50 =>
            intro _ _ _ _ _ _
            exact (pg_name (i := 0) (by show List.Nodup (["_law_j", "_law_found"] : List Str); decide +kernel) rfl (Or.inl rfl))
           case c51 =>
            intro _ _ _ _ _ _
            exact pifs_nil
           case c52 =>
            intro _ _ _ _ _ _
            refine' pe_op op_sub ?c54 ?c55
            case c54 =>
             refine' pe_ix ix_F ?c56 (pv 0) (fun _ _ => rfl)
             case c56 =>
              exact (pe_ix ix_F (pv 1) pe_int (fun _ _ => rfl))
            case c55 =>
             refine' pe_ix ix_F ?c57 (pv 0) (fun _ _ => rfl)
             case c57 =>
              exact (pe_ix ix_F (pv 1) pe_int (fun _ _ => rfl))
          case c48 =>
           refine' pss_one ?c58
           case c58 =>
            refine' ps_asg ?c59 ?c60
            case c59 =>
             refine' pe_tup ?c61
             case c61 =>
              refine' pa_cons ?c62 ?c63
              case c62 =>
               refine' pe_op op_add ?c64 ?c65
               case c64 =>
                refine' pe_ix ix_F ?c66 pe_int (fun _ _ => rfl)
                case c66 =>
                 exact (pe_ix ix_F (pv 2) pe_int (fun _ _ => rfl))
               case c65 =>
                refine' pe_op op_mulA (pv 3) ?c67
                case c67 =>
                 exact (pe_ix ix_F (pv 4) pe_int (fun _ _ => rfl))
              case c63 =>
               refine' pa_cons ?c68 ?c69
               case c68 =>
                refine' pe_op op_add ?c70 ?c71
                case c70 =>
                 refine' pe_ix ix_F ?c72 pe_int (fun _ _ => rfl)
                 case c72 =>
                  exact (pe_ix ix_F (pv 2) pe_int (fun _ _ => rfl))
                case c71 =>
                 refine' pe_op op_mulA (pv 3) ?c73
                 case c73 =>
                  exact (pe_ix ix_F (pv 4) pe_int (fun _ _ => rfl))
               case c69 => exact pa_nil
            case c60 =>
             exact (pg_sub (pv 2) pe_int set_F)
       case c35 =>
        exact (pss_one (ps_ret (pv 2)))
    case rest =>
     obtain ⟨hF, h⟩ := h
     simp only [L2.start, List.map_cons, List.map_nil, List.length_cons, List.length_nil, Nat.reduceAdd, Nat.reduceSub, List.replicate_succ, List.replicate_zero, List.cons_append, List.nil_append, List.append_nil]
     refine ⟨fun σ H' => ∃ far : Int, σ = [some (.ref p), some (.int far), none, none, none] ∧ 0 ≤ far ∧ far ≤ 10 ^ 29 ∧ FX p H H', ?_, ?_⟩
     · simp only [tSeq, List.cons_inj_right, tNext, tIfS, tTest, tOp, tUn, rI, rI0, rU, tVar, tC, tAsg, gName, tRet, tRetN, tDrop, tCall, tCons, tNil, tCB, tTup, tLst, rEq, rNe, ixF, setF, gSub, tPar, tNot, tAnd, tOr, tB, tNotV, tAndV, tOrV, tIf, List.append_nil, List.getElem?_cons_zero, List.getElem?_cons_succ, List.set_cons_zero, List.set_cons_succ, Option.some.injEq, V.int.injEq, V.bl.injEq, V.ref.injEq, exists_eq_left', exists_eq_left, exists_eq_right, exists_and_left, exists_and_right, and_true, true_and, and_assoc, List.cons.injEq, optK_some, seqOf_l, seqOf_t, tYes, tIsN, tNotN, rLenK, tML, tML0, appR, popR, clrR, catF, listF, lenF, slF, tSl, tPart, tNoPart, tyN, isiF, isiT_1, isiT_2, isiT_3, isiT_4, isiT_5, isiT_6, isiT_7, lstOf_l, tup3_some, tup2_some, Option.isSome_some, List.dropLast, List.getLast?, L2.stLC, frV, List.map_cons, List.map_nil, List.replicate_succ, List.replicate_zero, List.cons_append, List.nil_append, List.drop_succ_cons, List.drop_zero, Option.join_some, atI_0, atI_1, atI_2, atI_3, scal, if_true, if_false, Bool.false_eq_true, Bool.true_eq_false, reduceIte, reduceCtorEq, decide_eq_true_eq, Bool.not_eq_true', decide_eq_false_iff_not, eq_self, List.length_cons, List.length_nil, Nat.zero_add, Nat.reduceAdd, Nat.reduceLT, upd_same, Int.cast_ofNat_Int, Int.reduceToNat, Int.reducePow, Int.reduceLE, Int.reduceLT, Int.reduceSub, Int.reduceAdd, Int.reduceMul, Int.reduceNeg, bd10, bd64, bd2, bd3, bd4, ixN_3_0, ixN_3_1, ixN_3_2, ixN_2_0, ixN_2_1, ixN_4_0, ixN_4_1, ixN_4_2, ixN_4_3, ne_eq, Int.reduceEq, not_false_eq_true, not_true_eq_false, false_or, or_false, false_and, and_false, exists_false, exists_const, tCont, tRaise, tRaise0, tTry, tCallS, goneEnds, tPar3, tDg, tDp, dkOf_k, tDisp, tPairs, tDpT, tDNewT, sp_next]
       refine ⟨by decide, fun t ht => ⟨hF.upd ht, fun r H1 a1 a2 f1 => ?_⟩⟩
       have et := f1.keep t _ (hF.ne ht) upd_same
       have fx := f1.of_upd ht
       have : r = 0 ∨ r = 1 ∨ r = 2 ∨ r = 3 := by omega
       rcases this with rfl | rfl | rfl | rfl <;> simp only [tSeq, List.cons_inj_right, tNext, tIfS, tTest, tOp, tUn, rI, rI0, rU, tVar, tC, tAsg, gName, tRet, tRetN, tDrop, tCall, tCons, tNil, tCB, tTup, tLst, rEq, rNe, ixF, setF, gSub, tPar, tNot, tAnd, tOr, tB, tNotV, tAndV, tOrV, tIf, List.append_nil, List.getElem?_cons_zero, List.getElem?_cons_succ, List.set_cons_zero, List.set_cons_succ, Option.some.injEq, V.int.injEq, V.bl.injEq, V.ref.injEq, exists_eq_left', exists_eq_left, exists_eq_right, exists_and_left, exists_and_right, and_true, true_and, and_assoc, List.cons.injEq, optK_some, seqOf_l, seqOf_t, tYes, tIsN, tNotN, rLenK, tML, tML0, appR, popR, clrR, catF, listF, lenF, slF, tSl, tPart, tNoPart, tyN, isiF, isiT_1, isiT_2, isiT_3, isiT_4, isiT_5, isiT_6, isiT_7, lstOf_l, tup3_some, tup2_some, Option.isSome_some, List.dropLast, List.getLast?, L2.stLC, frV, List.map_cons, List.map_nil, List.replicate_succ, List.replicate_zero, List.cons_append, List.nil_append, List.drop_succ_cons, List.drop_zero, Option.join_some, atI_0, atI_1, atI_2, atI_3, scal, if_true, if_false, Bool.false_eq_true, Bool.true_eq_false, reduceIte, reduceCtorEq, decide_eq_true_eq, Bool.not_eq_true', decide_eq_false_iff_not, eq_self, List.length_cons, List.length_nil, Nat.zero_add, Nat.reduceAdd, Nat.reduceLT, upd_same, Int.cast_ofNat_Int, Int.reduceToNat, Int.reducePow, Int.reduceLE, Int.reduceLT, Int.reduceSub, Int.reduceAdd, Int.reduceMul, Int.reduceNeg, bd10, bd64, bd2, bd3, bd4, ixN_3_0, ixN_3_1, ixN_3_2, ixN_2_0, ixN_2_1, ixN_4_0, ixN_4_1, ixN_4_2, ixN_4_3, ne_eq, Int.reduceEq, not_false_eq_true, not_true_eq_false, false_or, or_false, false_and, and_false, exists_false, exists_const, tCont, tRaise, tRaise0, tTry, tCallS, goneEnds, tPar3, tDg, tDp, dkOf_k, tDisp, tPairs, tDpT, tDNewT, et] <;> exact fx
     · rintro σ H1 ⟨far, rfl, f0, f1, fx1⟩
       refine ⟨fun σ H' => ∃ D v1 v2 v3, σ = [some (.ref p), some (.int far), some (.ref D), none, none] ∧ H D = none ∧ D ≠ p ∧ S3 97 H' D v1 v2 v3 ∧ FX p H H', ?_, ?_⟩
       · simp only [tSeq, List.cons_inj_right, tNext, tIfS, tTest, tOp, tUn, rI, rI0, rU, tVar, tC, tAsg, gName, tRet, tRetN, tDrop, tCall, tCons, tNil, tCB, tTup, tLst, rEq, rNe, ixF, setF, gSub, tPar, tNot, tAnd, tOr, tB, tNotV, tAndV, tOrV, tIf, List.append_nil, List.getElem?_cons_zero, List.getElem?_cons_succ, List.set_cons_zero, List.set_cons_succ, Option.some.injEq, V.int.injEq, V.bl.injEq, V.ref.injEq, exists_eq_left', exists_eq_left, exists_eq_right, exists_and_left, exists_and_right, and_true, true_and, and_assoc, List.cons.injEq, optK_some, seqOf_l, seqOf_t, tYes, tIsN, tNotN, rLenK, tML, tML0, appR, popR, clrR, catF, listF, lenF, slF, tSl, tPart, tNoPart, tyN, isiF, isiT_1, isiT_2, isiT_3, isiT_4, isiT_5, isiT_6, isiT_7, lstOf_l, tup3_some, tup2_some, Option.isSome_some, List.dropLast, List.getLast?, L2.stLC, frV, List.map_cons, List.map_nil, List.replicate_succ, List.replicate_zero, List.cons_append, List.nil_append, List.drop_succ_cons, List.drop_zero, Option.join_some, atI_0, atI_1, atI_2, atI_3, scal, if_true, if_false, Bool.false_eq_true, Bool.true_eq_false, reduceIte, reduceCtorEq, decide_eq_true_eq, Bool.not_eq_true', decide_eq_false_iff_not, eq_self, List.length_cons, List.length_nil, Nat.zero_add, Nat.reduceAdd, Nat.reduceLT, upd_same, Int.cast_ofNat_Int, Int.reduceToNat, Int.reducePow, Int.reduceLE, Int.reduceLT, Int.reduceSub, Int.reduceAdd, Int.reduceMul, Int.reduceNeg, bd10, bd64, bd2, bd3, bd4, ixN_3_0, ixN_3_1, ixN_3_2, ixN_2_0, ixN_2_1, ixN_4_0, ixN_4_1, ixN_4_2, ixN_4_3, ne_eq, Int.reduceEq, not_false_eq_true, not_true_eq_false, false_or, or_false, false_and, and_false, exists_false, exists_const, tCont, tRaise, tRaise0, tTry, tCallS, goneEnds, tPar3, tDg, tDp, dkOf_k, tDisp, tPairs, tDpT, tDNewT]
         refine tlc_range 3 (fun R hR => by simp only [tSeq, List.cons_inj_right, tNext, tIfS, tTest, tOp, tUn, rI, rI0, rU, tVar, tC, tAsg, gName, tRet, tRetN, tDrop, tCall, tCons, tNil, tCB, tTup, tLst, rEq, rNe, ixF, setF, gSub, tPar, tNot, tAnd, tOr, tB, tNotV, tAndV, tOrV, tIf, List.append_nil, List.getElem?_cons_zero, List.getElem?_cons_succ, List.set_cons_zero, List.set_cons_succ, Option.some.injEq, V.int.injEq, V.bl.injEq, V.ref.injEq, exists_eq_left', exists_eq_left, exists_eq_right, exists_and_left, exists_and_right, and_true, true_and, and_assoc, List.cons.injEq, optK_some, seqOf_l, seqOf_t, tYes, tIsN, tNotN, rLenK, tML, tML0, appR, popR, clrR, catF, listF, lenF, slF, tSl, tPart, tNoPart, tyN, isiF, isiT_1, isiT_2, isiT_3, isiT_4, isiT_5, isiT_6, isiT_7, lstOf_l, tup3_some, tup2_some, Option.isSome_some, List.dropLast, List.getLast?, L2.stLC, frV, List.map_cons, List.map_nil, List.replicate_succ, List.replicate_zero, List.cons_append, List.nil_append, List.drop_succ_cons, List.drop_zero, Option.join_some, atI_0, atI_1, atI_2, atI_3, scal, if_true, if_false, Bool.false_eq_true, Bool.true_eq_false, reduceIte, reduceCtorEq, decide_eq_true_eq, Bool.not_eq_true', decide_eq_false_iff_not, eq_self, List.length_cons, List.length_nil, Nat.zero_add, Nat.reduceAdd, Nat.reduceLT, upd_same, Int.cast_ofNat_Int, Int.reduceToNat, Int.reducePow, Int.reduceLE, Int.reduceLT, Int.reduceSub, Int.reduceAdd, Int.reduceMul, Int.reduceNeg, bd10, bd64, bd2, bd3, bd4, ixN_3_0, ixN_3_1, ixN_3_2, ixN_2_0, ixN_2_1, ixN_4_0, ixN_4_1, ixN_4_2, ixN_4_3, ne_eq, Int.reduceEq, not_false_eq_true, not_true_eq_false, false_or, or_false, false_and, and_false, exists_false, exists_const, tCont, tRaise, tRaise0, tTry, tCallS, goneEnds, tPar3, tDg, tDp, dkOf_k, tDisp, tPairs, tDpT, tDNewT]; exact hR) (by decide) (fun D i ys H' => ys.length = i ∧ H' D = some (.lst ys) ∧ D ≠ p ∧ (∀ v ∈ ys, T2 97 H' v) ∧ FX p H1 H') ?_ ?_ ?_ ?_
         · intro D hD
           exact ⟨rfl, upd_same, fx1.feed.ne hD, fun v hv => absurd hv List.not_mem_nil, (FX.refl fx1.feed).upd hD⟩
         · rintro D i ys H2 _ ⟨rfl, e, _⟩
           exact ⟨e, Nat.le_refl _⟩
         · rintro D i ys H2 hD hi ⟨rfl, e, nD, hv, fx2⟩
           simp only [tSeq, List.cons_inj_right, tNext, tIfS, tTest, tOp, tUn, rI, rI0, rU, tVar, tC, tAsg, gName, tRet, tRetN, tDrop, tCall, tCons, tNil, tCB, tTup, tLst, rEq, rNe, ixF, setF, gSub, tPar, tNot, tAnd, tOr, tB, tNotV, tAndV, tOrV, tIf, List.append_nil, List.getElem?_cons_zero, List.getElem?_cons_succ, List.set_cons_zero, List.set_cons_succ, Option.some.injEq, V.int.injEq, V.bl.injEq, V.ref.injEq, exists_eq_left', exists_eq_left, exists_eq_right, exists_and_left, exists_and_right, and_true, true_and, and_assoc, List.cons.injEq, optK_some, seqOf_l, seqOf_t, tYes, tIsN, tNotN, rLenK, tML, tML0, appR, popR, clrR, catF, listF, lenF, slF, tSl, tPart, tNoPart, tyN, isiF, isiT_1, isiT_2, isiT_3, isiT_4, isiT_5, isiT_6, isiT_7, lstOf_l, tup3_some, tup2_some, Option.isSome_some, List.dropLast, List.getLast?, L2.stLC, frV, List.map_cons, List.map_nil, List.replicate_succ, List.replicate_zero, List.cons_append, List.nil_append, List.drop_succ_cons, List.drop_zero, Option.join_some, atI_0, atI_1, atI_2, atI_3, scal, if_true, if_false, Bool.false_eq_true, Bool.true_eq_false, reduceIte, reduceCtorEq, decide_eq_true_eq, Bool.not_eq_true', decide_eq_false_iff_not, eq_self, List.length_cons, List.length_nil, Nat.zero_add, Nat.reduceAdd, Nat.reduceLT, upd_same, Int.cast_ofNat_Int, Int.reduceToNat, Int.reducePow, Int.reduceLE, Int.reduceLT, Int.reduceSub, Int.reduceAdd, Int.reduceMul, Int.reduceNeg, bd10, bd64, bd2, bd3, bd4, ixN_3_0, ixN_3_1, ixN_3_2, ixN_2_0, ixN_2_1, ixN_4_0, ixN_4_1, ixN_4_2, ixN_4_3, ne_eq, Int.reduceEq, not_false_eq_true, not_true_eq_false, false_or, or_false, false_and, and_false, exists_false, exists_const, tCont, tRaise, tRaise0, tTry, tCallS, goneEnds, tPar3, tDg, tDp, dkOf_k, tDisp, tPairs, tDpT, tDNewT, sp_great]
           have bf : ∀ {r : Int}, -far ≤ r → r ≤ far → Bd 97 r := fun {r} h1 h2 => Bd.of_le (10 ^ 29) (by omega) (by omega) (by decide)
           refine ⟨fx2.feed, f0, fun r H3 a1 a2 g1 => ⟨g1.feed, f0, fun r' H4 a3 a4 g2 => ⟨by decide, fun t ht => ?_⟩⟩⟩
           have g12 := g1.trans g2
           have eD := upd_f (o := .tup [.int r, .int r']) ht (g12.keep D _ nD e)
           refine ⟨eD, by rw [List.length_append]; rfl, nD, fun v hv' => ?_, ((fx2.trans g12).upd ht).set hD nD⟩
           rcases List.mem_append.mp hv' with g | g
           · exact (((hv v g).fx fx2.feed g12).ext (Ext.upd ht)).setL eD
           · rw [List.mem_singleton] at g
             rw [g]
             exact T2.setL ⟨t, r, r', rfl, upd_same, bf a1 a2, bf a3 a4⟩ eD
         · rintro D ys H2 hD ⟨hl, e, nD, hv, fx2⟩
           obtain ⟨v1, v2, v3, rfl⟩ : ∃ v1 v2 v3, ys = [v1, v2, v3] := by
             match ys, hl with
             | [v1, v2, v3], _ => exact ⟨v1, v2, v3, rfl⟩
           simp only [tSeq, List.cons_inj_right, tNext, tIfS, tTest, tOp, tUn, rI, rI0, rU, tVar, tC, tAsg, gName, tRet, tRetN, tDrop, tCall, tCons, tNil, tCB, tTup, tLst, rEq, rNe, ixF, setF, gSub, tPar, tNot, tAnd, tOr, tB, tNotV, tAndV, tOrV, tIf, List.append_nil, List.getElem?_cons_zero, List.getElem?_cons_succ, List.set_cons_zero, List.set_cons_succ, Option.some.injEq, V.int.injEq, V.bl.injEq, V.ref.injEq, exists_eq_left', exists_eq_left, exists_eq_right, exists_and_left, exists_and_right, and_true, true_and, and_assoc, List.cons.injEq, optK_some, seqOf_l, seqOf_t, tYes, tIsN, tNotN, rLenK, tML, tML0, appR, popR, clrR, catF, listF, lenF, slF, tSl, tPart, tNoPart, tyN, isiF, isiT_1, isiT_2, isiT_3, isiT_4, isiT_5, isiT_6, isiT_7, lstOf_l, tup3_some, tup2_some, Option.isSome_some, List.dropLast, List.getLast?, L2.stLC, frV, List.map_cons, List.map_nil, List.replicate_succ, List.replicate_zero, List.cons_append, List.nil_append, List.drop_succ_cons, List.drop_zero, Option.join_some, atI_0, atI_1, atI_2, atI_3, scal, if_true, if_false, Bool.false_eq_true, Bool.true_eq_false, reduceIte, reduceCtorEq, decide_eq_true_eq, Bool.not_eq_true', decide_eq_false_iff_not, eq_self, List.length_cons, List.length_nil, Nat.zero_add, Nat.reduceAdd, Nat.reduceLT, upd_same, Int.cast_ofNat_Int, Int.reduceToNat, Int.reducePow, Int.reduceLE, Int.reduceLT, Int.reduceSub, Int.reduceAdd, Int.reduceMul, Int.reduceNeg, bd10, bd64, bd2, bd3, bd4, ixN_3_0, ixN_3_1, ixN_3_2, ixN_2_0, ixN_2_1, ixN_4_0, ixN_4_1, ixN_4_2, ixN_4_3, ne_eq, Int.reduceEq, not_false_eq_true, not_true_eq_false, false_or, or_false, false_and, and_false, exists_false, exists_const, tCont, tRaise, tRaise0, tTry, tCallS, goneEnds, tPar3, tDg, tDp, dkOf_k, tDisp, tPairs, tDpT, tDNewT]
           exact ⟨fx1.noneOf nD hD, nD, ⟨v1, v2, v3, e, hv v1 (by simp), hv v2 (by simp), hv v3 (by simp)⟩, fx1.trans fx2⟩
       · rintro σ H2 ⟨D, v1, v2, v3, rfl, hD, nD, s3, fx2⟩
         refine ⟨fun σ H' => ∃ (o3 o4 : Option V) (v3' : V), σ = [some (.ref p), some (.int far), some (.ref D), o3, o4] ∧ S3 100 H' D v1 v2 v3' ∧ FX p H H', ?_, ?_⟩
         · simp only [tSeq, List.cons_inj_right, tNext, tIfS, tTest, tOp, tUn, rI, rI0, rU, tVar, tC, tAsg, gName, tRet, tRetN, tDrop, tCall, tCons, tNil, tCB, tTup, tLst, rEq, rNe, ixF, setF, gSub, tPar, tNot, tAnd, tOr, tB, tNotV, tAndV, tOrV, tIf, List.append_nil, List.getElem?_cons_zero, List.getElem?_cons_succ, List.set_cons_zero, List.set_cons_succ, Option.some.injEq, V.int.injEq, V.bl.injEq, V.ref.injEq, exists_eq_left', exists_eq_left, exists_eq_right, exists_and_left, exists_and_right, and_true, true_and, and_assoc, List.cons.injEq, optK_some, seqOf_l, seqOf_t, tYes, tIsN, tNotN, rLenK, tML, tML0, appR, popR, clrR, catF, listF, lenF, slF, tSl, tPart, tNoPart, tyN, isiF, isiT_1, isiT_2, isiT_3, isiT_4, isiT_5, isiT_6, isiT_7, lstOf_l, tup3_some, tup2_some, Option.isSome_some, List.dropLast, List.getLast?, L2.stLC, frV, List.map_cons, List.map_nil, List.replicate_succ, List.replicate_zero, List.cons_append, List.nil_append, List.drop_succ_cons, List.drop_zero, Option.join_some, atI_0, atI_1, atI_2, atI_3, scal, if_true, if_false, Bool.false_eq_true, Bool.true_eq_false, reduceIte, reduceCtorEq, decide_eq_true_eq, Bool.not_eq_true', decide_eq_false_iff_not, eq_self, List.length_cons, List.length_nil, Nat.zero_add, Nat.reduceAdd, Nat.reduceLT, upd_same, Int.cast_ofNat_Int, Int.reduceToNat, Int.reducePow, Int.reduceLE, Int.reduceLT, Int.reduceSub, Int.reduceAdd, Int.reduceMul, Int.reduceNeg, bd10, bd64, bd2, bd3, bd4, ixN_3_0, ixN_3_1, ixN_3_2, ixN_2_0, ixN_2_1, ixN_4_0, ixN_4_1, ixN_4_2, ixN_4_3, ne_eq, Int.reduceEq, not_false_eq_true, not_true_eq_false, false_or, or_false, false_and, and_false, exists_false, exists_const, tCont, tRaise, tRaise0, tTry, tCallS, goneEnds, tPar3, tDg, tDp, dkOf_k, tDisp, tPairs, tDpT, tDNewT, sp_next]
           refine ⟨fx2.feed, fun r H3 a1 a2 g1 => ?_⟩
           have s3' := s3.fx fx2.feed nD g1
           split
           · refine ⟨g1.feed, fun r' H4 a3 a4 g2 => ?_⟩
             have s4 := s3'.fx g1.feed nD g2
             obtain ⟨e, ⟨q1, x1, y1, rfl, e1, b1, b1'⟩, ⟨q2, x2, y2, rfl, e2, b2, b2'⟩, _⟩ := s4
             have fx4 : FX p H H4 := (fx2.trans g1).trans g2
             refine ⟨fun σ H' => ∃ W, σ = [some (.ref p), some (.int far), some (.ref D), some (.int (r' - 2)), some (.ref W)] ∧ H' W = some (.lst [.int (x2 - x1), .int (y2 - y1)]) ∧ Ext H4 H', ?_, ?_⟩
             · simp only [tSeq, List.cons_inj_right, tNext, tIfS, tTest, tOp, tUn, rI, rI0, rU, tVar, tC, tAsg, gName, tRet, tRetN, tDrop, tCall, tCons, tNil, tCB, tTup, tLst, rEq, rNe, ixF, setF, gSub, tPar, tNot, tAnd, tOr, tB, tNotV, tAndV, tOrV, tIf, List.append_nil, List.getElem?_cons_zero, List.getElem?_cons_succ, List.set_cons_zero, List.set_cons_succ, Option.some.injEq, V.int.injEq, V.bl.injEq, V.ref.injEq, exists_eq_left', exists_eq_left, exists_eq_right, exists_and_left, exists_and_right, and_true, true_and, and_assoc, List.cons.injEq, optK_some, seqOf_l, seqOf_t, tYes, tIsN, tNotN, rLenK, tML, tML0, appR, popR, clrR, catF, listF, lenF, slF, tSl, tPart, tNoPart, tyN, isiF, isiT_1, isiT_2, isiT_3, isiT_4, isiT_5, isiT_6, isiT_7, lstOf_l, tup3_some, tup2_some, Option.isSome_some, List.dropLast, List.getLast?, L2.stLC, frV, List.map_cons, List.map_nil, List.replicate_succ, List.replicate_zero, List.cons_append, List.nil_append, List.drop_succ_cons, List.drop_zero, Option.join_some, atI_0, atI_1, atI_2, atI_3, scal, if_true, if_false, Bool.false_eq_true, Bool.true_eq_false, reduceIte, reduceCtorEq, decide_eq_true_eq, Bool.not_eq_true', decide_eq_false_iff_not, eq_self, List.length_cons, List.length_nil, Nat.zero_add, Nat.reduceAdd, Nat.reduceLT, upd_same, Int.cast_ofNat_Int, Int.reduceToNat, Int.reducePow, Int.reduceLE, Int.reduceLT, Int.reduceSub, Int.reduceAdd, Int.reduceMul, Int.reduceNeg, bd10, bd64, bd2, bd3, bd4, ixN_3_0, ixN_3_1, ixN_3_2, ixN_2_0, ixN_2_1, ixN_4_0, ixN_4_1, ixN_4_2, ixN_4_3, ne_eq, Int.reduceEq, not_false_eq_true, not_true_eq_false, false_or, or_false, false_and, and_false, exists_false, exists_const, tCont, tRaise, tRaise0, tTry, tCallS, goneEnds, tPar3, tDg, tDp, dkOf_k, tDisp, tPairs, tDpT, tDNewT]
               refine tlc_range 2 (fun R hR => by simp only [tSeq, List.cons_inj_right, tNext, tIfS, tTest, tOp, tUn, rI, rI0, rU, tVar, tC, tAsg, gName, tRet, tRetN, tDrop, tCall, tCons, tNil, tCB, tTup, tLst, rEq, rNe, ixF, setF, gSub, tPar, tNot, tAnd, tOr, tB, tNotV, tAndV, tOrV, tIf, List.append_nil, List.getElem?_cons_zero, List.getElem?_cons_succ, List.set_cons_zero, List.set_cons_succ, Option.some.injEq, V.int.injEq, V.bl.injEq, V.ref.injEq, exists_eq_left', exists_eq_left, exists_eq_right, exists_and_left, exists_and_right, and_true, true_and, and_assoc, List.cons.injEq, optK_some, seqOf_l, seqOf_t, tYes, tIsN, tNotN, rLenK, tML, tML0, appR, popR, clrR, catF, listF, lenF, slF, tSl, tPart, tNoPart, tyN, isiF, isiT_1, isiT_2, isiT_3, isiT_4, isiT_5, isiT_6, isiT_7, lstOf_l, tup3_some, tup2_some, Option.isSome_some, List.dropLast, List.getLast?, L2.stLC, frV, List.map_cons, List.map_nil, List.replicate_succ, List.replicate_zero, List.cons_append, List.nil_append, List.drop_succ_cons, List.drop_zero, Option.join_some, atI_0, atI_1, atI_2, atI_3, scal, if_true, if_false, Bool.false_eq_true, Bool.true_eq_false, reduceIte, reduceCtorEq, decide_eq_true_eq, Bool.not_eq_true', decide_eq_false_iff_not, eq_self, List.length_cons, List.length_nil, Nat.zero_add, Nat.reduceAdd, Nat.reduceLT, upd_same, Int.cast_ofNat_Int, Int.reduceToNat, Int.reducePow, Int.reduceLE, Int.reduceLT, Int.reduceSub, Int.reduceAdd, Int.reduceMul, Int.reduceNeg, bd10, bd64, bd2, bd3, bd4, ixN_3_0, ixN_3_1, ixN_3_2, ixN_2_0, ixN_2_1, ixN_4_0, ixN_4_1, ixN_4_2, ixN_4_3, ne_eq, Int.reduceEq, not_false_eq_true, not_true_eq_false, false_or, or_false, false_and, and_false, exists_false, exists_const, tCont, tRaise, tRaise0, tTry, tCallS, goneEnds, tPar3, tDg, tDp, dkOf_k, tDisp, tPairs, tDpT, tDNewT]; exact hR) (by decide) (fun W i ys H' => ys = ([.int (x2 - x1), .int (y2 - y1)] : List V).take i ∧ H' W = some (.lst ys) ∧ Ext H4 H') ?_ ?_ ?_ ?_
               · intro W hW
                 exact ⟨rfl, upd_same, .upd hW⟩
               · rintro W i ys H5 hi ⟨rfl, e5, _⟩
                 exact ⟨e5, by rw [List.length_take]; omega⟩
               · rintro W i ys H5 hW hi ⟨rfl, e5, x5⟩
                 have : i = 0 ∨ i = 1 := by omega
                 rcases this with rfl | rfl
                 · rw [show (0 + ((0 : Nat) : Int)) = 0 from rfl]
                   simp only [tSeq, List.cons_inj_right, tNext, tIfS, tTest, tOp, tUn, rI, rI0, rU, tVar, tC, tAsg, gName, tRet, tRetN, tDrop, tCall, tCons, tNil, tCB, tTup, tLst, rEq, rNe, ixF, setF, gSub, tPar, tNot, tAnd, tOr, tB, tNotV, tAndV, tOrV, tIf, List.append_nil, List.getElem?_cons_zero, List.getElem?_cons_succ, List.set_cons_zero, List.set_cons_succ, Option.some.injEq, V.int.injEq, V.bl.injEq, V.ref.injEq, exists_eq_left', exists_eq_left, exists_eq_right, exists_and_left, exists_and_right, and_true, true_and, and_assoc, List.cons.injEq, optK_some, seqOf_l, seqOf_t, tYes, tIsN, tNotN, rLenK, tML, tML0, appR, popR, clrR, catF, listF, lenF, slF, tSl, tPart, tNoPart, tyN, isiF, isiT_1, isiT_2, isiT_3, isiT_4, isiT_5, isiT_6, isiT_7, lstOf_l, tup3_some, tup2_some, Option.isSome_some, List.dropLast, List.getLast?, L2.stLC, frV, List.map_cons, List.map_nil, List.replicate_succ, List.replicate_zero, List.cons_append, List.nil_append, List.drop_succ_cons, List.drop_zero, Option.join_some, atI_0, atI_1, atI_2, atI_3, scal, if_true, if_false, Bool.false_eq_true, Bool.true_eq_false, reduceIte, reduceCtorEq, decide_eq_true_eq, Bool.not_eq_true', decide_eq_false_iff_not, eq_self, List.length_cons, List.length_nil, Nat.zero_add, Nat.reduceAdd, Nat.reduceLT, upd_same, Int.cast_ofNat_Int, Int.reduceToNat, Int.reducePow, Int.reduceLE, Int.reduceLT, Int.reduceSub, Int.reduceAdd, Int.reduceMul, Int.reduceNeg, bd10, bd64, bd2, bd3, bd4, ixN_3_0, ixN_3_1, ixN_3_2, ixN_2_0, ixN_2_1, ixN_4_0, ixN_4_1, ixN_4_2, ixN_4_3, ne_eq, Int.reduceEq, not_false_eq_true, not_true_eq_false, false_or, or_false, false_and, and_false, exists_false, exists_const, tCont, tRaise, tRaise0, tTry, tCallS, goneEnds, tPar3, tDg, tDp, dkOf_k, tDisp, tPairs, tDpT, tDNewT, x5 _ _ e, x5 _ _ e1, x5 _ _ e2]
                   exact ⟨e5, rfl, x5.set hW⟩
                 · rw [show (0 + ((1 : Nat) : Int)) = 1 from rfl]
                   simp only [tSeq, List.cons_inj_right, tNext, tIfS, tTest, tOp, tUn, rI, rI0, rU, tVar, tC, tAsg, gName, tRet, tRetN, tDrop, tCall, tCons, tNil, tCB, tTup, tLst, rEq, rNe, ixF, setF, gSub, tPar, tNot, tAnd, tOr, tB, tNotV, tAndV, tOrV, tIf, List.append_nil, List.getElem?_cons_zero, List.getElem?_cons_succ, List.set_cons_zero, List.set_cons_succ, Option.some.injEq, V.int.injEq, V.bl.injEq, V.ref.injEq, exists_eq_left', exists_eq_left, exists_eq_right, exists_and_left, exists_and_right, and_true, true_and, and_assoc, List.cons.injEq, optK_some, seqOf_l, seqOf_t, tYes, tIsN, tNotN, rLenK, tML, tML0, appR, popR, clrR, catF, listF, lenF, slF, tSl, tPart, tNoPart, tyN, isiF, isiT_1, isiT_2, isiT_3, isiT_4, isiT_5, isiT_6, isiT_7, lstOf_l, tup3_some, tup2_some, Option.isSome_some, List.dropLast, List.getLast?, L2.stLC, frV, List.map_cons, List.map_nil, List.replicate_succ, List.replicate_zero, List.cons_append, List.nil_append, List.drop_succ_cons, List.drop_zero, Option.join_some, atI_0, atI_1, atI_2, atI_3, scal, if_true, if_false, Bool.false_eq_true, Bool.true_eq_false, reduceIte, reduceCtorEq, decide_eq_true_eq, Bool.not_eq_true', decide_eq_false_iff_not, eq_self, List.length_cons, List.length_nil, Nat.zero_add, Nat.reduceAdd, Nat.reduceLT, upd_same, Int.cast_ofNat_Int, Int.reduceToNat, Int.reducePow, Int.reduceLE, Int.reduceLT, Int.reduceSub, Int.reduceAdd, Int.reduceMul, Int.reduceNeg, bd10, bd64, bd2, bd3, bd4, ixN_3_0, ixN_3_1, ixN_3_2, ixN_2_0, ixN_2_1, ixN_4_0, ixN_4_1, ixN_4_2, ixN_4_3, ne_eq, Int.reduceEq, not_false_eq_true, not_true_eq_false, false_or, or_false, false_and, and_false, exists_false, exists_const, tCont, tRaise, tRaise0, tTry, tCallS, goneEnds, tPar3, tDg, tDp, dkOf_k, tDisp, tPairs, tDpT, tDNewT, x5 _ _ e, x5 _ _ e1, x5 _ _ e2]
                   exact ⟨e5, rfl, x5.set hW⟩
               · rintro W ys H5 hW ⟨rfl, e5, x5⟩
                 simp only [tSeq, List.cons_inj_right, tNext, tIfS, tTest, tOp, tUn, rI, rI0, rU, tVar, tC, tAsg, gName, tRet, tRetN, tDrop, tCall, tCons, tNil, tCB, tTup, tLst, rEq, rNe, ixF, setF, gSub, tPar, tNot, tAnd, tOr, tB, tNotV, tAndV, tOrV, tIf, List.append_nil, List.getElem?_cons_zero, List.getElem?_cons_succ, List.set_cons_zero, List.set_cons_succ, Option.some.injEq, V.int.injEq, V.bl.injEq, V.ref.injEq, exists_eq_left', exists_eq_left, exists_eq_right, exists_and_left, exists_and_right, and_true, true_and, and_assoc, List.cons.injEq, optK_some, seqOf_l, seqOf_t, tYes, tIsN, tNotN, rLenK, tML, tML0, appR, popR, clrR, catF, listF, lenF, slF, tSl, tPart, tNoPart, tyN, isiF, isiT_1, isiT_2, isiT_3, isiT_4, isiT_5, isiT_6, isiT_7, lstOf_l, tup3_some, tup2_some, Option.isSome_some, List.dropLast, List.getLast?, L2.stLC, frV, List.map_cons, List.map_nil, List.replicate_succ, List.replicate_zero, List.cons_append, List.nil_append, List.drop_succ_cons, List.drop_zero, Option.join_some, atI_0, atI_1, atI_2, atI_3, scal, if_true, if_false, Bool.false_eq_true, Bool.true_eq_false, reduceIte, reduceCtorEq, decide_eq_true_eq, Bool.not_eq_true', decide_eq_false_iff_not, eq_self, List.length_cons, List.length_nil, Nat.zero_add, Nat.reduceAdd, Nat.reduceLT, upd_same, Int.cast_ofNat_Int, Int.reduceToNat, Int.reducePow, Int.reduceLE, Int.reduceLT, Int.reduceSub, Int.reduceAdd, Int.reduceMul, Int.reduceNeg, bd10, bd64, bd2, bd3, bd4, ixN_3_0, ixN_3_1, ixN_3_2, ixN_2_0, ixN_2_1, ixN_4_0, ixN_4_1, ixN_4_2, ixN_4_3, ne_eq, Int.reduceEq, not_false_eq_true, not_true_eq_false, false_or, or_false, false_and, and_false, exists_false, exists_const, tCont, tRaise, tRaise0, tTry, tCallS, goneEnds, tPar3, tDg, tDp, dkOf_k, tDisp, tPairs, tDpT, tDNewT]
                 exact ⟨e5, x5⟩
             · rintro σ H5 ⟨W, rfl, e5, x5⟩
               simp only [tSeq, List.cons_inj_right, tNext, tIfS, tTest, tOp, tUn, rI, rI0, rU, tVar, tC, tAsg, gName, tRet, tRetN, tDrop, tCall, tCons, tNil, tCB, tTup, tLst, rEq, rNe, ixF, setF, gSub, tPar, tNot, tAnd, tOr, tB, tNotV, tAndV, tOrV, tIf, List.append_nil, List.getElem?_cons_zero, List.getElem?_cons_succ, List.set_cons_zero, List.set_cons_succ, Option.some.injEq, V.int.injEq, V.bl.injEq, V.ref.injEq, exists_eq_left', exists_eq_left, exists_eq_right, exists_and_left, exists_and_right, and_true, true_and, and_assoc, List.cons.injEq, optK_some, seqOf_l, seqOf_t, tYes, tIsN, tNotN, rLenK, tML, tML0, appR, popR, clrR, catF, listF, lenF, slF, tSl, tPart, tNoPart, tyN, isiF, isiT_1, isiT_2, isiT_3, isiT_4, isiT_5, isiT_6, isiT_7, lstOf_l, tup3_some, tup2_some, Option.isSome_some, List.dropLast, List.getLast?, L2.stLC, frV, List.map_cons, List.map_nil, List.replicate_succ, List.replicate_zero, List.cons_append, List.nil_append, List.drop_succ_cons, List.drop_zero, Option.join_some, atI_0, atI_1, atI_2, atI_3, scal, if_true, if_false, Bool.false_eq_true, Bool.true_eq_false, reduceIte, reduceCtorEq, decide_eq_true_eq, Bool.not_eq_true', decide_eq_false_iff_not, eq_self, List.length_cons, List.length_nil, Nat.zero_add, Nat.reduceAdd, Nat.reduceLT, upd_same, Int.cast_ofNat_Int, Int.reduceToNat, Int.reducePow, Int.reduceLE, Int.reduceLT, Int.reduceSub, Int.reduceAdd, Int.reduceMul, Int.reduceNeg, bd10, bd64, bd2, bd3, bd4, ixN_3_0, ixN_3_1, ixN_3_2, ixN_2_0, ixN_2_1, ixN_4_0, ixN_4_1, ixN_4_2, ixN_4_3, ne_eq, Int.reduceEq, not_false_eq_true, not_true_eq_false, false_or, or_false, false_and, and_false, exists_false, exists_const, tCont, tRaise, tRaise0, tTry, tCallS, goneEnds, tPar3, tDg, tDp, dkOf_k, tDisp, tPairs, tDpT, tDNewT, x5 _ _ e, x5 _ _ e1, e5]
               have br : Bd 3 (r' - 2) := Bd.of_le 4 (by omega) (by omega) (by decide)
               refine ⟨.of br (b2.sub b1) (by decide) (by decide), .of br (b2'.sub b1') (by decide) (by decide), by decide, fun t ht => ?_⟩
               have eD := upd_f (o := .tup [.int (x1 + (r' - 2) * (x2 - x1)), .int (y1 + (r' - 2) * (y2 - y1))]) ht (x5 _ _ e)
               rw [eD]
               simp only [tSeq, List.cons_inj_right, tNext, tIfS, tTest, tOp, tUn, rI, rI0, rU, tVar, tC, tAsg, gName, tRet, tRetN, tDrop, tCall, tCons, tNil, tCB, tTup, tLst, rEq, rNe, ixF, setF, gSub, tPar, tNot, tAnd, tOr, tB, tNotV, tAndV, tOrV, tIf, List.append_nil, List.getElem?_cons_zero, List.getElem?_cons_succ, List.set_cons_zero, List.set_cons_succ, Option.some.injEq, V.int.injEq, V.bl.injEq, V.ref.injEq, exists_eq_left', exists_eq_left, exists_eq_right, exists_and_left, exists_and_right, and_true, true_and, and_assoc, List.cons.injEq, optK_some, seqOf_l, seqOf_t, tYes, tIsN, tNotN, rLenK, tML, tML0, appR, popR, clrR, catF, listF, lenF, slF, tSl, tPart, tNoPart, tyN, isiF, isiT_1, isiT_2, isiT_3, isiT_4, isiT_5, isiT_6, isiT_7, lstOf_l, tup3_some, tup2_some, Option.isSome_some, List.dropLast, List.getLast?, L2.stLC, frV, List.map_cons, List.map_nil, List.replicate_succ, List.replicate_zero, List.cons_append, List.nil_append, List.drop_succ_cons, List.drop_zero, Option.join_some, atI_0, atI_1, atI_2, atI_3, scal, if_true, if_false, Bool.false_eq_true, Bool.true_eq_false, reduceIte, reduceCtorEq, decide_eq_true_eq, Bool.not_eq_true', decide_eq_false_iff_not, eq_self, List.length_cons, List.length_nil, Nat.zero_add, Nat.reduceAdd, Nat.reduceLT, upd_same, Int.cast_ofNat_Int, Int.reduceToNat, Int.reducePow, Int.reduceLE, Int.reduceLT, Int.reduceSub, Int.reduceAdd, Int.reduceMul, Int.reduceNeg, bd10, bd64, bd2, bd3, bd4, ixN_3_0, ixN_3_1, ixN_3_2, ixN_2_0, ixN_2_1, ixN_4_0, ixN_4_1, ixN_4_2, ixN_4_3, ne_eq, Int.reduceEq, not_false_eq_true, not_true_eq_false, false_or, or_false, false_and, and_false, exists_false, exists_const, tCont, tRaise, tRaise0, tTry, tCallS, goneEnds, tPar3, tDg, tDp, dkOf_k, tDisp, tPairs, tDpT, tDNewT]
               refine ⟨⟨_, rfl⟩, ⟨.ref t, upd_same, ?_, ?_, ?_⟩, ((fx4.more x5).upd ht).set hD nD⟩
               · exact T2.setL ⟨q1, x1, y1, rfl, upd_f ht (x5 _ _ e1), b1.mono (by decide), b1'.mono (by decide)⟩ eD
               · exact T2.setL ⟨q2, x2, y2, rfl, upd_f ht (x5 _ _ e2), b2.mono (by decide), b2'.mono (by decide)⟩ eD
               · exact T2.setL ⟨t, _, _, rfl, upd_same, bd5 b1 b2 (by omega) (by omega), bd5 b1' b2' (by omega) (by omega)⟩ eD
           · exact ⟨⟨v3, s3'.mono (by decide)⟩, fx2.trans g1⟩
         · rintro σ H3 ⟨o3, o4, v3', rfl, s3', fx3⟩
           simp only [tSeq, List.cons_inj_right, tNext, tIfS, tTest, tOp, tUn, rI, rI0, rU, tVar, tC, tAsg, gName, tRet, tRetN, tDrop, tCall, tCons, tNil, tCB, tTup, tLst, rEq, rNe, ixF, setF, gSub, tPar, tNot, tAnd, tOr, tB, tNotV, tAndV, tOrV, tIf, List.append_nil, List.getElem?_cons_zero, List.getElem?_cons_succ, List.set_cons_zero, List.set_cons_succ, Option.some.injEq, V.int.injEq, V.bl.injEq, V.ref.injEq, exists_eq_left', exists_eq_left, exists_eq_right, exists_and_left, exists_and_right, and_true, true_and, and_assoc, List.cons.injEq, optK_some, seqOf_l, seqOf_t, tYes, tIsN, tNotN, rLenK, tML, tML0, appR, popR, clrR, catF, listF, lenF, slF, tSl, tPart, tNoPart, tyN, isiF, isiT_1, isiT_2, isiT_3, isiT_4, isiT_5, isiT_6, isiT_7, lstOf_l, tup3_some, tup2_some, Option.isSome_some, List.dropLast, List.getLast?, L2.stLC, frV, List.map_cons, List.map_nil, List.replicate_succ, List.replicate_zero, List.cons_append, List.nil_append, List.drop_succ_cons, List.drop_zero, Option.join_some, atI_0, atI_1, atI_2, atI_3, scal, if_true, if_false, Bool.false_eq_true, Bool.true_eq_false, reduceIte, reduceCtorEq, decide_eq_true_eq, Bool.not_eq_true', decide_eq_false_iff_not, eq_self, List.length_cons, List.length_nil, Nat.zero_add, Nat.reduceAdd, Nat.reduceLT, upd_same, Int.cast_ofNat_Int, Int.reduceToNat, Int.reducePow, Int.reduceLE, Int.reduceLT, Int.reduceSub, Int.reduceAdd, Int.reduceMul, Int.reduceNeg, bd10, bd64, bd2, bd3, bd4, ixN_3_0, ixN_3_1, ixN_3_2, ixN_2_0, ixN_2_1, ixN_4_0, ixN_4_1, ixN_4_2, ixN_4_3, ne_eq, Int.reduceEq, not_false_eq_true, not_true_eq_false, false_or, or_false, false_and, and_false, exists_false, exists_const, tCont, tRaise, tRaise0, tTry, tCallS, goneEnds, tPar3, tDg, tDp, dkOf_k, tDisp, tPairs, tDpT, tDNewT]
           exact h D v1 v2 v3' H3 fx3 s3'
end
end LW
namespace LW
open PySem L2 MA PyProof.Rows
section
variable {P : Program} {w : World} {K : PySem.W.Frag} {mg : Str → Option Value} {base : Heap}
theorem sc_law : FnScope ["_law_script", "_law_k", "_law_one", "_law_other", "_law_third", "_law_lines", "_law_points", "_law_point", "_law_ways"] ["_law_script"] (defScope s_law) := ⟨rfl, rfl, rfl, by decide +kernel, rfl, by decide +kernel, by decide +kernel⟩
set_option maxHeartbeats 0 in
theorem ok_law {C : Cz} {f : Addr} {fd : FuncData} (F : Fun K "law" "law" s_law f fd) (T : Txt K mg C) (F_turn : FnB P w K mg base (CXE P w) 2 "turn" ["one", "other", "third"] sp_turn) (F_nearer : FnB P w K mg base (CXE P w) 2 "nearer" ["point", "one", "other"] sp_nearer) (F_square : FnB P w K mg base (CXE P w) 3 "square" ["point", "spot"] sp_square) (F_place : FnB P w K mg base (CXE P w) 2 "place" ["line", "point"] sp_place) (F_meet : FnB P w K mg base (CXE P w) 3 "meet" ["one", "other"] sp_meet) (F_between : FnB P w K mg base (CXE P w) 3 "between" ["one", "other"] sp_between) (F__law_feed : FnB P w K mg base (CXE P w) 1 "_law_feed" ["_law_script", "_law_k"] (sp_feed K)) (F__law_spots : FnB P w K mg base (CXE P w) 3 "_law_spots" ["_law_feed_here"] sp_spots) : FnOk P w K mg base (CXE P w) 4 f fd ["_law_script"] (sp_law K) := by
  refine okN F (k := 3) sc_law (fun vs H Q E h => ?_) (fun cdv A outer s H vs Q E hr h => ?_)
  · obtain ⟨a, ns, rfl, _⟩ := h
    rfl
  · obtain ⟨a, ns, rfl, h⟩ := h
    refine' ⟨_, ?main, ?rest⟩
    case main =>
     refine' pss_cons ?c1 ?c2
     case c1 =>
      refine' ps_for PassesOwn.never rfl ?c3 (pg_name (i := 1) sc_law.nd rfl (Or.inl rfl)) ?c4
      case c3 =>
       refine' pi_range1 rfl T.b_range ?c5
       case c5 =>
        refine' pa_cons ?c6 ?c7
        case c6 =>
         refine' pe_callB ?c8 ?c9 ?c10 ?c11 ?c12
         case c8 => exact (call_min2 rfl)
         case c9 => exact (by rfl)
         case c10 => exact T.b_min
         case c11 => exact boot_min
         case c12 =>
          refine' pa_cons pe_int ?c13
          case c13 =>
           refine' pa_cons ?c14 pa_nil
           case c14 =>
            refine' pe_op op_add pe_int ?c15
            case c15 =>
             refine' pe_callB (call_lenK (K := K) rfl) (by rfl) T.b_len PySem.boot_len ?c16
             case c16 =>
              exact (pa_cons (pv 0) pa_nil)
        case c7 => exact pa_nil
      case c4 =>
       refine' pss_cut ?c17 ?c18
       case c17 =>
        refine' ps_asg ?c19 ?c20
        case c19 =>
         refine' pe_fn F__law_spots (hr.mono (by decide)) rfl passE0 ?c21
         case c21 =>
          refine' pa_cons ?c22 pa_nil
          case c22 =>
           refine' pe_fn F__law_feed (hr.mono (by decide)) rfl passE0 ?c23
           case c23 =>
            refine' pa_cons (pv 0) ?c24
            case c24 =>
             exact (pa_cons (pv 1) pa_nil)
        case c20 =>
         refine' pg_F (n := 3) rfl ?c25
         case c25 =>
          refine' pgs_cons (pg_name (i := 2) sc_law.nd rfl (Or.inl rfl)) ?c26
          case c26 =>
           refine' pgs_cons (pg_name (i := 3) sc_law.nd rfl (Or.inl rfl)) ?c27
           case c27 =>
            exact (pgs_cons (pg_name (i := 4) sc_law.nd rfl (Or.inl rfl)) pgs_nil)
       case c18 =>
        refine' pss_one ?c28
        case c28 =>
         refine' ps_if ?c29 ?c30 pss_nil
         case c29 =>
          refine' pt_cmpR op_eq ?c31 pe_int (nomark _)
          case c31 =>
           refine' pe_callB ?c32 ?c33 ?c34 ?c35 ?c36
           case c32 => exact call_lenT
           case c33 => exact (by rfl)
           case c34 => exact T.b_len
           case c35 => exact PySem.boot_len
           case c36 =>
            refine' pa_cons ?c37 ?c38
            case c37 =>
             refine' pe_callTy (call_setT (K := K) rfl rfl (hu64 hr)) (by rfl) T.b_set boot_set ?c39
             case c39 =>
              refine' pa_cons ?c40 pa_nil
              case c40 =>
               refine' pe_lst ?c41
               case c41 =>
                refine' pa_cons (pv 2) ?c42
                case c42 =>
                 refine' pa_cons (pv 3) ?c43
                 case c43 =>
                  exact (pa_cons (pv 4) pa_nil)
            case c38 => exact pa_nil
         case c30 =>
          refine' pss_cut ?c44 ?c45
          case c44 =>
           refine' ps_set (i := 5) sc_law.nd rfl (Or.inl rfl) ?c46
           case c46 =>
            refine' pe_lst ?c47
            case c47 =>
             refine' pa_cons ?c48 ?c49
             case c48 =>
              refine' pe_fn F_between (hr.mono (by decide)) rfl passE0 ?c50
              case c50 =>
               refine' pa_cons (pv 2) ?c51
               case c51 =>
                exact (pa_cons (pv 3) pa_nil)
             case c49 =>
              refine' pa_cons ?c52 ?c53
              case c52 =>
               refine' pe_fn F_between (hr.mono (by decide)) rfl passE0 ?c54
               case c54 =>
                refine' pa_cons (pv 3) ?c55
                case c55 =>
                 exact (pa_cons (pv 4) pa_nil)
              case c53 =>
               refine' pa_cons ?c56 pa_nil
               case c56 =>
                refine' pe_fn F_between (hr.mono (by decide)) rfl passE0 ?c57
                case c57 =>
                 refine' pa_cons (pv 4) ?c58
                 case c58 =>
                  exact (pa_cons (pv 2) pa_nil)
          case c45 =>
           refine' pss_cut ?c59 ?c60
           case c59 =>
            refine' ps_set (i := 6) sc_law.nd rfl (Or.inl rfl) ?c61
            case c61 =>
             refine' pe_lst ?c62
             case c62 =>
              refine' pa_cons ?c63 ?c64
              case c63 =>
               refine' pe_fn F_meet (hr.mono (by decide)) rfl passE0 ?c65
               case c65 =>
                refine' pa_cons ?c66 ?c67
                case c66 =>
                 exact (pe_ix ix_F (pv 5) pe_int (fun _ _ => rfl))
                case c67 =>
                 refine' pa_cons ?c68 pa_nil
                 case c68 =>
                  exact (pe_ix ix_F (pv 5) pe_int (fun _ _ => rfl))
              case c64 =>
               refine' pa_cons ?c69 ?c70
               case c69 =>
                refine' pe_fn F_meet (hr.mono (by decide)) rfl passE0 ?c71
                case c71 =>
                 refine' pa_cons ?c72 ?c73
                 case c72 =>
                  exact (pe_ix ix_F (pv 5) pe_int (fun _ _ => rfl))
                 case c73 =>
                  refine' pa_cons ?c74 pa_nil
                  case c74 =>
                   exact (pe_ix ix_F (pv 5) pe_int (fun _ _ => rfl))
               case c70 =>
                refine' pa_cons ?c75 ?c76
                case c75 =>
                 refine' pe_fn F_meet (hr.mono (by decide)) rfl passE0 ?c77
                 case c77 =>
                  refine' pa_cons ?c78 ?c79
                  case c78 =>
                   exact (pe_ix ix_F (pv 5) pe_int (fun _ _ => rfl))
                  case c79 =>
                   refine' pa_cons ?c80 pa_nil
                   case c80 =>
                    exact (pe_ix ix_F (pv 5) pe_int (fun _ _ => rfl))
                case c76 => exact pa_nil
           case c60 =>
            refine' pss_one ?c81
            case c81 =>
             refine' ps_if ?c82 ?c83 ?c84
             case c82 =>
              refine' pt_cmpR op_eq ?c85 pe_int (nomark _)
              case c85 =>
               refine' pe_fn ?c86 ?c87 ?c88 ?c89 ?c90
               case c86 => exact F_turn
               case c87 => exact (hr.mono (by decide))
               case c88 => exact rfl
               case c89 => exact passE0
               case c90 =>
                refine' pa_cons ?c91 ?c92
                case c91 =>
                 refine' pe_tup ?c93
                 case c93 =>
                  refine' pa_cons ?c94 ?c95
                  case c94 =>
                   exact (pe_ix ix_F (pv 2) pe_int (fun _ _ => rfl))
                  case c95 =>
                   refine' pa_cons ?c96 ?c97
                   case c96 =>
                    exact (pe_ix ix_F (pv 2) pe_int (fun _ _ => rfl))
                   case c97 =>
                    exact (pa_cons pe_int pa_nil)
                case c92 =>
                 refine' pa_cons ?c98 ?c99
                 case c98 =>
                  refine' pe_tup ?c100
                  case c100 =>
                   refine' pa_cons ?c101 ?c102
                   case c101 =>
                    exact (pe_ix ix_F (pv 3) pe_int (fun _ _ => rfl))
                   case c102 =>
                    refine' pa_cons ?c103 ?c104
                    case c103 =>
                     exact (pe_ix ix_F (pv 3) pe_int (fun _ _ => rfl))
                    case c104 =>
                     exact (pa_cons pe_int pa_nil)
                 case c99 =>
                  refine' pa_cons ?c105 ?c106
                  case c105 =>
                   refine' pe_tup ?c107
                   case c107 =>
                    refine' pa_cons ?c108 ?c109
                    case c108 =>
                     exact (pe_ix ix_F (pv 4) pe_int (fun _ _ => rfl))
                    case c109 =>
                     refine' pa_cons ?c110 ?c111
                     case c110 =>
                      exact (pe_ix ix_F (pv 4) pe_int (fun _ _ => rfl))
                     case c111 =>
                      exact (pa_cons pe_int pa_nil)
                  case c106 => exact pa_nil
             case c83 =>
              refine' pss_one ?c112
              case c112 =>
               refine' ps_if ?c113 ?c114 pss_nil
               case c113 =>
                refine' pt_cmpR (op_neDK (K := K) rfl (hu64 hr)) (pv 6) ?c115 (nomark _)
                case c115 =>
                 refine' pe_lst ?c116
                 case c116 =>
                  refine' pa_cons pe_non ?c117
                  case c117 =>
                   refine' pa_cons pe_non ?c118
                   case c118 =>
                    exact (pa_cons pe_non pa_nil)
               case c114 =>
                refine' pss_one ?c119
                case c119 =>
                 exact (ps_ret pe_bl)
             case c84 =>
              refine' pss_cut ?c120 ?c121
              case c120 =>
               refine' ps_set (i := 7) sc_law.nd rfl (Or.inr rfl) ?c122
               case c122 =>
                exact (pe_ix ix_F (pv 6) pe_int (fun _ _ => rfl))
              case c121 =>
               refine' pss_cut ?c123 ?c124
               case c123 =>
                refine' ps_if ?c125 ?c126 pss_nil
                case c125 =>
                 refine' PW.pt ?c127
                 case c127 =>
                  refine' pw_or ?c128 ?c129
                  case c128 =>
                   exact (pt_cmp (pc_isN (pv 7)))
                  case c129 =>
                   refine' pw_or1 ?c130
                   case c130 =>
                    refine' pt_cmpR (op_neDK (K := K) rfl (hu64 hr)) (pv 6) ?c131 (nomark _)
                    case c131 =>
                     refine' pe_lst ?c132
                     case c132 =>
                      refine' pa_cons (pv 7) ?c133
                      case c133 =>
                       refine' pa_cons (pv 7) ?c134
                       case c134 =>
                        exact (pa_cons (pv 7) pa_nil)
                case c126 =>
                 refine' pss_one ?c135
                 case c135 =>
                  exact (ps_ret pe_bl)
               case c124 =>
                refine' pss_cut ?c136 ?c137
                case c136 =>
                 refine' ps_if ?c138 ?c139 pss_nil
                 case c138 =>
                  refine' pt_cmpR (op_neDK (K := K) rfl (hu64 hr)) ?c140 ?c141 (nomark _)
                  case c140 =>
                   refine' pe_lc (CScope.of_ok (dsc := defScope s_law) (N0 := ["_law_script", "_law_k", "_law_one", "_law_other", "_law_third", "_law_lines", "_law_points", "_law_point", "_law_ways"]) (N := ["_law_line", "_law_point"]) (k := 1) (js := [7]) rfl rfl (by decide +kernel)) rfl (pi_listK (K := K) rfl (pv 5)) ?c142 ?c143 ?c144
                   case c142 =>
                    intro _ _ _ _ _ _
                    exact (pg_name (i := 0) (by show List.Nodup (["_law_line", "_law_point"] : List Str); decide +kernel) rfl (Or.inl rfl))
                   case c143 =>
                    intro _ _ _ _ _ _
                    exact pifs_nil
                   case c144 =>
                    intro _ _ _ _ _ _
                    refine' pe_fn F_place (hr.mono (by decide)) rfl passE0 ?c145
                    case c145 =>
                     refine' pa_cons (pv 0) ?c146
                     case c146 =>
                      exact (pa_cons (pv 1) pa_nil)
                  case c141 =>
                   refine' pe_lst ?c147
                   case c147 =>
                    refine' pa_cons pe_int ?c148
                    case c148 =>
                     refine' pa_cons pe_int ?c149
                     case c149 =>
                      exact (pa_cons pe_int pa_nil)
                 case c139 =>
                  refine' pss_one ?c150
                  case c150 =>
                   exact (ps_ret pe_bl)
                case c137 =>
                 refine' pss_cut ?c151 ?c152
                 case c151 =>
                  refine' ps_lc (i := 8) (CScope.of_ok (dsc := defScope s_law) (N0 := ["_law_script", "_law_k", "_law_one", "_law_other", "_law_third", "_law_lines", "_law_points", "_law_point", "_law_ways"]) (N := ["_law_spot", "_law_point"]) (k := 1) (js := [7]) rfl rfl (by decide +kernel)) rfl ?c153 ?c154 ?c155 ?c156 sc_law.nd rfl rfl
                  case c153 =>
                   refine' pi_listK (K := K) rfl ?c157
                   case c157 =>
                    refine' PE.up ?c158
                    case c158 =>
                     refine' pe_lst ?c159
                     case c159 =>
                      refine' pa_cons (pv 2) ?c160
                      case c160 =>
                       refine' pa_cons (pv 3) ?c161
                       case c161 =>
                        exact (pa_cons (pv 4) pa_nil)
                  case c154 =>
                   intro _ _ _ _ _ _
                   exact (pg_name (i := 0) (by show List.Nodup (["_law_spot", "_law_point"] : List Str); decide +kernel) rfl (Or.inl rfl))
                  case c155 =>
                   intro _ _ _ _ _ _
                   exact pifs_nil
                  case c156 =>
                   intro _ _ _ _ _ _
                   refine' pe_fn F_square (hr.mono (by decide)) rfl passE0 ?c162
                   case c162 =>
                    refine' pa_cons (pv 1) ?c163
                    case c163 =>
                     exact (pa_cons (pv 0) pa_nil)
                 case c152 =>
                  refine' pss_one ?c164
                  case c164 =>
                   refine' ps_if ?c165 ?c166 pss_nil
                   case c165 =>
                    refine' PW.pt ?c167
                    case c167 =>
                     refine' pw_or ?c168 ?c169
                     case c168 =>
                      refine' pt_cmpR (op_neDK (K := K) rfl (hu64 hr)) (pv 8) ?c170 (nomark _)
                      case c170 =>
                       refine' pe_lst ?c171
                       case c171 =>
                        refine' pa_cons ?c172 ?c173
                        case c172 =>
                         exact (pe_ix ix_F (pv 8) pe_int (fun _ _ => rfl))
                        case c173 =>
                         refine' pa_cons ?c174 ?c175
                         case c174 =>
                          exact (pe_ix ix_F (pv 8) pe_int (fun _ _ => rfl))
                         case c175 =>
                          refine' pa_cons ?c176 pa_nil
                          case c176 =>
                           exact (pe_ix ix_F (pv 8) pe_int (fun _ _ => rfl))
                     case c169 =>
                      refine' pw_or1 ?c177
                      case c177 =>
                       refine' pt_cmpR op_ne ?c178 pe_int (nomark _)
                       case c178 =>
                        refine' pe_fn F_nearer (hr.mono (by decide)) rfl passE0 ?c179
                        case c179 =>
                         refine' pa_cons (pv 7) ?c180
                         case c180 =>
                          refine' pa_cons (pv 2) ?c181
                          case c181 =>
                           exact (pa_cons (pv 4) pa_nil)
                   case c166 =>
                    refine' pss_one ?c182
                    case c182 =>
                     exact (ps_ret pe_bl)
     case c2 =>
      refine' pss_one ?c183
      case c183 =>
       exact (ps_ret pe_bl)
    case rest =>
     obtain ⟨hS, hl, h⟩ := h
     simp only [L2.start, List.map_cons, List.map_nil, List.length_cons, List.length_nil, Nat.reduceAdd, Nat.reduceSub, List.replicate_succ, List.replicate_zero, List.cons_append, List.nil_append, List.append_nil]
     rw [tSeq]
     refine tfor_range (min 24 (3 + ns.length)) ?_ ?_ (fun i σ H' => ∃ (o1 o2 o3 o4 o5 o6 o7 o8 : Option V), σ = [some (.ref a), o1, o2, o3, o4, o5, o6, o7, o8] ∧ SqL K H' a (ns.map V.int)) ⟨_, _, _, _, _, _, _, _, rfl, hS⟩ ?_ ?_
     · intro R hR
       simp only [tSeq, List.cons_inj_right, tNext, tIfS, tTest, tOp, tUn, rI, rI0, rU, tVar, tC, tAsg, gName, tRet, tRetN, tDrop, tCall, tCons, tNil, tCB, tTup, tLst, rEq, rNe, ixF, setF, gSub, tPar, tNot, tAnd, tOr, tB, tNotV, tAndV, tOrV, tIf, List.append_nil, List.getElem?_cons_zero, List.getElem?_cons_succ, List.set_cons_zero, List.set_cons_succ, Option.some.injEq, V.int.injEq, V.bl.injEq, V.ref.injEq, exists_eq_left', exists_eq_left, exists_eq_right, exists_and_left, exists_and_right, and_true, true_and, and_assoc, List.cons.injEq, optK_some, seqOf_l, seqOf_t, tYes, tIsN, tNotN, rLenK, tML, tML0, appR, popR, clrR, catF, listF, lenF, slF, tSl, tPart, tNoPart, tyN, isiF, isiT_1, isiT_2, isiT_3, isiT_4, isiT_5, isiT_6, isiT_7, lstOf_l, tup3_some, tup2_some, Option.isSome_some, List.dropLast, List.getLast?, L2.stLC, frV, List.map_cons, List.map_nil, List.replicate_succ, List.replicate_zero, List.cons_append, List.nil_append, List.drop_succ_cons, List.drop_zero, Option.join_some, atI_0, atI_1, atI_2, atI_3, scal, if_true, if_false, Bool.false_eq_true, Bool.true_eq_false, reduceIte, reduceCtorEq, decide_eq_true_eq, Bool.not_eq_true', decide_eq_false_iff_not, eq_self, List.length_cons, List.length_nil, Nat.zero_add, Nat.reduceAdd, Nat.reduceLT, upd_same, Int.cast_ofNat_Int, Int.reduceToNat, Int.reducePow, Int.reduceLE, Int.reduceLT, Int.reduceSub, Int.reduceAdd, Int.reduceMul, Int.reduceNeg, bd10, bd64, bd2, bd3, bd4, ixN_3_0, ixN_3_1, ixN_3_2, ixN_2_0, ixN_2_1, ixN_4_0, ixN_4_1, ixN_4_2, ixN_4_3, ne_eq, Int.reduceEq, not_false_eq_true, not_true_eq_false, false_or, or_false, false_and, and_false, exists_false, exists_const, tCont, tRaise, tRaise0, tTry, tCallS, goneEnds, tPar3, tDg, tDp, dkOf_k, tDisp, tPairs, tDpT, tDNewT]
       refine ⟨_, .inl hS, ?_⟩
       rw [List.length_map]
       have e : (if 3 + (ns.length : Int) < 24 then 3 + (ns.length : Int) else 24) = ((min 24 (3 + ns.length) : Nat) : Int) := by split <;> omega
       rw [e]
       exact hR
     · omega
     · rintro i σ H1 hi ⟨o1, o2, o3, o4, o5, o6, o7, o8, rfl, hS1⟩
       refine ⟨fun σ H' => ∃ (q1 q2 q3 : Addr) (x y z : Int × Int), σ = [some (.ref a), some (.int (0 + (i : Int))), some (.ref q1), some (.ref q2), some (.ref q3), o5, o6, o7, o8] ∧ S9 K ns a q1 q2 q3 x y z H', ?_, ?_⟩
       · simp only [tSeq, List.cons_inj_right, tNext, tIfS, tTest, tOp, tUn, rI, rI0, rU, tVar, tC, tAsg, gName, tRet, tRetN, tDrop, tCall, tCons, tNil, tCB, tTup, tLst, rEq, rNe, ixF, setF, gSub, tPar, tNot, tAnd, tOr, tB, tNotV, tAndV, tOrV, tIf, List.append_nil, List.getElem?_cons_zero, List.getElem?_cons_succ, List.set_cons_zero, List.set_cons_succ, Option.some.injEq, V.int.injEq, V.bl.injEq, V.ref.injEq, exists_eq_left', exists_eq_left, exists_eq_right, exists_and_left, exists_and_right, and_true, true_and, and_assoc, List.cons.injEq, optK_some, seqOf_l, seqOf_t, tYes, tIsN, tNotN, rLenK, tML, tML0, appR, popR, clrR, catF, listF, lenF, slF, tSl, tPart, tNoPart, tyN, isiF, isiT_1, isiT_2, isiT_3, isiT_4, isiT_5, isiT_6, isiT_7, lstOf_l, tup3_some, tup2_some, Option.isSome_some, List.dropLast, List.getLast?, L2.stLC, frV, List.map_cons, List.map_nil, List.replicate_succ, List.replicate_zero, List.cons_append, List.nil_append, List.drop_succ_cons, List.drop_zero, Option.join_some, atI_0, atI_1, atI_2, atI_3, scal, if_true, if_false, Bool.false_eq_true, Bool.true_eq_false, reduceIte, reduceCtorEq, decide_eq_true_eq, Bool.not_eq_true', decide_eq_false_iff_not, eq_self, List.length_cons, List.length_nil, Nat.zero_add, Nat.reduceAdd, Nat.reduceLT, upd_same, Int.cast_ofNat_Int, Int.reduceToNat, Int.reducePow, Int.reduceLE, Int.reduceLT, Int.reduceSub, Int.reduceAdd, Int.reduceMul, Int.reduceNeg, bd10, bd64, bd2, bd3, bd4, ixN_3_0, ixN_3_1, ixN_3_2, ixN_2_0, ixN_2_1, ixN_4_0, ixN_4_1, ixN_4_2, ixN_4_3, ne_eq, Int.reduceEq, not_false_eq_true, not_true_eq_false, false_or, or_false, false_and, and_false, exists_false, exists_const, tCont, tRaise, tRaise0, tTry, tCallS, goneEnds, tPar3, tDg, tDp, dkOf_k, tDisp, tPairs, tDpT, tDNewT, sp_feed, sp_spots]
         refine ⟨⟨_, rfl⟩, ⟨ns, hS1⟩, fun p x0 y0 z0 hp => ⟨⟨_, _, _, upd_same⟩, fun t v1 v2 v3 H2 fx s3 => ?_⟩⟩
         obtain ⟨e, ⟨q1, x1, y1, rfl, e1, b1, b1'⟩, ⟨q2, x2, y2, rfl, e2, b2, b2'⟩, ⟨q3, x3, y3, rfl, e3, b3, b3'⟩⟩ := s3
         have xx : Ext H1 H2 := fx.ext hp
         simp only [tSeq, List.cons_inj_right, tNext, tIfS, tTest, tOp, tUn, rI, rI0, rU, tVar, tC, tAsg, gName, tRet, tRetN, tDrop, tCall, tCons, tNil, tCB, tTup, tLst, rEq, rNe, ixF, setF, gSub, tPar, tNot, tAnd, tOr, tB, tNotV, tAndV, tOrV, tIf, List.append_nil, List.getElem?_cons_zero, List.getElem?_cons_succ, List.set_cons_zero, List.set_cons_succ, Option.some.injEq, V.int.injEq, V.bl.injEq, V.ref.injEq, exists_eq_left', exists_eq_left, exists_eq_right, exists_and_left, exists_and_right, and_true, true_and, and_assoc, List.cons.injEq, optK_some, seqOf_l, seqOf_t, tYes, tIsN, tNotN, rLenK, tML, tML0, appR, popR, clrR, catF, listF, lenF, slF, tSl, tPart, tNoPart, tyN, isiF, isiT_1, isiT_2, isiT_3, isiT_4, isiT_5, isiT_6, isiT_7, lstOf_l, tup3_some, tup2_some, Option.isSome_some, List.dropLast, List.getLast?, L2.stLC, frV, List.map_cons, List.map_nil, List.replicate_succ, List.replicate_zero, List.cons_append, List.nil_append, List.drop_succ_cons, List.drop_zero, Option.join_some, atI_0, atI_1, atI_2, atI_3, scal, if_true, if_false, Bool.false_eq_true, Bool.true_eq_false, reduceIte, reduceCtorEq, decide_eq_true_eq, Bool.not_eq_true', decide_eq_false_iff_not, eq_self, List.length_cons, List.length_nil, Nat.zero_add, Nat.reduceAdd, Nat.reduceLT, upd_same, Int.cast_ofNat_Int, Int.reduceToNat, Int.reducePow, Int.reduceLE, Int.reduceLT, Int.reduceSub, Int.reduceAdd, Int.reduceMul, Int.reduceNeg, bd10, bd64, bd2, bd3, bd4, ixN_3_0, ixN_3_1, ixN_3_2, ixN_2_0, ixN_2_1, ixN_4_0, ixN_4_1, ixN_4_2, ixN_4_3, ne_eq, Int.reduceEq, not_false_eq_true, not_true_eq_false, false_or, or_false, false_and, and_false, exists_false, exists_const, tCont, tRaise, tRaise0, tTry, tCallS, goneEnds, tPar3, tDg, tDp, dkOf_k, tDisp, tPairs, tDpT, tDNewT, gSeqF, gCons, gNil, e]
         exact ⟨(x1, y1), (x2, y2), (x3, y3), xx.sqL hS1, e1, e2, e3, ⟨b1, b1'⟩, ⟨b2, b2'⟩, ⟨b3, b3'⟩⟩
       · rintro σ H2 ⟨q1, q2, q3, x, y, z, rfl, s9⟩
         simp only [tSeq, List.cons_inj_right, tNext, tIfS, tTest, tOp, tUn, rI, rI0, rU, tVar, tC, tAsg, gName, tRet, tRetN, tDrop, tCall, tCons, tNil, tCB, tTup, tLst, rEq, rNe, ixF, setF, gSub, tPar, tNot, tAnd, tOr, tB, tNotV, tAndV, tOrV, tIf, List.append_nil, List.getElem?_cons_zero, List.getElem?_cons_succ, List.set_cons_zero, List.set_cons_succ, Option.some.injEq, V.int.injEq, V.bl.injEq, V.ref.injEq, exists_eq_left', exists_eq_left, exists_eq_right, exists_and_left, exists_and_right, and_true, true_and, and_assoc, List.cons.injEq, optK_some, seqOf_l, seqOf_t, tYes, tIsN, tNotN, rLenK, tML, tML0, appR, popR, clrR, catF, listF, lenF, slF, tSl, tPart, tNoPart, tyN, isiF, isiT_1, isiT_2, isiT_3, isiT_4, isiT_5, isiT_6, isiT_7, lstOf_l, tup3_some, tup2_some, Option.isSome_some, List.dropLast, List.getLast?, L2.stLC, frV, List.map_cons, List.map_nil, List.replicate_succ, List.replicate_zero, List.cons_append, List.nil_append, List.drop_succ_cons, List.drop_zero, Option.join_some, atI_0, atI_1, atI_2, atI_3, scal, if_true, if_false, Bool.false_eq_true, Bool.true_eq_false, reduceIte, reduceCtorEq, decide_eq_true_eq, Bool.not_eq_true', decide_eq_false_iff_not, eq_self, List.length_cons, List.length_nil, Nat.zero_add, Nat.reduceAdd, Nat.reduceLT, upd_same, Int.cast_ofNat_Int, Int.reduceToNat, Int.reducePow, Int.reduceLE, Int.reduceLT, Int.reduceSub, Int.reduceAdd, Int.reduceMul, Int.reduceNeg, bd10, bd64, bd2, bd3, bd4, ixN_3_0, ixN_3_1, ixN_3_2, ixN_2_0, ixN_2_1, ixN_4_0, ixN_4_1, ixN_4_2, ixN_4_3, ne_eq, Int.reduceEq, not_false_eq_true, not_true_eq_false, false_or, or_false, false_and, and_false, exists_false, exists_const, tCont, tRaise, tRaise0, tTry, tCallS, goneEnds, tPar3, tDg, tDp, dkOf_k, tDisp, tPairs, tDpT, tDNewT]
         refine ⟨by decide, fun t ht => ?_⟩
         refine ⟨t, [q1, q2, q3], [[x.1, x.2], [y.1, y.2], [z.1, z.2]], rfl, SqL.of upd_same, rfl, Nat.le_of_ble_eq_true rfl, ?_, fun p hp => ⟨p, _, rfl, upd_same, ?_, ?_⟩⟩
         · intro j q k hq hk
           match j, hq, hk with
           | 0, hq, hk => cases hq; cases hk; exact upd_f ht s9.e1
           | 1, hq, hk => cases hq; cases hk; exact upd_f ht s9.e2
           | 2, hq, hk => cases hq; cases hk; exact upd_f ht s9.e3
         · exact Nat.lt_of_le_of_lt (TZ.ksOf_len _ _) (Nat.lt_of_lt_of_le (Nat.lt_succ_self 3) (by decide))
         have s9' := (s9.ext (Ext.upd (o := .lst [.ref q1, .ref q2, .ref q3]) ht)).ext (Ext.upd (o := setT p (TZ.ksOf (kOf [[x.1, x.2], [y.1, y.2], [z.1, z.2]]) 3).length) hp)
         simp only [tSeq, List.cons_inj_right, tNext, tIfS, tTest, tOp, tUn, rI, rI0, rU, tVar, tC, tAsg, gName, tRet, tRetN, tDrop, tCall, tCons, tNil, tCB, tTup, tLst, rEq, rNe, ixF, setF, gSub, tPar, tNot, tAnd, tOr, tB, tNotV, tAndV, tOrV, tIf, List.append_nil, List.getElem?_cons_zero, List.getElem?_cons_succ, List.set_cons_zero, List.set_cons_succ, Option.some.injEq, V.int.injEq, V.bl.injEq, V.ref.injEq, exists_eq_left', exists_eq_left, exists_eq_right, exists_and_left, exists_and_right, and_true, true_and, and_assoc, List.cons.injEq, optK_some, seqOf_l, seqOf_t, tYes, tIsN, tNotN, rLenK, tML, tML0, appR, popR, clrR, catF, listF, lenF, slF, tSl, tPart, tNoPart, tyN, isiF, isiT_1, isiT_2, isiT_3, isiT_4, isiT_5, isiT_6, isiT_7, lstOf_l, tup3_some, tup2_some, Option.isSome_some, List.dropLast, List.getLast?, L2.stLC, frV, List.map_cons, List.map_nil, List.replicate_succ, List.replicate_zero, List.cons_append, List.nil_append, List.drop_succ_cons, List.drop_zero, Option.join_some, atI_0, atI_1, atI_2, atI_3, scal, if_true, if_false, Bool.false_eq_true, Bool.true_eq_false, reduceIte, reduceCtorEq, decide_eq_true_eq, Bool.not_eq_true', decide_eq_false_iff_not, eq_self, List.length_cons, List.length_nil, Nat.zero_add, Nat.reduceAdd, Nat.reduceLT, upd_same, Int.cast_ofNat_Int, Int.reduceToNat, Int.reducePow, Int.reduceLE, Int.reduceLT, Int.reduceSub, Int.reduceAdd, Int.reduceMul, Int.reduceNeg, bd10, bd64, bd2, bd3, bd4, ixN_3_0, ixN_3_1, ixN_3_2, ixN_2_0, ixN_2_1, ixN_4_0, ixN_4_1, ixN_4_2, ixN_4_3, ne_eq, Int.reduceEq, not_false_eq_true, not_true_eq_false, false_or, or_false, false_and, and_false, exists_false, exists_const, tCont, tRaise, tRaise0, tTry, tCallS, goneEnds, tPar3, tDg, tDp, dkOf_k, tDisp, tPairs, tDpT, tDNewT]
         generalize upd (upd H2 t (.lst [.ref q1, .ref q2, .ref q3])) p _ = H3 at s9' ⊢
         by_cases hd : x ≠ y ∧ x ≠ z ∧ y ≠ z
         · have l3 : (TZ.ksOf (kOf [[x.1, x.2], [y.1, y.2], [z.1, z.2]]) 3).length = 3 := setT_three.mpr ⟨fun q => hd.1 (by simp only [List.cons.injEq, and_true] at q; exact Prod.ext q.1 q.2), fun q => hd.2.1 (by simp only [List.cons.injEq, and_true] at q; exact Prod.ext q.1 q.2), fun q => hd.2.2 (by simp only [List.cons.injEq, and_true] at q; exact Prod.ext q.1 q.2)⟩
           rw [l3, if_pos (show ((3 : Nat) : Int) = 3 from rfl)]
           refine ⟨fun σ H' => ∃ (L l1 l2 l3 : Addr) (A B C : P3'), σ = [some (.ref a), some (.int (0 + (i : Int))), some (.ref q1), some (.ref q2), some (.ref q3), some (.ref L), o6, o7, o8] ∧ S9 K ns a q1 q2 q3 x y z H' ∧ L9 x y z L l1 l2 l3 A B C H', ?_, ?_⟩
           · have wd : ∀ {r : Int × Int}, B2 100 r → B2 400 r := fun b => ⟨b.1.mono (by decide), b.2.mono (by decide)⟩
             simp only [tSeq, List.cons_inj_right, tNext, tIfS, tTest, tOp, tUn, rI, rI0, rU, tVar, tC, tAsg, gName, tRet, tRetN, tDrop, tCall, tCons, tNil, tCB, tTup, tLst, rEq, rNe, ixF, setF, gSub, tPar, tNot, tAnd, tOr, tB, tNotV, tAndV, tOrV, tIf, List.append_nil, List.getElem?_cons_zero, List.getElem?_cons_succ, List.set_cons_zero, List.set_cons_succ, Option.some.injEq, V.int.injEq, V.bl.injEq, V.ref.injEq, exists_eq_left', exists_eq_left, exists_eq_right, exists_and_left, exists_and_right, and_true, true_and, and_assoc, List.cons.injEq, optK_some, seqOf_l, seqOf_t, tYes, tIsN, tNotN, rLenK, tML, tML0, appR, popR, clrR, catF, listF, lenF, slF, tSl, tPart, tNoPart, tyN, isiF, isiT_1, isiT_2, isiT_3, isiT_4, isiT_5, isiT_6, isiT_7, lstOf_l, tup3_some, tup2_some, Option.isSome_some, List.dropLast, List.getLast?, L2.stLC, frV, List.map_cons, List.map_nil, List.replicate_succ, List.replicate_zero, List.cons_append, List.nil_append, List.drop_succ_cons, List.drop_zero, Option.join_some, atI_0, atI_1, atI_2, atI_3, scal, if_true, if_false, Bool.false_eq_true, Bool.true_eq_false, reduceIte, reduceCtorEq, decide_eq_true_eq, Bool.not_eq_true', decide_eq_false_iff_not, eq_self, List.length_cons, List.length_nil, Nat.zero_add, Nat.reduceAdd, Nat.reduceLT, upd_same, Int.cast_ofNat_Int, Int.reduceToNat, Int.reducePow, Int.reduceLE, Int.reduceLT, Int.reduceSub, Int.reduceAdd, Int.reduceMul, Int.reduceNeg, bd10, bd64, bd2, bd3, bd4, ixN_3_0, ixN_3_1, ixN_3_2, ixN_2_0, ixN_2_1, ixN_4_0, ixN_4_1, ixN_4_2, ixN_4_3, ne_eq, Int.reduceEq, not_false_eq_true, not_true_eq_false, false_or, or_false, false_and, and_false, exists_false, exists_const, tCont, tRaise, tRaise0, tTry, tCallS, goneEnds, tPar3, tDg, tDp, dkOf_k, tDisp, tPairs, tDpT, tDNewT, sp_between, s9'.e1, s9'.e2, BtwOk]
             refine ⟨wd s9'.bx, wd s9'.by_, hd.1, fun t1 a1 b1 c1 h1 k1 => ?_⟩
             have s10 := s9'.ext (Ext.upd (o := .tup [.int a1, .int b1, .int c1]) h1)
             simp only [tSeq, List.cons_inj_right, tNext, tIfS, tTest, tOp, tUn, rI, rI0, rU, tVar, tC, tAsg, gName, tRet, tRetN, tDrop, tCall, tCons, tNil, tCB, tTup, tLst, rEq, rNe, ixF, setF, gSub, tPar, tNot, tAnd, tOr, tB, tNotV, tAndV, tOrV, tIf, List.append_nil, List.getElem?_cons_zero, List.getElem?_cons_succ, List.set_cons_zero, List.set_cons_succ, Option.some.injEq, V.int.injEq, V.bl.injEq, V.ref.injEq, exists_eq_left', exists_eq_left, exists_eq_right, exists_and_left, exists_and_right, and_true, true_and, and_assoc, List.cons.injEq, optK_some, seqOf_l, seqOf_t, tYes, tIsN, tNotN, rLenK, tML, tML0, appR, popR, clrR, catF, listF, lenF, slF, tSl, tPart, tNoPart, tyN, isiF, isiT_1, isiT_2, isiT_3, isiT_4, isiT_5, isiT_6, isiT_7, lstOf_l, tup3_some, tup2_some, Option.isSome_some, List.dropLast, List.getLast?, L2.stLC, frV, List.map_cons, List.map_nil, List.replicate_succ, List.replicate_zero, List.cons_append, List.nil_append, List.drop_succ_cons, List.drop_zero, Option.join_some, atI_0, atI_1, atI_2, atI_3, scal, if_true, if_false, Bool.false_eq_true, Bool.true_eq_false, reduceIte, reduceCtorEq, decide_eq_true_eq, Bool.not_eq_true', decide_eq_false_iff_not, eq_self, List.length_cons, List.length_nil, Nat.zero_add, Nat.reduceAdd, Nat.reduceLT, upd_same, Int.cast_ofNat_Int, Int.reduceToNat, Int.reducePow, Int.reduceLE, Int.reduceLT, Int.reduceSub, Int.reduceAdd, Int.reduceMul, Int.reduceNeg, bd10, bd64, bd2, bd3, bd4, ixN_3_0, ixN_3_1, ixN_3_2, ixN_2_0, ixN_2_1, ixN_4_0, ixN_4_1, ixN_4_2, ixN_4_3, ne_eq, Int.reduceEq, not_false_eq_true, not_true_eq_false, false_or, or_false, false_and, and_false, exists_false, exists_const, tCont, tRaise, tRaise0, tTry, tCallS, goneEnds, tPar3, tDg, tDp, dkOf_k, tDisp, tPairs, tDpT, tDNewT, s10.e2, s10.e3]
             refine ⟨wd s9'.by_, wd s9'.bz, hd.2.2, fun t2 a2 b2 c2 h2 k2 => ?_⟩
             have s11 := s10.ext (Ext.upd (o := .tup [.int a2, .int b2, .int c2]) h2)
             simp only [tSeq, List.cons_inj_right, tNext, tIfS, tTest, tOp, tUn, rI, rI0, rU, tVar, tC, tAsg, gName, tRet, tRetN, tDrop, tCall, tCons, tNil, tCB, tTup, tLst, rEq, rNe, ixF, setF, gSub, tPar, tNot, tAnd, tOr, tB, tNotV, tAndV, tOrV, tIf, List.append_nil, List.getElem?_cons_zero, List.getElem?_cons_succ, List.set_cons_zero, List.set_cons_succ, Option.some.injEq, V.int.injEq, V.bl.injEq, V.ref.injEq, exists_eq_left', exists_eq_left, exists_eq_right, exists_and_left, exists_and_right, and_true, true_and, and_assoc, List.cons.injEq, optK_some, seqOf_l, seqOf_t, tYes, tIsN, tNotN, rLenK, tML, tML0, appR, popR, clrR, catF, listF, lenF, slF, tSl, tPart, tNoPart, tyN, isiF, isiT_1, isiT_2, isiT_3, isiT_4, isiT_5, isiT_6, isiT_7, lstOf_l, tup3_some, tup2_some, Option.isSome_some, List.dropLast, List.getLast?, L2.stLC, frV, List.map_cons, List.map_nil, List.replicate_succ, List.replicate_zero, List.cons_append, List.nil_append, List.drop_succ_cons, List.drop_zero, Option.join_some, atI_0, atI_1, atI_2, atI_3, scal, if_true, if_false, Bool.false_eq_true, Bool.true_eq_false, reduceIte, reduceCtorEq, decide_eq_true_eq, Bool.not_eq_true', decide_eq_false_iff_not, eq_self, List.length_cons, List.length_nil, Nat.zero_add, Nat.reduceAdd, Nat.reduceLT, upd_same, Int.cast_ofNat_Int, Int.reduceToNat, Int.reducePow, Int.reduceLE, Int.reduceLT, Int.reduceSub, Int.reduceAdd, Int.reduceMul, Int.reduceNeg, bd10, bd64, bd2, bd3, bd4, ixN_3_0, ixN_3_1, ixN_3_2, ixN_2_0, ixN_2_1, ixN_4_0, ixN_4_1, ixN_4_2, ixN_4_3, ne_eq, Int.reduceEq, not_false_eq_true, not_true_eq_false, false_or, or_false, false_and, and_false, exists_false, exists_const, tCont, tRaise, tRaise0, tTry, tCallS, goneEnds, tPar3, tDg, tDp, dkOf_k, tDisp, tPairs, tDpT, tDNewT, s11.e3, s11.e1]
             refine ⟨wd s9'.bz, wd s9'.bx, fun q => hd.2.1 q.symm, fun t3 a3 b3 c3 h3 k3 => ⟨by decide, fun L hL => ?_⟩⟩
             have s12 := (s11.ext (Ext.upd (o := .tup [.int a3, .int b3, .int c3]) h3)).ext (Ext.upd (o := .lst [.ref t1, .ref t2, .ref t3]) hL)
             exact ⟨s12, t1, t2, t3, (a1, b1, c1), (a2, b2, c2), (a3, b3, c3), upd_same, upd_f hL (upd_f h3 (upd_f h2 upd_same)), upd_f hL (upd_f h3 upd_same), upd_f hL upd_same, k1, k2, k3, BL.bd s9'.bx s9'.by_ k1, BL.bd s9'.by_ s9'.bz k2, BL.bd s9'.bz s9'.bx k3⟩
           · rintro σ H4 ⟨L, l1, l2, l3, A, B, C', rfl, s9, l9⟩
             have wd : ∀ {r : P3'}, B3 210 r → B3 1000 r := fun b => ⟨b.1.mono (by decide), b.2.1.mono (by decide), b.2.2.mono (by decide)⟩
             have det : det3 x.1 x.2 1 y.1 y.2 1 z.1 z.2 1 = dt2 x y z := by unfold det3 dt2; grind
             by_cases hD : dt2 x y z = 0
             · refine ⟨fun σ H' => ∃ (P : Addr), σ = [some (.ref a), some (.int (0 + (i : Int))), some (.ref q1), some (.ref q2), some (.ref q3), some (.ref L), some (.ref P), o7, o8] ∧ S9 K ns a q1 q2 q3 x y z H' ∧ H' P = some (.lst [.non, .non, .non]), ?_, ?_⟩
               · have z1 := (cross_zero l9.b1 l9.b2).mpr hD
                 have z2 := (cross_zero l9.b2 l9.b3).mpr (by rw [dt2_turn]; exact hD)
                 have z3 := (cross_zero l9.b3 l9.b1).mpr (by rw [dt2_turn, dt2_turn]; exact hD)
                 simp only [tSeq, List.cons_inj_right, tNext, tIfS, tTest, tOp, tUn, rI, rI0, rU, tVar, tC, tAsg, gName, tRet, tRetN, tDrop, tCall, tCons, tNil, tCB, tTup, tLst, rEq, rNe, ixF, setF, gSub, tPar, tNot, tAnd, tOr, tB, tNotV, tAndV, tOrV, tIf, List.append_nil, List.getElem?_cons_zero, List.getElem?_cons_succ, List.set_cons_zero, List.set_cons_succ, Option.some.injEq, V.int.injEq, V.bl.injEq, V.ref.injEq, exists_eq_left', exists_eq_left, exists_eq_right, exists_and_left, exists_and_right, and_true, true_and, and_assoc, List.cons.injEq, optK_some, seqOf_l, seqOf_t, tYes, tIsN, tNotN, rLenK, tML, tML0, appR, popR, clrR, catF, listF, lenF, slF, tSl, tPart, tNoPart, tyN, isiF, isiT_1, isiT_2, isiT_3, isiT_4, isiT_5, isiT_6, isiT_7, lstOf_l, tup3_some, tup2_some, Option.isSome_some, List.dropLast, List.getLast?, L2.stLC, frV, List.map_cons, List.map_nil, List.replicate_succ, List.replicate_zero, List.cons_append, List.nil_append, List.drop_succ_cons, List.drop_zero, Option.join_some, atI_0, atI_1, atI_2, atI_3, scal, if_true, if_false, Bool.false_eq_true, Bool.true_eq_false, reduceIte, reduceCtorEq, decide_eq_true_eq, Bool.not_eq_true', decide_eq_false_iff_not, eq_self, List.length_cons, List.length_nil, Nat.zero_add, Nat.reduceAdd, Nat.reduceLT, upd_same, Int.cast_ofNat_Int, Int.reduceToNat, Int.reducePow, Int.reduceLE, Int.reduceLT, Int.reduceSub, Int.reduceAdd, Int.reduceMul, Int.reduceNeg, bd10, bd64, bd2, bd3, bd4, ixN_3_0, ixN_3_1, ixN_3_2, ixN_2_0, ixN_2_1, ixN_4_0, ixN_4_1, ixN_4_2, ixN_4_3, ne_eq, Int.reduceEq, not_false_eq_true, not_true_eq_false, false_or, or_false, false_and, and_false, exists_false, exists_const, tCont, tRaise, tRaise0, tTry, tCallS, goneEnds, tPar3, tDg, tDp, dkOf_k, tDisp, tPairs, tDpT, tDNewT, sp_meet, l9.at_, l9.e1, l9.e2, l9.e3, MeetOk]
                 exact ⟨wd l9.c1, wd l9.c2, fun _ => ⟨wd l9.c2, wd l9.c3, fun _ => ⟨wd l9.c3, wd l9.c1, fun _ => ⟨by decide, fun p hp => s9.ext (Ext.upd hp)⟩, fun q => absurd z3 q⟩, fun q => absurd z2 q⟩, fun q => absurd z1 q⟩
               · rintro σ H5 ⟨P, rfl, s9, eP⟩
                 simp only [tSeq, List.cons_inj_right, tNext, tIfS, tTest, tOp, tUn, rI, rI0, rU, tVar, tC, tAsg, gName, tRet, tRetN, tDrop, tCall, tCons, tNil, tCB, tTup, tLst, rEq, rNe, ixF, setF, gSub, tPar, tNot, tAnd, tOr, tB, tNotV, tAndV, tOrV, tIf, List.append_nil, List.getElem?_cons_zero, List.getElem?_cons_succ, List.set_cons_zero, List.set_cons_succ, Option.some.injEq, V.int.injEq, V.bl.injEq, V.ref.injEq, exists_eq_left', exists_eq_left, exists_eq_right, exists_and_left, exists_and_right, and_true, true_and, and_assoc, List.cons.injEq, optK_some, seqOf_l, seqOf_t, tYes, tIsN, tNotN, rLenK, tML, tML0, appR, popR, clrR, catF, listF, lenF, slF, tSl, tPart, tNoPart, tyN, isiF, isiT_1, isiT_2, isiT_3, isiT_4, isiT_5, isiT_6, isiT_7, lstOf_l, tup3_some, tup2_some, Option.isSome_some, List.dropLast, List.getLast?, L2.stLC, frV, List.map_cons, List.map_nil, List.replicate_succ, List.replicate_zero, List.cons_append, List.nil_append, List.drop_succ_cons, List.drop_zero, Option.join_some, atI_0, atI_1, atI_2, atI_3, scal, if_true, if_false, Bool.false_eq_true, Bool.true_eq_false, reduceIte, reduceCtorEq, decide_eq_true_eq, Bool.not_eq_true', decide_eq_false_iff_not, eq_self, List.length_cons, List.length_nil, Nat.zero_add, Nat.reduceAdd, Nat.reduceLT, upd_same, Int.cast_ofNat_Int, Int.reduceToNat, Int.reducePow, Int.reduceLE, Int.reduceLT, Int.reduceSub, Int.reduceAdd, Int.reduceMul, Int.reduceNeg, bd10, bd64, bd2, bd3, bd4, ixN_3_0, ixN_3_1, ixN_3_2, ixN_2_0, ixN_2_1, ixN_4_0, ixN_4_1, ixN_4_2, ixN_4_3, ne_eq, Int.reduceEq, not_false_eq_true, not_true_eq_false, false_or, or_false, false_and, and_false, exists_false, exists_const, tCont, tRaise, tRaise0, tTry, tCallS, goneEnds, tPar3, tDg, tDp, dkOf_k, tDisp, tPairs, tDpT, tDNewT, s9.e1, sp_turn]
                 refine ⟨by decide, fun u1 g1 => ?_⟩
                 have s10 := s9.ext (Ext.upd (o := .tup [.int x.1, .int x.2, .int 1]) g1)
                 simp only [tSeq, List.cons_inj_right, tNext, tIfS, tTest, tOp, tUn, rI, rI0, rU, tVar, tC, tAsg, gName, tRet, tRetN, tDrop, tCall, tCons, tNil, tCB, tTup, tLst, rEq, rNe, ixF, setF, gSub, tPar, tNot, tAnd, tOr, tB, tNotV, tAndV, tOrV, tIf, List.append_nil, List.getElem?_cons_zero, List.getElem?_cons_succ, List.set_cons_zero, List.set_cons_succ, Option.some.injEq, V.int.injEq, V.bl.injEq, V.ref.injEq, exists_eq_left', exists_eq_left, exists_eq_right, exists_and_left, exists_and_right, and_true, true_and, and_assoc, List.cons.injEq, optK_some, seqOf_l, seqOf_t, tYes, tIsN, tNotN, rLenK, tML, tML0, appR, popR, clrR, catF, listF, lenF, slF, tSl, tPart, tNoPart, tyN, isiF, isiT_1, isiT_2, isiT_3, isiT_4, isiT_5, isiT_6, isiT_7, lstOf_l, tup3_some, tup2_some, Option.isSome_some, List.dropLast, List.getLast?, L2.stLC, frV, List.map_cons, List.map_nil, List.replicate_succ, List.replicate_zero, List.cons_append, List.nil_append, List.drop_succ_cons, List.drop_zero, Option.join_some, atI_0, atI_1, atI_2, atI_3, scal, if_true, if_false, Bool.false_eq_true, Bool.true_eq_false, reduceIte, reduceCtorEq, decide_eq_true_eq, Bool.not_eq_true', decide_eq_false_iff_not, eq_self, List.length_cons, List.length_nil, Nat.zero_add, Nat.reduceAdd, Nat.reduceLT, upd_same, Int.cast_ofNat_Int, Int.reduceToNat, Int.reducePow, Int.reduceLE, Int.reduceLT, Int.reduceSub, Int.reduceAdd, Int.reduceMul, Int.reduceNeg, bd10, bd64, bd2, bd3, bd4, ixN_3_0, ixN_3_1, ixN_3_2, ixN_2_0, ixN_2_1, ixN_4_0, ixN_4_1, ixN_4_2, ixN_4_3, ne_eq, Int.reduceEq, not_false_eq_true, not_true_eq_false, false_or, or_false, false_and, and_false, exists_false, exists_const, tCont, tRaise, tRaise0, tTry, tCallS, goneEnds, tPar3, tDg, tDp, dkOf_k, tDisp, tPairs, tDpT, tDNewT, s10.e2]
                 refine ⟨by decide, fun u2 g2 => ?_⟩
                 have s11 := s10.ext (Ext.upd (o := .tup [.int y.1, .int y.2, .int 1]) g2)
                 simp only [tSeq, List.cons_inj_right, tNext, tIfS, tTest, tOp, tUn, rI, rI0, rU, tVar, tC, tAsg, gName, tRet, tRetN, tDrop, tCall, tCons, tNil, tCB, tTup, tLst, rEq, rNe, ixF, setF, gSub, tPar, tNot, tAnd, tOr, tB, tNotV, tAndV, tOrV, tIf, List.append_nil, List.getElem?_cons_zero, List.getElem?_cons_succ, List.set_cons_zero, List.set_cons_succ, Option.some.injEq, V.int.injEq, V.bl.injEq, V.ref.injEq, exists_eq_left', exists_eq_left, exists_eq_right, exists_and_left, exists_and_right, and_true, true_and, and_assoc, List.cons.injEq, optK_some, seqOf_l, seqOf_t, tYes, tIsN, tNotN, rLenK, tML, tML0, appR, popR, clrR, catF, listF, lenF, slF, tSl, tPart, tNoPart, tyN, isiF, isiT_1, isiT_2, isiT_3, isiT_4, isiT_5, isiT_6, isiT_7, lstOf_l, tup3_some, tup2_some, Option.isSome_some, List.dropLast, List.getLast?, L2.stLC, frV, List.map_cons, List.map_nil, List.replicate_succ, List.replicate_zero, List.cons_append, List.nil_append, List.drop_succ_cons, List.drop_zero, Option.join_some, atI_0, atI_1, atI_2, atI_3, scal, if_true, if_false, Bool.false_eq_true, Bool.true_eq_false, reduceIte, reduceCtorEq, decide_eq_true_eq, Bool.not_eq_true', decide_eq_false_iff_not, eq_self, List.length_cons, List.length_nil, Nat.zero_add, Nat.reduceAdd, Nat.reduceLT, upd_same, Int.cast_ofNat_Int, Int.reduceToNat, Int.reducePow, Int.reduceLE, Int.reduceLT, Int.reduceSub, Int.reduceAdd, Int.reduceMul, Int.reduceNeg, bd10, bd64, bd2, bd3, bd4, ixN_3_0, ixN_3_1, ixN_3_2, ixN_2_0, ixN_2_1, ixN_4_0, ixN_4_1, ixN_4_2, ixN_4_3, ne_eq, Int.reduceEq, not_false_eq_true, not_true_eq_false, false_or, or_false, false_and, and_false, exists_false, exists_const, tCont, tRaise, tRaise0, tTry, tCallS, goneEnds, tPar3, tDg, tDp, dkOf_k, tDisp, tPairs, tDpT, tDNewT, s11.e3]
                 refine ⟨by decide, fun u3 g3 => ?_⟩
                 have s12 := s11.ext (Ext.upd (o := .tup [.int z.1, .int z.2, .int 1]) g3)
                 have f1 := upd_f (o := .tup [.int z.1, .int z.2, .int 1]) g3 (upd_f (o := .tup [.int y.1, .int y.2, .int 1]) g2 (upd_same (H := H5) (a := u1) (o := .tup [.int x.1, .int x.2, .int 1])))
                 have f2 := upd_f (o := .tup [.int z.1, .int z.2, .int 1]) g3 (upd_same (H := upd H5 u1 (.tup [.int x.1, .int x.2, .int 1])) (a := u2) (o := .tup [.int y.1, .int y.2, .int 1]))
                 have one : Bd 2000 1 := Bd.mono (m := 2) (Bd.of_le 1 (by decide) (by decide) (by decide)) (by decide)
                 simp only [tSeq, List.cons_inj_right, tNext, tIfS, tTest, tOp, tUn, rI, rI0, rU, tVar, tC, tAsg, gName, tRet, tRetN, tDrop, tCall, tCons, tNil, tCB, tTup, tLst, rEq, rNe, ixF, setF, gSub, tPar, tNot, tAnd, tOr, tB, tNotV, tAndV, tOrV, tIf, List.append_nil, List.getElem?_cons_zero, List.getElem?_cons_succ, List.set_cons_zero, List.set_cons_succ, Option.some.injEq, V.int.injEq, V.bl.injEq, V.ref.injEq, exists_eq_left', exists_eq_left, exists_eq_right, exists_and_left, exists_and_right, and_true, true_and, and_assoc, List.cons.injEq, optK_some, seqOf_l, seqOf_t, tYes, tIsN, tNotN, rLenK, tML, tML0, appR, popR, clrR, catF, listF, lenF, slF, tSl, tPart, tNoPart, tyN, isiF, isiT_1, isiT_2, isiT_3, isiT_4, isiT_5, isiT_6, isiT_7, lstOf_l, tup3_some, tup2_some, Option.isSome_some, List.dropLast, List.getLast?, L2.stLC, frV, List.map_cons, List.map_nil, List.replicate_succ, List.replicate_zero, List.cons_append, List.nil_append, List.drop_succ_cons, List.drop_zero, Option.join_some, atI_0, atI_1, atI_2, atI_3, scal, if_true, if_false, Bool.false_eq_true, Bool.true_eq_false, reduceIte, reduceCtorEq, decide_eq_true_eq, Bool.not_eq_true', decide_eq_false_iff_not, eq_self, List.length_cons, List.length_nil, Nat.zero_add, Nat.reduceAdd, Nat.reduceLT, upd_same, Int.cast_ofNat_Int, Int.reduceToNat, Int.reducePow, Int.reduceLE, Int.reduceLT, Int.reduceSub, Int.reduceAdd, Int.reduceMul, Int.reduceNeg, bd10, bd64, bd2, bd3, bd4, ixN_3_0, ixN_3_1, ixN_3_2, ixN_2_0, ixN_2_1, ixN_4_0, ixN_4_1, ixN_4_2, ixN_4_3, ne_eq, Int.reduceEq, not_false_eq_true, not_true_eq_false, false_or, or_false, false_and, and_false, exists_false, exists_const, tCont, tRaise, tRaise0, tTry, tCallS, goneEnds, tPar3, tDg, tDp, dkOf_k, tDisp, tPairs, tDpT, tDNewT, f1, f2]
                 rw [det]
                 refine ⟨⟨s9.bx.1.mono (by decide), s9.bx.2.mono (by decide), one⟩, ⟨s9.by_.1.mono (by decide), s9.by_.2.mono (by decide), one⟩, ⟨s9.bz.1.mono (by decide), s9.bz.2.mono (by decide), one⟩, ?_⟩
                 have x12 : Ext H5 _ := ((Ext.upd (o := .tup [.int x.1, .int x.2, .int 1]) g1).then (o := .tup [.int y.1, .int y.2, .int 1]) g2).then (o := .tup [.int z.1, .int z.2, .int 1]) g3
                 generalize upd (upd (upd H5 u1 _) u2 _) u3 _ = H6 at s12 x12 ⊢
                 rw [hD, sgn_zero, if_pos rfl]
                 refine ⟨by decide, fun u4 g4 => ?_⟩
                 refine ⟨_, _, .lst (SqL.of (upd_f g4 (x12 _ _ eP))) (.cons .non (.cons .non (.cons .non .nil))), .lst (SqL.of upd_same) (.cons .non (.cons .non (.cons .non .nil))), rfl, rfl, _, rfl, ?_⟩
                 rw [eqv_pos rfl rfl]
                 simp only [tSeq, List.cons_inj_right, tNext, tIfS, tTest, tOp, tUn, rI, rI0, rU, tVar, tC, tAsg, gName, tRet, tRetN, tDrop, tCall, tCons, tNil, tCB, tTup, tLst, rEq, rNe, ixF, setF, gSub, tPar, tNot, tAnd, tOr, tB, tNotV, tAndV, tOrV, tIf, List.append_nil, List.getElem?_cons_zero, List.getElem?_cons_succ, List.set_cons_zero, List.set_cons_succ, Option.some.injEq, V.int.injEq, V.bl.injEq, V.ref.injEq, exists_eq_left', exists_eq_left, exists_eq_right, exists_and_left, exists_and_right, and_true, true_and, and_assoc, List.cons.injEq, optK_some, seqOf_l, seqOf_t, tYes, tIsN, tNotN, rLenK, tML, tML0, appR, popR, clrR, catF, listF, lenF, slF, tSl, tPart, tNoPart, tyN, isiF, isiT_1, isiT_2, isiT_3, isiT_4, isiT_5, isiT_6, isiT_7, lstOf_l, tup3_some, tup2_some, Option.isSome_some, List.dropLast, List.getLast?, L2.stLC, frV, List.map_cons, List.map_nil, List.replicate_succ, List.replicate_zero, List.cons_append, List.nil_append, List.drop_succ_cons, List.drop_zero, Option.join_some, atI_0, atI_1, atI_2, atI_3, scal, if_true, if_false, Bool.false_eq_true, Bool.true_eq_false, reduceIte, reduceCtorEq, decide_eq_true_eq, Bool.not_eq_true', decide_eq_false_iff_not, eq_self, List.length_cons, List.length_nil, Nat.zero_add, Nat.reduceAdd, Nat.reduceLT, upd_same, Int.cast_ofNat_Int, Int.reduceToNat, Int.reducePow, Int.reduceLE, Int.reduceLT, Int.reduceSub, Int.reduceAdd, Int.reduceMul, Int.reduceNeg, bd10, bd64, bd2, bd3, bd4, ixN_3_0, ixN_3_1, ixN_3_2, ixN_2_0, ixN_2_1, ixN_4_0, ixN_4_1, ixN_4_2, ixN_4_3, ne_eq, Int.reduceEq, not_false_eq_true, not_true_eq_false, false_or, or_false, false_and, and_false, exists_false, exists_const, tCont, tRaise, tRaise0, tTry, tCallS, goneEnds, tPar3, tDg, tDp, dkOf_k, tDisp, tPairs, tDpT, tDNewT]
                 exact ⟨⟨_, rfl⟩, (Ext.upd g4).sqL s12.s⟩
             · refine ⟨fun σ H' => ∃ (P t1 t2 t3 : Addr) (p : P3'), σ = [some (.ref a), some (.int (0 + (i : Int))), some (.ref q1), some (.ref q2), some (.ref q3), some (.ref L), some (.ref P), o7, o8] ∧ S9 K ns a q1 q2 q3 x y z H' ∧ L9 x y z L l1 l2 l3 A B C' H' ∧ M9 A B C' P t1 t2 t3 p H', ?_, ?_⟩
               · have z1 := fun q => hD ((cross_zero l9.b1 l9.b2).mp q)
                 have z2 := fun q => hD (by rw [← dt2_turn]; exact (cross_zero l9.b2 l9.b3).mp q)
                 have z3 := fun q => hD (by rw [← dt2_turn, ← dt2_turn]; exact (cross_zero l9.b3 l9.b1).mp q)
                 simp only [tSeq, List.cons_inj_right, tNext, tIfS, tTest, tOp, tUn, rI, rI0, rU, tVar, tC, tAsg, gName, tRet, tRetN, tDrop, tCall, tCons, tNil, tCB, tTup, tLst, rEq, rNe, ixF, setF, gSub, tPar, tNot, tAnd, tOr, tB, tNotV, tAndV, tOrV, tIf, List.append_nil, List.getElem?_cons_zero, List.getElem?_cons_succ, List.set_cons_zero, List.set_cons_succ, Option.some.injEq, V.int.injEq, V.bl.injEq, V.ref.injEq, exists_eq_left', exists_eq_left, exists_eq_right, exists_and_left, exists_and_right, and_true, true_and, and_assoc, List.cons.injEq, optK_some, seqOf_l, seqOf_t, tYes, tIsN, tNotN, rLenK, tML, tML0, appR, popR, clrR, catF, listF, lenF, slF, tSl, tPart, tNoPart, tyN, isiF, isiT_1, isiT_2, isiT_3, isiT_4, isiT_5, isiT_6, isiT_7, lstOf_l, tup3_some, tup2_some, Option.isSome_some, List.dropLast, List.getLast?, L2.stLC, frV, List.map_cons, List.map_nil, List.replicate_succ, List.replicate_zero, List.cons_append, List.nil_append, List.drop_succ_cons, List.drop_zero, Option.join_some, atI_0, atI_1, atI_2, atI_3, scal, if_true, if_false, Bool.false_eq_true, Bool.true_eq_false, reduceIte, reduceCtorEq, decide_eq_true_eq, Bool.not_eq_true', decide_eq_false_iff_not, eq_self, List.length_cons, List.length_nil, Nat.zero_add, Nat.reduceAdd, Nat.reduceLT, upd_same, Int.cast_ofNat_Int, Int.reduceToNat, Int.reducePow, Int.reduceLE, Int.reduceLT, Int.reduceSub, Int.reduceAdd, Int.reduceMul, Int.reduceNeg, bd10, bd64, bd2, bd3, bd4, ixN_3_0, ixN_3_1, ixN_3_2, ixN_2_0, ixN_2_1, ixN_4_0, ixN_4_1, ixN_4_2, ixN_4_3, ne_eq, Int.reduceEq, not_false_eq_true, not_true_eq_false, false_or, or_false, false_and, and_false, exists_false, exists_const, tCont, tRaise, tRaise0, tTry, tCallS, goneEnds, tPar3, tDg, tDp, dkOf_k, tDisp, tPairs, tDpT, tDNewT, sp_meet, l9.at_, l9.e1, l9.e2, MeetOk]
                 refine ⟨wd l9.c1, wd l9.c2, fun q => absurd q z1, fun _ u1 p1 r1 w1 g1 k1 => ?_⟩
                 have m1 := l9.ext (Ext.upd (o := .tup [.int p1, .int r1, .int w1]) g1)
                 simp only [tSeq, List.cons_inj_right, tNext, tIfS, tTest, tOp, tUn, rI, rI0, rU, tVar, tC, tAsg, gName, tRet, tRetN, tDrop, tCall, tCons, tNil, tCB, tTup, tLst, rEq, rNe, ixF, setF, gSub, tPar, tNot, tAnd, tOr, tB, tNotV, tAndV, tOrV, tIf, List.append_nil, List.getElem?_cons_zero, List.getElem?_cons_succ, List.set_cons_zero, List.set_cons_succ, Option.some.injEq, V.int.injEq, V.bl.injEq, V.ref.injEq, exists_eq_left', exists_eq_left, exists_eq_right, exists_and_left, exists_and_right, and_true, true_and, and_assoc, List.cons.injEq, optK_some, seqOf_l, seqOf_t, tYes, tIsN, tNotN, rLenK, tML, tML0, appR, popR, clrR, catF, listF, lenF, slF, tSl, tPart, tNoPart, tyN, isiF, isiT_1, isiT_2, isiT_3, isiT_4, isiT_5, isiT_6, isiT_7, lstOf_l, tup3_some, tup2_some, Option.isSome_some, List.dropLast, List.getLast?, L2.stLC, frV, List.map_cons, List.map_nil, List.replicate_succ, List.replicate_zero, List.cons_append, List.nil_append, List.drop_succ_cons, List.drop_zero, Option.join_some, atI_0, atI_1, atI_2, atI_3, scal, if_true, if_false, Bool.false_eq_true, Bool.true_eq_false, reduceIte, reduceCtorEq, decide_eq_true_eq, Bool.not_eq_true', decide_eq_false_iff_not, eq_self, List.length_cons, List.length_nil, Nat.zero_add, Nat.reduceAdd, Nat.reduceLT, upd_same, Int.cast_ofNat_Int, Int.reduceToNat, Int.reducePow, Int.reduceLE, Int.reduceLT, Int.reduceSub, Int.reduceAdd, Int.reduceMul, Int.reduceNeg, bd10, bd64, bd2, bd3, bd4, ixN_3_0, ixN_3_1, ixN_3_2, ixN_2_0, ixN_2_1, ixN_4_0, ixN_4_1, ixN_4_2, ixN_4_3, ne_eq, Int.reduceEq, not_false_eq_true, not_true_eq_false, false_or, or_false, false_and, and_false, exists_false, exists_const, tCont, tRaise, tRaise0, tTry, tCallS, goneEnds, tPar3, tDg, tDp, dkOf_k, tDisp, tPairs, tDpT, tDNewT, m1.at_, m1.e2, m1.e3]
                 refine ⟨wd l9.c2, wd l9.c3, fun q => absurd q z2, fun _ u2 p2 r2 w2 g2 k2 => ?_⟩
                 have m2 := m1.ext (Ext.upd (o := .tup [.int p2, .int r2, .int w2]) g2)
                 simp only [tSeq, List.cons_inj_right, tNext, tIfS, tTest, tOp, tUn, rI, rI0, rU, tVar, tC, tAsg, gName, tRet, tRetN, tDrop, tCall, tCons, tNil, tCB, tTup, tLst, rEq, rNe, ixF, setF, gSub, tPar, tNot, tAnd, tOr, tB, tNotV, tAndV, tOrV, tIf, List.append_nil, List.getElem?_cons_zero, List.getElem?_cons_succ, List.set_cons_zero, List.set_cons_succ, Option.some.injEq, V.int.injEq, V.bl.injEq, V.ref.injEq, exists_eq_left', exists_eq_left, exists_eq_right, exists_and_left, exists_and_right, and_true, true_and, and_assoc, List.cons.injEq, optK_some, seqOf_l, seqOf_t, tYes, tIsN, tNotN, rLenK, tML, tML0, appR, popR, clrR, catF, listF, lenF, slF, tSl, tPart, tNoPart, tyN, isiF, isiT_1, isiT_2, isiT_3, isiT_4, isiT_5, isiT_6, isiT_7, lstOf_l, tup3_some, tup2_some, Option.isSome_some, List.dropLast, List.getLast?, L2.stLC, frV, List.map_cons, List.map_nil, List.replicate_succ, List.replicate_zero, List.cons_append, List.nil_append, List.drop_succ_cons, List.drop_zero, Option.join_some, atI_0, atI_1, atI_2, atI_3, scal, if_true, if_false, Bool.false_eq_true, Bool.true_eq_false, reduceIte, reduceCtorEq, decide_eq_true_eq, Bool.not_eq_true', decide_eq_false_iff_not, eq_self, List.length_cons, List.length_nil, Nat.zero_add, Nat.reduceAdd, Nat.reduceLT, upd_same, Int.cast_ofNat_Int, Int.reduceToNat, Int.reducePow, Int.reduceLE, Int.reduceLT, Int.reduceSub, Int.reduceAdd, Int.reduceMul, Int.reduceNeg, bd10, bd64, bd2, bd3, bd4, ixN_3_0, ixN_3_1, ixN_3_2, ixN_2_0, ixN_2_1, ixN_4_0, ixN_4_1, ixN_4_2, ixN_4_3, ne_eq, Int.reduceEq, not_false_eq_true, not_true_eq_false, false_or, or_false, false_and, and_false, exists_false, exists_const, tCont, tRaise, tRaise0, tTry, tCallS, goneEnds, tPar3, tDg, tDp, dkOf_k, tDisp, tPairs, tDpT, tDNewT, m2.at_, m2.e3, m2.e1]
                 refine ⟨wd l9.c3, wd l9.c1, fun q => absurd q z3, fun _ u3 p3 r3 w3 g3 k3 => ⟨by decide, fun P hP => ?_⟩⟩
                 obtain ⟨rfl, rfl, rfl⟩ : p1 = p2 ∧ r1 = r2 ∧ w1 = w2 := meet_same l9.b1 l9.b2 l9.b3 hD k1 k2
                 obtain ⟨rfl, rfl, rfl⟩ : p1 = p3 ∧ r1 = r3 ∧ w1 = w3 := meet_same l9.b2 l9.b3 l9.b1 (by rw [dt2_turn]; exact hD) k2 k3
                 have on := on_two (fun q => z1 (by omega)) k1
                 have xx : Ext H4 _ := (((Ext.upd (o := .tup [.int p1, .int r1, .int w1]) g1).then (o := .tup [.int p1, .int r1, .int w1]) g2).then (o := .tup [.int p1, .int r1, .int w1]) g3).then (o := .lst [.ref u1, .ref u2, .ref u3]) hP
                 exact ⟨s9.ext xx, l9.ext xx, u1, u2, u3, (p1, r1, w1), upd_same, upd_f hP (upd_f g3 (upd_f g2 upd_same)), upd_f hP (upd_f g3 upd_same), upd_f hP upd_same, on.1, on.2, third_on l9.b1 l9.b2 l9.b3 on.1 on.2, k1.pos, meet_bd l9.c1 l9.c2 k1⟩
               · rintro σ H5 ⟨P, t1, t2, t3, p, rfl, s9, l9, m9⟩
                 simp only [tSeq, List.cons_inj_right, tNext, tIfS, tTest, tOp, tUn, rI, rI0, rU, tVar, tC, tAsg, gName, tRet, tRetN, tDrop, tCall, tCons, tNil, tCB, tTup, tLst, rEq, rNe, ixF, setF, gSub, tPar, tNot, tAnd, tOr, tB, tNotV, tAndV, tOrV, tIf, List.append_nil, List.getElem?_cons_zero, List.getElem?_cons_succ, List.set_cons_zero, List.set_cons_succ, Option.some.injEq, V.int.injEq, V.bl.injEq, V.ref.injEq, exists_eq_left', exists_eq_left, exists_eq_right, exists_and_left, exists_and_right, and_true, true_and, and_assoc, List.cons.injEq, optK_some, seqOf_l, seqOf_t, tYes, tIsN, tNotN, rLenK, tML, tML0, appR, popR, clrR, catF, listF, lenF, slF, tSl, tPart, tNoPart, tyN, isiF, isiT_1, isiT_2, isiT_3, isiT_4, isiT_5, isiT_6, isiT_7, lstOf_l, tup3_some, tup2_some, Option.isSome_some, List.dropLast, List.getLast?, L2.stLC, frV, List.map_cons, List.map_nil, List.replicate_succ, List.replicate_zero, List.cons_append, List.nil_append, List.drop_succ_cons, List.drop_zero, Option.join_some, atI_0, atI_1, atI_2, atI_3, scal, if_true, if_false, Bool.false_eq_true, Bool.true_eq_false, reduceIte, reduceCtorEq, decide_eq_true_eq, Bool.not_eq_true', decide_eq_false_iff_not, eq_self, List.length_cons, List.length_nil, Nat.zero_add, Nat.reduceAdd, Nat.reduceLT, upd_same, Int.cast_ofNat_Int, Int.reduceToNat, Int.reducePow, Int.reduceLE, Int.reduceLT, Int.reduceSub, Int.reduceAdd, Int.reduceMul, Int.reduceNeg, bd10, bd64, bd2, bd3, bd4, ixN_3_0, ixN_3_1, ixN_3_2, ixN_2_0, ixN_2_1, ixN_4_0, ixN_4_1, ixN_4_2, ixN_4_3, ne_eq, Int.reduceEq, not_false_eq_true, not_true_eq_false, false_or, or_false, false_and, and_false, exists_false, exists_const, tCont, tRaise, tRaise0, tTry, tCallS, goneEnds, tPar3, tDg, tDp, dkOf_k, tDisp, tPairs, tDpT, tDNewT, s9.e1, sp_turn]
                 refine ⟨by decide, fun u1 g1 => ?_⟩
                 have s10 := s9.ext (Ext.upd (o := .tup [.int x.1, .int x.2, .int 1]) g1)
                 simp only [tSeq, List.cons_inj_right, tNext, tIfS, tTest, tOp, tUn, rI, rI0, rU, tVar, tC, tAsg, gName, tRet, tRetN, tDrop, tCall, tCons, tNil, tCB, tTup, tLst, rEq, rNe, ixF, setF, gSub, tPar, tNot, tAnd, tOr, tB, tNotV, tAndV, tOrV, tIf, List.append_nil, List.getElem?_cons_zero, List.getElem?_cons_succ, List.set_cons_zero, List.set_cons_succ, Option.some.injEq, V.int.injEq, V.bl.injEq, V.ref.injEq, exists_eq_left', exists_eq_left, exists_eq_right, exists_and_left, exists_and_right, and_true, true_and, and_assoc, List.cons.injEq, optK_some, seqOf_l, seqOf_t, tYes, tIsN, tNotN, rLenK, tML, tML0, appR, popR, clrR, catF, listF, lenF, slF, tSl, tPart, tNoPart, tyN, isiF, isiT_1, isiT_2, isiT_3, isiT_4, isiT_5, isiT_6, isiT_7, lstOf_l, tup3_some, tup2_some, Option.isSome_some, List.dropLast, List.getLast?, L2.stLC, frV, List.map_cons, List.map_nil, List.replicate_succ, List.replicate_zero, List.cons_append, List.nil_append, List.drop_succ_cons, List.drop_zero, Option.join_some, atI_0, atI_1, atI_2, atI_3, scal, if_true, if_false, Bool.false_eq_true, Bool.true_eq_false, reduceIte, reduceCtorEq, decide_eq_true_eq, Bool.not_eq_true', decide_eq_false_iff_not, eq_self, List.length_cons, List.length_nil, Nat.zero_add, Nat.reduceAdd, Nat.reduceLT, upd_same, Int.cast_ofNat_Int, Int.reduceToNat, Int.reducePow, Int.reduceLE, Int.reduceLT, Int.reduceSub, Int.reduceAdd, Int.reduceMul, Int.reduceNeg, bd10, bd64, bd2, bd3, bd4, ixN_3_0, ixN_3_1, ixN_3_2, ixN_2_0, ixN_2_1, ixN_4_0, ixN_4_1, ixN_4_2, ixN_4_3, ne_eq, Int.reduceEq, not_false_eq_true, not_true_eq_false, false_or, or_false, false_and, and_false, exists_false, exists_const, tCont, tRaise, tRaise0, tTry, tCallS, goneEnds, tPar3, tDg, tDp, dkOf_k, tDisp, tPairs, tDpT, tDNewT, s10.e2]
                 refine ⟨by decide, fun u2 g2 => ?_⟩
                 have s11 := s10.ext (Ext.upd (o := .tup [.int y.1, .int y.2, .int 1]) g2)
                 simp only [tSeq, List.cons_inj_right, tNext, tIfS, tTest, tOp, tUn, rI, rI0, rU, tVar, tC, tAsg, gName, tRet, tRetN, tDrop, tCall, tCons, tNil, tCB, tTup, tLst, rEq, rNe, ixF, setF, gSub, tPar, tNot, tAnd, tOr, tB, tNotV, tAndV, tOrV, tIf, List.append_nil, List.getElem?_cons_zero, List.getElem?_cons_succ, List.set_cons_zero, List.set_cons_succ, Option.some.injEq, V.int.injEq, V.bl.injEq, V.ref.injEq, exists_eq_left', exists_eq_left, exists_eq_right, exists_and_left, exists_and_right, and_true, true_and, and_assoc, List.cons.injEq, optK_some, seqOf_l, seqOf_t, tYes, tIsN, tNotN, rLenK, tML, tML0, appR, popR, clrR, catF, listF, lenF, slF, tSl, tPart, tNoPart, tyN, isiF, isiT_1, isiT_2, isiT_3, isiT_4, isiT_5, isiT_6, isiT_7, lstOf_l, tup3_some, tup2_some, Option.isSome_some, List.dropLast, List.getLast?, L2.stLC, frV, List.map_cons, List.map_nil, List.replicate_succ, List.replicate_zero, List.cons_append, List.nil_append, List.drop_succ_cons, List.drop_zero, Option.join_some, atI_0, atI_1, atI_2, atI_3, scal, if_true, if_false, Bool.false_eq_true, Bool.true_eq_false, reduceIte, reduceCtorEq, decide_eq_true_eq, Bool.not_eq_true', decide_eq_false_iff_not, eq_self, List.length_cons, List.length_nil, Nat.zero_add, Nat.reduceAdd, Nat.reduceLT, upd_same, Int.cast_ofNat_Int, Int.reduceToNat, Int.reducePow, Int.reduceLE, Int.reduceLT, Int.reduceSub, Int.reduceAdd, Int.reduceMul, Int.reduceNeg, bd10, bd64, bd2, bd3, bd4, ixN_3_0, ixN_3_1, ixN_3_2, ixN_2_0, ixN_2_1, ixN_4_0, ixN_4_1, ixN_4_2, ixN_4_3, ne_eq, Int.reduceEq, not_false_eq_true, not_true_eq_false, false_or, or_false, false_and, and_false, exists_false, exists_const, tCont, tRaise, tRaise0, tTry, tCallS, goneEnds, tPar3, tDg, tDp, dkOf_k, tDisp, tPairs, tDpT, tDNewT, s11.e3]
                 refine ⟨by decide, fun u3 g3 => ?_⟩
                 have s12 := s11.ext (Ext.upd (o := .tup [.int z.1, .int z.2, .int 1]) g3)
                 have f1 := upd_f (o := .tup [.int z.1, .int z.2, .int 1]) g3 (upd_f (o := .tup [.int y.1, .int y.2, .int 1]) g2 (upd_same (H := H5) (a := u1) (o := .tup [.int x.1, .int x.2, .int 1])))
                 have f2 := upd_f (o := .tup [.int z.1, .int z.2, .int 1]) g3 (upd_same (H := upd H5 u1 (.tup [.int x.1, .int x.2, .int 1])) (a := u2) (o := .tup [.int y.1, .int y.2, .int 1]))
                 have one : Bd 2000 1 := Bd.mono (m := 2) (Bd.of_le 1 (by decide) (by decide) (by decide)) (by decide)
                 simp only [tSeq, List.cons_inj_right, tNext, tIfS, tTest, tOp, tUn, rI, rI0, rU, tVar, tC, tAsg, gName, tRet, tRetN, tDrop, tCall, tCons, tNil, tCB, tTup, tLst, rEq, rNe, ixF, setF, gSub, tPar, tNot, tAnd, tOr, tB, tNotV, tAndV, tOrV, tIf, List.append_nil, List.getElem?_cons_zero, List.getElem?_cons_succ, List.set_cons_zero, List.set_cons_succ, Option.some.injEq, V.int.injEq, V.bl.injEq, V.ref.injEq, exists_eq_left', exists_eq_left, exists_eq_right, exists_and_left, exists_and_right, and_true, true_and, and_assoc, List.cons.injEq, optK_some, seqOf_l, seqOf_t, tYes, tIsN, tNotN, rLenK, tML, tML0, appR, popR, clrR, catF, listF, lenF, slF, tSl, tPart, tNoPart, tyN, isiF, isiT_1, isiT_2, isiT_3, isiT_4, isiT_5, isiT_6, isiT_7, lstOf_l, tup3_some, tup2_some, Option.isSome_some, List.dropLast, List.getLast?, L2.stLC, frV, List.map_cons, List.map_nil, List.replicate_succ, List.replicate_zero, List.cons_append, List.nil_append, List.drop_succ_cons, List.drop_zero, Option.join_some, atI_0, atI_1, atI_2, atI_3, scal, if_true, if_false, Bool.false_eq_true, Bool.true_eq_false, reduceIte, reduceCtorEq, decide_eq_true_eq, Bool.not_eq_true', decide_eq_false_iff_not, eq_self, List.length_cons, List.length_nil, Nat.zero_add, Nat.reduceAdd, Nat.reduceLT, upd_same, Int.cast_ofNat_Int, Int.reduceToNat, Int.reducePow, Int.reduceLE, Int.reduceLT, Int.reduceSub, Int.reduceAdd, Int.reduceMul, Int.reduceNeg, bd10, bd64, bd2, bd3, bd4, ixN_3_0, ixN_3_1, ixN_3_2, ixN_2_0, ixN_2_1, ixN_4_0, ixN_4_1, ixN_4_2, ixN_4_3, ne_eq, Int.reduceEq, not_false_eq_true, not_true_eq_false, false_or, or_false, false_and, and_false, exists_false, exists_const, tCont, tRaise, tRaise0, tTry, tCallS, goneEnds, tPar3, tDg, tDp, dkOf_k, tDisp, tPairs, tDpT, tDNewT, f1, f2]
                 rw [det]
                 refine ⟨⟨s9.bx.1.mono (by decide), s9.bx.2.mono (by decide), one⟩, ⟨s9.by_.1.mono (by decide), s9.by_.2.mono (by decide), one⟩, ⟨s9.bz.1.mono (by decide), s9.bz.2.mono (by decide), one⟩, ?_⟩
                 have x12 : Ext H5 _ := ((Ext.upd (o := .tup [.int x.1, .int x.2, .int 1]) g1).then (o := .tup [.int y.1, .int y.2, .int 1]) g2).then (o := .tup [.int z.1, .int z.2, .int 1]) g3
                 generalize upd (upd (upd H5 u1 _) u2 _) u3 _ = H6 at s12 x12 ⊢
                 have l9' := l9.ext x12
                 have m9' := m9.ext x12
                 rw [if_neg (fun q => hD (sgn_zero_iff.mp q))]
                 have t3 : ∀ {H7 : Hp} {u : Addr}, H7 u = some (.tup [.int p.1, .int p.2.1, .int p.2.2]) → Rdy K H7 (.ref u) (.tuple [.int p.1, .int p.2.1, .int p.2.2]) := fun e => .tup (SqT.of e) (.cons (.int _) (.cons (.int _) (.cons (.int _) .nil)))
                 have wp : B3 2000 p := ⟨m9.bd.1.mono (by decide), m9.bd.2.1.mono (by decide), m9.bd.2.2.mono (by decide)⟩
                 have wl : ∀ {r : P3'}, B3 210 r → B3 2000 r := fun b => ⟨b.1.mono (by decide), b.2.1.mono (by decide), b.2.2.mono (by decide)⟩
                 have wb : ∀ {r : Int × Int}, B2 100 r → B2 2000 r := fun b => ⟨b.1.mono (by decide), b.2.mono (by decide)⟩
                 have y1 := way_same l9.b1 m9.o1
                 have y2 := way_same l9.b2 m9.o2
                 refine ⟨fun σ H' => σ = [some (.ref a), some (.int (0 + (i : Int))), some (.ref q1), some (.ref q2), some (.ref q3), some (.ref L), some (.ref P), some (.ref t1), o8] ∧ Ext H6 H', ?_, ?_⟩
                 · simp only [tSeq, List.cons_inj_right, tNext, tIfS, tTest, tOp, tUn, rI, rI0, rU, tVar, tC, tAsg, gName, tRet, tRetN, tDrop, tCall, tCons, tNil, tCB, tTup, tLst, rEq, rNe, ixF, setF, gSub, tPar, tNot, tAnd, tOr, tB, tNotV, tAndV, tOrV, tIf, List.append_nil, List.getElem?_cons_zero, List.getElem?_cons_succ, List.set_cons_zero, List.set_cons_succ, Option.some.injEq, V.int.injEq, V.bl.injEq, V.ref.injEq, exists_eq_left', exists_eq_left, exists_eq_right, exists_and_left, exists_and_right, and_true, true_and, and_assoc, List.cons.injEq, optK_some, seqOf_l, seqOf_t, tYes, tIsN, tNotN, rLenK, tML, tML0, appR, popR, clrR, catF, listF, lenF, slF, tSl, tPart, tNoPart, tyN, isiF, isiT_1, isiT_2, isiT_3, isiT_4, isiT_5, isiT_6, isiT_7, lstOf_l, tup3_some, tup2_some, Option.isSome_some, List.dropLast, List.getLast?, L2.stLC, frV, List.map_cons, List.map_nil, List.replicate_succ, List.replicate_zero, List.cons_append, List.nil_append, List.drop_succ_cons, List.drop_zero, Option.join_some, atI_0, atI_1, atI_2, atI_3, scal, if_true, if_false, Bool.false_eq_true, Bool.true_eq_false, reduceIte, reduceCtorEq, decide_eq_true_eq, Bool.not_eq_true', decide_eq_false_iff_not, eq_self, List.length_cons, List.length_nil, Nat.zero_add, Nat.reduceAdd, Nat.reduceLT, upd_same, Int.cast_ofNat_Int, Int.reduceToNat, Int.reducePow, Int.reduceLE, Int.reduceLT, Int.reduceSub, Int.reduceAdd, Int.reduceMul, Int.reduceNeg, bd10, bd64, bd2, bd3, bd4, ixN_3_0, ixN_3_1, ixN_3_2, ixN_2_0, ixN_2_1, ixN_4_0, ixN_4_1, ixN_4_2, ixN_4_3, ne_eq, Int.reduceEq, not_false_eq_true, not_true_eq_false, false_or, or_false, false_and, and_false, exists_false, exists_const, tCont, tRaise, tRaise0, tTry, tCallS, goneEnds, tPar3, tDg, tDp, dkOf_k, tDisp, tPairs, tDpT, tDNewT, m9'.at_]
                   exact .refl _
                 · rintro σ H7 ⟨rfl, x7⟩
                   have m7 := m9'.ext x7
                   refine ⟨fun σ H' => σ = [some (.ref a), some (.int (0 + (i : Int))), some (.ref q1), some (.ref q2), some (.ref q3), some (.ref L), some (.ref P), some (.ref t1), o8] ∧ Ext H6 H', ?_, ?_⟩
                   · simp only [tSeq, List.cons_inj_right, tNext, tIfS, tTest, tOp, tUn, rI, rI0, rU, tVar, tC, tAsg, gName, tRet, tRetN, tDrop, tCall, tCons, tNil, tCB, tTup, tLst, rEq, rNe, ixF, setF, gSub, tPar, tNot, tAnd, tOr, tB, tNotV, tAndV, tOrV, tIf, List.append_nil, List.getElem?_cons_zero, List.getElem?_cons_succ, List.set_cons_zero, List.set_cons_succ, Option.some.injEq, V.int.injEq, V.bl.injEq, V.ref.injEq, exists_eq_left', exists_eq_left, exists_eq_right, exists_and_left, exists_and_right, and_true, true_and, and_assoc, List.cons.injEq, optK_some, seqOf_l, seqOf_t, tYes, tIsN, tNotN, rLenK, tML, tML0, appR, popR, clrR, catF, listF, lenF, slF, tSl, tPart, tNoPart, tyN, isiF, isiT_1, isiT_2, isiT_3, isiT_4, isiT_5, isiT_6, isiT_7, lstOf_l, tup3_some, tup2_some, Option.isSome_some, List.dropLast, List.getLast?, L2.stLC, frV, List.map_cons, List.map_nil, List.replicate_succ, List.replicate_zero, List.cons_append, List.nil_append, List.drop_succ_cons, List.drop_zero, Option.join_some, atI_0, atI_1, atI_2, atI_3, scal, if_true, if_false, Bool.false_eq_true, Bool.true_eq_false, reduceIte, reduceCtorEq, decide_eq_true_eq, Bool.not_eq_true', decide_eq_false_iff_not, eq_self, List.length_cons, List.length_nil, Nat.zero_add, Nat.reduceAdd, Nat.reduceLT, upd_same, Int.cast_ofNat_Int, Int.reduceToNat, Int.reducePow, Int.reduceLE, Int.reduceLT, Int.reduceSub, Int.reduceAdd, Int.reduceMul, Int.reduceNeg, bd10, bd64, bd2, bd3, bd4, ixN_3_0, ixN_3_1, ixN_3_2, ixN_2_0, ixN_2_1, ixN_4_0, ixN_4_1, ixN_4_2, ixN_4_3, ne_eq, Int.reduceEq, not_false_eq_true, not_true_eq_false, false_or, or_false, false_and, and_false, exists_false, exists_const, tCont, tRaise, tRaise0, tTry, tCallS, goneEnds, tPar3, tDg, tDp, dkOf_k, tDisp, tPairs, tDpT, tDNewT]
                     refine ⟨by decide, fun u4 g4 => ?_⟩
                     have m8 := m7.ext (Ext.upd (o := .lst [.ref t1, .ref t1, .ref t1]) g4)
                     refine ⟨_, _, .lst (SqL.of m8.at_) (.cons (t3 m8.e1) (.cons (t3 m8.e2) (.cons (t3 m8.e3) .nil))), .lst (SqL.of upd_same) (.cons (t3 m8.e1) (.cons (t3 m8.e1) (.cons (t3 m8.e1) .nil))), rfl, rfl, _, rfl, ?_⟩
                     rw [eqv_pos rfl rfl]
                     simp only [tSeq, List.cons_inj_right, tNext, tIfS, tTest, tOp, tUn, rI, rI0, rU, tVar, tC, tAsg, gName, tRet, tRetN, tDrop, tCall, tCons, tNil, tCB, tTup, tLst, rEq, rNe, ixF, setF, gSub, tPar, tNot, tAnd, tOr, tB, tNotV, tAndV, tOrV, tIf, List.append_nil, List.getElem?_cons_zero, List.getElem?_cons_succ, List.set_cons_zero, List.set_cons_succ, Option.some.injEq, V.int.injEq, V.bl.injEq, V.ref.injEq, exists_eq_left', exists_eq_left, exists_eq_right, exists_and_left, exists_and_right, and_true, true_and, and_assoc, List.cons.injEq, optK_some, seqOf_l, seqOf_t, tYes, tIsN, tNotN, rLenK, tML, tML0, appR, popR, clrR, catF, listF, lenF, slF, tSl, tPart, tNoPart, tyN, isiF, isiT_1, isiT_2, isiT_3, isiT_4, isiT_5, isiT_6, isiT_7, lstOf_l, tup3_some, tup2_some, Option.isSome_some, List.dropLast, List.getLast?, L2.stLC, frV, List.map_cons, List.map_nil, List.replicate_succ, List.replicate_zero, List.cons_append, List.nil_append, List.drop_succ_cons, List.drop_zero, Option.join_some, atI_0, atI_1, atI_2, atI_3, scal, if_true, if_false, Bool.false_eq_true, Bool.true_eq_false, reduceIte, reduceCtorEq, decide_eq_true_eq, Bool.not_eq_true', decide_eq_false_iff_not, eq_self, List.length_cons, List.length_nil, Nat.zero_add, Nat.reduceAdd, Nat.reduceLT, upd_same, Int.cast_ofNat_Int, Int.reduceToNat, Int.reducePow, Int.reduceLE, Int.reduceLT, Int.reduceSub, Int.reduceAdd, Int.reduceMul, Int.reduceNeg, bd10, bd64, bd2, bd3, bd4, ixN_3_0, ixN_3_1, ixN_3_2, ixN_2_0, ixN_2_1, ixN_4_0, ixN_4_1, ixN_4_2, ixN_4_3, ne_eq, Int.reduceEq, not_false_eq_true, not_true_eq_false, false_or, or_false, false_and, and_false, exists_false, exists_const, tCont, tRaise, tRaise0, tTry, tCallS, goneEnds, tPar3, tDg, tDp, dkOf_k, tDisp, tPairs, tDpT, tDNewT]
                     exact x7.then g4
                   · rintro σ H8 ⟨rfl, x8⟩
                     have m8 := m9'.ext x8
                     have l8 := l9'.ext x8
                     have s8 := s12.ext x8
                     refine ⟨fun σ H' => σ = [some (.ref a), some (.int (0 + (i : Int))), some (.ref q1), some (.ref q2), some (.ref q3), some (.ref L), some (.ref P), some (.ref t1), o8] ∧ Ext H8 H', ?_, ?_⟩
                     · simp only [tSeq, List.cons_inj_right, tNext, tIfS, tTest, tOp, tUn, rI, rI0, rU, tVar, tC, tAsg, gName, tRet, tRetN, tDrop, tCall, tCons, tNil, tCB, tTup, tLst, rEq, rNe, ixF, setF, gSub, tPar, tNot, tAnd, tOr, tB, tNotV, tAndV, tOrV, tIf, List.append_nil, List.getElem?_cons_zero, List.getElem?_cons_succ, List.set_cons_zero, List.set_cons_succ, Option.some.injEq, V.int.injEq, V.bl.injEq, V.ref.injEq, exists_eq_left', exists_eq_left, exists_eq_right, exists_and_left, exists_and_right, and_true, true_and, and_assoc, List.cons.injEq, optK_some, seqOf_l, seqOf_t, tYes, tIsN, tNotN, rLenK, tML, tML0, appR, popR, clrR, catF, listF, lenF, slF, tSl, tPart, tNoPart, tyN, isiF, isiT_1, isiT_2, isiT_3, isiT_4, isiT_5, isiT_6, isiT_7, lstOf_l, tup3_some, tup2_some, Option.isSome_some, List.dropLast, List.getLast?, L2.stLC, frV, List.map_cons, List.map_nil, List.replicate_succ, List.replicate_zero, List.cons_append, List.nil_append, List.drop_succ_cons, List.drop_zero, Option.join_some, atI_0, atI_1, atI_2, atI_3, scal, if_true, if_false, Bool.false_eq_true, Bool.true_eq_false, reduceIte, reduceCtorEq, decide_eq_true_eq, Bool.not_eq_true', decide_eq_false_iff_not, eq_self, List.length_cons, List.length_nil, Nat.zero_add, Nat.reduceAdd, Nat.reduceLT, upd_same, Int.cast_ofNat_Int, Int.reduceToNat, Int.reducePow, Int.reduceLE, Int.reduceLT, Int.reduceSub, Int.reduceAdd, Int.reduceMul, Int.reduceNeg, bd10, bd64, bd2, bd3, bd4, ixN_3_0, ixN_3_1, ixN_3_2, ixN_2_0, ixN_2_1, ixN_4_0, ixN_4_1, ixN_4_2, ixN_4_3, ne_eq, Int.reduceEq, not_false_eq_true, not_true_eq_false, false_or, or_false, false_and, and_false, exists_false, exists_const, tCont, tRaise, tRaise0, tTry, tCallS, goneEnds, tPar3, tDg, tDp, dkOf_k, tDisp, tPairs, tDpT, tDNewT]
                       refine tlc_list (K := K) (a := L) (xs := [.ref l1, .ref l2, .ref l3]) (fun R h => by simp only [tSeq, List.cons_inj_right, tNext, tIfS, tTest, tOp, tUn, rI, rI0, rU, tVar, tC, tAsg, gName, tRet, tRetN, tDrop, tCall, tCons, tNil, tCB, tTup, tLst, rEq, rNe, ixF, setF, gSub, tPar, tNot, tAnd, tOr, tB, tNotV, tAndV, tOrV, tIf, List.append_nil, List.getElem?_cons_zero, List.getElem?_cons_succ, List.set_cons_zero, List.set_cons_succ, Option.some.injEq, V.int.injEq, V.bl.injEq, V.ref.injEq, exists_eq_left', exists_eq_left, exists_eq_right, exists_and_left, exists_and_right, and_true, true_and, and_assoc, List.cons.injEq, optK_some, seqOf_l, seqOf_t, tYes, tIsN, tNotN, rLenK, tML, tML0, appR, popR, clrR, catF, listF, lenF, slF, tSl, tPart, tNoPart, tyN, isiF, isiT_1, isiT_2, isiT_3, isiT_4, isiT_5, isiT_6, isiT_7, lstOf_l, tup3_some, tup2_some, Option.isSome_some, List.dropLast, List.getLast?, L2.stLC, frV, List.map_cons, List.map_nil, List.replicate_succ, List.replicate_zero, List.cons_append, List.nil_append, List.drop_succ_cons, List.drop_zero, Option.join_some, atI_0, atI_1, atI_2, atI_3, scal, if_true, if_false, Bool.false_eq_true, Bool.true_eq_false, reduceIte, reduceCtorEq, decide_eq_true_eq, Bool.not_eq_true', decide_eq_false_iff_not, eq_self, List.length_cons, List.length_nil, Nat.zero_add, Nat.reduceAdd, Nat.reduceLT, upd_same, Int.cast_ofNat_Int, Int.reduceToNat, Int.reducePow, Int.reduceLE, Int.reduceLT, Int.reduceSub, Int.reduceAdd, Int.reduceMul, Int.reduceNeg, bd10, bd64, bd2, bd3, bd4, ixN_3_0, ixN_3_1, ixN_3_2, ixN_2_0, ixN_2_1, ixN_4_0, ixN_4_1, ixN_4_2, ixN_4_3, ne_eq, Int.reduceEq, not_false_eq_true, not_true_eq_false, false_or, or_false, false_and, and_false, exists_false, exists_const, tCont, tRaise, tRaise0, tTry, tCallS, goneEnds, tPar3, tDg, tDp, dkOf_k, tDisp, tPairs, tDpT, tDNewT]; exact h) (SqL.of l8.at_) (show 3 < 1000000 by decide) (fun D k ys H' => ys = List.replicate k (.int 0) ∧ H' D = some (.lst ys) ∧ Ext H8 H') ?_ ?_ ?_ ?_
                       · intro D hD'
                         exact ⟨rfl, upd_same, .upd hD'⟩
                       · rintro D k ys H9 _ ⟨rfl, e9, x9⟩
                         exact ⟨e9, by rw [List.length_replicate]; exact Nat.le_refl _, SqL.of (x9 _ _ l8.at_)⟩
                       · rintro D k v ys H9 hD' hk ⟨rfl, e9, x9⟩
                         obtain ⟨u, r, rfl, eu, bu, ou⟩ : ∃ (u : Addr) (r : P3'), v = .ref u ∧ H9 u = some (.tup [.int r.1, .int r.2.1, .int r.2.2]) ∧ B3 210 r ∧ exc3 r p = 0 := by
                           match k, hk with
                           | 0, hk => cases hk; exact ⟨l1, A, rfl, x9 _ _ l8.e1, l9.c1, m9.o1⟩
                           | 1, hk => cases hk; exact ⟨l2, B, rfl, x9 _ _ l8.e2, l9.c2, m9.o2⟩
                           | 2, hk => cases hk; exact ⟨l3, C', rfl, x9 _ _ l8.e3, l9.c3, m9.o3⟩
                         simp only [tSeq, List.cons_inj_right, tNext, tIfS, tTest, tOp, tUn, rI, rI0, rU, tVar, tC, tAsg, gName, tRet, tRetN, tDrop, tCall, tCons, tNil, tCB, tTup, tLst, rEq, rNe, ixF, setF, gSub, tPar, tNot, tAnd, tOr, tB, tNotV, tAndV, tOrV, tIf, List.append_nil, List.getElem?_cons_zero, List.getElem?_cons_succ, List.set_cons_zero, List.set_cons_succ, Option.some.injEq, V.int.injEq, V.bl.injEq, V.ref.injEq, exists_eq_left', exists_eq_left, exists_eq_right, exists_and_left, exists_and_right, and_true, true_and, and_assoc, List.cons.injEq, optK_some, seqOf_l, seqOf_t, tYes, tIsN, tNotN, rLenK, tML, tML0, appR, popR, clrR, catF, listF, lenF, slF, tSl, tPart, tNoPart, tyN, isiF, isiT_1, isiT_2, isiT_3, isiT_4, isiT_5, isiT_6, isiT_7, lstOf_l, tup3_some, tup2_some, Option.isSome_some, List.dropLast, List.getLast?, L2.stLC, frV, List.map_cons, List.map_nil, List.replicate_succ, List.replicate_zero, List.cons_append, List.nil_append, List.drop_succ_cons, List.drop_zero, Option.join_some, atI_0, atI_1, atI_2, atI_3, scal, if_true, if_false, Bool.false_eq_true, Bool.true_eq_false, reduceIte, reduceCtorEq, decide_eq_true_eq, Bool.not_eq_true', decide_eq_false_iff_not, eq_self, List.length_cons, List.length_nil, Nat.zero_add, Nat.reduceAdd, Nat.reduceLT, upd_same, Int.cast_ofNat_Int, Int.reduceToNat, Int.reducePow, Int.reduceLE, Int.reduceLT, Int.reduceSub, Int.reduceAdd, Int.reduceMul, Int.reduceNeg, bd10, bd64, bd2, bd3, bd4, ixN_3_0, ixN_3_1, ixN_3_2, ixN_2_0, ixN_2_1, ixN_4_0, ixN_4_1, ixN_4_2, ixN_4_3, ne_eq, Int.reduceEq, not_false_eq_true, not_true_eq_false, false_or, or_false, false_and, and_false, exists_false, exists_const, tCont, tRaise, tRaise0, tTry, tCallS, goneEnds, tPar3, tDg, tDp, dkOf_k, tDisp, tPairs, tDpT, tDNewT, sp_place, eu, x9 _ _ m8.e1]
                         refine ⟨wl bu, wp, e9, ?_, x9.set hD'⟩
                         show _ ++ [V.int (sgn (exc3 r p))] = _
                         rw [ou, sgn_zero]
                         exact (List.replicate_succ' (n := k) (a := V.int 0)).symm.trans List.replicate_succ
                       · rintro D ys H9 hD' ⟨rfl, e9, x9⟩
                         refine ⟨by decide, fun u4 g4 => ?_⟩
                         have e9' : upd H9 u4 (.lst [.int 0, .int 0, .int 0]) D = some (.lst [.int 0, .int 0, .int 0]) := upd_f g4 e9
                         refine ⟨_, _, .lst (SqL.of e9') (.cons (.int 0) (.cons (.int 0) (.cons (.int 0) .nil))), .lst (SqL.of upd_same) (.cons (.int 0) (.cons (.int 0) (.cons (.int 0) .nil))), rfl, rfl, _, rfl, ?_⟩
                         rw [eqv_pos rfl rfl]
                         simp only [tSeq, List.cons_inj_right, tNext, tIfS, tTest, tOp, tUn, rI, rI0, rU, tVar, tC, tAsg, gName, tRet, tRetN, tDrop, tCall, tCons, tNil, tCB, tTup, tLst, rEq, rNe, ixF, setF, gSub, tPar, tNot, tAnd, tOr, tB, tNotV, tAndV, tOrV, tIf, List.append_nil, List.getElem?_cons_zero, List.getElem?_cons_succ, List.set_cons_zero, List.set_cons_succ, Option.some.injEq, V.int.injEq, V.bl.injEq, V.ref.injEq, exists_eq_left', exists_eq_left, exists_eq_right, exists_and_left, exists_and_right, and_true, true_and, and_assoc, List.cons.injEq, optK_some, seqOf_l, seqOf_t, tYes, tIsN, tNotN, rLenK, tML, tML0, appR, popR, clrR, catF, listF, lenF, slF, tSl, tPart, tNoPart, tyN, isiF, isiT_1, isiT_2, isiT_3, isiT_4, isiT_5, isiT_6, isiT_7, lstOf_l, tup3_some, tup2_some, Option.isSome_some, List.dropLast, List.getLast?, L2.stLC, frV, List.map_cons, List.map_nil, List.replicate_succ, List.replicate_zero, List.cons_append, List.nil_append, List.drop_succ_cons, List.drop_zero, Option.join_some, atI_0, atI_1, atI_2, atI_3, scal, if_true, if_false, Bool.false_eq_true, Bool.true_eq_false, reduceIte, reduceCtorEq, decide_eq_true_eq, Bool.not_eq_true', decide_eq_false_iff_not, eq_self, List.length_cons, List.length_nil, Nat.zero_add, Nat.reduceAdd, Nat.reduceLT, upd_same, Int.cast_ofNat_Int, Int.reduceToNat, Int.reducePow, Int.reduceLE, Int.reduceLT, Int.reduceSub, Int.reduceAdd, Int.reduceMul, Int.reduceNeg, bd10, bd64, bd2, bd3, bd4, ixN_3_0, ixN_3_1, ixN_3_2, ixN_2_0, ixN_2_1, ixN_4_0, ixN_4_1, ixN_4_2, ixN_4_3, ne_eq, Int.reduceEq, not_false_eq_true, not_true_eq_false, false_or, or_false, false_and, and_false, exists_false, exists_const, tCont, tRaise, tRaise0, tTry, tCallS, goneEnds, tPar3, tDg, tDp, dkOf_k, tDisp, tPairs, tDpT, tDNewT]
                         exact x9.then g4
                     · rintro σ H9 ⟨rfl, x9⟩
                       have m10 := m8.ext x9
                       have s10' := s8.ext x9
                       have w2 : p.2.2 ^ 2 ≠ 0 := fun q => by have : 0 < p.2.2 ^ 2 := Int.pow_pos m9.pos; omega
                       obtain ⟨m, n, hmn⟩ : ∃ m n, IsFr (sqr p x) (p.2.2 ^ 2) m n := ⟨_, _, isFr_of w2⟩
                       refine ⟨fun σ H' => ∃ (W u1 u2 u3 : Addr), σ = [some (.ref a), some (.int (0 + (i : Int))), some (.ref q1), some (.ref q2), some (.ref q3), some (.ref L), some (.ref P), some (.ref t1), some (.ref W)] ∧ H' W = some (.lst [.ref u1, .ref u2, .ref u3]) ∧ H' u1 = some (.tup [.int m, .int n]) ∧ H' u2 = some (.tup [.int m, .int n]) ∧ H' u3 = some (.tup [.int m, .int n]) ∧ Ext H9 H', ?_, ?_⟩
                       · simp only [tSeq, List.cons_inj_right, tNext, tIfS, tTest, tOp, tUn, rI, rI0, rU, tVar, tC, tAsg, gName, tRet, tRetN, tDrop, tCall, tCons, tNil, tCB, tTup, tLst, rEq, rNe, ixF, setF, gSub, tPar, tNot, tAnd, tOr, tB, tNotV, tAndV, tOrV, tIf, List.append_nil, List.getElem?_cons_zero, List.getElem?_cons_succ, List.set_cons_zero, List.set_cons_succ, Option.some.injEq, V.int.injEq, V.bl.injEq, V.ref.injEq, exists_eq_left', exists_eq_left, exists_eq_right, exists_and_left, exists_and_right, and_true, true_and, and_assoc, List.cons.injEq, optK_some, seqOf_l, seqOf_t, tYes, tIsN, tNotN, rLenK, tML, tML0, appR, popR, clrR, catF, listF, lenF, slF, tSl, tPart, tNoPart, tyN, isiF, isiT_1, isiT_2, isiT_3, isiT_4, isiT_5, isiT_6, isiT_7, lstOf_l, tup3_some, tup2_some, Option.isSome_some, List.dropLast, List.getLast?, L2.stLC, frV, List.map_cons, List.map_nil, List.replicate_succ, List.replicate_zero, List.cons_append, List.nil_append, List.drop_succ_cons, List.drop_zero, Option.join_some, atI_0, atI_1, atI_2, atI_3, scal, if_true, if_false, Bool.false_eq_true, Bool.true_eq_false, reduceIte, reduceCtorEq, decide_eq_true_eq, Bool.not_eq_true', decide_eq_false_iff_not, eq_self, List.length_cons, List.length_nil, Nat.zero_add, Nat.reduceAdd, Nat.reduceLT, upd_same, Int.cast_ofNat_Int, Int.reduceToNat, Int.reducePow, Int.reduceLE, Int.reduceLT, Int.reduceSub, Int.reduceAdd, Int.reduceMul, Int.reduceNeg, bd10, bd64, bd2, bd3, bd4, ixN_3_0, ixN_3_1, ixN_3_2, ixN_2_0, ixN_2_1, ixN_4_0, ixN_4_1, ixN_4_2, ixN_4_3, ne_eq, Int.reduceEq, not_false_eq_true, not_true_eq_false, false_or, or_false, false_and, and_false, exists_false, exists_const, tCont, tRaise, tRaise0, tTry, tCallS, goneEnds, tPar3, tDg, tDp, dkOf_k, tDisp, tPairs, tDpT, tDNewT]
                         refine tlc_list_up (fun w H' => ∃ T, w = .ref T ∧ H' T = some (.lst [.ref q1, .ref q2, .ref q3]) ∧ Ext H9 H') ?_ ?_
                         · simp only [tSeq, List.cons_inj_right, tNext, tIfS, tTest, tOp, tUn, rI, rI0, rU, tVar, tC, tAsg, gName, tRet, tRetN, tDrop, tCall, tCons, tNil, tCB, tTup, tLst, rEq, rNe, ixF, setF, gSub, tPar, tNot, tAnd, tOr, tB, tNotV, tAndV, tOrV, tIf, List.append_nil, List.getElem?_cons_zero, List.getElem?_cons_succ, List.set_cons_zero, List.set_cons_succ, Option.some.injEq, V.int.injEq, V.bl.injEq, V.ref.injEq, exists_eq_left', exists_eq_left, exists_eq_right, exists_and_left, exists_and_right, and_true, true_and, and_assoc, List.cons.injEq, optK_some, seqOf_l, seqOf_t, tYes, tIsN, tNotN, rLenK, tML, tML0, appR, popR, clrR, catF, listF, lenF, slF, tSl, tPart, tNoPart, tyN, isiF, isiT_1, isiT_2, isiT_3, isiT_4, isiT_5, isiT_6, isiT_7, lstOf_l, tup3_some, tup2_some, Option.isSome_some, List.dropLast, List.getLast?, L2.stLC, frV, List.map_cons, List.map_nil, List.replicate_succ, List.replicate_zero, List.cons_append, List.nil_append, List.drop_succ_cons, List.drop_zero, Option.join_some, atI_0, atI_1, atI_2, atI_3, scal, if_true, if_false, Bool.false_eq_true, Bool.true_eq_false, reduceIte, reduceCtorEq, decide_eq_true_eq, Bool.not_eq_true', decide_eq_false_iff_not, eq_self, List.length_cons, List.length_nil, Nat.zero_add, Nat.reduceAdd, Nat.reduceLT, upd_same, Int.cast_ofNat_Int, Int.reduceToNat, Int.reducePow, Int.reduceLE, Int.reduceLT, Int.reduceSub, Int.reduceAdd, Int.reduceMul, Int.reduceNeg, bd10, bd64, bd2, bd3, bd4, ixN_3_0, ixN_3_1, ixN_3_2, ixN_2_0, ixN_2_1, ixN_4_0, ixN_4_1, ixN_4_2, ixN_4_3, ne_eq, Int.reduceEq, not_false_eq_true, not_true_eq_false, false_or, or_false, false_and, and_false, exists_false, exists_const, tCont, tRaise, tRaise0, tTry, tCallS, goneEnds, tPar3, tDg, tDp, dkOf_k, tDisp, tPairs, tDpT, tDNewT]
                           exact ⟨by decide, fun T hT => .upd hT⟩
                         · rintro w1 H10 ⟨T', rfl, eT, x10⟩
                           refine ⟨T', [.ref q1, .ref q2, .ref q3], rfl, SqL.of eT, (show 3 < 1000000 by decide), fun D k ys H' => (∃ us : List Addr, ys = us.map V.ref ∧ us.length = k ∧ ∀ u ∈ us, H' u = some (.tup [.int m, .int n])) ∧ H' D = some (.lst ys) ∧ Ext H10 H', ?_, ?_, ?_, ?_⟩
                           · intro D hD'
                             exact ⟨⟨[], rfl, rfl, fun u hu => absurd hu List.not_mem_nil⟩, upd_same, .upd hD'⟩
                           · rintro D k ys H11 _ ⟨⟨us, rfl, lu, _⟩, e11, x11⟩
                             exact ⟨e11, by rw [List.length_map, lu]; exact Nat.le_refl _, SqL.of (x11 _ _ eT)⟩
                           · rintro D k v ys H11 hD' hk ⟨⟨us, rfl, lu, hu⟩, e11, x11⟩
                             have s11' := (s10'.ext x10).ext x11
                             obtain ⟨q, r, rfl, eq, bq, oq⟩ : ∃ (q : Addr) (r : Int × Int), v = .ref q ∧ H11 q = some (.tup [.int r.1, .int r.2]) ∧ B2 100 r ∧ sqr p r = sqr p x := by
                               match k, hk with
                               | 0, hk => cases hk; exact ⟨q1, x, rfl, s11'.e1, s9.bx, rfl⟩
                               | 1, hk => cases hk; exact ⟨q2, y, rfl, s11'.e2, s9.by_, y1.symm⟩
                               | 2, hk => cases hk; exact ⟨q3, z, rfl, s11'.e3, s9.bz, (y1.trans y2).symm⟩
                             simp only [tSeq, List.cons_inj_right, tNext, tIfS, tTest, tOp, tUn, rI, rI0, rU, tVar, tC, tAsg, gName, tRet, tRetN, tDrop, tCall, tCons, tNil, tCB, tTup, tLst, rEq, rNe, ixF, setF, gSub, tPar, tNot, tAnd, tOr, tB, tNotV, tAndV, tOrV, tIf, List.append_nil, List.getElem?_cons_zero, List.getElem?_cons_succ, List.set_cons_zero, List.set_cons_succ, Option.some.injEq, V.int.injEq, V.bl.injEq, V.ref.injEq, exists_eq_left', exists_eq_left, exists_eq_right, exists_and_left, exists_and_right, and_true, true_and, and_assoc, List.cons.injEq, optK_some, seqOf_l, seqOf_t, tYes, tIsN, tNotN, rLenK, tML, tML0, appR, popR, clrR, catF, listF, lenF, slF, tSl, tPart, tNoPart, tyN, isiF, isiT_1, isiT_2, isiT_3, isiT_4, isiT_5, isiT_6, isiT_7, lstOf_l, tup3_some, tup2_some, Option.isSome_some, List.dropLast, List.getLast?, L2.stLC, frV, List.map_cons, List.map_nil, List.replicate_succ, List.replicate_zero, List.cons_append, List.nil_append, List.drop_succ_cons, List.drop_zero, Option.join_some, atI_0, atI_1, atI_2, atI_3, scal, if_true, if_false, Bool.false_eq_true, Bool.true_eq_false, reduceIte, reduceCtorEq, decide_eq_true_eq, Bool.not_eq_true', decide_eq_false_iff_not, eq_self, List.length_cons, List.length_nil, Nat.zero_add, Nat.reduceAdd, Nat.reduceLT, upd_same, Int.cast_ofNat_Int, Int.reduceToNat, Int.reducePow, Int.reduceLE, Int.reduceLT, Int.reduceSub, Int.reduceAdd, Int.reduceMul, Int.reduceNeg, bd10, bd64, bd2, bd3, bd4, ixN_3_0, ixN_3_1, ixN_3_2, ixN_2_0, ixN_2_1, ixN_4_0, ixN_4_1, ixN_4_2, ixN_4_3, ne_eq, Int.reduceEq, not_false_eq_true, not_true_eq_false, false_or, or_false, false_and, and_false, exists_false, exists_const, tCont, tRaise, tRaise0, tTry, tCallS, goneEnds, tPar3, tDg, tDp, dkOf_k, tDisp, tPairs, tDpT, tDNewT, sp_square, eq, x11 _ _ (x10 _ _ m10.e1)]
                             refine ⟨wp, wb bq, m9.pos, fun t4 m4 n4 g4 hf => ?_⟩
                             obtain ⟨rfl, rfl⟩ := isFr_same hmn hf w2 w2 (by show sqr p x * _ = sqr p r * _; rw [oq])
                             have eD := upd_f (o := .tup [.int m, .int n]) g4 e11
                             refine ⟨eD, ⟨us ++ [t4], by rw [List.map_append]; rfl, by rw [List.length_append, lu]; rfl, fun u hu' => ?_⟩, (x11.then g4).set hD'⟩
                             have e4 : upd H11 t4 (.tup [.int m, .int n]) u = some (.tup [.int m, .int n]) := by
                               rcases List.mem_append.mp hu' with g | g
                               · exact upd_f g4 (hu u g)
                               · rw [List.mem_singleton] at g
                                 rw [g]
                                 exact upd_same
                             exact (upd_ne (ne_of e4 eD (by intro w; cases w))).trans e4
                           · rintro D ys H11 hD' ⟨⟨us, rfl, lu, hu⟩, e11, x11⟩
                             obtain ⟨u1, u2, u3, rfl⟩ : ∃ u1 u2 u3, us = [u1, u2, u3] := by
                               match us, lu with
                               | [u1, u2, u3], _ => exact ⟨u1, u2, u3, rfl⟩
                             simp only [tSeq, List.cons_inj_right, tNext, tIfS, tTest, tOp, tUn, rI, rI0, rU, tVar, tC, tAsg, gName, tRet, tRetN, tDrop, tCall, tCons, tNil, tCB, tTup, tLst, rEq, rNe, ixF, setF, gSub, tPar, tNot, tAnd, tOr, tB, tNotV, tAndV, tOrV, tIf, List.append_nil, List.getElem?_cons_zero, List.getElem?_cons_succ, List.set_cons_zero, List.set_cons_succ, Option.some.injEq, V.int.injEq, V.bl.injEq, V.ref.injEq, exists_eq_left', exists_eq_left, exists_eq_right, exists_and_left, exists_and_right, and_true, true_and, and_assoc, List.cons.injEq, optK_some, seqOf_l, seqOf_t, tYes, tIsN, tNotN, rLenK, tML, tML0, appR, popR, clrR, catF, listF, lenF, slF, tSl, tPart, tNoPart, tyN, isiF, isiT_1, isiT_2, isiT_3, isiT_4, isiT_5, isiT_6, isiT_7, lstOf_l, tup3_some, tup2_some, Option.isSome_some, List.dropLast, List.getLast?, L2.stLC, frV, List.map_cons, List.map_nil, List.replicate_succ, List.replicate_zero, List.cons_append, List.nil_append, List.drop_succ_cons, List.drop_zero, Option.join_some, atI_0, atI_1, atI_2, atI_3, scal, if_true, if_false, Bool.false_eq_true, Bool.true_eq_false, reduceIte, reduceCtorEq, decide_eq_true_eq, Bool.not_eq_true', decide_eq_false_iff_not, eq_self, List.length_cons, List.length_nil, Nat.zero_add, Nat.reduceAdd, Nat.reduceLT, upd_same, Int.cast_ofNat_Int, Int.reduceToNat, Int.reducePow, Int.reduceLE, Int.reduceLT, Int.reduceSub, Int.reduceAdd, Int.reduceMul, Int.reduceNeg, bd10, bd64, bd2, bd3, bd4, ixN_3_0, ixN_3_1, ixN_3_2, ixN_2_0, ixN_2_1, ixN_4_0, ixN_4_1, ixN_4_2, ixN_4_3, ne_eq, Int.reduceEq, not_false_eq_true, not_true_eq_false, false_or, or_false, false_and, and_false, exists_false, exists_const, tCont, tRaise, tRaise0, tTry, tCallS, goneEnds, tPar3, tDg, tDp, dkOf_k, tDisp, tPairs, tDpT, tDNewT]
                             exact ⟨u1, u2, u3, e11, hu u1 (by simp), hu u2 (by simp), hu u3 (by simp), x10.trans x11⟩
                       · rintro σ H10 ⟨W, u1, u2, u3, rfl, eW, f1, f2, f3, x10⟩
                         have t2' : ∀ {H7 : Hp} {u : Addr}, H7 u = some (.tup [.int m, .int n]) → Rdy K H7 (.ref u) (.tuple [.int m, .int n]) := fun e => .tup (SqT.of e) (.cons (.int _) (.cons (.int _) .nil))
                         simp only [tSeq, List.cons_inj_right, tNext, tIfS, tTest, tOp, tUn, rI, rI0, rU, tVar, tC, tAsg, gName, tRet, tRetN, tDrop, tCall, tCons, tNil, tCB, tTup, tLst, rEq, rNe, ixF, setF, gSub, tPar, tNot, tAnd, tOr, tB, tNotV, tAndV, tOrV, tIf, List.append_nil, List.getElem?_cons_zero, List.getElem?_cons_succ, List.set_cons_zero, List.set_cons_succ, Option.some.injEq, V.int.injEq, V.bl.injEq, V.ref.injEq, exists_eq_left', exists_eq_left, exists_eq_right, exists_and_left, exists_and_right, and_true, true_and, and_assoc, List.cons.injEq, optK_some, seqOf_l, seqOf_t, tYes, tIsN, tNotN, rLenK, tML, tML0, appR, popR, clrR, catF, listF, lenF, slF, tSl, tPart, tNoPart, tyN, isiF, isiT_1, isiT_2, isiT_3, isiT_4, isiT_5, isiT_6, isiT_7, lstOf_l, tup3_some, tup2_some, Option.isSome_some, List.dropLast, List.getLast?, L2.stLC, frV, List.map_cons, List.map_nil, List.replicate_succ, List.replicate_zero, List.cons_append, List.nil_append, List.drop_succ_cons, List.drop_zero, Option.join_some, atI_0, atI_1, atI_2, atI_3, scal, if_true, if_false, Bool.false_eq_true, Bool.true_eq_false, reduceIte, reduceCtorEq, decide_eq_true_eq, Bool.not_eq_true', decide_eq_false_iff_not, eq_self, List.length_cons, List.length_nil, Nat.zero_add, Nat.reduceAdd, Nat.reduceLT, upd_same, Int.cast_ofNat_Int, Int.reduceToNat, Int.reducePow, Int.reduceLE, Int.reduceLT, Int.reduceSub, Int.reduceAdd, Int.reduceMul, Int.reduceNeg, bd10, bd64, bd2, bd3, bd4, ixN_3_0, ixN_3_1, ixN_3_2, ixN_2_0, ixN_2_1, ixN_4_0, ixN_4_1, ixN_4_2, ixN_4_3, ne_eq, Int.reduceEq, not_false_eq_true, not_true_eq_false, false_or, or_false, false_and, and_false, exists_false, exists_const, tCont, tRaise, tRaise0, tTry, tCallS, goneEnds, tPar3, tDg, tDp, dkOf_k, tDisp, tPairs, tDpT, tDNewT, eW, sp_nearer]
                         refine ⟨by decide, fun u4 g4 => ?_⟩
                         have x11 := x10.then (o := .lst [.ref u1, .ref u1, .ref u1]) g4
                         have s11' := s10'.ext x11
                         refine ⟨_, _, .lst (SqL.of (upd_f g4 eW)) (.cons (t2' (upd_f g4 f1)) (.cons (t2' (upd_f g4 f2)) (.cons (t2' (upd_f g4 f3)) .nil))), .lst (SqL.of upd_same) (.cons (t2' (upd_f g4 f1)) (.cons (t2' (upd_f g4 f1)) (.cons (t2' (upd_f g4 f1)) .nil))), rfl, rfl, _, rfl, ?_⟩
                         rw [eqv_pos rfl rfl]
                         simp only [tSeq, List.cons_inj_right, tNext, tIfS, tTest, tOp, tUn, rI, rI0, rU, tVar, tC, tAsg, gName, tRet, tRetN, tDrop, tCall, tCons, tNil, tCB, tTup, tLst, rEq, rNe, ixF, setF, gSub, tPar, tNot, tAnd, tOr, tB, tNotV, tAndV, tOrV, tIf, List.append_nil, List.getElem?_cons_zero, List.getElem?_cons_succ, List.set_cons_zero, List.set_cons_succ, Option.some.injEq, V.int.injEq, V.bl.injEq, V.ref.injEq, exists_eq_left', exists_eq_left, exists_eq_right, exists_and_left, exists_and_right, and_true, true_and, and_assoc, List.cons.injEq, optK_some, seqOf_l, seqOf_t, tYes, tIsN, tNotN, rLenK, tML, tML0, appR, popR, clrR, catF, listF, lenF, slF, tSl, tPart, tNoPart, tyN, isiF, isiT_1, isiT_2, isiT_3, isiT_4, isiT_5, isiT_6, isiT_7, lstOf_l, tup3_some, tup2_some, Option.isSome_some, List.dropLast, List.getLast?, L2.stLC, frV, List.map_cons, List.map_nil, List.replicate_succ, List.replicate_zero, List.cons_append, List.nil_append, List.drop_succ_cons, List.drop_zero, Option.join_some, atI_0, atI_1, atI_2, atI_3, scal, if_true, if_false, Bool.false_eq_true, Bool.true_eq_false, reduceIte, reduceCtorEq, decide_eq_true_eq, Bool.not_eq_true', decide_eq_false_iff_not, eq_self, List.length_cons, List.length_nil, Nat.zero_add, Nat.reduceAdd, Nat.reduceLT, upd_same, Int.cast_ofNat_Int, Int.reduceToNat, Int.reducePow, Int.reduceLE, Int.reduceLT, Int.reduceSub, Int.reduceAdd, Int.reduceMul, Int.reduceNeg, bd10, bd64, bd2, bd3, bd4, ixN_3_0, ixN_3_1, ixN_3_2, ixN_2_0, ixN_2_1, ixN_4_0, ixN_4_1, ixN_4_2, ixN_4_3, ne_eq, Int.reduceEq, not_false_eq_true, not_true_eq_false, false_or, or_false, false_and, and_false, exists_false, exists_const, tCont, tRaise, tRaise0, tTry, tCallS, goneEnds, tPar3, tDg, tDp, dkOf_k, tDisp, tPairs, tDpT, tDNewT, x11 _ _ m10.e1, s11'.e1, s11'.e3]
                         refine ⟨wp, wb s9.bx, wb s9.bz, ?_⟩
                         rw [if_neg (fun q => q (by show sgn (sqr p x - sqr p z) = 0; rw [y1.trans y2, Int.sub_self, sgn_zero]))]
                         exact ⟨⟨_, rfl⟩, s11'.s⟩
         · have l3 : ¬ ((TZ.ksOf (kOf [[x.1, x.2], [y.1, y.2], [z.1, z.2]]) 3).length : Int) = 3 := fun q => hd (by
             have q := setT_three.mp (by omega : (TZ.ksOf (kOf [[x.1, x.2], [y.1, y.2], [z.1, z.2]]) 3).length = 3)
             exact ⟨fun w => q.1 (by rw [w]), fun w => q.2.1 (by rw [w]), fun w => q.2.2 (by rw [w])⟩)
           rw [if_neg l3]
           exact s9'.s
     · rintro σ H1 ⟨o1, o2, o3, o4, o5, o6, o7, o8, rfl, hS1⟩
       simp only [tSeq, List.cons_inj_right, tNext, tIfS, tTest, tOp, tUn, rI, rI0, rU, tVar, tC, tAsg, gName, tRet, tRetN, tDrop, tCall, tCons, tNil, tCB, tTup, tLst, rEq, rNe, ixF, setF, gSub, tPar, tNot, tAnd, tOr, tB, tNotV, tAndV, tOrV, tIf, List.append_nil, List.getElem?_cons_zero, List.getElem?_cons_succ, List.set_cons_zero, List.set_cons_succ, Option.some.injEq, V.int.injEq, V.bl.injEq, V.ref.injEq, exists_eq_left', exists_eq_left, exists_eq_right, exists_and_left, exists_and_right, and_true, true_and, and_assoc, List.cons.injEq, optK_some, seqOf_l, seqOf_t, tYes, tIsN, tNotN, rLenK, tML, tML0, appR, popR, clrR, catF, listF, lenF, slF, tSl, tPart, tNoPart, tyN, isiF, isiT_1, isiT_2, isiT_3, isiT_4, isiT_5, isiT_6, isiT_7, lstOf_l, tup3_some, tup2_some, Option.isSome_some, List.dropLast, List.getLast?, L2.stLC, frV, List.map_cons, List.map_nil, List.replicate_succ, List.replicate_zero, List.cons_append, List.nil_append, List.drop_succ_cons, List.drop_zero, Option.join_some, atI_0, atI_1, atI_2, atI_3, scal, if_true, if_false, Bool.false_eq_true, Bool.true_eq_false, reduceIte, reduceCtorEq, decide_eq_true_eq, Bool.not_eq_true', decide_eq_false_iff_not, eq_self, List.length_cons, List.length_nil, Nat.zero_add, Nat.reduceAdd, Nat.reduceLT, upd_same, Int.cast_ofNat_Int, Int.reduceToNat, Int.reducePow, Int.reduceLE, Int.reduceLT, Int.reduceSub, Int.reduceAdd, Int.reduceMul, Int.reduceNeg, bd10, bd64, bd2, bd3, bd4, ixN_3_0, ixN_3_1, ixN_3_2, ixN_2_0, ixN_2_1, ixN_4_0, ixN_4_1, ixN_4_2, ixN_4_3, ne_eq, Int.reduceEq, not_false_eq_true, not_true_eq_false, false_or, or_false, false_and, and_false, exists_false, exists_const, tCont, tRaise, tRaise0, tTry, tCallS, goneEnds, tPar3, tDg, tDp, dkOf_k, tDisp, tPairs, tDpT, tDNewT]
       exact h _
end
end LW
namespace LW
open PySem L2 MA PyProof.Rows
theorem len_1 {us : List Value} (h : us.length = 1) : ∃ u0, us = [u0] := by
  obtain _ | ⟨u0, us⟩ := us
  · cases h
  cases us with
  | nil => exact ⟨u0, rfl⟩
  | cons a r => simp at h
theorem len_2 {us : List Value} (h : us.length = 2) : ∃ u0 u1, us = [u0, u1] := by
  obtain _ | ⟨u0, us⟩ := us
  · cases h
  obtain _ | ⟨u1, us⟩ := us
  · cases h
  cases us with
  | nil => exact ⟨u0, u1, rfl⟩
  | cons a r => simp at h
theorem len_3 {us : List Value} (h : us.length = 3) : ∃ u0 u1 u2, us = [u0, u1, u2] := by
  obtain _ | ⟨u0, us⟩ := us
  · cases h
  obtain _ | ⟨u1, us⟩ := us
  · cases h
  obtain _ | ⟨u2, us⟩ := us
  · cases h
  cases us with
  | nil => exact ⟨u0, u1, u2, rfl⟩
  | cons a r => simp at h
set_option maxHeartbeats 0 in
theorem all_mk {l : PySem.W.OpenLaw} {w : World} {K : PySem.W.Frag} {h : Heap} {mg : Str → Option Value} {fa : Addr} (X : K.In h) (G : h.Ns mainGlobals mg) (hfa : mg "law" = some (.ref fa))
    {f_divisor : Addr} {od_divisor an_divisor : Option Addr} {sl_divisor : Array (Option Value)} {oc_divisor kV_divisor dc_divisor pm_divisor cd_divisor ct_divisor : Value} {f_sign : Addr} {od_sign an_sign : Option Addr} {sl_sign : Array (Option Value)} {oc_sign kV_sign dc_sign pm_sign cd_sign ct_sign : Value} {f_point_of : Addr} {od_point_of an_point_of : Option Addr} {sl_point_of : Array (Option Value)} {oc_point_of kV_point_of dc_point_of pm_point_of cd_point_of ct_point_of : Value} {f_fraction_of : Addr} {od_fraction_of an_fraction_of : Option Addr} {sl_fraction_of : Array (Option Value)} {oc_fraction_of kV_fraction_of dc_fraction_of pm_fraction_of cd_fraction_of ct_fraction_of : Value} {f_turn : Addr} {od_turn an_turn : Option Addr} {sl_turn : Array (Option Value)} {oc_turn kV_turn dc_turn pm_turn cd_turn ct_turn : Value} {f_scaled_square : Addr} {od_scaled_square an_scaled_square : Option Addr} {sl_scaled_square : Array (Option Value)} {oc_scaled_square kV_scaled_square dc_scaled_square pm_scaled_square cd_scaled_square ct_scaled_square : Value} {f_square : Addr} {od_square an_square : Option Addr} {sl_square : Array (Option Value)} {oc_square kV_square dc_square pm_square cd_square ct_square : Value} {f_nearer : Addr} {od_nearer an_nearer : Option Addr} {sl_nearer : Array (Option Value)} {oc_nearer kV_nearer dc_nearer pm_nearer cd_nearer ct_nearer : Value} {f_line_of : Addr} {od_line_of an_line_of : Option Addr} {sl_line_of : Array (Option Value)} {oc_line_of kV_line_of dc_line_of pm_line_of cd_line_of ct_line_of : Value} {f_between : Addr} {od_between an_between : Option Addr} {sl_between : Array (Option Value)} {oc_between kV_between dc_between pm_between cd_between ct_between : Value} {f_excess : Addr} {od_excess an_excess : Option Addr} {sl_excess : Array (Option Value)} {oc_excess kV_excess dc_excess pm_excess cd_excess ct_excess : Value} {f_place : Addr} {od_place an_place : Option Addr} {sl_place : Array (Option Value)} {oc_place kV_place dc_place pm_place cd_place ct_place : Value} {f_meet : Addr} {od_meet an_meet : Option Addr} {sl_meet : Array (Option Value)} {oc_meet kV_meet dc_meet pm_meet cd_meet ct_meet : Value} {f__law_feed : Addr} {od__law_feed an__law_feed : Option Addr} {sl__law_feed : Array (Option Value)} {oc__law_feed kV__law_feed dc__law_feed pm__law_feed cd__law_feed ct__law_feed : Value} {f__law_next : Addr} {od__law_next an__law_next : Option Addr} {sl__law_next : Array (Option Value)} {oc__law_next kV__law_next dc__law_next pm__law_next cd__law_next ct__law_next : Value} {f__law_great : Addr} {od__law_great an__law_great : Option Addr} {sl__law_great : Array (Option Value)} {oc__law_great kV__law_great dc__law_great pm__law_great cd__law_great ct__law_great : Value} {f__law_spots : Addr} {od__law_spots an__law_spots : Option Addr} {sl__law_spots : Array (Option Value)} {oc__law_spots kV__law_spots dc__law_spots pm__law_spots cd__law_spots ct__law_spots : Value} {f_law : Addr} {od_law an_law : Option Addr} {sl_law : Array (Option Value)} {oc_law kV_law dc_law pm_law cd_law ct_law : Value}  
    (a_divisor : PySem.W.nsIn K mainGlobals "divisor" = some (some (.ref f_divisor)))
    (l_divisor : K.lookup f_divisor = some ⟨oc_divisor, od_divisor, .func (PySem.W.fnOf "divisor" "divisor" (defArgs s_divisor) (defBody s_divisor) (defScope s_divisor) .none kV_divisor dc_divisor pm_divisor an_divisor cd_divisor ct_divisor), sl_divisor⟩)
    (c_divisor : PySem.W.codeIn K cd_divisor "divisor" = true)
    (k_divisor : PySem.W.keepIn K (.ref f_divisor) = true)
    (a_sign : PySem.W.nsIn K mainGlobals "sign" = some (some (.ref f_sign)))
    (l_sign : K.lookup f_sign = some ⟨oc_sign, od_sign, .func (PySem.W.fnOf "sign" "sign" (defArgs s_sign) (defBody s_sign) (defScope s_sign) .none kV_sign dc_sign pm_sign an_sign cd_sign ct_sign), sl_sign⟩)
    (c_sign : PySem.W.codeIn K cd_sign "sign" = true)
    (k_sign : PySem.W.keepIn K (.ref f_sign) = true)
    (a_point_of : PySem.W.nsIn K mainGlobals "point_of" = some (some (.ref f_point_of)))
    (l_point_of : K.lookup f_point_of = some ⟨oc_point_of, od_point_of, .func (PySem.W.fnOf "point_of" "point_of" (defArgs s_point_of) (defBody s_point_of) (defScope s_point_of) .none kV_point_of dc_point_of pm_point_of an_point_of cd_point_of ct_point_of), sl_point_of⟩)
    (c_point_of : PySem.W.codeIn K cd_point_of "point_of" = true)
    (k_point_of : PySem.W.keepIn K (.ref f_point_of) = true)
    (a_fraction_of : PySem.W.nsIn K mainGlobals "fraction_of" = some (some (.ref f_fraction_of)))
    (l_fraction_of : K.lookup f_fraction_of = some ⟨oc_fraction_of, od_fraction_of, .func (PySem.W.fnOf "fraction_of" "fraction_of" (defArgs s_fraction_of) (defBody s_fraction_of) (defScope s_fraction_of) .none kV_fraction_of dc_fraction_of pm_fraction_of an_fraction_of cd_fraction_of ct_fraction_of), sl_fraction_of⟩)
    (c_fraction_of : PySem.W.codeIn K cd_fraction_of "fraction_of" = true)
    (k_fraction_of : PySem.W.keepIn K (.ref f_fraction_of) = true)
    (a_turn : PySem.W.nsIn K mainGlobals "turn" = some (some (.ref f_turn)))
    (l_turn : K.lookup f_turn = some ⟨oc_turn, od_turn, .func (PySem.W.fnOf "turn" "turn" (defArgs s_turn) (defBody s_turn) (defScope s_turn) .none kV_turn dc_turn pm_turn an_turn cd_turn ct_turn), sl_turn⟩)
    (c_turn : PySem.W.codeIn K cd_turn "turn" = true)
    (k_turn : PySem.W.keepIn K (.ref f_turn) = true)
    (a_scaled_square : PySem.W.nsIn K mainGlobals "scaled_square" = some (some (.ref f_scaled_square)))
    (l_scaled_square : K.lookup f_scaled_square = some ⟨oc_scaled_square, od_scaled_square, .func (PySem.W.fnOf "scaled_square" "scaled_square" (defArgs s_scaled_square) (defBody s_scaled_square) (defScope s_scaled_square) .none kV_scaled_square dc_scaled_square pm_scaled_square an_scaled_square cd_scaled_square ct_scaled_square), sl_scaled_square⟩)
    (c_scaled_square : PySem.W.codeIn K cd_scaled_square "scaled_square" = true)
    (k_scaled_square : PySem.W.keepIn K (.ref f_scaled_square) = true)
    (a_square : PySem.W.nsIn K mainGlobals "square" = some (some (.ref f_square)))
    (l_square : K.lookup f_square = some ⟨oc_square, od_square, .func (PySem.W.fnOf "square" "square" (defArgs s_square) (defBody s_square) (defScope s_square) .none kV_square dc_square pm_square an_square cd_square ct_square), sl_square⟩)
    (c_square : PySem.W.codeIn K cd_square "square" = true)
    (k_square : PySem.W.keepIn K (.ref f_square) = true)
    (a_nearer : PySem.W.nsIn K mainGlobals "nearer" = some (some (.ref f_nearer)))
    (l_nearer : K.lookup f_nearer = some ⟨oc_nearer, od_nearer, .func (PySem.W.fnOf "nearer" "nearer" (defArgs s_nearer) (defBody s_nearer) (defScope s_nearer) .none kV_nearer dc_nearer pm_nearer an_nearer cd_nearer ct_nearer), sl_nearer⟩)
    (c_nearer : PySem.W.codeIn K cd_nearer "nearer" = true)
    (k_nearer : PySem.W.keepIn K (.ref f_nearer) = true)
    (a_line_of : PySem.W.nsIn K mainGlobals "line_of" = some (some (.ref f_line_of)))
    (l_line_of : K.lookup f_line_of = some ⟨oc_line_of, od_line_of, .func (PySem.W.fnOf "line_of" "line_of" (defArgs s_line_of) (defBody s_line_of) (defScope s_line_of) .none kV_line_of dc_line_of pm_line_of an_line_of cd_line_of ct_line_of), sl_line_of⟩)
    (c_line_of : PySem.W.codeIn K cd_line_of "line_of" = true)
    (k_line_of : PySem.W.keepIn K (.ref f_line_of) = true)
    (a_between : PySem.W.nsIn K mainGlobals "between" = some (some (.ref f_between)))
    (l_between : K.lookup f_between = some ⟨oc_between, od_between, .func (PySem.W.fnOf "between" "between" (defArgs s_between) (defBody s_between) (defScope s_between) .none kV_between dc_between pm_between an_between cd_between ct_between), sl_between⟩)
    (c_between : PySem.W.codeIn K cd_between "between" = true)
    (k_between : PySem.W.keepIn K (.ref f_between) = true)
    (a_excess : PySem.W.nsIn K mainGlobals "excess" = some (some (.ref f_excess)))
    (l_excess : K.lookup f_excess = some ⟨oc_excess, od_excess, .func (PySem.W.fnOf "excess" "excess" (defArgs s_excess) (defBody s_excess) (defScope s_excess) .none kV_excess dc_excess pm_excess an_excess cd_excess ct_excess), sl_excess⟩)
    (c_excess : PySem.W.codeIn K cd_excess "excess" = true)
    (k_excess : PySem.W.keepIn K (.ref f_excess) = true)
    (a_place : PySem.W.nsIn K mainGlobals "place" = some (some (.ref f_place)))
    (l_place : K.lookup f_place = some ⟨oc_place, od_place, .func (PySem.W.fnOf "place" "place" (defArgs s_place) (defBody s_place) (defScope s_place) .none kV_place dc_place pm_place an_place cd_place ct_place), sl_place⟩)
    (c_place : PySem.W.codeIn K cd_place "place" = true)
    (k_place : PySem.W.keepIn K (.ref f_place) = true)
    (a_meet : PySem.W.nsIn K mainGlobals "meet" = some (some (.ref f_meet)))
    (l_meet : K.lookup f_meet = some ⟨oc_meet, od_meet, .func (PySem.W.fnOf "meet" "meet" (defArgs s_meet) (defBody s_meet) (defScope s_meet) .none kV_meet dc_meet pm_meet an_meet cd_meet ct_meet), sl_meet⟩)
    (c_meet : PySem.W.codeIn K cd_meet "meet" = true)
    (k_meet : PySem.W.keepIn K (.ref f_meet) = true)
    (a__law_feed : PySem.W.nsIn K mainGlobals "_law_feed" = some (some (.ref f__law_feed)))
    (l__law_feed : K.lookup f__law_feed = some ⟨oc__law_feed, od__law_feed, .func (PySem.W.fnOf "_law_feed" "_law_feed" (defArgs s__law_feed) (defBody s__law_feed) (defScope s__law_feed) .none kV__law_feed dc__law_feed pm__law_feed an__law_feed cd__law_feed ct__law_feed), sl__law_feed⟩)
    (c__law_feed : PySem.W.codeIn K cd__law_feed "_law_feed" = true)
    (k__law_feed : PySem.W.keepIn K (.ref f__law_feed) = true)
    (a__law_next : PySem.W.nsIn K mainGlobals "_law_next" = some (some (.ref f__law_next)))
    (l__law_next : K.lookup f__law_next = some ⟨oc__law_next, od__law_next, .func (PySem.W.fnOf "_law_next" "_law_next" (defArgs s__law_next) (defBody s__law_next) (defScope s__law_next) .none kV__law_next dc__law_next pm__law_next an__law_next cd__law_next ct__law_next), sl__law_next⟩)
    (c__law_next : PySem.W.codeIn K cd__law_next "_law_next" = true)
    (k__law_next : PySem.W.keepIn K (.ref f__law_next) = true)
    (a__law_great : PySem.W.nsIn K mainGlobals "_law_great" = some (some (.ref f__law_great)))
    (l__law_great : K.lookup f__law_great = some ⟨oc__law_great, od__law_great, .func (PySem.W.fnOf "_law_great" "_law_great" (defArgs s__law_great) (defBody s__law_great) (defScope s__law_great) .none kV__law_great dc__law_great pm__law_great an__law_great cd__law_great ct__law_great), sl__law_great⟩)
    (c__law_great : PySem.W.codeIn K cd__law_great "_law_great" = true)
    (k__law_great : PySem.W.keepIn K (.ref f__law_great) = true)
    (a__law_spots : PySem.W.nsIn K mainGlobals "_law_spots" = some (some (.ref f__law_spots)))
    (l__law_spots : K.lookup f__law_spots = some ⟨oc__law_spots, od__law_spots, .func (PySem.W.fnOf "_law_spots" "_law_spots" (defArgs s__law_spots) (defBody s__law_spots) (defScope s__law_spots) .none kV__law_spots dc__law_spots pm__law_spots an__law_spots cd__law_spots ct__law_spots), sl__law_spots⟩)
    (c__law_spots : PySem.W.codeIn K cd__law_spots "_law_spots" = true)
    (k__law_spots : PySem.W.keepIn K (.ref f__law_spots) = true)
    (a_law : PySem.W.nsIn K mainGlobals "law" = some (some (.ref f_law)))
    (l_law : K.lookup f_law = some ⟨oc_law, od_law, .func (PySem.W.fnOf "law" "law" (defArgs s_law) (defBody s_law) (defScope s_law) .none kV_law dc_law pm_law an_law cd_law ct_law), sl_law⟩)
    (c_law : PySem.W.codeIn K cd_law "law" = true)
    (k_law : PySem.W.keepIn K (.ref f_law) = true)
    (z_abs : PySem.W.nsIn K mainGlobals "abs" = some none)
    (z_len : PySem.W.nsIn K mainGlobals "len" = some none)
    (z_min : PySem.W.nsIn K mainGlobals "min" = some none)
    (z_range : PySem.W.nsIn K mainGlobals "range" = some none)
    (z_set : PySem.W.nsIn K mainGlobals "set" = some none) :
    ∃ fd : FuncData, (∀ (s : Shared) (v : Value), BindsTo s fd ⟨[v], []⟩ [("_law_script", v)]) ∧ ∀ base : Heap, K.In base → base.Ns mainGlobals mg → FnOk l.prog w K mg base (CXE l.prog w) 4 fa fd ["_law_script"] (sp_law K) := by
  have e := hfa.symm.trans (PySem.W.mg_of X G a_law)
  cases e
  have T : Txt K mg ⟨⟩ := ⟨PySem.W.mg_none_of X G z_abs, PySem.W.mg_none_of X G z_len, PySem.W.mg_none_of X G z_min, PySem.W.mg_none_of X G z_range, PySem.W.mg_none_of X G z_set⟩
  have U_divisor := fun_mk (st := s_divisor) l_divisor c_divisor k_divisor
  have B_divisor := U_divisor.binds (ps := ["one", "other"]) fun _ _ _ _ _ _ us hl => by obtain ⟨u0, u1, rfl⟩ := len_2 hl; rfl
  have U_sign := fun_mk (st := s_sign) l_sign c_sign k_sign
  have B_sign := U_sign.binds (ps := ["number"]) fun _ _ _ _ _ _ us hl => by obtain ⟨u0, rfl⟩ := len_1 hl; rfl
  have U_point_of := fun_mk (st := s_point_of) l_point_of c_point_of k_point_of
  have B_point_of := U_point_of.binds (ps := ["x", "y", "w"]) fun _ _ _ _ _ _ us hl => by obtain ⟨u0, u1, u2, rfl⟩ := len_3 hl; rfl
  have U_fraction_of := fun_mk (st := s_fraction_of) l_fraction_of c_fraction_of k_fraction_of
  have B_fraction_of := U_fraction_of.binds (ps := ["top", "bottom"]) fun _ _ _ _ _ _ us hl => by obtain ⟨u0, u1, rfl⟩ := len_2 hl; rfl
  have U_turn := fun_mk (st := s_turn) l_turn c_turn k_turn
  have B_turn := U_turn.binds (ps := ["one", "other", "third"]) fun _ _ _ _ _ _ us hl => by obtain ⟨u0, u1, u2, rfl⟩ := len_3 hl; rfl
  have U_scaled_square := fun_mk (st := s_scaled_square) l_scaled_square c_scaled_square k_scaled_square
  have B_scaled_square := U_scaled_square.binds (ps := ["point", "spot"]) fun _ _ _ _ _ _ us hl => by obtain ⟨u0, u1, rfl⟩ := len_2 hl; rfl
  have U_square := fun_mk (st := s_square) l_square c_square k_square
  have B_square := U_square.binds (ps := ["point", "spot"]) fun _ _ _ _ _ _ us hl => by obtain ⟨u0, u1, rfl⟩ := len_2 hl; rfl
  have U_nearer := fun_mk (st := s_nearer) l_nearer c_nearer k_nearer
  have B_nearer := U_nearer.binds (ps := ["point", "one", "other"]) fun _ _ _ _ _ _ us hl => by obtain ⟨u0, u1, u2, rfl⟩ := len_3 hl; rfl
  have U_line_of := fun_mk (st := s_line_of) l_line_of c_line_of k_line_of
  have B_line_of := U_line_of.binds (ps := ["a", "b", "c"]) fun _ _ _ _ _ _ us hl => by obtain ⟨u0, u1, u2, rfl⟩ := len_3 hl; rfl
  have U_between := fun_mk (st := s_between) l_between c_between k_between
  have B_between := U_between.binds (ps := ["one", "other"]) fun _ _ _ _ _ _ us hl => by obtain ⟨u0, u1, rfl⟩ := len_2 hl; rfl
  have U_excess := fun_mk (st := s_excess) l_excess c_excess k_excess
  have B_excess := U_excess.binds (ps := ["line", "point"]) fun _ _ _ _ _ _ us hl => by obtain ⟨u0, u1, rfl⟩ := len_2 hl; rfl
  have U_place := fun_mk (st := s_place) l_place c_place k_place
  have B_place := U_place.binds (ps := ["line", "point"]) fun _ _ _ _ _ _ us hl => by obtain ⟨u0, u1, rfl⟩ := len_2 hl; rfl
  have U_meet := fun_mk (st := s_meet) l_meet c_meet k_meet
  have B_meet := U_meet.binds (ps := ["one", "other"]) fun _ _ _ _ _ _ us hl => by obtain ⟨u0, u1, rfl⟩ := len_2 hl; rfl
  have U__law_feed := fun_mk (st := s__law_feed) l__law_feed c__law_feed k__law_feed
  have B__law_feed := U__law_feed.binds (ps := ["_law_script", "_law_k"]) fun _ _ _ _ _ _ us hl => by obtain ⟨u0, u1, rfl⟩ := len_2 hl; rfl
  have U__law_next := fun_mk (st := s__law_next) l__law_next c__law_next k__law_next
  have B__law_next := U__law_next.binds (ps := ["_law_feed_here", "_law_many"]) fun _ _ _ _ _ _ us hl => by obtain ⟨u0, u1, rfl⟩ := len_2 hl; rfl
  have U__law_great := fun_mk (st := s__law_great) l__law_great c__law_great k__law_great
  have B__law_great := U__law_great.binds (ps := ["_law_feed_here", "_law_far"]) fun _ _ _ _ _ _ us hl => by obtain ⟨u0, u1, rfl⟩ := len_2 hl; rfl
  have U__law_spots := fun_mk (st := s__law_spots) l__law_spots c__law_spots k__law_spots
  have B__law_spots := U__law_spots.binds (ps := ["_law_feed_here"]) fun _ _ _ _ _ _ us hl => by obtain ⟨u0, rfl⟩ := len_1 hl; rfl
  have U_law := fun_mk (st := s_law) l_law c_law k_law
  refine ⟨PySem.W.fnOf "law" "law" (defArgs s_law) (defBody s_law) (defScope s_law) .none kV_law dc_law pm_law an_law cd_law ct_law, fun s v => .of_eq rfl, fun base _ _ => ?_⟩
  have F_divisor : FnB l.prog w K mg base (CXE l.prog w) 1 "divisor" ["one", "other"] sp_divisor := .of (ok_divisor U_divisor T ) (PySem.W.mg_of X G a_divisor) k_divisor B_divisor
  have F_sign : FnB l.prog w K mg base (CXE l.prog w) 1 "sign" ["number"] sp_sign := .of (ok_sign U_sign T ) (PySem.W.mg_of X G a_sign) k_sign B_sign
  have F_point_of : FnB l.prog w K mg base (CXE l.prog w) 2 "point_of" ["x", "y", "w"] sp_point_of := .of (ok_point_of U_point_of T F_divisor F_sign) (PySem.W.mg_of X G a_point_of) k_point_of B_point_of
  have F_fraction_of : FnB l.prog w K mg base (CXE l.prog w) 2 "fraction_of" ["top", "bottom"] sp_fraction_of := .of (ok_fraction_of U_fraction_of T F_divisor F_sign) (PySem.W.mg_of X G a_fraction_of) k_fraction_of B_fraction_of
  have F_turn : FnB l.prog w K mg base (CXE l.prog w) 2 "turn" ["one", "other", "third"] sp_turn := .of (ok_turn U_turn T F_sign) (PySem.W.mg_of X G a_turn) k_turn B_turn
  have F_scaled_square : FnB l.prog w K mg base (CXE l.prog w) 1 "scaled_square" ["point", "spot"] sp_scaled_square := .of (ok_scaled_square U_scaled_square T ) (PySem.W.mg_of X G a_scaled_square) k_scaled_square B_scaled_square
  have F_square : FnB l.prog w K mg base (CXE l.prog w) 3 "square" ["point", "spot"] sp_square := .of (ok_square U_square T F_scaled_square F_fraction_of) (PySem.W.mg_of X G a_square) k_square B_square
  have F_nearer : FnB l.prog w K mg base (CXE l.prog w) 2 "nearer" ["point", "one", "other"] sp_nearer := .of (ok_nearer U_nearer T F_scaled_square F_sign) (PySem.W.mg_of X G a_nearer) k_nearer B_nearer
  have F_line_of : FnB l.prog w K mg base (CXE l.prog w) 2 "line_of" ["a", "b", "c"] sp_line_of := .of (ok_line_of U_line_of T F_divisor) (PySem.W.mg_of X G a_line_of) k_line_of B_line_of
  have F_between : FnB l.prog w K mg base (CXE l.prog w) 3 "between" ["one", "other"] sp_between := .of (ok_between U_between T F_line_of) (PySem.W.mg_of X G a_between) k_between B_between
  have F_excess : FnB l.prog w K mg base (CXE l.prog w) 1 "excess" ["line", "point"] sp_excess := .of (ok_excess U_excess T ) (PySem.W.mg_of X G a_excess) k_excess B_excess
  have F_place : FnB l.prog w K mg base (CXE l.prog w) 2 "place" ["line", "point"] sp_place := .of (ok_place U_place T F_excess F_sign) (PySem.W.mg_of X G a_place) k_place B_place
  have F_meet : FnB l.prog w K mg base (CXE l.prog w) 3 "meet" ["one", "other"] sp_meet := .of (ok_meet U_meet T F_point_of) (PySem.W.mg_of X G a_meet) k_meet B_meet
  have F__law_feed : FnB l.prog w K mg base (CXE l.prog w) 1 "_law_feed" ["_law_script", "_law_k"] (sp_feed K) := .of (ok__law_feed U__law_feed T ) (PySem.W.mg_of X G a__law_feed) k__law_feed B__law_feed
  have F__law_next : FnB l.prog w K mg base (CXE l.prog w) 1 "_law_next" ["_law_feed_here", "_law_many"] sp_next := .of (ok__law_next U__law_next T ) (PySem.W.mg_of X G a__law_next) k__law_next B__law_next
  have F__law_great : FnB l.prog w K mg base (CXE l.prog w) 2 "_law_great" ["_law_feed_here", "_law_far"] sp_great := .of (ok__law_great U__law_great T F__law_next) (PySem.W.mg_of X G a__law_great) k__law_great B__law_great
  have F__law_spots : FnB l.prog w K mg base (CXE l.prog w) 3 "_law_spots" ["_law_feed_here"] sp_spots := .of (ok__law_spots U__law_spots T F__law_next F__law_great) (PySem.W.mg_of X G a__law_spots) k__law_spots B__law_spots
  exact ok_law U_law T F_turn F_nearer F_square F_place F_meet F_between F__law_feed F__law_spots
theorem walk {l : PySem.W.OpenLaw} {q : Program} {loose : List Str} {XP : (Str → Option Value) → Heap → Prop} {YP : World → Heap → Prop} {d : DefRec} {K : Params → PySem.W.Frag} (hn : l.most = some 63) (hdf : d.params.defaults = [])
    (hY : ∀ (w : World) (h : Heap), YP w h → (K w.params).In h)
    (F : ∀ (w : World) (mg : Str → Option Value) (fa : Addr) (h : Heap), (K w.params).In h → h.Ns mainGlobals mg → mg d.name = some (.ref fa) →
      ∃ fd : FuncData, (∀ (s : Shared) (u : Value), BindsTo s fd ⟨[u], []⟩ [("_law_script", u)]) ∧ ∀ base : Heap, (K w.params).In base → base.Ns mainGlobals mg → FnOk l.prog w (K w.params) mg base (CXE l.prog w) 4 fa fd ["_law_script"] (sp_law (K w.params))) :
    PySem.W.WalkO q loose XP YP l.row.toRowW d [] (fun f vs => PySem.call f vs) :=
  L2.walk_of (n := 63) (k := 4) (x := "_law_script") (CX := fun w => (CXE l.prog w)) (sp := fun w => sp_law (K w.params)) hn (by decide) hdf ⟨rfl, by decide, by decide⟩ hY F (fun _ _ a ns hl _ hS => ⟨a, ns, rfl, hS, hl, fun _ => rfl⟩) fun _ _ _ _ _ z => (by obtain ⟨_, _, _, _, _, _, _, _, _, _, _, _, _, hE⟩ := z; exact hE)
end LW
open PySem PySem.W PyProof.Rows
set_option maxRecDepth 100000 in
set_option maxHeartbeats 0 in
theorem PySem.Challenge.cw_nearlands_k09_whole_three_lines_meet_holds : PySem.Challenge.rw_nearlands_k09_whole_three_lines_meet.Holds := by
  w_on; o_law; k_head; (case hw => w_witness2)
  k_fill
  refine LW.walk (l := PySem.Challenge.rw_nearlands_k09_whole_three_lines_meet) rfl rfl (fun w h Y => PySem.W.kIn_of Y) ?F
  case F =>
    intro w mg fa h KX G hmg
    refine' LW.all_mk KX G hmg ?a_divisor ?l_divisor ?c_divisor ?k_divisor ?a_sign ?l_sign ?c_sign ?k_sign ?a_point_of ?l_point_of ?c_point_of ?k_point_of ?a_fraction_of ?l_fraction_of ?c_fraction_of ?k_fraction_of ?a_turn ?l_turn ?c_turn ?k_turn ?a_scaled_square ?l_scaled_square ?c_scaled_square ?k_scaled_square ?a_square ?l_square ?c_square ?k_square ?a_nearer ?l_nearer ?c_nearer ?k_nearer ?a_line_of ?l_line_of ?c_line_of ?k_line_of ?a_between ?l_between ?c_between ?k_between ?a_excess ?l_excess ?c_excess ?k_excess ?a_place ?l_place ?c_place ?k_place ?a_meet ?l_meet ?c_meet ?k_meet ?a__law_feed ?l__law_feed ?c__law_feed ?k__law_feed ?a__law_next ?l__law_next ?c__law_next ?k__law_next ?a__law_great ?l__law_great ?c__law_great ?k__law_great ?a__law_spots ?l__law_spots ?c__law_spots ?k__law_spots ?a_law ?l_law ?c_law ?k_law ?z_abs ?z_len ?z_min ?z_range ?z_set
    (case a_divisor => k_is)
    (case l_divisor => k_is)
    (case c_divisor => k_is)
    (case k_divisor => k_is)
    (case a_sign => k_is)
    (case l_sign => k_is)
    (case c_sign => k_is)
    (case k_sign => k_is)
    (case a_point_of => k_is)
    (case l_point_of => k_is)
    (case c_point_of => k_is)
    (case k_point_of => k_is)
    (case a_fraction_of => k_is)
    (case l_fraction_of => k_is)
    (case c_fraction_of => k_is)
    (case k_fraction_of => k_is)
    (case a_turn => k_is)
    (case l_turn => k_is)
    (case c_turn => k_is)
    (case k_turn => k_is)
    (case a_scaled_square => k_is)
    (case l_scaled_square => k_is)
    (case c_scaled_square => k_is)
    (case k_scaled_square => k_is)
    (case a_square => k_is)
    (case l_square => k_is)
    (case c_square => k_is)
    (case k_square => k_is)
    (case a_nearer => k_is)
    (case l_nearer => k_is)
    (case c_nearer => k_is)
    (case k_nearer => k_is)
    (case a_line_of => k_is)
    (case l_line_of => k_is)
    (case c_line_of => k_is)
    (case k_line_of => k_is)
    (case a_between => k_is)
    (case l_between => k_is)
    (case c_between => k_is)
    (case k_between => k_is)
    (case a_excess => k_is)
    (case l_excess => k_is)
    (case c_excess => k_is)
    (case k_excess => k_is)
    (case a_place => k_is)
    (case l_place => k_is)
    (case c_place => k_is)
    (case k_place => k_is)
    (case a_meet => k_is)
    (case l_meet => k_is)
    (case c_meet => k_is)
    (case k_meet => k_is)
    (case a__law_feed => k_is)
    (case l__law_feed => k_is)
    (case c__law_feed => k_is)
    (case k__law_feed => k_is)
    (case a__law_next => k_is)
    (case l__law_next => k_is)
    (case c__law_next => k_is)
    (case k__law_next => k_is)
    (case a__law_great => k_is)
    (case l__law_great => k_is)
    (case c__law_great => k_is)
    (case k__law_great => k_is)
    (case a__law_spots => k_is)
    (case l__law_spots => k_is)
    (case c__law_spots => k_is)
    (case k__law_spots => k_is)
    (case a_law => k_is)
    (case l_law => k_is)
    (case c_law => k_is)
    (case k_law => k_is)
    (case z_abs => k_is)
    (case z_len => k_is)
    (case z_min => k_is)
    (case z_range => k_is)
    (case z_set => k_is)
