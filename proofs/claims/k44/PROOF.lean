import PyProof.Rows.All
import Wide.All
import OpenK.AllK
import Wide.FinOn
import Lean
import PyProof.EqAt
import PyProof.EqKinds
import PyProof.TupleCall
import PyProof.ExcArgsOwn
import PyProof.ExcAttrAll.ValueError
import KE.KTryMore
import PyProof.NsDelKeeps
import PyProof.ExcBaseAll.ValueError
import KE.RegKTryMore
import KE.RegKIsAll
import KE.KRevSl
import PyProof.ZipIter
import PyProof.DictIter
import KE.KDictIter
import KE.KDictList
import PyProof.EnumStmt
import PyProof.WalksEnum
import PyProof.EnumMake
import PyProof.Rows.EnumRows
import PyProof.Rows.InDataRows
import PyProof.SumWalk
import PyProof.Rows.SeqCalls
import PyProof.WalksMore
import PyProof.Rows.SetFrom
import PyProof.SetRoads
import PyProof.Rows.TupMore
import PyProof.Rows.SortWalk
import PyProof.ListRange
import PyProof.MaxThree
import KE.KSortTup
import KE.KLam
import PyProof.ListRange
import PySem.Challenge.RW_nearlands_k44_whole_seam_never_goes_down
open List renaming getElem?_eq_some_iff → aa, length_map → ae, getElem?_eq_getElem → af, cons_append → ak, mem_cons → ao, length_append → aq, mem_of_getElem? → ar, map_append → au, mem_map → aw, size_toArray → ax, not_mem_nil → ay, length_take → az, mem_cons_of_mem → aB, getElem?_map → aC, map_cons → aD, getElem?_append_right → aH, append_nil → aI, length_drop → aJ, mem_append_right → aM, nil_append → aP, getElem?_append_left → aQ, getD_eq_getElem?_getD → aR, mem_append → aU, length_cons → aX, mem_cons_self → aY, nodup_append → ba, nodup_cons → bb, mem_append_left → bf, range → bg, length_nil → bo, getElem?_take_of_lt → bu, length_range → bC, take_length → bD, of_mem_zip → bE, getElem?_of_mem → bF, append_assoc → bG, flatMap_cons → bH, map_nil → bI, mem_singleton → bK, toArray → bP, Nodup → bT, drop_eq_getElem_cons → bU, take_succ → bV, take_of_length_le → cc, getElem?_zip_eq_some → cg, flatMap_append → cj, getElem?_eq_none → ck, cons → cp, take_append_drop → cq, pairwise_map → cu, dropLast_concat_getLast → cw, lookup_cons → cz, pairwise_iff_getElem → cB, map_take → cE, zip_cons_cons → cH, getElem?_drop → cI, getElem_inj → cJ, getElem_mem → cL, map_map → cN, mem_flatMap → cQ, pairwise_append → cR, mem_of_mem_take → cS, map_drop → cV, getElem?_cons_zero → cW, getElem?_cons_succ → cX, replicate_succ → cY, replicate_zero → cZ, mem_filterMap → dg, find?_cons → di, mem_iff_getElem? → dq, take_add_one → dA, drop_zero → dF, flatMap_nil → dG, nodup_range → dH, cons_inj_right → dO, drop_succ_cons → dP, map_congr_left → dQ, getElem?_replicate → dW, any_cons → dX, set_cons_zero → d8, set_cons_succ → d9, mem_of_mem_drop → e8, filterMap_cons → fb, forIn_cons → fc, getElem?_range → fe, length_zip → fg, mem_map_of_mem → fh, nodup_iff_pairwise_ne → fi, perm_ext_iff_of_nodup → fj, mem_range → fA, any_eq_false → fE, pairwise_filterMap → fM, dropLast → fN, getLast? → fO, all_eq_true → fR, getElem?_set_self → fT, drop_eq_nil_of_le → fX, length_replicate → f6, length_singleton → f7, getElem?_toArray → gd, reverse → gj, singleton_append → gm, perm_append_comm → gs, getElem?_set_ne → gv, mem_iff_getElem → gx, take_zero → gz, nodup_nil → gC, zip_nil_right → gF, append_of_mem → gH, zip_nil_left → gL, reverse_cons → gM, ext_getElem? → gO, filter_cons → gX, zipIdx_cons → gZ, map_snd_zip → hV, ext_getElem → hZ, getElem_zip → ig, map_fst_zip → ii, drop_length → ik, flatMap_def → io, mem_filter → ir, foldl_cons → ix, zipIdx_nil → iy, range_succ → iB, replicate → iG, forIn_nil → iH, all_cons → iJ, map → iO
open PySem.W renaming Frag → ah, keepIn → aE, nsIn → aF, codeIn → aG, fnOf → aK, mg_of → aL, mg_none_of → bS, findIn → de, methodObj → fD, mroIn → fL, cellsFrom_some → fV, instObj → fY, OpenLaw → gh, lookIn → gy, callWith_K → gE, specialIn → gN, plainGet → gV, takesIn → iw, clsIn → iL, WalkO → iM
open Nat renaming le_refl → av, lt_of_lt_of_le → aO, ne_of_lt → aW, zero_le → bp, lt_of_le_of_lt → bJ, le_trans → bW, lt_irrefl → ci, ne_of_gt → cT, lt_succ_of_lt → du, pow_le_pow_right → dE, zero_add → eJ, lt_trans → fo, lt_or_eq_of_le → ft, eq_of_mul_eq_mul_left → fC, lt_succ_self → fQ, le_of_lt → fZ, le_of_dvd → gJ, add_comm → gS, succ_ne_self → gY, gcd_mul_left → ie, min_eq_right → ij, le_succ → iu, not_lt_zero → iA, min_eq_left → iE
open Int renaming gcd → aA, mul_eq_zero → aV, mul_pos → be, eq_of_mul_eq_mul_right → bA, gcd_eq_natAbs_gcd_natAbs → bB, mul_neg_of_pos_of_neg → bO, mul_zero → bX, mul_ediv_cancel_left → bZ, emod_lt_of_pos → b7, zero_add → b8, mul_neg_of_neg_of_pos → cf, mul_nonneg → cx, mul_lt_mul_of_pos_right → cy, le_of_lt → cA, emod_nonneg → cF, mul_le_mul_of_nonneg_right → cG, le_refl → cM, zero_mul → dm, one_pos → dr, dvd_trans → dB, lt_trichotomy → dC, mul_one → dJ, gcd_eq_zero_iff → dM, ediv_mul_cancel → dN, mul_nonpos_of_nonneg_of_nonpos → dS, mul_nonneg_of_nonpos_of_nonpos → dU, lt_or_gt_of_ne → dZ, cast_ofNat_Int → eo, gcd_dvd_right → eF, ne_of_gt → eN, natAbs_dvd_natAbs → eQ, gcd_dvd_left → eU, mul_ediv_cancel' → eZ, fdiv_eq_ediv_of_nonneg → fk, natAbs_natCast → fu, pow_succ → fv, natAbs_mul → fB, toNat_natCast → fF, pos_of_mul_pos_right → fJ, eq_ofNat_of_zero_le → fP, neg_fdiv_neg → fS, le_trans → f9, mul_comm → gi, mul_ne_zero → gq, mul_assoc → gI, gcd_mul_right → gP, add_zero → gT, le_total → gU, gcd_mul_left → ic, dvd_coe_gcd → iC, neg_mul_neg → iD, toNat → iR
open PySem renaming Spec → aN, boot_len → bq, mem_of_lookup → cU, Builtin → gG, call → iI
open Or renaming inl → aS, inr → gR
open Option renaming some → aZ, map_eq_some_iff → df, isSome_some → dh, isSome_iff_exists → dR, map_some → dY, join_some → eV, toList_some → fw, toList_none → gK, getD_none → gW, toList → iP, none → iS
open Array renaming getElem?_eq_getElem → bL, getD_eq_getD_getElem? → dj, length_toList → dI, getElem?_toList → gg, getD → gu, append_assoc → gD, toList_inj → hJ, toList_map → hU, toList → iQ
open Bool renaming false_ne_true → bQ, false_eq_true → bR, and_eq_true → cK, true_eq_false → eh, not_eq_true' → eI, eq_iff_iff → gc, and_eq_true_iff → gw, false_and → iF, false_or → iK
open Prod renaming ext → b9, mk → d7, fst → iN
open PyProof.Rows renaming callWith_type1 → cO
open List.Pairwise renaming nil → fH
open PySem.F renaming plainAttrs_list → fK
open PySem.AutoSeq1 renaming list_insert_list_int_val_1 → fW
open List.Perm renaming refl → gB
set_option Elab.async false
set_option linter.all false
set_option maxRecDepth 100000
namespace L2
open PySem PySem.Spec PyProof.Rows
noncomputable abbrev Key:=Sum Int Str
noncomputable def uA:Key ->Value ->Bool
 | .inl k,v=>Value.isInt k v
 | .inr x,v=>Value.isStrOf x v
noncomputable def CW(w:World):Key ->Int
 | .inl k=>hashInt k
 | .inr x=>hashStr w x
theorem jJ:∀{k:Key} {v:Value},uA k v=true ->(∃i t,k=Sum.inl i /\ v=Value.int i t)∨(∃x t,k=Sum.inr x /\ v=Value.str x t)
 | .inl i,v,h=>by
  obtain⟨t,e⟩:=Value.isInt_shape (k:=i) (v:=v) h
  exact .inl ⟨i,t,rfl,e⟩
 | .inr x,v,h=>by
  obtain⟨t,e⟩:=Value.isStrOf_shape (x:=x) (v:=v) h
  exact .inr ⟨x,t,rfl,e⟩
theorem vZ(i:Int)(t:Tok):uA (.inl i) (.int i t)=true:=by simp[uA,Value.isInt]
theorem vY(x:Str)(t:Tok):uA (.inr x) (.str x t)=true:=by simp[uA,Value.isStrOf]
theorem Bm(a b:Int):decide ((Sum.inl a:Key)=Sum.inl b)=(a==b):=by
 by_cases e:a=b
 ·subst e;simp
 ·have h:¬(Sum.inl a:Key)=Sum.inl b:=fun q=>e (Sum.inl.inj q)
  rw[decide_eq_false h];exact(beq_eq_false_iff_ne.mpr e).symm
theorem Bj(a b:Str):decide ((Sum.inr a:Key)=Sum.inr b)=decide (a=b):=by
 by_cases e:a=b
 ·subst e;simp
 ·have h:¬(Sum.inr a:Key)=Sum.inr b:=fun q=>e (Sum.inr.inj q)
  rw[decide_eq_false h,decide_eq_false e]
theorem Bl(a:Int)(b:Str):decide ((Sum.inl a:Key)=Sum.inr b)=false:=decide_eq_false (fun q=>nomatch q)
theorem Bk(a:Str)(b:Int):decide ((Sum.inr a:Key)=Sum.inl b)=false:=decide_eq_false (fun q=>nomatch q)
noncomputable def jS(prog:Program)(w:World):PySem.KeyKind prog w Key where
 is:=uA
 hash:=CW w
 inj:=fun v a b ha hb=>by
  rcases jJ ha with⟨i,t,rfl,rfl⟩|⟨x,t,rfl,rfl⟩
  ·rcases jJ hb with⟨j,u,rfl,e⟩|⟨y,u,rfl,e⟩
   ·injection e with e1 _;rw[e1]
   ·exact nomatch e
  ·rcases jJ hb with⟨j,u,rfl,e⟩|⟨y,u,rfl,e⟩
   ·exact nomatch e
   ·injection e with e1 _;rw[e1]
 byValue:=fun k v h=>by
  rcases jJ h with⟨i,t,rfl,rfl⟩|⟨x,t,rfl,rfl⟩<;>rfl
 pyHash:=fun hv h=>by
  rcases jJ hv with⟨i,t,rfl,rfl⟩|⟨x,t,rfl,rfl⟩
  ·exact wpAny_pyHash_int h
  ·exact wpAny_pyHash_str h
 eqBool:=fun hu hv h=>by
  rcases jJ hu with⟨i,t,rfl,rfl⟩|⟨x,t,rfl,rfl⟩
  ·rcases jJ hv with⟨j,u,rfl,rfl⟩|⟨y,u,rfl,rfl⟩
   ·rw[Bm] at h;exact wpAny_eqBool_int h
   ·rw[Bl] at h;exact SeqAt.EqAt.int_str i t y u _ _ _ _ h
  ·rcases jJ hv with⟨j,u,rfl,rfl⟩|⟨y,u,rfl,rfl⟩
   ·rw[Bk] at h;exact SeqAt.EqAt.str_int x t j u _ _ _ _ h
   ·rw[Bj] at h;exact wpAny_eqBool_str h
 «strs»:=fun k x t v h=>by
  rcases jJ h with⟨i,u,rfl,e⟩|⟨y,u,rfl,e⟩
  ·exact nomatch e
  ·injection e with e1 _
   subst e1;cases v<;>rfl
theorem rV(prog:Program)(w:World)(i:Int)(t:Tok):(jS prog w).is (.inl i) (.int i t)=true:=vZ i t
theorem rT(prog:Program)(w:World)(x:Str)(t:Tok):(jS prog w).is (.inr x) (.str x t)=true:=vY x t
end L2
namespace L2
open PySem PySem.Spec PyProof.Rows
inductive V where
 |non|bl (b:Bool)|int (i:Int)|str (x:Str)|byt (b:Array UInt8)|flt (b:UInt64)|ref (a:Addr)|ty (n:String)
 deriving DecidableEq
noncomputable def RelV:V ->Value ->Prop
 | .non,u=>u=Value.none
 | .bl b,u=>u=Value.bool b
 | .int i,u=>∃t,u=Value.int i t
 | .str x,u=>∃t,u=Value.str x t
 | .byt b,u=>∃t,u=Value.bytes b t
 | .flt b,u=>∃t,u=Value.float b t
 | .ref a,u=>u=Value.ref a
 | .ty n,u=>u=Value.type n
noncomputable abbrev Vals:List V ->List Value ->Prop:=Paired RelV
theorem Vals.length{xs:List V}{us:List Value}(r:Vals xs us):xs.length=us.length:=Paired.length r
theorem Vals.get:∀{xs:List V} {us:List Value} {i:Nat} {x:V},Vals xs us ->xs[i]? =some x -> ∃u,us[i]? =some u /\ RelV x u
 |_,_,_,_,.nil,e=>by simp at e
 |_,_,0,_,.cons r _,e=>by simp at e;subst e;exact⟨_,rfl,r⟩
 |_,_,i+1,x,.cons _ t,e=>by
  obtain⟨u,h1,h2⟩:=Vals.get (i:=i) (x:=x) t (by simpa using e)
  exact⟨u,by simpa using h1,h2⟩
theorem Vals.set{x:V}{u:Value}(r:RelV x u):∀{xs:List V} {us:List Value} (i:Nat),Vals xs us ->Vals (xs.set i x) (us.set i u)
 |_,_,_,.nil=> .nil
 |_,_,0,.cons _ t=> .cons r t
 |_,_,i+1,.cons q t=> .cons q (Vals.set r i t)
theorem Vals.append:∀{xs ys:List V} {us ws:List Value},Vals xs us ->Vals ys ws ->Vals (xs++ys) (us++ws)
 |_,_,_,_,.nil,s=>s
 |_,_,_,_,.cons r t,s=> .cons r (Vals.append t s)
theorem Vals.take:∀{xs:List V} {us:List Value} (n:Nat),Vals xs us ->Vals (xs.take n) (us.take n)
 |_,_,0,_=> .nil
 |_,_,_+1,.nil=> .nil
 |_,_,n+1,.cons r t=> .cons r (Vals.take n t)
theorem Vals.drop:∀{xs:List V} {us:List Value} (n:Nat),Vals xs us ->Vals (xs.drop n) (us.drop n)
 |_,_,0,r=>r
 |_,_,_+1,.nil=> .nil
 |_,_,n+1,.cons _ t=>Vals.drop n t
noncomputable def RelO:Option V ->Option Value ->Prop
 |some v,some u=>RelV v u
 |none,none=>True
 |_,_=>False
noncomputable def KV{κ:Type}:List (κ×V) ->List (κ×Value) ->Prop:=Paired fun(p:κ×V) (q:κ×Value)=>p.1=q.1 /\ RelV p.2 q.2
noncomputable def kV:Key ->V
 | .inl i=> .int i
 | .inr x=> .str x
inductive HO where
 |lst (xs:List V)
 |tup (xs:List V)
 |dK (kvs:List (Key×V))|dT (kvs:List (List Key×V))
 |set (S:Int ->Bool) (n:Nat)
 |ins (C dx:Addr) (fs:List (Str×V))
 |own (x:Addr)
 |xd (fs:List (Str×V))
 |met (f x:Addr)
 |rng (lo hi:Int)
 |frz (o:Obj) (u:HO)
 |tbl (ps:Array Value)
 |ext (φ:Heap ->Prop)
noncomputable abbrev Hp:=Addr ->Option HO
noncomputable def upd(H:Hp)(a:Addr)(o:HO):Hp:=fun b=>if b=a then some o else H b
theorem iX{H:Hp}{a:Addr}{o:HO}:upd H a o a=some o:=by unfold upd;rw[if_pos rfl]
theorem i7{H:Hp}{a b:Addr}{o:HO}(h:b≠a):upd H a o b=H b:=by unfold upd;rw[if_neg h]
theorem yV{H:Hp}{a:Addr}{o u:HO}:upd (upd H a o) a u=upd H a u:=by
 funext b;unfold upd;split<;>rfl
theorem lA{H:Hp}{a b:Addr}{o u:HO}(h:H a=some o)(h':H b=some u)(d:o≠u):a≠b:=by
 intro e;subst e;rw[h] at h';exact d (aZ.inj h')
theorem i4{H:Hp}{a b:Addr}{o:HO}(h:H a=some o)(h':H b=none):a≠b:=by
 intro e;subst e;rw[h] at h';cases h'
section
variable (P:Program) (w:World)
noncomputable def ObjOk(H:Hp)(h:Heap)(a:Addr):HO ->Prop
 | .lst xs=>xs.length<=sizeLine /\ ∃(its:List Value) (n:Nat),Vals xs its /\ h.get? a=some {cls:= .type "list",data:= .seq its.toArray n}
 | .tup xs=>xs.length<=sizeLine /\ ∃its:List Value,Vals xs its /\ IsTup h a its.toArray
 | .dK kvs=>kvs.length<=sizeLine /\ (a==sysModules)=false /\ ∃vs,KV kvs vs /\ h.DictOf (jS P w) a vs
 | .dT kvs=>kvs.length<=sizeLine /\ (a==sysModules)=false /\ ∃xs:List (List Key×Addr×Value),
   Paired (fun(p:List Key×V) (q:List Key×Addr×Value)=>p.1=q.1 /\ H q.2.1=some (.tup (p.1.map kV)) /\ RelV p.2 q.2.2) kvs xs /\
   ∃o es ep,h.get? a=some o /\ o.ExactDict /\ o.data= .dict es ep /\ es.toList=xs.map (entryOfKey (tupleKind (jS P w))) /\ (xs.map (·.1)).Nodup
 | .set S n=>h.SetOf (intKind P w) a S n
 | .ins C dx fs=>H dx=some (.own a) /\ fs.length<=1000 /\ dx≠a /\ h.get? a=some (fY C dx) /\
   ∃mA,h.Ns1 dx mA /\ (∀f,RelO (fs.lookup f) (mA f)) /\ PySem.Within mA (fs.map (·.1))
 | .own _=>∃o,h.get? a=some o
 | .xd fs=>∃mA,h.Ns1 a mA /\ ∀f,RelO (fs.lookup f) (mA f)
 | .rng lo hi=>∃t u v,h.get? a=some {cls:= .type "range",data:= .fields #[.int lo t,.int hi u,.int 1 v]}
 | .frz o u=>h.get? a=some o /\ ObjOk H h a u
 | .tbl ps=>∃qs:Array Value,h.get? a=some {cls:= .none,data:= .fields qs} /\ (qs= #[]∨∃(c:Addr) (oc:Obj) (l d:Value) (q:Str) (t u:Tok) (vs:Array Value),
   ps= #[l,d,.str q t] /\ qs= #[l,d,.ref c] /\ H c=some (.frz oc (.own 0)) /\ oc.data= .fields vs /\ vs[1]? =some (.str q u))
 | .met f x=>h.get? a=some (fD (.ref f) (.ref x))
 | .ext φ=>φ h /\ (∃o,h.get? a=some o) /\ ∀h1 h2:Heap,φ h1 ->(∀o,h1.get? a=some o ->h2.get? a=some o) ->φ h2
noncomputable def HOk(H:Hp)(h:Heap):Prop:=∀a o,H a=some o ->ObjOk P w H h a o
end
section
variable {P:Program} {w:World} {H H':Hp} {h h':Heap} {a:Addr} {o:HO}
theorem ObjOk.lt(x:ObjOk P w H h a o):a<h.objs.size:=by
 cases o with
 |lst xs=>obtain⟨_,_,_,_,e⟩:=x;exact Heap.lt_size e
 |tup xs=>obtain⟨_,_,_,p⟩:=x;exact p.lt
 |dK kvs=>obtain⟨_,_,_,_,o,_,_,e,_⟩:=x;exact Heap.lt_size e
 |dT kvs=>obtain⟨_,_,_,_,o,_,_,e,_⟩:=x;exact Heap.lt_size e
 |set S n=>obtain⟨o,_,_,_,e,_⟩:=x;exact Heap.lt_size e
 |ins C dx fs=>obtain⟨_,_,_,e,_⟩:=x;exact Heap.lt_size e
 |own y=>obtain⟨_,e⟩:=x;exact Heap.lt_size e
 |xd fs=>obtain⟨_,⟨_,_,_,e,_⟩,_⟩:=x;exact Heap.lt_size e
 |rng lo hi=>obtain⟨_,_,_,e⟩:=x;exact Heap.lt_size e
 |frz ob u=>obtain⟨e,_⟩:=x;exact Heap.lt_size e
 |tbl ps=>obtain⟨_,e,_⟩:=x;exact Heap.lt_size e
 |met f y=>exact Heap.lt_size (show h.get? a=some _ from x)
 |ext φ=>obtain⟨_,⟨_,e⟩,_⟩:=x;exact Heap.lt_size e
theorem Paired.mapP{α β:Type}{F G:α ->β ->Prop}:∀{l₁:List α} {l₂:List β},Paired F l₁ l₂ ->(∀a b,F a b ->G a b) ->Paired G l₁ l₂
 |_,_,.nil,_=> .nil
 |_,_,.cons r t,f=> .cons (f _ _ r) (Paired.mapP t f)
noncomputable def AN:HO ->Bool
 | .tup _=>true
 | .frz _ _=>true
 |_=>false
noncomputable abbrev Still:={o:HO //AN o=true}
theorem ObjOk.stay(x:ObjOk P w H h a o)(k:∀b u,(b=a∨H b=some (.own a)) ->h.get? b=some u ->h'.get? b=some u)
  (ho:∀b,H b=some (.own a) ->H' b=some (.own a)) (ht:∀(b:Addr) (xs:Still),H b=some xs.1 ->H' b=some xs.1):ObjOk P w H' h' a o:=by
 induction o with
 |lst xs=>obtain⟨z,its,n,r,e⟩:=x;exact⟨z,its,n,r,k _ _ (.inl rfl) e⟩
 |tup xs=>obtain⟨z,its,r,ob,e,c⟩:=x;exact⟨z,its,r,ob,k _ _ (.inl rfl) e,c⟩
 |dK kvs=>obtain⟨z,y,vs,r,ob,es,ep,e,c⟩:=x;exact⟨z,y,vs,r,ob,es,ep,k _ _ (.inl rfl) e,c⟩
 |dT kvs=>
  obtain⟨z,y,xs,r,ob,es,ep,e,c⟩:=x
  exact⟨z,y,xs,Paired.mapP r fun p q z=>⟨z.1,ht _ ⟨.tup _,rfl⟩ z.2.1,z.2.2⟩,ob,es,ep,k _ _ (.inl rfl) e,c⟩
 |set S n=>obtain⟨ob,es,ep,t,e,c⟩:=x;exact⟨ob,es,ep,t,k _ _ (.inl rfl) e,c⟩
 |ins C dx fs=>
  obtain⟨d,z,ne,e,mA,⟨od,es,ep,e2,c⟩,r⟩:=x
  exact⟨ho _ d,z,ne,k _ _ (.inl rfl) e,mA,⟨od,es,ep,k _ _ (.inr d) e2,c⟩,r⟩
 |own y=>obtain⟨ob,e⟩:=x;exact⟨ob,k _ _ (.inl rfl) e⟩
 |xd fs=>obtain⟨mA,⟨od,es,ep,e,c⟩,r⟩:=x;exact⟨mA,⟨od,es,ep,k _ _ (.inl rfl) e,c⟩,r⟩
 |rng lo hi=>obtain⟨t,u,v,e⟩:=x;exact⟨t,u,v,k _ _ (.inl rfl) e⟩
 |frz ob u ih=>obtain⟨e,q⟩:=x;exact⟨k _ _ (.inl rfl) e,ih q⟩
 |tbl ps=>
  obtain⟨qs,e,z⟩:=x
  refine⟨qs,k _ _ (.inl rfl) e,z.imp id fun⟨c,oc,l,d,q,t,u,vs,e1,e2,e3,e4⟩=>⟨c,oc,l,d,q,t,u,vs,e1,e2,ht c ⟨.frz oc (.own 0),rfl⟩ e3,e4⟩⟩
 |met f y=>
  have e:h.get? a=some (fD (.ref f) (.ref y)):=x
  show h'.get? a=some (fD (.ref f) (.ref y))
  exact k a _ (.inl rfl) e
 |ext φ=>obtain⟨p,⟨o,e⟩,st⟩:=x;exact⟨st _ _ p fun o q=>k _ _ (.inl rfl) q,⟨o,k _ _ (.inl rfl) e⟩,st⟩
theorem HOk.lt(x:HOk P w H h)(e:H a=some o):a<h.objs.size:=(x a o e).lt
theorem HOk.fresh(x:HOk P w H h)(e:h.objs.size<=a):H a=none:=by
 cases q:H a with
 |none=>rfl
 |some u=>exact absurd (aO (x.lt q) e) (ci _)
theorem HOk.kept(x:HOk P w H h)(k:∀b u,h.get? b=some u ->h'.get? b=some u):HOk P w H h':=fun a o e=>
 (x a o e).stay (fun b u _ q=>k b u q) (fun _ q=>q) fun _ _ q=>q
theorem HOk.laid(x:HOk P w H h)(k:∀b u,h.get? b=some u ->h'.get? b=some u)(hp:h.objs.size<=a)(new:ObjOk P w (upd H a o) h' a o):HOk P w (upd H a o) h':=fun b u e=>by
 have hn:=x.fresh hp
 by_cases hb:b=a
 ·subst hb;rw[iX] at e;cases e;exact new
 ·rw[i7 hb] at e;exact(x b u e).stay (fun c v _ q=>k c v q) (fun c q=>by rw[i7 (i4 q hn)];exact q) fun c xs q=>by rw[i7 (i4 q hn)];exact q
end
noncomputable def Rd(H:Hp)(a:Addr)(u:HO):Prop:=H a=some u∨∃o,H a=some (.frz o u)
theorem Rd.of{H:Hp}{a:Addr}{u:HO}(h:H a=some u):Rd H a u:= .inl h
theorem Rd.ok{P:Program}{w:World}{H:Hp}{h:Heap}{a:Addr}{u:HO}(r:Rd H a u)(x:HOk P w H h):ObjOk P w H h a u:=by
 rcases r with r|⟨o,r⟩
 ·exact x a u r
 ·obtain⟨_,q⟩:=x a _ r
  exact q
noncomputable def Mut:Option HO ->Prop
 |some (.lst _)=>True
 |some (.dK _)=>True
 |some (.dT _)=>True
 |some (.set _ _)=>True
 |some (.ins _ _ _)=>True
 |some (.ext _)=>True
 |_=>False
section
variable {P:Program} {w:World} {H:Hp} {h h':Heap} {x e:Addr} {o':HO}
theorem HOk.write(ok:HOk P w H h)(mu:Mut (H x))(he:e=x∨H e=some (.own x))(k:∀b u,b≠e ->h.get? b=some u ->h'.get? b=some u)(heo:∃u,h'.get? e=some u)
  (new:ObjOk P w (upd H x o') h' x o'):HOk P w (upd H x o') h':=fun b u q=>by
 have nown:∀c y,H c=some (.own y) ->c≠x:=fun c y r z=>by subst z;rw[r] at mu;exact mu
 have ntup:∀c (xs:Still),H c=some xs.1 ->c≠x:=fun c xs r z=>by
  subst z;rw[r] at mu;obtain⟨o,ho⟩:=xs
  cases o<;>first|exact mu|cases ho
 by_cases hb:b=x
 ·subst hb;rw[iX] at q;cases q;exact new
 ·rw[i7 hb] at q
  by_cases hbe:b=e
  ·have q':H b=some (.own x):=by
    rcases he with z|z
    ·exact absurd (hbe.trans z) hb
    ·rw[hbe];exact z
   rw[q] at q';cases q';obtain⟨v,hv⟩:=heo
   exact⟨v,by rw[hbe];exact hv⟩
  ·refine(ok b u q).stay (fun c v hc r=>k c v ?_ r) (fun c r=>by rw[i7 (nown c b r)];exact r) fun c xs r=>by rw[i7 (ntup c xs r)];exact r
   rcases hc with rfl|hc
   ·exact hbe
   ·rintro rfl;rcases he with z|z
    ·exact nown c b hc z
    ·rw[hc] at z;cases z;exact hb rfl
end
structure Un(fs ex:List Addr)(H H':Hp)(h h':Heap):Prop where
 keep:∀b o,h.get? b=some o ->H b=none ->b∉fs ->b∉ex ->h'.get? b=some o
 slot:∀b o,h.get? b=some o ->H b=none ->b∈fs ->b∉ex -> ∃sl,h'.get? b=some {o with slots:=sl}
 free:∀b o,h.get? b=some o ->H b=none ->b∉ex ->H' b=none
 there:∀b o,h.get? b=some o ->b∉ex -> ∃o',h'.get? b=some o'
 tups:∀b xs,H b=some (.tup xs) ->H' b=some (.tup xs)
 frzs:∀b o u,H b=some (.frz o u) ->H' b=some (.frz o u)
 tbls:∀b ps,H b=some (.tbl ps) -> ∃more,H' b=some (.tbl (ps++more))
section
variable {fs fs' ex ex':List Addr} {H H1 H2:Hp} {h h1 h2 h':Heap} {a x e:Addr} {o:HO}
theorem Un.any(u:Un fs ex H H1 h h1){b:Addr}{ob:Obj}(q:h.get? b=some ob)(n:H b=none)(hx:b∉ex):∃sl,h1.get? b=some {ob with slots:=sl}:=by
 by_cases hb:b∈fs
 ·exact u.slot b ob q n hb hx
 ·exact⟨ob.slots,u.keep b ob q n hb hx⟩
theorem Un.trans(a:Un fs ex H H1 h h1)(b:Un fs ex H1 H2 h1 h2):Un fs ex H H2 h h2 where
 keep:=fun c ob q n hc hx=>b.keep c ob (a.keep c ob q n hc hx) (a.free c ob q n hx) hc hx
 slot:=fun c ob q n hc hx=>by
  obtain⟨sl,e1⟩:=a.slot c ob q n hc hx
  obtain⟨sl',e2⟩:=b.slot c _ e1 (a.free c ob q n hx) hc hx
  exact⟨sl',e2⟩
 free:=fun c ob q n hx=>by
  obtain⟨o',e1⟩:=a.there c ob q hx
  exact b.free c o' e1 (a.free c ob q n hx) hx
 there:=fun c ob q hx=>by
  obtain⟨o',e1⟩:=a.there c ob q hx
  exact b.there c o' e1 hx
 tups:=fun c xs q=>b.tups c xs (a.tups c xs q)
 frzs:=fun c ob xs q=>b.frzs c ob xs (a.frzs c ob xs q)
 tbls:=fun c ps q=>by
  obtain⟨m1,e1⟩:=a.tbls c ps q
  obtain⟨m2,e2⟩:=b.tbls c _ e1
  exact⟨m1++m2,by rw[e2,gD]⟩
theorem Un.kept(k:∀b u,h.get? b=some u ->h'.get? b=some u):Un fs ex H H h h':=
 ⟨fun b ob q _ _ _=>k b ob q,fun b ob q _ _ _=>⟨ob.slots,k b ob q⟩,fun _ _ _ n _=>n,fun b ob q _=>⟨ob,k b ob q⟩,fun _ _ q=>q,fun _ _ _ q=>q,fun _ ps q=>⟨#[],by rw[q];simp⟩⟩
theorem Un.refl:Un fs ex H H h h:=Un.kept fun _ _ q=>q
theorem Un.laid(k:∀b u,h.get? b=some u ->h'.get? b=some u)(hp:h.objs.size<=a)(hn:H a=none):Un fs ex H (upd H a o) h h' where
 keep:=fun b u q _ _ _=>k b u q
 slot:=fun b u q _ _ _=>⟨u.slots,k b u q⟩
 free:=fun b u q n _=>by rw[i7 (aW (aO (Heap.lt_size q) hp))];exact n
 there:=fun b u q _=>⟨u,k b u q⟩
 tups:=fun b xs q=>by rw[i7 (i4 q hn)];exact q
 frzs:=fun b u xs q=>by rw[i7 (i4 q hn)];exact q
 tbls:=fun b ps q=>⟨#[],by rw[i7 (i4 q hn),q];simp⟩
theorem Un.write(mu:Mut (H x))(he:e=x∨H e=some (.own x))(k:∀b u,b≠e ->h.get? b=some u ->h'.get? b=some u)(heo:∃u,h'.get? e=some u):Un fs ex H (upd H x o) h h':=by
 have hx:∀b,H b=none ->b≠x:=fun b n z=>by subst z;rw[n] at mu;exact mu
 have hb:∀b,H b=none ->b≠e:=fun b n z=>by
  subst z;rcases he with r|r
  ·exact hx b n r
  ·rw[n] at r;cases r
 have hm:∀b u,H b=some u -> ¬Mut (some u) ->b≠x:=fun b u q nm z=>by subst z;rw[q] at mu;exact nm mu
 refine⟨fun b u q n _ _=>k b u (hb b n) q,fun b u q n _ _=>⟨u.slots,k b u (hb b n) q⟩,fun b u q n _=>by rw[i7 (hx b n)];exact n,fun b u q _=> ?_,
  fun b xs q=>by rw[i7 (hm b _ q fun z=>z)];exact q,fun b u xs q=>by rw[i7 (hm b _ q fun z=>z)];exact q,fun b ps q=>⟨#[],by rw[i7 (hm b _ q fun z=>z),q];simp⟩⟩
 by_cases hbe:b=e
 ·subst hbe;exact heo
 ·exact⟨u,k b u hbe q⟩
theorem Un.mono(u:Un fs ex H H1 h h1)(hs:∀b∈fs,b∈fs')(hx:∀b∈ex,b∈ex'):Un fs' ex' H H1 h h1:=
 ⟨fun b ob q n hb he=>u.keep b ob q n (fun z=>hb (hs b z)) fun z=>he (hx b z),fun _ _ q n _ he=>u.any q n fun z=>he (hx _ z),fun b ob q n he=>u.free b ob q n fun z=>he (hx b z),fun b ob q he=>u.there b ob q fun z=>he (hx b z),u.tups,u.frzs,u.tbls⟩
end
noncomputable def trk(h:Heap)(H:Hp):List Addr:=(bg h.objs.size).filter fun a=>(H a).isSome
noncomputable def v7(h:Heap)(H:Hp):Heap:=PySem.W.hideAll h (trk h H)
theorem v6(h:Heap)(H:Hp):(v7 h H).objs.size=h.objs.size:=PySem.W.hideAll_size _ _
theorem yb{h:Heap}{H:Hp}{b:Addr}{o:Obj}(e:h.get? b=some o)(n:H b=none):(v7 h H).get? b=some o:=
 PySem.W.hideAll_get _ e fun hm=>by
  have q:(H b).isSome=true:=(ir.mp hm).2
  rw[n] at q;simp at q
theorem vN{h:Heap}{H:Hp}{b:Addr}{o:Obj}(e:(v7 h H).get? b=some o):h.get? b=some o /\ H b=none:=by
 have e':h.get? b=some o:=PySem.W.of_hideAll (trk h H) e
 refine⟨e',?_⟩;cases q:H b with
 |none=>rfl
 |some x=>
  have hm:b∈trk h H:=ir.mpr ⟨fA.mpr (Heap.lt_size e'),by simp[q]⟩
  have z:(v7 h H).get? b=none:=PySem.W.hideAll_none (trk h H) hm
  rw[z] at e;cases e
noncomputable def Ag(g h:Heap)(L:Addr):List (Addr×Obj):=(bg h.objs.size).filterMap fun a=>if a=L∨(g.get? a).isSome=true then none else(h.get? a).map fun o=>(a,o)
noncomputable def rest(g h:Heap)(L d:Addr):List (Addr×Obj):=(Ag g h L).filter fun p=>decide (p.1≠d)
end L2
namespace L2
open PySem PySem.Spec PyProof.Rows
structure Mod(K:ah)(mg:Str ->Option Value)(base:Heap):Prop where
 kin:K.In base
 glob:base.Ns mainGlobals mg
 blt:∃mb,base.Ns builtinsNs mb /\ ∀x:Str,x≠"__name__" ->mb x=bootBuiltins x
 nolimit:base.NoLimit
structure Cx where
 prog:Program
 w:World
 K:ah
 mg:Str ->Option Value
 base:Heap
 A:Around
 N:List Str
 s₀:Shared
 H₀:Hp
 env:Env
 outer:List Env
 stack:List Env
 ex:List Addr
 fn:Str ->Bool
 calm:Bool
 pn:List (Addr×Obj)
 xe:Value ->Shared ->Prop
noncomputable def frs(l:List Env):List Addr:=l.filterMap (·.frame)
noncomputable abbrev Cx.fs(X:Cx):List Addr:=frs X.outer
noncomputable def Vis(sc:Scope)(x:Str):Prop:=sc.names.lookup x=some .local∨sc.names.lookup x=some .cell∨sc.names.lookup x=some .free
noncomputable def Loc(sc:Scope)(x:Str):Prop:=sc.names.lookup x=some .local∨sc.names.lookup x=some .cell
noncomputable def Look(env:Env)(h:Heap)(m:Str ->Option Value)(x:Str)(u:Value):Prop:=
 (env.kindOf x=some .local /\ m x=some u)∨((env.kindOf x=some .cell∨env.kindOf x=some .free) /\ ∃c,env.cells.lookup x=some c /\ h.IsCell c (some u))
structure Cx.Ok(X:Cx):Prop where
 mod:Mod X.K X.mg X.base
 kind:X.env.scope.kind= .function
 glob:X.env.globals=mainGlobals
 blt:X.env.builtins=builtinsNs
 above:X.s₀.heap.objs.size<=X.env.locals
 inj:∀x y c,X.env.cells.lookup x=some c ->X.env.cells.lookup y=some c ->x=y
 has:∀x,(X.env.kindOf x=some .cell∨X.env.kindOf x=some .free) -> ∃c,X.env.cells.lookup x=some c
 cab:∀x c,X.fn x=true ->X.env.cells.lookup x=some c ->X.s₀.heap.objs.size<=c
 hd:X.calm=true ->X.A.handled=none
 frames:X.A.frames=some X.stack
 stk:X.stack=X.outer∨(X.stack=X.env::X.outer /\ X.env.frame=some X.env.locals)
 exf:∀b∈X.ex,b≠X.env.locals /\ ∀x c,X.env.cells.lookup x=some c ->c≠b
 bs:∀b o,X.base.get? b=some o ->X.s₀.heap.get? b=some o /\ X.H₀ b=none
 bsz:X.base.objs.size<=X.s₀.heap.objs.size
 noex:∀b o,X.base.get? b=some o ->b∉X.ex
 exfs:∀b∈X.ex,b∉X.fs
 funs:X.s₀.heap.FunFrames X.base X.outer
 frf:∀b∈X.fs,X.H₀ b=none
structure Inv(X:Cx)(pins:List (Addr×Obj))(σ:List (Option V))(H:Hp)(s:Shared):Prop where
 ok:X.Ok
 os:s.os=X.s₀.os
 bare:AllBare s.gens
 base:Un X.fs X.ex X.H₀ H X.s₀.heap s.heap
 loc:∃m,s.heap.Ns X.env.locals m /\ ∀(i:Nat) (x:Str) (v:V),X.N[i]? =some x ->σ[i]? =some (some v) ->Vis X.env.scope x -> ∃u,RelV v u /\ Look X.env s.heap m x u
 cell:∀x c,X.env.cells.lookup x=some c -> ∃v,s.heap.IsCell c v
 free:H X.env.locals=none
 freeC:∀x c,X.env.cells.lookup x=some c ->H c=none
 pin:∀p∈X.pn++pins,s.heap.get? p.1=some p.2 /\ H p.1=none /\ p.1≠X.env.locals /\ p.1∉X.fs /\ ∀v,p.2.data≠ .cell v
 hok:HOk X.prog X.w H s.heap
 len:σ.length=X.N.length
section
variable {X:Cx} {pins:List (Addr×Obj)} {σ:List (Option V)} {H H':Hp} {s:Shared} {h':Heap}
theorem Cx.Ok.nofr(ok:X.Ok){b:Addr}{o:Obj}(e:X.base.get? b=some o):b∉X.fs:=fun hb=>by
 have:=(ok.funs.mem hb).1
 rw[e] at this;cases this
theorem Inv.bs(I:Inv X pins σ H s):∀b o,X.base.get? b=some o ->s.heap.get? b=some o /\ H b=none:=fun b o e=>
 ⟨I.base.keep b o (I.ok.bs b o e).1 (I.ok.bs b o e).2 (I.ok.nofr e) (I.ok.noex b o e),I.base.free b o (I.ok.bs b o e).1 (I.ok.bs b o e).2 (I.ok.noex b o e)⟩
theorem Inv.bk(I:Inv X pins σ H s):∀b o,X.base.get? b=some o ->s.heap.get? b=some o:=fun b o e=>(I.bs b o e).1
theorem Inv.mod(I:Inv X pins σ H s):Mod X.K X.mg X.base:=I.ok.mod
theorem Inv.kIn(I:Inv X pins σ H s):X.K.In s.heap:=I.ok.mod.kin.keeps I.bk
theorem Inv.nolimit(I:Inv X pins σ H s):s.heap.NoLimit:=I.ok.mod.nolimit.keeps I.bk
theorem Inv.fr(I:Inv X pins σ H s):∃m,Fr X.base X.env.locals s.heap m:=
 let⟨m,hn,_⟩:=I.loc
 ⟨m,hn,I.bk,bW I.ok.bsz I.ok.above⟩
theorem Inv.lt(I:Inv X pins σ H s):X.env.locals<s.heap.objs.size:=let⟨_,hn,_⟩:=I.loc;hn.lt
theorem Inv.sz(I:Inv X pins σ H s):X.s₀.heap.objs.size<=s.heap.objs.size:=bW I.ok.above (fZ I.lt)
theorem Inv.nofs(I:Inv X pins σ H s){a:Addr}(h:s.heap.objs.size<=a):a∉X.fs:=fun hb=>by
 obtain⟨_,o,ho,_⟩:=I.ok.funs.mem hb
 exact absurd (aO (Heap.lt_size ho) (bW I.sz h)) (ci _)
theorem Inv.cne(I:Inv X pins σ H s):∀x c,X.env.cells.lookup x=some c ->c≠X.env.locals:=fun x c e z=>by
 obtain⟨v,o,ho,hd⟩:=I.cell x c e
 obtain⟨m,⟨o',es,ep,ho',hd',_⟩,_⟩:=I.loc
 rw[z,ho'] at ho;cases ho;rw[hd'] at hd;cases hd
theorem Inv.funs(I:Inv X pins σ H s):s.heap.FunFrames X.base X.outer:=by
 have all:∀(l:List Env),(∀b∈frs l,b∈X.fs) ->X.s₀.heap.FunFrames X.base l ->s.heap.FunFrames X.base l:=by
  intro l
  induction l with
  |nil=>intro _ _;trivial
  |cons env r ih=>
   intro hs hl;obtain⟨hk,⟨L,o,hf,hn,ho,hd⟩,hr⟩:=hl
   have hL:L∈X.fs:=hs L (by unfold frs;rw[fb,hf];exact aY)
   obtain⟨sl,e⟩:=I.base.slot L o ho (I.ok.frf L hL) hL fun z=>I.ok.exfs L z hL
   exact⟨hk,⟨L,_,hf,hn,e,hd⟩,ih (fun b hb=>hs b (by unfold frs;rw[fb,hf];exact aB _ hb)) hr⟩
 exact all X.outer (fun _ hb=>hb) I.ok.funs
theorem Inv.stack(I:Inv X pins σ H s):s.heap.FunFrames X.base X.stack:=by
 rcases I.ok.stk with e|⟨e,hf⟩
 ·rw[e];exact I.funs
 ·rw[e];obtain⟨m,hn,_⟩:=I.loc
  refine .cons (by rw[I.ok.kind];decide) hf hn ?_ I.funs
  exact Heap.get?_none_of_le (bW I.ok.bsz I.ok.above)
theorem Inv.stkSub(I:Inv X pins σ H s):∀b∈frs X.stack,b∈X.env.locals::X.fs:=fun b hb=>by
 rcases I.ok.stk with e|⟨e,hf⟩
 ·rw[e] at hb;exact aB _ hb
 ·rw[e] at hb;unfold frs at hb;rw[fb,hf] at hb;exact hb
theorem Inv.stkFree(I:Inv X pins σ H s):∀b∈frs X.stack,H b=none:=fun b hb=>by
 rcases ao.mp (I.stkSub b hb) with e|hb
 ·rw[e];exact I.free
 ·obtain⟨_,o,ho,_⟩:=I.ok.funs.mem hb
  exact I.base.free b o ho (I.ok.frf b hb) fun z=>I.ok.exfs b z hb
theorem Inv.step{g':Array GenState}{t':Nat}{d':Drawn}{ch:List Addr}(I:Inv X pins σ H s)
  (hch:∀b∈ch,(b∈X.ex∨X.s₀.heap.objs.size<=b) /\ b≠X.env.locals /\ (∀x c,X.env.cells.lookup x=some c ->c≠b) /\ ∀p∈X.pn++pins,p.1≠b)
  (keep:∀b o,b≠X.env.locals ->b∉X.fs ->b∉ch ->s.heap.get? b=some o ->H b=none ->h'.get? b=some o)
  (slot:∀b o,b≠X.env.locals ->b∈X.fs ->b∉ch ->s.heap.get? b=some o ->H b=none -> ∃sl,h'.get? b=some {o with slots:=sl}) (free:∀b o,b∉ch ->s.heap.get? b=some o ->H b=none ->H' b=none)
  (there:∀b o,b∉ch ->s.heap.get? b=some o -> ∃o',h'.get? b=some o')
  (tups:∀b xs,H b=some (.tup xs) ->H' b=some (.tup xs)) (frzs:∀b o u,H b=some (.frz o u) ->H' b=some (.frz o u)) (tbls:∀b ps,H b=some (.tbl ps) -> ∃more,H' b=some (.tbl (ps++more)))
  (ns:∀m,s.heap.Ns X.env.locals m ->h'.Ns X.env.locals m) (hok:HOk X.prog X.w H' h') (hg:AllBare g'):
  Inv X pins σ H' {s with heap:=h',gens:=g',drawn:=d',toks:=t'}:=by
 have neL:∀b o,X.s₀.heap.get? b=some o ->b≠X.env.locals:=fun b o e=>aW (aO (Heap.lt_size e) I.ok.above)
 have neC:∀b o,X.s₀.heap.get? b=some o ->b∉X.ex ->b∉ch:=fun b o e hx hb=>by
  rcases(hch b hb).1 with z|z
  ·exact hx z
  ·exact absurd (aO (Heap.lt_size e) z) (ci _)
 have cellK:∀x c,X.env.cells.lookup x=some c -> ∀v,s.heap.IsCell c v ->h'.IsCell c v:=fun x c e v ⟨o,ho,hd⟩=>by
  have nch:c∉ch:=fun z=>(hch c z).2.2.1 x c e rfl
  by_cases hc:c∈X.fs
  ·obtain⟨sl,q⟩:=slot c o (I.cne x c e) hc nch ho (I.freeC x c e)
   exact⟨_,q,hd⟩
  ·exact⟨o,keep c o (I.cne x c e) hc nch ho (I.freeC x c e),hd⟩
 refine⟨I.ok,I.os,hg,⟨fun b o e n hb hx=> ?_,fun b o e n hb hx=> ?_,fun b o e n hx=> ?_,fun b o e hx=> ?_,fun b xs e=>tups b xs (I.base.tups b xs e),fun b o xs e=>frzs b o xs (I.base.frzs b o xs e),fun b ps e=> ?_⟩,?_,fun x c e=> ?_,?_,fun x c e=> ?_,fun p hp=> ?_,hok,I.len⟩
 ·exact keep b o (neL b o e) hb (neC b o e hx) (I.base.keep b o e n hb hx) (I.base.free b o e n hx)
 ·obtain⟨sl,e1⟩:=I.base.slot b o e n hb hx
  obtain⟨sl',e2⟩:=slot b _ (neL b o e) hb (neC b o e hx) e1 (I.base.free b o e n hx)
  exact⟨sl',e2⟩
 ·obtain⟨o',e1⟩:=I.base.there b o e hx
  exact free b o' (neC b o e hx) e1 (I.base.free b o e n hx)
 ·obtain⟨o',e1⟩:=I.base.there b o e hx
  exact there b o' (neC b o e hx) e1
 ·obtain⟨m1,e1⟩:=I.base.tbls b ps e
  obtain⟨m2,e2⟩:=tbls b _ e1
  exact⟨m1++m2,by rw[e2,gD]⟩
 ·obtain⟨m,hn,hl⟩:=I.loc
  refine⟨m,ns m hn,fun i x v e1 e2 e3=> ?_⟩;obtain⟨u,r,l⟩:=hl i x v e1 e2 e3
  refine⟨u,r,?_⟩;rcases l with l|⟨k,c,e,z⟩
  ·exact .inl l
  ·exact .inr ⟨k,c,e,cellK x c e _ z⟩
 ·obtain⟨v,z⟩:=I.cell x c e
  exact⟨v,cellK x c e v z⟩
 ·obtain⟨m,⟨o,_,_,ho,_⟩,_⟩:=I.loc
  exact free _ o (fun z=>(hch _ z).2.1 rfl) ho I.free
 ·obtain⟨v,o,ho,hd⟩:=I.cell x c e
  exact free c o (fun z=>(hch c z).2.2.1 x c e rfl) ho (I.freeC x c e)
 ·obtain⟨e,n,ne,nf,d⟩:=I.pin p hp
  have nch:p.1∉ch:=fun z=>(hch p.1 z).2.2.2 p hp rfl
  exact⟨keep p.1 p.2 ne nf nch e n,free p.1 p.2 nch e n,ne,nf,d⟩
theorem Inv.un{t':Nat}(I:Inv X pins σ H s)(u:Un X.fs [] H H' s.heap h')(hok:HOk X.prog X.w H' h'):Inv X pins σ H' {s with heap:=h',toks:=t'}:=by
 obtain⟨m,⟨o,es,ep,ho,r⟩,_⟩:=id I.loc
 obtain⟨sl,hL⟩:=u.any ho I.free (by simp)
 exact I.step (g':=s.gens) (d':=s.drawn) (ch:=[]) (fun _ z=>nomatch z) (fun b o _ hb _ e n=>u.keep b o e n hb (by simp)) (fun b o _ hb _ e n=>u.slot b o e n hb (by simp)) (fun b o _ e n=>u.free b o e n (by simp)) (fun b o _ e=>u.there b o e (by simp)) u.tups u.frzs u.tbls (fun m' hm=>by
  obtain⟨o',es',ep',ho',r'⟩:=hm
  rw[ho] at ho';cases ho';exact⟨_,es',ep',hL,r'⟩) hok I.bare
theorem Inv.call{g':Array GenState}{t':Nat}{d':Drawn}{ch:List Addr}(I:Inv X pins σ H s)(u:Un (frs X.stack) ch H H' s.heap h')(hok:HOk X.prog X.w H' h')(hg:AllBare g')
  (hch:∀b∈ch,(b∈X.ex∨X.s₀.heap.objs.size<=b) /\ b≠X.env.locals /\ (∀x c,X.env.cells.lookup x=some c ->c≠b) /\ ∀p∈X.pn++pins,p.1≠b):
  Inv X pins σ H' {s with heap:=h',gens:=g',drawn:=d',toks:=t'}:=by
 obtain⟨m,⟨o,es,ep,ho,r⟩,_⟩:=id I.loc
 obtain⟨sl,hL⟩:=u.any ho I.free fun z=>(hch _ z).2.1 rfl
 exact I.step (ch:=ch) hch (fun b o hL hb hc e n=>u.keep b o e n (fun z=>(ao.mp (I.stkSub b z)).elim hL hb) hc) (fun b o _ _ hc e n=>u.any e n hc) (fun b o hc e n=>u.free b o e n hc) (fun b o hc e=>u.there b o e hc) u.tups u.frzs u.tbls (fun m' hm=>by
  obtain⟨o',es',ep',ho',r'⟩:=hm
  rw[ho] at ho';cases ho';exact⟨_,es',ep',hL,r'⟩) hok hg
theorem Inv.turned{t':Nat}{it:Addr}(I:Inv X pins σ H s)(k:∀b o,b≠it ->s.heap.get? b=some o ->h'.get? b=some o)(hn:H it=none)(hL:it≠X.env.locals)
  (h1:it∈X.ex∨X.s₀.heap.objs.size<=it) (h2:∀x c,X.env.cells.lookup x=some c ->c≠it) (h3:∀p∈X.pn++pins,p.1≠it):Inv X pins σ H {s with heap:=h',toks:=t'}:=by
 have nit:∀b u,H b=some u ->b≠it:=fun b u e z=>by rw[z,hn] at e;cases e
 refine I.step (g':=s.gens) (d':=s.drawn) (ch:=[it]) (fun b hb=> ?_) (fun b o _ _ hc e _=>k b o (fun z=>hc (by simp[z])) e) (fun b o _ _ hc e _=>⟨o.slots,k b o (fun z=>hc (by simp[z])) e⟩) (fun _ _ _ _ n=>n)
  (fun b o hc e=>⟨o,k b o (fun z=>hc (by simp[z])) e⟩) (fun _ _ e=>e) (fun _ _ _ e=>e) (fun b ps e=>⟨#[],by rw[e];simp⟩) (fun m hm=> ?_) (fun b u e=> ?_) I.bare
 ·have e:b=it:=by simpa using hb
  subst e;exact⟨h1,hL,h2,h3⟩
 ·obtain⟨o,es,ep,ho,r⟩:=hm
  exact⟨o,es,ep,k _ o (Ne.symm hL) ho,r⟩
 ·refine(I.hok b u e).stay (fun c v hc q=>k c v ?_ q) (fun _ q=>q) fun _ _ q=>q
  rcases hc with z|z
  ·rw[z];exact nit b u e
  ·exact nit c _ z
theorem Inv.tok(I:Inv X pins σ H s)(t:Nat):Inv X pins σ H {s with toks:=t}:=I.un (h':=s.heap) (t':=t) Un.refl I.hok
theorem Inv.kept{t':Nat}(I:Inv X pins σ H s)(k:∀b u,s.heap.get? b=some u ->h'.get? b=some u):Inv X pins σ H {s with heap:=h',toks:=t'}:=I.un (Un.kept k) (I.hok.kept k)
theorem Inv.laid{a:Addr}{o:HO}{t':Nat}(I:Inv X pins σ H s)(k:∀b u,s.heap.get? b=some u ->h'.get? b=some u)(hp:s.heap.objs.size<=a)(new:ObjOk X.prog X.w (upd H a o) h' a o):
  Inv X pins σ (upd H a o) {s with heap:=h',toks:=t'}:=I.un (Un.laid k hp (I.hok.fresh hp)) (I.hok.laid k hp new)
theorem Inv.write{x e:Addr}{o:HO}{t':Nat}(I:Inv X pins σ H s)(mu:Mut (H x))(he:e=x∨H e=some (.own x))(k:∀b u,b≠e ->s.heap.get? b=some u ->h'.get? b=some u)(heo:∃u,h'.get? e=some u)
  (new:ObjOk X.prog X.w (upd H x o) h' x o):Inv X pins σ (upd H x o) {s with heap:=h',toks:=t'}:=I.un (Un.write mu he k heo) (I.hok.write mu he k heo new)
theorem Inv.weak{σ':List (Option V)}(I:Inv X pins σ H s)(hl:σ'.length=σ.length)(w:∀(i:Nat) v,σ'[i]? =some (some v) ->σ[i]? =some (some v)):Inv X pins σ' H s:=
 ⟨I.ok,I.os,I.bare,I.base,let⟨m,hn,hl'⟩:=I.loc;⟨m,hn,fun i x v e1 e2 e3=>hl' i x v e1 (w i v e2) e3⟩,I.cell,I.free,I.freeC,I.pin,I.hok,hl.trans I.len⟩
theorem Inv.pins_of{pins':List (Addr×Obj)}(I:Inv X pins σ H s)(h:∀p∈pins',s.heap.get? p.1=some p.2 /\ H p.1=none /\ p.1≠X.env.locals /\ p.1∉X.fs /\ ∀v,p.2.data≠ .cell v):Inv X pins' σ H s:=
 ⟨I.ok,I.os,I.bare,I.base,I.loc,I.cell,I.free,I.freeC,fun p hp=>(aU.mp hp).elim (fun z=>I.pin p (bf _ z)) (h p),I.hok,I.len⟩
theorem tH{N:List Str}(hN:N.Nodup){i j:Nat}{x:Str}(a:N[i]? =some x)(b:N[j]? =some x):i=j:=by
 obtain⟨h1,e1⟩:=aa.mp a
 obtain⟨h2,e2⟩:=aa.mp b
 exact(cJ hN).mp (e1.trans e2.symm)
theorem qB{M:Model}{A:Around}{E:Value ->Shared ->Prop}{i:Nat}{x:Str}{v:V}{u:Value}{Q:Unit ->Shared ->Prop}(I:Inv X pins σ H s)(hN:X.N.Nodup)(hi:X.N[i]? =some x)(hx:Loc X.env.scope x)(r:RelV v u)
  (h:∀s',Inv X pins (σ.set i (some v)) H s' ->(∃a,Heap.SameBut a s.heap s'.heap /\ (a=X.env.locals∨X.env.cells.lookup x=some a)) ->Q () s') (hf:X.fn x=true∨X.env.scope.names.lookup x=some .local:=by first|exact .inl rfl|exact .inr rfl|assumption):wpAny M A (storeName X.env x u) Q E s:=by
 obtain⟨m,hn,hl⟩:=id I.loc
 have hcls:(X.env.scope.kind== .class||(X.env.scope.kind== .module&&X.env.locals !=X.env.globals))=false:=by rw[I.ok.kind];rfl
 have hiσ:i<σ.length:=by rw[I.len];exact(aa.mp hi).1
 have cne:=I.cne
 have tracked:∀{a:Addr} {h':Heap},(∃o,s.heap.get? a=some o /\ H a=none) ->Heap.SameBut a s.heap h' ->HOk X.prog X.w H h':=fun {a h'} ha hs b ob e=>by
  obtain⟨_,_,hfree⟩:=ha
  refine(I.hok b ob e).stay (fun c w' hc q=>(hs.2 c ?_).trans q) (fun _ q=>q) fun _ _ q=>q
  rintro rfl;rcases hc with rfl|hc
  ·rw[hfree] at e;cases e
  ·rw[hfree] at hc;cases hc
 rcases hx with hk|hk
 ·refine wpAny_storeName_local hk hn (fun h' hn' hs=> ?_) hcls;obtain⟨oL,_,_,hoL,_⟩:=id hn
  refine h _ ⟨I.ok,I.os,I.bare,⟨fun b o e n hb hx=> ?_,fun b o e n hb hx=> ?_,I.base.free,fun b o e hx=> ?_,I.base.tups,I.base.frzs,I.base.tbls⟩,⟨_,hn',fun j y v' e1 e2 e3=> ?_⟩,fun y c e=> ?_,I.free,I.freeC,fun p hp=> ?_,tracked ⟨oL,hoL,I.free⟩ hs,by simpa using I.len⟩ ⟨_,hs,.inl rfl⟩
  ·exact(hs.2 b (aW (aO (Heap.lt_size e) I.ok.above))).trans (I.base.keep b o e n hb hx)
  ·obtain⟨sl,e1⟩:=I.base.slot b o e n hb hx
   exact⟨sl,(hs.2 b (aW (aO (Heap.lt_size e) I.ok.above))).trans e1⟩
  ·obtain⟨o',e1⟩:=I.base.there b o e hx
   exact⟨o',(hs.2 b (aW (aO (Heap.lt_size e) I.ok.above))).trans e1⟩
  ·by_cases hj:j=i
   ·subst hj;rw[hi] at e1;cases e1;rw[fT hiσ] at e2;cases e2;exact⟨u,r,.inl ⟨hk,by simp⟩⟩
   ·rw[gv (Ne.symm hj)] at e2;obtain⟨u',r',q⟩:=hl j y v' e1 e2 e3
    refine⟨u',r',?_⟩;rcases q with⟨k,e⟩|⟨k,c,e,z⟩
    ·refine .inl ⟨k,?_⟩;have:y≠x:=fun e=>hj (tH hN e1 (e▸hi))
     simp[this,e]
    ·exact .inr ⟨k,c,e,z.sameBut hs (cne y c e)⟩
  ·obtain⟨w',z⟩:=I.cell y c e
   exact⟨w',z.sameBut hs (cne y c e)⟩
  ·obtain⟨e,n,ne,nf,d⟩:=I.pin p hp
   exact⟨(hs.2 p.1 ne).trans e,n,ne,nf,d⟩
 ·have hfn:X.fn x=true:=by
   rcases hf with z|z
   ·exact z
   ·rw[z] at hk;cases hk
  obtain⟨c,hc⟩:=I.ok.has x (.inl hk)
  obtain⟨w',z⟩:=I.cell x c hc
  refine wpAny_storeName_cell I.ok.kind hk hc z (fun h' hc' hs=> ?_);obtain⟨oc,hoc,hocd⟩:=id z
  refine h {s with heap:=h'} ⟨I.ok,I.os,I.bare,⟨fun b o e n hb hx=> ?_,fun b o e n hb hx=> ?_,I.base.free,fun b o e hx=> ?_,I.base.tups,I.base.frzs,I.base.tbls⟩,⟨m,hn.sameBut hs (Ne.symm (cne x c hc)),fun j y v' e1 e2 e3=> ?_⟩,fun y c' e=> ?_,I.free,I.freeC,fun p hp=> ?_,tracked ⟨oc,hoc,I.freeC x c hc⟩ hs,by simpa using I.len⟩ ⟨c,hs,.inr hc⟩
  ·exact(hs.2 b (aW (aO (Heap.lt_size e) (I.ok.cab x c hfn hc)))).trans (I.base.keep b o e n hb hx)
  ·obtain⟨sl,e1⟩:=I.base.slot b o e n hb hx
   exact⟨sl,(hs.2 b (aW (aO (Heap.lt_size e) (I.ok.cab x c hfn hc)))).trans e1⟩
  ·obtain⟨o',e1⟩:=I.base.there b o e hx
   exact⟨o',(hs.2 b (aW (aO (Heap.lt_size e) (I.ok.cab x c hfn hc)))).trans e1⟩
  ·by_cases hj:j=i
   ·subst hj;rw[hi] at e1;cases e1;rw[fT hiσ] at e2;cases e2;exact⟨u,r,.inr ⟨.inl hk,c,hc,hc'⟩⟩
   ·rw[gv (Ne.symm hj)] at e2;obtain⟨u',r',q⟩:=hl j y v' e1 e2 e3
    refine⟨u',r',?_⟩;rcases q with q|⟨k,c',e,z'⟩
    ·exact .inl q
    ·refine .inr ⟨k,c',e,z'.sameBut hs ?_⟩;rintro rfl;exact hj (tH hN e1 (I.ok.inj _ _ _ e hc▸hi))
  ·by_cases hcc:c'=c
   ·subst hcc;exact⟨_,hc'⟩
   ·obtain⟨w2,z2⟩:=I.cell y c' e
    exact⟨w2,z2.sameBut hs hcc⟩
  ·obtain⟨e,n,ne,nf,d⟩:=I.pin p hp
   refine⟨(hs.2 p.1 ?_).trans e,n,ne,nf,d⟩;intro q;rw[q,hoc] at e;have q':oc=p.2:=aZ.inj e
   exact d w' (by rw[<-q'];exact hocd)
theorem lW{M:Model}{A:Around}{E:Value ->Shared ->Prop}{i:Nat}{x:Str}{v:V}{u:Value}{Q:Unit ->Shared ->Prop}(I:Inv X pins σ H s)(hN:X.N.Nodup)(hi:X.N[i]? =some x)(hx:Loc X.env.scope x)(r:RelV v u)
  (h:∀s',Inv X pins (σ.set i (some v)) H s' ->Q () s') (hf:X.fn x=true∨X.env.scope.names.lookup x=some .local:=by first|exact .inl rfl|exact .inr rfl|assumption):wpAny M A (storeName X.env x u) Q E s:=
 qB I hN hi hx r (fun s' I' _=>h s' I') hf
theorem Inv.call'{s':Shared}{ch:List Addr}(I:Inv X pins σ H s)(ho:s'.os=s.os)(u:Un (frs X.stack) ch H H' s.heap s'.heap)(hok:HOk X.prog X.w H' s'.heap)(hg:AllBare s'.gens)
  (hch:∀b∈ch,(b∈X.ex∨X.s₀.heap.objs.size<=b) /\ b≠X.env.locals /\ (∀x c,X.env.cells.lookup x=some c ->c≠b) /\ ∀p∈X.pn++pins,p.1≠b):Inv X pins σ H' s':=by
 obtain⟨h',g',d',t',o'⟩:=s'
 have e:o'=s.os:=ho
 subst e;exact I.call (g':=g') (t':=t') (d':=d') u hok hg hch
end
noncomputable abbrev XK:=Value ->Option Addr ->Hp ->Prop
noncomputable abbrev St:=List (Option V)
noncomputable abbrev VK:=V ->Hp ->Prop
noncomputable abbrev TE:=St ->Hp ->VK ->Prop
noncomputable abbrev TT:=St ->Hp ->(Bool ->Hp ->Prop) ->Prop
noncomputable abbrev TA:=St ->Hp ->(List V ->Hp ->Prop) ->Prop
structure Ends where
 nx:St ->Hp ->Prop
 rt:VK
 bk:St ->Hp ->Prop:=fun _ _=>False
 ct:St ->Hp ->Prop:=fun _ _=>False
noncomputable abbrev TS:=Ends ->St ->Hp ->Prop
noncomputable def EP(X:Cx)(pins:List (Addr×Obj))(σ:St)(Q:VK)(u:Value)(s':Shared):Prop:=∃v H',Inv X pins σ H' s' /\ RelV v u /\ Q v H'
noncomputable def TP(X:Cx)(pins:List (Addr×Obj))(σ:St)(Q:Bool ->Hp ->Prop)(b:Bool)(s':Shared):Prop:=∃H',Inv X pins σ H' s' /\ Q b H'
noncomputable def AP(X:Cx)(pins:List (Addr×Obj))(σ:St)(Q:List V ->Hp ->Prop)(us:List Value)(s':Shared):Prop:=∃vs H',Inv X pins σ H' s' /\ Vals vs us /\ Q vs H'
noncomputable def SP(X:Cx)(pins:List (Addr×Obj))(D:Ends)(f:Flow)(s':Shared):Prop:=
 match f with
 | .next=>∃σ' H',Inv X pins σ' H' s' /\ D.nx σ' H'
 | .brk=>∃σ' H',Inv X pins σ' H' s' /\ D.bk σ' H'
 | .cont=>∃σ' H',Inv X pins σ' H' s' /\ D.ct σ' H'
 | .ret u=>∃v σ' H',Inv X pins σ' H' s' /\ RelV v u /\ D.rt v H'
noncomputable def PE(X:Cx)(e:Expr)(t:TE):Prop:=
 ∀(pins:List (Addr×Obj)) (s:Shared) (σ:St) (H:Hp) (Q:VK),Inv X pins σ H s ->t σ H Q ->wpAny (model X.prog X.w) X.A (eval e X.env) (EP X pins σ Q) X.xe s
noncomputable def PT(X:Cx)(e:Expr)(t:TT):Prop:=
 ∀(pins:List (Addr×Obj)) (s:Shared) (σ:St) (H:Hp) (Q:Bool ->Hp ->Prop),Inv X pins σ H s ->t σ H Q ->wpAny (model X.prog X.w) X.A (isTrue e X.env (eval e X.env)) (TP X pins σ Q) X.xe s
noncomputable def PW(X:Cx)(e:Expr)(t:TT):Prop:=
 ∀(whole:Sem Value) (pins:List (Addr×Obj)) (s:Shared) (σ:St) (H:Hp) (Q:Bool ->Hp ->Prop),Inv X pins σ H s ->t σ H Q ->wpAny (model X.prog X.w) X.A (isTrue e X.env whole) (TP X pins σ Q) X.xe s
theorem PW.pt{X:Cx}{e:Expr}{t:TT}(h:PW X e t):PT X e t:=h _
noncomputable def PA(X:Cx)(es:List Expr)(t:TA):Prop:=
 ∀(pos:Pos) (pins:List (Addr×Obj)) (s:Shared) (σ:St) (H:Hp) (Q:List V ->Hp ->Prop),Inv X pins σ H s ->t σ H Q ->wpAny (model X.prog X.w) X.A (spliced (backTo pos (starEach es X.env))) (AP X pins σ Q) X.xe s
noncomputable def PS(X:Cx)(st:Stmt)(t:TS):Prop:=
 ∀(pins:List (Addr×Obj)) (s:Shared) (σ:St) (H:Hp) (D:Ends),Inv X pins σ H s ->t D σ H ->wpAny (model X.prog X.w) X.A (exec st X.env) (SP X pins D) X.xe s
noncomputable def PSs(X:Cx)(st:List Stmt)(t:TS):Prop:=
 ∀(pins:List (Addr×Obj)) (s:Shared) (σ:St) (H:Hp) (D:Ends),Inv X pins σ H s ->t D σ H ->wpAny (model X.prog X.w) X.A (execs st X.env) (SP X pins D) X.xe s
theorem thn{α:Type}{t:Sem α}{Q Q':α ->Shared ->Prop}{M:Model}{A:Around}{E:Value ->Shared ->Prop}{s:Shared}(h:wpAny M A t Q E s)(hQ:∀a s,Q a s ->Q' a s):wpAny M A t Q' E s:=wpAny_mono h hQ fun _ _ x=>x
end L2
namespace L2
open PySem PySem.Spec PyProof.Rows
section
variable {X:Cx}
noncomputable def Ak(i:Nat):TE:=fun σ H Q=>∃v,σ[i]? =some (some v) /\ Q v H
noncomputable def tC(v:V):TE:=fun _ H Q=>Q v H
theorem A6{i:Nat}{x:Str}{pos:Pos}(hN:X.N[i]? =some x)(hv:Vis X.env.scope x)(hd:(x==("__debug__":Str))=false:=by decide)(hcd:(x==("__classdict__":Str))=false:=by decide):PE X (.Name x pos) (Ak i):=by
 intro pins s σ H Q I h;obtain⟨v,e,h⟩:=h
 obtain⟨m,hn,hl⟩:=I.loc
 obtain⟨u,r,l⟩:=hl i x v hN e hv
 have fin:EP X pins σ Q u s:=⟨v,H,I,r,h⟩
 rcases l with⟨hk,hm⟩|⟨hk,c,hc,hcell⟩
 ·exact wpAny_Name (wpAny_loadName_local I.ok.kind hk hn hm fin) hd
 ·rcases hk with hk|hk
  ·exact wpAny_Name (wpAny_loadName_cell I.ok.kind hk hc hcell fin) hd
  ·exact wpAny_Name (wpAny_loadName_free I.ok.kind hk hc hcell fin hcd) hd
theorem iU{i j pos}:PE X (.Constant (.int i) j pos) (tC (.int i)):=fun _ _ _ H _ I h=>wpAny_Constant_int ⟨.int i,H,I.tok _,⟨_,rfl⟩,h⟩
theorem zt{b j pos}:PE X (.Constant (.bool b) j pos) (tC (.bl b)):=fun _ _ _ H _ I h=>Constant_bool ⟨.bl b,H,I,rfl,h⟩
theorem yG{j pos}:PE X (.Constant .none j pos) (tC .non):=fun _ _ _ H _ I h=>Constant_none ⟨.non,H,I,rfl,h⟩
theorem kB{x j pos}:PE X (.Constant (.str x) j pos) (tC (.str x)):=fun _ _ _ H _ I h=>Calls.Constant_str ⟨.str x,H,I.tok _,⟨_,rfl⟩,h⟩
noncomputable def Gl(X:Cx)(x:Str):Prop:=X.env.kindOf x=some .globalImplicit
theorem vT{E:Value ->Shared ->Prop}{pins:List (Addr×Obj)}{s:Shared}{σ:St}{H:Hp}{x:Str}{u:Value}{pos:Pos}{Q:Value ->Shared ->Prop}(I:Inv X pins σ H s)(hg:Gl X x)(hm:X.mg x=some u)(h:Q u s)
  (hd:(x==("__debug__":Str))=false:=by decide):wpAny (model X.prog X.w) X.A (eval (.Name x pos) X.env) Q E s:=
 Calls.Name_function_global I.ok.kind hg (Calls.loadGlobal_global (by rw[I.ok.glob];exact I.mod.glob.keeps I.bk) hm h) hd
theorem oH{E:Value ->Shared ->Prop}{pins:List (Addr×Obj)}{s:Shared}{σ:St}{H:Hp}{x:Str}{u:Value}{pos:Pos}{Q:Value ->Shared ->Prop}(I:Inv X pins σ H s)(hg:Gl X x)(hm:X.mg x=none)(hv:bootBuiltins x=some u)(h:Q u s)
  (hn:x≠"__name__":=by decide) (hd:(x==("__debug__":Str))=false:=by decide):wpAny (model X.prog X.w) X.A (eval (.Name x pos) X.env) Q E s:=by
 obtain⟨mb,h1,h2⟩:=I.mod.blt
 exact Calls.Name_function_global I.ok.kind hg (Calls.loadGlobal_builtin (by rw[I.ok.glob];exact I.mod.glob.keeps I.bk) hm (by rw[I.ok.blt];exact h1.keeps I.bk) ((h2 x hn).trans hv) h) hd
theorem vH{x:Str}{v:V}{u:Value}{pos:Pos}(hg:Gl X x)(hm:X.mg x=some u)(r:RelV v u)(hd:(x==("__debug__":Str))=false:=by decide):PE X (.Name x pos) (tC v):=
 fun _ _ _ H _ I h=>vT I hg hm ⟨v,H,I,r,h⟩ hd
variable {a b:Expr} {ta tb:TE} {pos:Pos}
noncomputable def PC(X:Cx)(op:CmpOp)(a b:Expr)(t:TE):Prop:=
 ∀(pins:List (Addr×Obj)) (s:Shared) (σ:St) (H:Hp) (Q:VK),Inv X pins σ H s ->t σ H Q ->
  wpAny (model X.prog X.w) X.A (eval a X.env) (fun v s₁=>wpAny (model X.prog X.w) X.A (eval b X.env) (fun u s₂=>wpAny (model X.prog X.w) X.A (compareOp op v u) (EP X pins σ Q) X.xe s₂) X.xe s₁) X.xe s
theorem xN(b:Expr){op:CmpOp}(h:op≠ .In)(h2:op≠ .NotIn):behindInMarks op b=false:=by
 have e1:(op==CmpOp.In)=false:=by cases op<;>first|rfl|exact absurd rfl h
 have e2:(op==CmpOp.NotIn)=false:=by cases op<;>first|rfl|exact absurd rfl h2
 cases b<;>simp[behindInMarks,e1,e2]
noncomputable def AK(ta:TE):TE:=fun σ H Q=>ta σ H fun x H1=>Q (.bl (decide (x= .non))) H1
noncomputable def wY(ta:TE):TE:=fun σ H Q=>ta σ H fun x H1=>Q (.bl (!decide (x= .non))) H1
theorem RelV.none_iff{x:V}{v:Value}(r:RelV x v):(v==Value.none)=decide (x= .non):=by
 cases x with
 |non=>cases r;rfl
 |bl _=>cases r;rfl
 |int _=>obtain⟨t,rfl⟩:=r;rfl
 |str _=>obtain⟨t,rfl⟩:=r;rfl
 |byt _=>obtain⟨t,rfl⟩:=r;rfl
 |flt _=>obtain⟨t,rfl⟩:=r;rfl
 |ref _=>cases r;rfl
 |ty _=>cases r;rfl
theorem A9{j pos'}(ha:PE X a ta):PC X .Is a (.Constant .none j pos') (AK ta):=by
 intro pins s σ H Q I h;refine thn (ha pins s σ H _ I h) fun v s1 ⟨x,H1,I1,r1,q1⟩=> ?_
 exact Constant_none (is_none_gen ⟨.bl _,H1,I1,by rw[r1.none_iff];rfl,q1⟩)
noncomputable def tB(t:TE):TT:=fun σ H Q=>t σ H fun x H1=>∃c,x= .bl c /\ Q c H1
theorem AY{op:CmpOp}{t:TE}(h:PC X op a b t)(h1:behindInMarks op b=false:=by first|exact xN _ (by decide) (by decide)|rfl):PT X (.Compare a [op] [b] pos) (tB t):=by
 intro pins s σ H Q I hw;refine wpAny_isTrue_Compare1 (thn (h pins s σ H _ I hw) fun v s1 h1=>thn h1 fun u s2 h2=>thn h2 fun c s3 ⟨x,H1,I1,r1,q1⟩=> ?_) h1;obtain⟨d,rfl,q⟩:=q1
 cases r1;exact wpAny_truthy_bool ⟨H1,I1,q⟩
variable {tA tB':TT} {rest:List Expr}
noncomputable def AM(t u:TT):TT:=fun σ H Q=>t σ H fun c H1=>if c=true then u σ H1 Q else Q false H1
noncomputable def tOr(t u:TT):TT:=fun σ H Q=>t σ H fun c H1=>if c=true then Q true H1 else u σ H1 Q
noncomputable def AG(t:TT):TT:=fun σ H Q=>t σ H fun c H1=>Q (!c) H1
theorem k8(ha:PT X a tA):PW X (.BoolOp .And [a] pos) tA:=by
 intro wh pins s σ H Q I h;refine isTrue_and (thn (ha pins s σ H Q I h) fun c s1 e=> ?_);cases c with
 |true=>exact isTrue_and_nil e
 |false=>exact e
theorem nL(ha:PT X a tA):PW X (.BoolOp .Or [a] pos) tA:=by
 intro wh pins s σ H Q I h;refine isTrue_or (thn (ha pins s σ H Q I h) fun c s1 e=> ?_);cases c with
 |false=>exact isTrue_or_nil e
 |true=>exact e
theorem mH(ha:PT X a tA)(hb:PW X (.BoolOp .And (b::rest) pos) tB'):PW X (.BoolOp .And (a::b::rest) pos) (AM tA tB'):=by
 intro wh pins s σ H Q I h;refine isTrue_and (thn (ha pins s σ H _ I h) fun c s1 ⟨H1,I1,q1⟩=> ?_);cases c with
 |true=>exact hb wh pins s1 σ H1 Q I1 q1
 |false=>exact⟨H1,I1,q1⟩
theorem rK(ha:PT X a tA)(hb:PW X (.BoolOp .Or (b::rest) pos) tB'):PW X (.BoolOp .Or (a::b::rest) pos) (tOr tA tB'):=by
 intro wh pins s σ H Q I h;refine isTrue_or (thn (ha pins s σ H _ I h) fun c s1 ⟨H1,I1,q1⟩=> ?_);cases c with
 |true=>exact⟨H1,I1,q1⟩
 |false=>exact hb wh pins s1 σ H1 Q I1 q1
theorem tD(ha:PT X a tA):PT X (.UnaryOp .Not a pos) (AG tA):=by
 intro pins s σ H Q I h;exact isTrue_not (ha pins s σ H (fun c H1=>Q (!c) H1) I h)
noncomputable def uW(ta tb:TE):TE:=fun σ H Q=>ta σ H fun x H1=>∃c,x= .bl c /\ if c=true then tb σ H1 Q else Q (.bl false) H1
noncomputable def BO(ta tb:TE):TE:=fun σ H Q=>ta σ H fun x H1=>∃c,x= .bl c /\ if c=true then Q (.bl true) H1 else tb σ H1 Q
noncomputable def wX(ta:TE):TE:=fun σ H Q=>ta σ H fun x H1=>∃c,x= .bl c /\ Q (.bl (!c)) H1
theorem vF{op}{t:TE}(h:PE X a t):PE X (.BoolOp op [a] pos) t:=fun pins s σ H Q I hw=>BoolOp_one (h pins s σ H Q I hw)
theorem vI(ha:PE X a ta)(hb:PE X (.BoolOp .And (b::rest) pos) tb):PE X (.BoolOp .And (a::b::rest) pos) (uW ta tb):=by
 intro pins s σ H Q I h;refine BoolOp_and (thn (ha pins s σ H _ I h) fun v s1 ⟨x,H1,I1,r1,q1⟩=> ?_);obtain⟨c,rfl,q1⟩:=q1
 cases r1;refine wpAny_truthy_bool ?_;cases c with
 |true=>exact hb pins s1 σ H1 Q I1 q1
 |false=>exact⟨.bl false,H1,I1,rfl,q1⟩
noncomputable def tIf(t:TT)(ta tb:TE):TE:=fun σ H Q=>t σ H fun c H1=>if c=true then ta σ H1 Q else tb σ H1 Q
end
end L2
namespace L2
open PySem PySem.Spec PyProof.Rows
noncomputable def SqL(K:ah)(H:Hp)(a:Addr)(xs:List V):Prop:=
 Rd H a (.lst xs)∨
  ∃(o:Obj) (its:Array Value) (n:Nat),K.lookup a=some o /\ o.cls= .type "list" /\ o.dict=none /\ o.data= .seq its n /\ its.size<=sizeLine /\ Vals xs its.toList
noncomputable def SqT(K:ah)(H:Hp)(a:Addr)(xs:List V):Prop:=
 Rd H a (.tup xs)∨
  ∃(o:Obj) (its:Array Value) (n:Nat),K.lookup a=some o /\ o.cls= .type "tuple" /\ o.data= .seq its n /\ its.size<=sizeLine /\ Vals xs its.toList
noncomputable def C4:Value ->Option V
 | .none=>some .non
 | .bool b=>some (.bl b)
 | .int i _=>some (.int i)
 | .str x _=>some (.str x)
 | .bytes b _=>some (.byt b)
 | .float b _=>some (.flt b)
 | .ref a=>some (.ref a)
 | .type n=>some (.ty n)
 |_=>none
theorem RelV.abs{x:V}{u:Value}(r:RelV x u):C4 u=some x:=by
 cases x with
 |non=>cases r;rfl
 |bl _=>cases r;rfl
 |int _=>obtain⟨t,rfl⟩:=r;rfl
 |str _=>obtain⟨t,rfl⟩:=r;rfl
 |byt _=>obtain⟨t,rfl⟩:=r;rfl
 |flt _=>obtain⟨t,rfl⟩:=r;rfl
 |ref _=>cases r;rfl
 |ty _=>cases r;rfl
theorem RelV.inj{x y:V}{u:Value}(r:RelV x u)(q:RelV y u):x=y:=aZ.inj (r.abs.symm.trans q.abs)
theorem Vals.inj:∀{xs ys:List V} {us:List Value},Vals xs us ->Vals ys us ->xs=ys
 |_,_,_,.nil,.nil=>rfl
 |_,_,_,.cons r t,.cons r' t'=>by rw[r.inj r',Vals.inj t t']
section
variable {X:Cx} {pins:List (Addr×Obj)} {σ:St} {H:Hp} {s:Shared} {a:Addr} {xs ys:List V}
theorem SqL.of{K:ah}(h:H a=some (.lst xs)):SqL K H a xs:= .inl (.inl h)
theorem SqT.of{K:ah}(h:H a=some (.tup xs)):SqT K H a xs:= .inl (.inl h)
theorem Inv.list(I:Inv X pins σ H s)(h:SqL X.K H a xs):∃its:List Value,Vals xs its /\ PlainL s.heap a its.toArray /\ xs.length<=sizeLine:=by
 rcases h with h|⟨o,its,n,hk,hc,hd,hs,hz,r⟩
 ·obtain⟨z,its,n,r,e⟩:=h.ok I.hok
  exact⟨its,r,⟨_,n,e,rfl,rfl,rfl⟩,z⟩
 ·refine⟨its.toList,r,⟨o,n,I.kIn a o hk,hc,hd,by simpa using hs⟩,?_⟩;have e:=r.length
  simp only[dI] at e;omega
theorem Inv.tuple(I:Inv X pins σ H s)(h:SqT X.K H a xs):∃its:List Value,Vals xs its /\ IsTup s.heap a its.toArray /\ xs.length<=sizeLine:=by
 rcases h with h|⟨o,its,n,hk,hc,hs,hz,r⟩
 ·obtain⟨z,its,r,p⟩:=h.ok I.hok
  exact⟨its,r,p,z⟩
 ·refine⟨its.toList,r,⟨o,I.kIn a o hk,hc,n,by simpa using hs⟩,?_⟩;have e:=r.length
  simp only[dI] at e;omega
theorem Inv.list_inj(I:Inv X pins σ H s)(h:SqL X.K H a xs)(h':SqL X.K H a ys):xs=ys:=by
 obtain⟨its,r,⟨o,n,e,_,_,d⟩,_⟩:=I.list h
 obtain⟨its',r',⟨o',n',e',_,_,d'⟩,_⟩:=I.list h'
 rw[e] at e';cases e';rw[d] at d'
 injection d' with d1 _
 have:its=its':=by simpa using congrArg iQ d1
 subst this;exact r.inj r'
end
noncomputable abbrev Cx.wish(X:Cx)(E:Value ->Shared ->Prop):Cx:={X with xe:=E}
noncomputable abbrev Cx.nox(X:Cx):Cx:=X.wish fun _ _=>False
theorem Cx.Ok.wish{X:Cx}(ok:X.Ok)(E:Value ->Shared ->Prop):(X.wish E).Ok:=
 ⟨ok.mod,ok.kind,ok.glob,ok.blt,ok.above,ok.inj,ok.has,ok.cab,ok.hd,ok.frames,ok.stk,ok.exf,ok.bs,ok.bsz,ok.noex,ok.exfs,ok.funs,ok.frf⟩
theorem Cx.Ok.unwish{X:Cx}{E:Value ->Shared ->Prop}(ok:(X.wish E).Ok):X.Ok:=
 ⟨ok.mod,ok.kind,ok.glob,ok.blt,ok.above,ok.inj,ok.has,ok.cab,ok.hd,ok.frames,ok.stk,ok.exf,ok.bs,ok.bsz,ok.noex,ok.exfs,ok.funs,ok.frf⟩
section
variable {X:Cx} {pins:List (Addr×Obj)} {σ:St} {H:Hp} {s:Shared} {E:Value ->Shared ->Prop}
theorem Inv.wish(I:Inv X pins σ H s)(E:Value ->Shared ->Prop):Inv (X.wish E) pins σ H s:=⟨I.ok.wish E,I.os,I.bare,I.base,I.loc,I.cell,I.free,I.freeC,I.pin,I.hok,I.len⟩
theorem Inv.unwish(I:Inv (X.wish E) pins σ H s):Inv X pins σ H s:=⟨I.ok.unwish,I.os,I.bare,I.base,I.loc,I.cell,I.free,I.freeC,I.pin,I.hok,I.len⟩
theorem SP.unwish{D:Ends}{f:Flow}{s':Shared}(h:SP (X.wish E) pins D f s'):SP X pins D f s':=by
 cases f with
 |next=>obtain⟨σ',H',I,q⟩:=h;exact⟨σ',H',I.unwish,q⟩
 |brk=>obtain⟨σ',H',I,q⟩:=h;exact⟨σ',H',I.unwish,q⟩
 |cont=>obtain⟨σ',H',I,q⟩:=h;exact⟨σ',H',I.unwish,q⟩
 |ret u=>obtain⟨v,σ',H',I,r,q⟩:=h;exact⟨v,σ',H',I.unwish,r,q⟩
theorem PE.nox{e:Expr}{t:TE}(h:PE X.nox e t):PE X e t:=fun pins s σ H Q I hw=>
 wpAny_mono (h pins s σ H Q (I.wish _) hw) (fun _ _ ⟨v,H',I',r,q⟩=>⟨v,H',I'.unwish,r,q⟩) fun _ _ z=>False.elim z
theorem PT.nox{e:Expr}{t:TT}(h:PT X.nox e t):PT X e t:=fun pins s σ H Q I hw=>
 wpAny_mono (h pins s σ H Q (I.wish _) hw) (fun _ _ ⟨H',I',q⟩=>⟨H',I'.unwish,q⟩) fun _ _ z=>False.elim z
theorem PSs.nox{st:List Stmt}{t:TS}(h:PSs X.nox st t):PSs X st t:=fun pins s σ H D I hw=>
 wpAny_mono (h pins s σ H D (I.wish _) hw) (fun _ _ q=>q.unwish) fun _ _ z=>False.elim z
end
section
variable {X:Cx} {st:Stmt} {rest:List Stmt} {t u:TS} {e:Expr} {te:TE} {pos:Pos}
noncomputable def uT:TS:=fun D σ H=>D.nx σ H
noncomputable def Al(t u:TS):TS:=fun D σ H=>t {D with nx:=u D} σ H
theorem jh:PSs X [] uT:=fun _ _ σ H _ I h=>wpAny_execs_nil ⟨σ,H,I,h⟩
theorem i0(h1:PS X st t)(h2:PSs X rest u):PSs X (st::rest) (Al t u):=by
 intro pins s σ H D I h;refine wpAny_execs_cons (thn (h1 pins s σ H {D with nx:=u D} I h) fun f s1 q=> ?_);cases f with
 |next=>
  obtain⟨σ',H',I',q⟩:=q
  exact h2 pins s1 σ' H' D I' q
 |ret v=>exact q
 |brk=>exact q
 |cont=>exact q
theorem iY(h1:PS X st t):PSs X [st] t:=by
 intro pins s σ H D I h;refine wpAny_execs_cons (thn (h1 pins s σ H D I h) fun f s1 q=> ?_);cases f with
 |next=>exact wpAny_execs_nil q
 |ret v=>exact q
 |brk=>exact q
 |cont=>exact q
noncomputable def wZ:TS:=fun D σ H=>D.ct σ H
theorem Inv.quiet{pins:List (Addr×Obj)}{σ:St}{H:Hp}{s:Shared}(I:Inv X pins σ H s):interactive X.env=false:=by simp[interactive,I.ok.kind]
noncomputable def uU(te:TE):TS:=fun D σ H=>te σ H fun _ H1=>D.nx σ H1
theorem jO(he:PE X e te)(hs:swapsWith e none pos.line X.env=pure false:=by rfl):PS X (.Expr e pos) (uU te):=by
 intro pins s σ H D I h;exact wpAny_Expr_any (thn (he pins s σ H _ I h) fun v s1 ⟨x,H1,I1,r1,q1⟩=>⟨σ,H1,I1,q1⟩) I.quiet hs
noncomputable def AE(te:TE):TS:=fun D σ H=>te σ H D.rt
theorem jg(he:PE X e te):PS X (.Return (some e) pos) (AE te):=by
 intro pins s σ H D I h;exact wpAny_Return_some (thn (he pins s σ H _ I h) fun v s1 ⟨x,H1,I1,r1,q1⟩=>⟨x,σ,H1,I1,r1,q1⟩)
noncomputable def wV:TS:=fun D _ H=>D.rt .non H
noncomputable def AL(c:TT)(t u:TS):TS:=fun D σ H=>c σ H fun b H1=>if b=true then t D σ H1 else u D σ H1
theorem jI{c:Expr}{a b:List Stmt}{tc:TT}(hc:PT X c tc)(ha:PSs X a t)(hb:PSs X b u):PS X (.If c a b pos) (AL tc t u):=by
 intro pins s σ H D I h;refine wpAny_If (thn (hc pins s σ H _ I h) fun d s1 ⟨H1,I1,q1⟩=> ?_);cases d with
 |true=>exact ha pins s1 σ H1 D I1 q1
 |false=>exact hb pins s1 σ H1 D I1 q1
noncomputable def AI:TS:=fun _ _ _=>False
theorem kf:PS X st AI:=fun _ _ _ _ _ _ h=>h.elim
end
noncomputable abbrev TG:=V ->St ->Hp ->(St ->Hp ->Prop) ->Prop
noncomputable abbrev TGs:=List V ->St ->Hp ->(St ->Hp ->Prop) ->Prop
noncomputable def PG(X:Cx)(target:Expr)(t:TG):Prop:=
 ∀(pins:List (Addr×Obj)) (s:Shared) (σ:St) (H:Hp) (v:V) (u:Value) (Q:St ->Hp ->Prop),Inv X pins σ H s ->RelV v u ->t v σ H Q ->
  wpAny (model X.prog X.w) X.A (assign target X.env u) (fun _ s'=>∃σ' H',Inv X pins σ' H' s' /\ Q σ' H') X.xe s
noncomputable def PGs(X:Cx)(ts:List Expr)(t:TGs):Prop:=
 ∀(pins:List (Addr×Obj)) (s:Shared) (σ:St) (H:Hp) (vs:List V) (us:List Value) (Q:St ->Hp ->Prop),Inv X pins σ H s ->Vals vs us ->t vs σ H Q ->
  wpAny (model X.prog X.w) X.A (assignInOrder ((assignEach ts X.env).map (·.2)) us) (fun _ s'=>∃σ' H',Inv X pins σ' H' s' /\ Q σ' H') X.xe s
noncomputable abbrev C5:=V ->V ->V ->Hp ->(Hp ->Prop) ->Prop
noncomputable abbrev TIp:=V ->V ->Hp ->VK ->Prop
noncomputable def PIp(X:Cx)(op:Operator)(t:TIp):Prop:=
 ∀(pins:List (Addr×Obj)) (s:Shared) (σ:St) (H:Hp) (x y:V) (v u:Value) (Q:VK),Inv X pins σ H s ->RelV x v ->RelV y u ->t x y H Q ->
  wpAny (model X.prog X.w) X.A (inplaceOp op v u) (EP X pins σ Q) X.xe s
section
variable {X:Cx} {pos:Pos}
noncomputable def sj(i:Nat):TG:=fun v σ H Q=>Q (σ.set i (some v)) H
theorem i5{i:Nat}{x:Str}(hN:X.N.Nodup)(hi:X.N[i]? =some x)(hx:Loc X.env.scope x)(hf:X.fn x=true∨X.env.scope.names.lookup x=some .local:=by first|exact .inl rfl|exact .inr rfl|assumption):PG X (.Name x pos) (sj i):=by
 intro pins s σ H v u Q I r h;exact wpAny_assign_Name (lW I hN hi hx r (fun s' I'=>⟨_,H,I',h⟩) hf)
noncomputable def nW:TGs:=fun vs σ H Q=>vs=[] /\ Q σ H
noncomputable def ky(t:TG)(u:TGs):TGs:=fun vs σ H Q=>∃v r,vs=v::r /\ t v σ H fun σ' H'=>u r σ' H' Q
theorem zo:PGs X [] nW:=by
 intro pins s σ H vs us Q I r h;obtain⟨e,h⟩:=h
 subst e;cases r;exact assignInOrder_nil ⟨σ,H,I,h⟩
theorem xI{e:Expr}{es:List Expr}{t:TG}{u:TGs}(h1:PG X e t)(h2:PGs X es u)
  (hs:(assignEach (e::es) X.env).map (·.2)=assign e X.env::(assignEach es X.env).map (·.2):=by rfl):PGs X (e::es) (ky t u):=by
 intro pins s σ H vs us Q I r h;obtain⟨v,vr,e1,h⟩:=h
 subst e1;cases r with
 |cons r rr=>
  rw[hs];refine assignInOrder_cons (thn (h1 pins s σ H _ _ _ I r h) fun _ s1 ⟨σ1,H1,I1,q1⟩=> ?_);exact h2 pins s1 σ1 H1 _ _ Q I1 rr q1
noncomputable def CC(K:ah)(n:Nat)(t:TGs):TG:=fun v σ H Q=>∃a xs,v= .ref a /\ SqT K H a xs /\ xs.length=n /\ t xs σ H Q
theorem A4{es:List Expr}{k:Nat}{t:TGs}{n:Nat}(hc:X.calm=true)(h:PGs X es t)
  (hn:(assignEach es X.env).length=n:=by rfl) (hst:(assignEach es X.env).findIdx? (·.1)=none:=by rfl):PG X (.Tuple es k pos) (CC X.K n t):=by
 intro pins s σ H v u Q I r hw;obtain⟨a,xs,e1,hq,hl,hw⟩:=hw
 subst e1;cases r;obtain⟨its,rv,ht,hz⟩:=I.tuple hq
 refine assign_Tuple_tuple (I.ok.hd hc) ht (by simp[hn, <-hl,rv.length]) hst fun h' hx=> ?_
 have I1:Inv X pins σ H {s with heap:=h'}:=I.kept (t':=s.toks) fun b o e=>hx b o (aW (Heap.lt_size e)) e
 exact h pins _ σ H xs _ Q I1 (by simpa using rv) hw
noncomputable def B0(to ti:TE)(t:C5):TG:=fun v σ H Q=>to σ H fun o H1=>ti σ H1 fun i H2=>t o i v H2 fun H3=>Q σ H3
noncomputable def yZ(te:TE)(g:TG):TS:=fun D σ H=>te σ H fun x H1=>g x σ H1 D.nx
theorem k9{tg e:Expr}{te:TE}{g:TG}(he:PE X e te)(hg:PG X tg g)(hs:swapsWithSole [tg] e pos.line X.env=pure false:=by rfl)(hw:swappedStores [tg] e X.env=pure none:=by rfl)
  (h1:(assignEach [tg] X.env).map (·.2)=[assign tg X.env]:=by rfl):PS X (.Assign [tg] e pos) (yZ te g):=by
 intro pins s σ H D I h;refine wpAny_Assign_stores (thn (he pins s σ H _ I h) fun v s1 ⟨x,H1,I1,r1,q1⟩=> ?_) hs hw;rw[h1];exact thn (hg pins s1 σ H1 x v _ I1 r1 q1) fun _ s2 q=>q
theorem jt{i:Nat}{x:Str}{e:Expr}{te:TE}{pos':Pos}(hN:X.N.Nodup)(hi:X.N[i]? =some x)(hx:Loc X.env.scope x)(he:PE X e te)(hs:swapsWith e (some (.Name x pos')) pos.line X.env=pure false:=by rfl)(hf:X.fn x=true∨X.env.scope.names.lookup x=some .local:=by first|exact .inl rfl|exact .inr rfl|assumption):
  PS X (.Assign [.Name x pos'] e pos) (yZ te (sj i)):=by
 intro pins s σ H D I h;refine wpAny_Assign_Name (thn (he pins s σ H _ I h) fun v s1 ⟨y,H1,I1,r1,q1⟩=> ?_) hs;exact lW I1 hN hi hx r1 (fun s2 I2=>⟨_,H1,I2,q1⟩) hf
noncomputable def AF(i j:Nat)(ta:TA):TS:=fun D σ H=>ta σ H fun vs H1=>∃v w,vs=[v,w] /\ D.nx ((σ.set i (some v)).set j (some w)) H1
theorem AZ{i j:Nat}{x y:Str}{a b:Expr}{ta:TA}{px py pt:Pos}{kt k2 pt2}(hc:X.calm=true)(hN:X.N.Nodup)(hi:X.N[i]? =some x)(hj:X.N[j]? =some y)(hij:i≠j)
  (hx:X.env.scope.names.lookup x=some .local) (hy:X.env.scope.names.lookup y=some .local) (ha:PA X [a,b] ta)
  (hw:swappedStores [.Tuple [.Name x px,.Name y py] kt pt] (.Tuple [a,b] k2 pt2) X.env=pure (some [x,y]))
  (hs:swapsWithSole [.Tuple [.Name x px,.Name y py] kt pt] (.Tuple [a,b] k2 pt2) pos.line X.env=pure false:=by rfl):
  PS X (.Assign [.Tuple [.Name x px,.Name y py] kt pt] (.Tuple [a,b] k2 pt2) pos) (AF i j ta):=by
 intro pins s σ H D I h;rw[exec_Assign_arm];refine wpAny_bind (wpAny_standAt ?_);rw[hs];refine wpAny_bind (wpAny_pure ?_);rw[if_neg (by decide)];refine wpAny_bind (Tuple_ (thn (ha _ pins s σ H _ I h) fun us s1 ⟨vs,H1,I1,r1,q1⟩=> ?_));obtain⟨v,w,e1,q1⟩:=q1
 subst e1;obtain⟨u1,u2,rfl,rv,rw'⟩:∃u1 u2,us=[u1,u2] /\ RelV v u1 /\ RelV w u2:=by
  cases r1 with
  |cons p q=>
   cases q with
   |cons p' q'=>
    cases q';exact⟨_,_,rfl,p,p'⟩
 refine wpAny_newObj_type ?_ (by show 2<=sizeLine;decide)
 have I2:Inv X pins σ H1 {s1 with heap:=s1.heap.push {cls:= .type "tuple",data:= .seq [u1,u2].toArray}}:=I1.kept (t':=s1.toks) fun b o e=>Heap.get?_push_of_some _ e
 rw[hw];refine wpAny_bind (wpAny_pure ?_);show wpAny (model X.prog X.w) X.A (do rule "assign.swapped-stores";let items<-unpackItems (.ref s1.heap.objs.size) 2 none;assignInOrder [fun v=>bindName X.env y v,fun v=>bindName X.env x v] items.reverse;pure Flow.next) _ _ _
 refine wpAny_bind (wpAny_rule (wpAny_bind (unpackItems_tuple (items:= #[u1,u2]) (I.ok.hd hc) (IsTup.new s1.heap _) fun h' hx'=> ?_)));have I3:=I2.kept (h':=h') (t':=s1.toks) fun b o e=>hx' b o (aW (Heap.lt_size e)) e
 show wpAny _ _ (assignInOrder [fun v=>bindName X.env y v,fun v=>bindName X.env x v] [u2,u1]>>=fun _=>pure Flow.next) _ _ _
 refine wpAny_bind (assignInOrder_cons (wpAny_bindName (lW I3 hN hj (.inl hy) rw' (fun s2 I4=> ?_) (.inr hy))));refine assignInOrder_cons (wpAny_bindName (lW I4 hN hi (.inl hx) rv (fun s3 I5=>assignInOrder_nil (wpAny_pure ?_)) (.inr hx)));rw[List.set_comm _ _ (Ne.symm hij)] at I5;exact⟨_,H1,I5,q1⟩
noncomputable def CN(i:Nat)(te:TE)(ti:TIp):TS:=fun D σ H=>∃x,σ[i]? =some (some x) /\ te σ H fun y H1=>ti x y H1 fun z H2=>D.nx (σ.set i (some z)) H2
theorem A0{i:Nat}{x:Str}{e:Expr}{te:TE}{op:Operator}{ti:TIp}{pos':Pos}(hN:X.N.Nodup)(hi:X.N[i]? =some x)(hx:Loc X.env.scope x)(he:PE X e te)(ho:PIp X op ti)(hf:X.fn x=true∨X.env.scope.names.lookup x=some .local:=by first|exact .inl rfl|exact .inr rfl|assumption):
  PS X (.AugAssign (.Name x pos') op e pos) (CN i te ti):=by
 intro pins s σ H D I h;obtain⟨v,e1,h⟩:=h
 obtain⟨m,hn,hl⟩:=I.loc
 have vis:Vis X.env.scope x:=by rcases hx with k|k;exact .inl k;exact .inr (.inl k)
 obtain⟨u,r,l⟩:=hl i x v hi e1 vis
 refine wpAny_AugAssign_Name ?_;have go:wpAny (model X.prog X.w) X.A (eval e X.env) (fun w s₂=>wpAny (model X.prog X.w) X.A (inplaceOp op u w) (fun r s₃=>wpAny (model X.prog X.w) X.A (storeName X.env x r) (fun _=>SP X pins D .next) X.xe s₃) X.xe s₂) X.xe s:=by
  refine thn (he pins s σ H _ I h) fun w s1 ⟨y,H1,I1,r1,q1⟩=> ?_
  refine thn (ho pins s1 σ H1 v y u w _ I1 r r1 q1) fun z s2 ⟨zv,H2,I2,r2,q2⟩=> ?_
  exact lW I2 hN hi hx r2 (fun s3 I3=>⟨_,H2,I3,q2⟩) hf
 rcases l with⟨hk,hm⟩|⟨hk,c,hc,hcell⟩
 ·exact wpAny_loadName_local I.ok.kind hk hn hm go
 ·rcases hk with hk|hk
  ·exact wpAny_loadName_cell I.ok.kind hk hc hcell go
  ·rcases hx with k|k
   ·have:X.env.scope.names.lookup x=some .free:=hk
    rw[k] at this;cases this
   ·have:X.env.scope.names.lookup x=some .free:=hk
    rw[k] at this;cases this
noncomputable def ipI(f:Int ->Int ->Int):TIp:=fun x y H Q=>∃i j,x= .int i /\ y= .int j /\ Q (.int (f i j)) H
theorem Bp:PIp X .Sub (ipI fun i j=>i-j):=by
 intro pins s σ H x y v u Q I r1 r2 h;obtain⟨i,j,e1,e2,q⟩:=h
 subst e1;subst e2;obtain⟨t,rfl⟩:=r1
 obtain⟨t',rfl⟩:=r2
 exact isub_int ⟨.int _,H,I.tok _,⟨_,rfl⟩,q⟩
end
section
variable {X:Cx} {pos:Pos}
noncomputable def AC(c:TT)(tb:TS):TS:=fun D σ H=>∃W:Nat ->St ->Hp ->Prop,(∃m,W m σ H) /\ ∀m σ H,W m σ H ->
 c σ H fun b H1=>if b=true then∃N:St ->Hp ->Prop,(∀σ' H',N σ' H' -> ∃m',m'<m /\ W m' σ' H') /\ tb {D with nx:=N,ct:=N,bk:=D.nx} σ H1 else D.nx σ H1
theorem pN{c:Expr}{body:List Stmt}{tc:TT}{tb:TS}(hp:PassesOwn (model X.prog X.w) X.A X.env X.xe)(hc:PT X c tc)(hb:PSs X body tb):PS X (.While c body [] pos) (AC tc tb):=by
 intro pins s σ H D I h;obtain⟨W,⟨m0,w0⟩,turn⟩:=h
 refine wpAny_While (codeAny_whileLoop (fun n s'=>∃σ' H',Inv X pins σ' H' s' /\ W n σ' H') ?_ m0 ⟨σ,H,I,w0⟩);rintro n s1 ⟨σ1,H1,I1,w1⟩;refine wpAny_passesOwn hp (thn (hc pins s1 σ1 H1 _ I1 (turn n σ1 H1 w1)) fun b s2 ⟨H2,I2,q2⟩=> ?_);cases b with
 |true=>
  obtain⟨N,hN,q2⟩:=q2
  rw[if_pos rfl];refine wpAny_passesOwn hp (thn (hb pins s2 σ1 H2 _ I2 q2) fun f s3 q3=> ?_);cases f with
  |next=>
   obtain⟨σ3,H3,I3,n3⟩:=q3
   obtain⟨m',hm,w3⟩:=hN σ3 H3 n3
   exact⟨m',hm,σ3,H3,I3,w3⟩
  |cont=>
   obtain⟨σ3,H3,I3,n3⟩:=q3
   obtain⟨m',hm,w3⟩:=hN σ3 H3 n3
   exact⟨m',hm,σ3,H3,I3,w3⟩
  |brk=>exact q3
  |ret v=>exact q3
 |false=>
  rw[if_neg bQ];exact wpAny_execs_nil ⟨σ1,H2,I2,q2⟩
end
structure It where
 go:Nat ->Hp ->Prop
 yld:Nat ->Hp ->V ->Hp ->Prop
 stop:Nat ->Hp ->Prop
noncomputable def uJ(X:Cx)(pins:List (Addr×Obj))(H:Hp)(b:Addr):Prop:=
 H b=none /\ b≠X.env.locals /\ b∉X.fs /\ (b∈X.ex∨X.s₀.heap.objs.size<=b) /\ (∀x c,X.env.cells.lookup x=some c ->c≠b) /\ ∀p∈X.pn++pins,p.1≠b
theorem Inv.fpOk{X:Cx}{pins:List (Addr×Obj)}{σ:St}{H H':Hp}{s:Shared}{b:Addr}(I:Inv X pins σ H s)(hb:s.heap.objs.size<=b)(hn:H' b=none):uJ X pins H' b:=by
 refine⟨hn,cT (aO I.lt hb),I.nofs hb,.inr (bW I.sz hb),fun x c e z=> ?_,fun p hp z=> ?_⟩
 ·obtain⟨v,q⟩:=I.cell x c e
  exact absurd (aO q.lt (by rw[z];exact hb)) (ci _)
 ·exact absurd (aO (Heap.lt_size (I.pin p hp).1) (by rw[z];exact hb)) (ci _)
structure Turn(P:Program)(w:World)(K:ah)(tg:Expr)(J:It)(fp:List Addr)(it:Addr)(tn:Nat ->Heap ->Prop):Prop where
 mem:it∈fp
 obj:∀i h,tn i h -> ∀b∈fp,∃o,h.get? b=some o /\ ∀v,o.data≠ .cell v
 keep:∀i h h',tn i h ->(∀b∈fp,∀o,h.get? b=some o ->h'.get? b=some o) ->tn i h'
 item:∀(X:Cx),X.prog=P ->X.w=w ->X.K=K ->X.calm=true -> ∀(i:Nat) (pins:List (Addr×Obj)) (s:Shared) (σ:St) (H:Hp) (E:Value ->Shared ->Prop),Inv X pins σ H s ->(∀b∈fp,uJ X pins H b) ->tn i s.heap ->J.go i H ->
  wpAny (model P w) X.A (pyNext (.ref it)) (fun r s1=>∃u,r=some u /\
   wpAny (model P w) X.A (letOwnedTupleGo tg (.ref it) u) (fun _ s2=>∃x H',Inv X pins σ H' s2 /\ RelV x u /\ J.yld i H x H' /\ tn (i+1) s2.heap /\ ∀b∈fp,H' b=none) E s1) E s
 done:∀(X:Cx),X.prog=P ->X.w=w ->X.K=K ->X.calm=true -> ∀(i:Nat) (pins:List (Addr×Obj)) (s:Shared) (σ:St) (H:Hp) (E:Value ->Shared ->Prop),Inv X pins σ H s ->(∀b∈fp,uJ X pins H b) ->tn i s.heap ->J.stop i H ->
  wpAny (model P w) X.A (pyNext (.ref it)) (fun r s1=>r=none /\ Inv X pins σ H s1) E s
 self:∀(A:Around) (i:Nat) (s:Shared) (Q:Value ->Shared ->Prop) (E:Value ->Shared ->Prop),tn i s.heap ->Q (.ref it) s ->wpAny (model P w) A (pyIter (.ref it)) Q E s
noncomputable abbrev TI:=St ->Hp ->(It ->Hp ->Prop) ->Prop
noncomputable def PIE(X:Cx)(pins:List (Addr×Obj))(σ:St)(tg:Expr)(R:It ->Hp ->Prop)(itv:Value)(s2:Shared):Prop:=
 ∃(it:Addr) (fp:List Addr) (tn:Nat ->Heap ->Prop) (J:It) (H':Hp),itv= .ref it /\ Inv X pins σ H' s2 /\ Turn X.prog X.w X.K tg J fp it tn /\ tn 0 s2.heap /\ (∀b∈fp,uJ X pins H' b) /\ R J H'
noncomputable def PI(X:Cx)(tg iter:Expr)(wi:TI):Prop:=
 ∀(pins:List (Addr×Obj)) (s:Shared) (σ:St) (H:Hp) (R:It ->Hp ->Prop),Inv X pins σ H s ->wi σ H R ->
  wpAny (model X.prog X.w) X.A (eval iter X.env) (fun v s1=>wpAny (model X.prog X.w) X.A (pyIter v) (PIE X pins σ tg R) X.xe s1) X.xe s
theorem Bu{M:Model}{A:Around}{E:Value ->Shared ->Prop}{s:Shared}{tg:Expr}{it:Addr}{u:Value}{o:Obj}{n:String}{vs:Array Value}{Q:Unit ->Shared ->Prop}(ho:s.heap.get? it=some o)(hc:o.cls= .type n)(hd:o.data= .fields vs)
  (hn:["enumerate","zip","dict_itemiterator","dict_reverseitemiterator","odict_iterator","itertools.zip_longest","itertools.pairwise"].contains n=false) (hQ:Q () s):wpAny M A (letOwnedTupleGo tg (.ref it) u) Q E s:=by
 unfold letOwnedTupleGo;cases tg<;>first
  |exact wpAny_pure hQ
  |(cases u<;>first
    |exact wpAny_pure hQ
    |(refine wpAny_bind (wpAny_load ho ?_);rw[hc,hd];show wpAny M A (if(["enumerate","zip","dict_itemiterator","dict_reverseitemiterator","odict_iterator","itertools.zip_longest","itertools.pairwise"].contains n&&vs[0]? ==some (rawInt _))=true then _ else _) Q E s;rw[if_neg (by intro h;rw[hn,iF] at h;cases h)];exact wpAny_pure hQ))
noncomputable def Itl(K:ah)(a:Addr):It:=
 ⟨fun i H=>∃xs x,SqL K H a xs /\ xs[i]? =some x,fun i H x H'=>H'=H /\ ∀xs,SqL K H a xs ->xs[i]? =some x,fun i H=>∃xs,SqL K H a xs /\ xs.length<=i⟩
noncomputable def Itr(lo:Int)(n:Nat):It:=⟨fun i _=>i<n,fun i H x H'=>H'=H /\ x= .int (lo+i),fun i _=>n<=i⟩
theorem uN{P:Program}{w:World}{K:ah}{tg:Expr}(a it:Addr):Turn P w K tg (Itl K a) [it] it (fun i h=>h.IsListIter it a i) where
 mem:=by simp
 obj:=fun i h st b hb=>by
  have e:b=it:=by simpa using hb
  subst e;obtain⟨o,e,c,d⟩:=st
  exact⟨o,e,fun v z=>by rw[d] at z;cases z⟩
 keep:=fun i h h' st k=>st.at fun o e=>k it (by simp) o e
 item:=by
  intro X hP hw hK hc i pins s σ H E I hf st hg;subst hP hw hK;obtain⟨xs,x,hq,hx⟩:=hg
  obtain⟨its,rv,p,hz⟩:=I.list hq
  obtain⟨u,hu,ru⟩:=rv.get hx
  obtain⟨f0,f1,f2,f3,f4,f5⟩:=hf it (by simp)
  refine wpAny_pyNext_list_item st p.isList (x:=u) (by simpa using hu) fun h' st' sb=> ?_
  have I1:Inv X pins σ H {s with heap:=h'}:=I.turned (t':=s.toks) (fun b o hb e=>(sb.2 b hb).trans e) f0 f1 f3 f4 f5
  obtain⟨o,e,c,d⟩:=id st'
  exact⟨u,rfl,Bu (s:={s with heap:=h'}) e c d (by decide) ⟨x,H,I1,ru,⟨rfl,fun ys hy=>by rw[I.list_inj hy hq];exact hx⟩,st',fun b hb=>(hf b hb).1⟩⟩
 done:=by
  intro X hP hw hK hc i pins s σ H E I hf st hg;subst hP hw hK;obtain⟨xs,hq,hx⟩:=hg
  obtain⟨its,rv,p,hz⟩:=I.list hq
  obtain⟨f0,f1,f2,f3,f4,f5⟩:=hf it (by simp)
  have hl:=rv.length
  exact wpAny_pyNext_list_end (I.ok.hd hc) st p.isList (by simp;omega) fun h' eb=>⟨rfl,I.turned (t':=s.toks) (fun b o hb e=>eb b o hb e) f0 f1 f3 f4 f5⟩
 self:=fun _ _ _ _ _ st h=>wpAny_pyIter_listiter st h
theorem ui{P:Program}{w:World}{K:ah}{tg:Expr}(it:Addr)(lo:Int)(n:Nat):Turn P w K tg (Itr lo n) [it] it (fun i h=>IsRangeIter h it (lo+(i:Nat)*1) ((n:Int)-(i:Nat)) 1) where
 mem:=by simp
 obj:=fun i h st b hb=>by
  have e:b=it:=by simpa using hb
  subst e;exact⟨_,st,fun v z=>by
   have z':Data.fields _=Data.cell v:=z
   cases z'⟩
 keep:=fun i h h' st k=>k it (by simp) _ st
 item:=by
  intro X hP hw hK hc i pins s σ H E I hf st hg;subst hP hw hK;obtain⟨f0,f1,f2,f3,f4,f5⟩:=hf it (by simp)
  have W:=Walks.range (prog:=X.prog) (w:=X.w) (I.ok.hd hc) it lo 1 n
  refine W.item i s _ _ hg st fun v h' tk hv st' kk=> ?_
  obtain⟨t,rfl⟩:=hv
  have I1:Inv X pins σ H {s with heap:=h',toks:=tk}:=I.turned (fun b o hb e=>kk b o (by simpa using hb) e) f0 f1 f3 f4 f5
  refine⟨_,rfl,Bu (s:={s with heap:=h',toks:=tk}) (n:="range_iterator") st' rfl rfl (by decide) ⟨.int (lo+i),H,I1,⟨t,?_⟩,⟨rfl,rfl⟩,st',fun b hb=>(hf b hb).1⟩⟩;rw[dJ]
 done:=by
  intro X hP hw hK hc i pins s σ H E I hf st hg;subst hP hw hK;obtain⟨f0,f1,f2,f3,f4,f5⟩:=hf it (by simp)
  exact wpAny_pyNext_range_end (I.ok.hd hc) st (by have:n<=i:=hg;omega) fun h' eb=>⟨rfl,I.turned (t':=s.toks) (fun b o hb e=>eb b o hb e) f0 f1 f3 f4 f5⟩
 self:=fun _ _ _ _ _ st h=>wpAny_pyIter_rangeiter st h
end L2
namespace L2
open PySem PySem.Spec PyProof.Rows
section
variable {X:Cx} {tg:Expr}
noncomputable def ya(K:ah)(tl:TE):TI:=fun σ H R=>tl σ H fun x H1=>∃a,x= .ref a /\ (∃xs,SqL K H1 a xs) /\ R (Itl K a) H1
theorem zm{l:Expr}{tl:TE}(hl:PE X l tl):PI X tg l (ya X.K tl):=by
 intro pins s σ H R I h;refine thn (hl pins s σ H _ I h) fun v s1 ⟨x,H1,I1,r1,q1⟩=> ?_
 obtain⟨a,e,⟨xs,hq⟩,q⟩:=q1
 subst e;cases r1;obtain⟨its,rv,p,hz⟩:=I1.list hq
 refine wpAny_pyIter_list p.isList ?_;refine⟨s1.heap.objs.size,[s1.heap.objs.size],_,_,H1,rfl,I1.kept (t':=s1.toks) fun b o e=>Heap.get?_push_of_some _ e,uN a _,⟨_,Heap.get?_push_size _ rfl,rfl,rfl⟩,fun b hb=> ?_,q⟩;have e:b=s1.heap.objs.size:=by simpa using hb
 subst e;exact I1.fpOk (av _) (I1.hok.fresh (av _))
theorem xB{pins:List (Addr×Obj)}{σ:St}{H:Hp}{s:Shared}{R:It ->Hp ->Prop}{E:Value ->Shared ->Prop}{lo hi:Int}{t u v:Tok}{tk:Nat}(I:Inv X pins σ H s)(h1: -(2^62)<=lo)(h2:lo<2^62)(h3: -(2^62)<=hi)(h4:hi<2^62)
  (q:R (Itr lo (hi-lo).toNat) H):wpAny (model X.prog X.w) X.A (pyIter (.ref s.heap.objs.size)) (PIE X pins σ tg R) E {s with heap:=s.heap.push {cls:= .type "range",data:= .fields #[.int lo t,.int hi u,.int 1 v]},toks:=tk}:=by
 refine wpAny_pyIter_range (IsRange.new ..) (small_one h1 h2 h3 h4) ?_;have I1:Inv X pins σ H {s with heap:=s.heap.push {cls:= .type "range",data:= .fields #[.int lo t,.int hi u,.int 1 v]},toks:=tk}:=I.kept fun b o e=>Heap.get?_push_of_some _ e
 refine⟨(s.heap.push {cls:= .type "range",data:= .fields #[.int lo t,.int hi u,.int 1 v]}).objs.size,[(s.heap.push {cls:= .type "range",data:= .fields #[.int lo t,.int hi u,.int 1 v]}).objs.size],_,_,H,rfl,
  I1.kept (t':=tk) fun b o e=>Heap.get?_push_of_some _ e,ui _ lo (hi-lo).toNat,?_,fun b hb=> ?_,q⟩
 ·have e1:lo+((0:Nat):Int)*1=lo:=by simp
  have e2:(((hi-lo).toNat:Nat):Int)-((0:Nat):Int)=Builtin.Range.rangeSize lo hi 1:=by rw[rangeSize_one];split<;>omega
  show IsRangeIter _ _ (lo+((0:Nat):Int)*1) ((((hi-lo).toNat:Nat):Int)-((0:Nat):Int)) 1
  rw[e1,e2];exact Heap.get?_push_size _ rfl
 ·have e:b=(s.heap.push {cls:= .type "range",data:= .fields #[.int lo t,.int hi u,.int 1 v]}).objs.size:=by simpa using hb
  subst e;exact I1.fpOk (av _) (I1.hok.fresh (av _))
noncomputable def xZ(ta:TA):TI:=fun σ H R=>ta σ H fun vs H1=>∃j:Int,vs=[.int j] /\ -(2^62)<=j /\ j<2^62 /\ R (Itr 0 j.toNat) H1
theorem ls{a:Expr}{ta:TA}{p pos:Pos}(hg:Gl X "range")(hm:X.mg "range"=none)(ha:PA X [a] ta)(hs:starEach [a] X.env=[(false,eval a X.env)]:=by rfl):PI X tg (.Call (.Name "range" p) [a] [] pos) (xZ ta):=by
 intro pins s σ H R I h;refine Call_ (oH I hg hm boot_range (cO (thn (ha pos pins s σ H _ I h) fun us s1 ⟨vs,H1,I1,r1,q1⟩=> ?_) hs rfl));obtain⟨j,e,q1,q2,q⟩:=q1
 subst e;cases r1 with
 |cons r rr=>
  cases rr;obtain⟨t,rfl⟩:=r
  exact call_range_1 (xB I1 (by omega) (by omega) q1 q2 (by simpa using q))
noncomputable def Am(wi:TI)(g:TG)(tb:TS):TS:=fun D σ H=>wi σ H fun J H1=>∃W:Nat ->Nat ->St ->Hp ->Prop,(∃m,W 0 m σ H1) /\ ∀i m σ H,W i m σ H ->
 (J.stop i H /\ D.nx σ H)∨(J.go i H /\ ∃N:St ->Hp ->Prop,(∀σ' H',N σ' H' -> ∃m',m'<m /\ W (i+1) m' σ' H') /\ ∀x H',J.yld i H x H' ->g x σ H' fun σ2 H2=>tb {D with nx:=N,ct:=N,bk:=D.nx} σ2 H2)
noncomputable def qN(fp:List Addr)(h:Heap):List (Addr×Obj):=fp.filterMap fun b=>(h.get? b).map fun o=>(b,o)
theorem lH{fp:List Addr}{h:Heap}{b:Addr}{o:Obj}(hb:b∈fp)(e:h.get? b=some o):(b,o)∈qN fp h:=dg.mpr ⟨b,hb,by rw[e];rfl⟩
theorem vM{fp:List Addr}{h:Heap}{p:Addr×Obj}(hp:p∈qN fp h):p.1∈fp /\ h.get? p.1=some p.2:=by
 obtain⟨b,hb,e⟩:=dg.mp hp
 cases q:h.get? b with
 |none=>rw[q] at e;cases e
 |some o=>
  rw[q] at e;have e':(b,o)=p:=aZ.inj e
  subst e';exact⟨hb,q⟩
theorem Inv.pinned{pins:List (Addr×Obj)}{σ:St}{H:Hp}{s:Shared}{fp:List Addr}(I:Inv X pins σ H s)(hf:∀b∈fp,uJ X pins H b)(ho:∀b∈fp,∃o,s.heap.get? b=some o /\ ∀v,o.data≠ .cell v):Inv X (pins++qN fp s.heap) σ H s:=
 I.pins_of fun p hp=>(aU.mp hp).elim (fun z=>I.pin p (aM _ z)) fun z=>by
  obtain⟨hb,e⟩:=vM z
  obtain⟨f0,f1,f2,_⟩:=hf p.1 hb
  obtain⟨o,e',d⟩:=ho p.1 hb
  rw[e] at e';cases e';exact⟨e,f0,f1,f2,d⟩
theorem Inv.unpinned{pins pl:List (Addr×Obj)}{σ:St}{H:Hp}{s:Shared}(I:Inv X (pins++pl) σ H s):Inv X pins σ H s:=I.pins_of fun p hp=>I.pin p (aM _ (bf _ hp))
theorem kK{iter:Expr}{body:List Stmt}{wi:TI}{g:TG}{tb:TS}{pos:Pos}(hp:PassesOwn (model X.prog X.w) X.A X.env X.xe)(hc:X.calm=true)(hi:PI X tg iter wi)(hg:PG X tg g)(hb:PSs X body tb)
  (hs:∀x,foldedSetIterable iter X.env x=pure x:=by intro _;rfl):PS X (.For tg iter body [] pos) (Am wi g tb):=by
 intro pins s σ H D I h;refine wpAny_For (thn (hi pins s σ H _ I h) fun v s1 h1=>thn h1 fun itv s2 h2=> ?_) hs;obtain⟨it,fp,tn,J,H2,e,I2,T,st2,f2,W,⟨m0,w0⟩,turn⟩:=h2
 subst e
 --what stays true of the iterator's objects through the loop
 have stat:∀{H':Hp},(∀b∈fp,H' b=none) -> ∀b∈fp,uJ X pins H' b:=fun hn b hb=>⟨hn b hb,(f2 b hb).2⟩
 refine codeAny_forLoop_any (fun n s'=>∃i σ' H',Inv X pins σ' H' s' /\ tn i s'.heap /\ (∀b∈fp,H' b=none) /\ W i n σ' H') ?_ m0 ⟨0,σ,H2,I2,st2,fun b hb=>(f2 b hb).1,w0⟩;rintro n s3 ⟨i,σ3,H3,I3,st3,fr3,w3⟩;rcases turn i n σ3 H3 w3 with⟨stop,qn⟩|⟨go,N,hN,step⟩
 ·refine wpAny_passesOwn hp (thn (T.done X rfl rfl rfl hc i pins s3 σ3 H3 X.xe I3 (stat fr3) st3 stop) fun r s4 ⟨hr,I4⟩=> ?_);subst hr;exact wpAny_execs_nil ⟨σ3,H3,I4,qn⟩
 ·refine wpAny_passesOwn hp (thn (T.item X rfl rfl rfl hc i pins s3 σ3 H3 X.xe I3 (stat fr3) st3 go) fun r s4 ⟨u,hr,h4⟩=> ?_);subst hr;refine wpAny_passesOwn hp (thn h4 fun _ s5 ⟨x,H5,I5,r5,y5,st5,fr5⟩=> ?_);have I5':=I5.pinned (stat fr5) (T.obj _ _ st5)
  refine wpAny_passesOwn hp (thn (hg _ s5 σ3 H5 x u _ I5' r5 (step x H5 y5)) fun _ s6 ⟨σ6,H6,I6,q6⟩=> ?_);refine wpAny_passesOwn hp (thn (hb _ s6 σ6 H6 _ I6 q6) fun f s7 q7=> ?_);have again:∀{σ7:St} {H7:Hp},Inv X (pins++qN fp s5.heap) σ7 H7 s7 ->N σ7 H7 -> ∃m,m<n /\ ∃i σ' H',Inv X pins σ' H' s7 /\ tn i s7.heap /\ (∀b∈fp,H' b=none) /\ W i m σ' H':=fun {σ7 H7} I7 n7=>by
   obtain⟨m',hm,w7⟩:=hN σ7 H7 n7
   refine⟨m',hm,i+1,σ7,H7,I7.unpinned,T.keep _ _ _ st5 fun b hb o e=>(I7.pin (b,o) (aM _ (aM _ (lH hb e)))).1,fun b hb=> ?_,w7⟩;obtain⟨o,e,d⟩:=T.obj _ _ st5 b hb
   exact(I7.pin (b,o) (aM _ (aM _ (lH hb e)))).2.1
  cases f with
  |next=>obtain⟨σ7,H7,I7,n7⟩:=q7;exact again I7 n7
  |cont=>obtain⟨σ7,H7,I7,n7⟩:=q7;exact again I7 n7
  |brk=>obtain⟨σ7,H7,I7,q7⟩:=q7;exact⟨σ7,H7,I7.unpinned,q7⟩
  |ret v=>obtain⟨x7,σ7,H7,I7,r7,q7⟩:=q7;exact⟨x7,σ7,H7,I7.unpinned,r7,q7⟩
end
theorem yd{K:ah}{a:Addr}{xs:List V}{g:TG}{tb:TS}{D:Ends}{σ:St}{H:Hp}(Pv:Nat ->St ->Hp ->Prop)(h0:Pv 0 σ H)(hl:∀i σ H,i<=xs.length ->Pv i σ H ->SqL K H a xs)
  (hs:∀i x σ H,xs[i]? =some x ->Pv i σ H ->g x σ H fun σ2 H2=>tb {D with nx:=Pv (i+1),ct:=Pv (i+1),bk:=D.nx} σ2 H2) (hd:∀σ H,Pv xs.length σ H ->D.nx σ H):
  ∃W:Nat ->Nat ->St ->Hp ->Prop,(∃m,W 0 m σ H) /\ ∀i m σ H,W i m σ H ->
   ((Itl K a).stop i H /\ D.nx σ H)∨((Itl K a).go i H /\ ∃N:St ->Hp ->Prop,(∀σ' H',N σ' H' -> ∃m',m'<m /\ W (i+1) m' σ' H') /\ ∀x H',(Itl K a).yld i H x H' ->g x σ H' fun σ2 H2=>tb {D with nx:=N,ct:=N,bk:=D.nx} σ2 H2):=by
 refine⟨fun i m σ H=>m=xs.length-i /\ i<=xs.length /\ Pv i σ H,⟨xs.length,by simp,bp _,h0⟩,?_⟩;rintro i m σ H ⟨rfl,hi,p⟩;have q:=hl i σ H hi p
 by_cases hlt:i<xs.length
 ·refine .inr ⟨⟨xs,xs[i],q,by simp[hlt]⟩,Pv (i+1),fun σ' H' p'=>⟨xs.length-(i+1),by omega,rfl,hlt,p'⟩,fun x H' y=> ?_⟩;obtain⟨e,y⟩:=y
  subst e;exact hs i x σ _ (y xs q) p
 ·have e:i=xs.length:=by omega
  subst e;exact .inl ⟨⟨xs,q,av _⟩,hd σ H p⟩
theorem q5{lo:Int}{n:Nat}{g:TG}{tb:TS}{D:Ends}{σ:St}{H:Hp}(Pv:Nat ->St ->Hp ->Prop)(h0:Pv 0 σ H)
  (hs:∀i σ H,i<n ->Pv i σ H ->g (.int (lo+i)) σ H fun σ2 H2=>tb {D with nx:=Pv (i+1),ct:=Pv (i+1),bk:=D.nx} σ2 H2) (hd:∀σ H,Pv n σ H ->D.nx σ H):
  ∃W:Nat ->Nat ->St ->Hp ->Prop,(∃m,W 0 m σ H) /\ ∀i m σ H,W i m σ H ->
   ((Itr lo n).stop i H /\ D.nx σ H)∨((Itr lo n).go i H /\ ∃N:St ->Hp ->Prop,(∀σ' H',N σ' H' -> ∃m',m'<m /\ W (i+1) m' σ' H') /\ ∀x H',(Itr lo n).yld i H x H' ->g x σ H' fun σ2 H2=>tb {D with nx:=N,ct:=N,bk:=D.nx} σ2 H2):=by
 refine⟨fun i m σ H=>m=n-i /\ i<=n /\ Pv i σ H,⟨n,by simp,bp _,h0⟩,?_⟩;rintro i m σ H ⟨rfl,hi,p⟩
 by_cases hlt:i<n
 ·refine .inr ⟨hlt,Pv (i+1),fun σ' H' p'=>⟨n-(i+1),by omega,rfl,hlt,p'⟩,fun x H' y=> ?_⟩;obtain⟨e,y⟩:=y
  subst e y;exact hs i σ _ hlt p
 ·have e:i=n:=by omega
  subst e;exact .inl ⟨av _,hd σ H p⟩
end L2
namespace L2
open PySem PySem.Spec PyProof.Rows
noncomputable abbrev R2:=V ->V ->Hp ->VK ->Prop
noncomputable def OpR(X:Cx)(f:Value ->Value ->Sem Value)(r:R2):Prop:=
 ∀(pins:List (Addr×Obj)) (s:Shared) (σ:St) (H:Hp) (x y:V) (v u:Value) (Q:VK),Inv X pins σ H s ->RelV x v ->RelV y u ->r x y H Q ->
  wpAny (model X.prog X.w) X.A (f v u) (EP X pins σ Q) X.xe s
noncomputable def UnR(X:Cx)(f:Value ->Sem Value)(r:V ->Hp ->VK ->Prop):Prop:=
 ∀(pins:List (Addr×Obj)) (s:Shared) (σ:St) (H:Hp) (x:V) (v:Value) (Q:VK),Inv X pins σ H s ->RelV x v ->r x H Q ->
  wpAny (model X.prog X.w) X.A (f v) (EP X pins σ Q) X.xe s
noncomputable def CallR(X:Cx)(f:Value)(r:List V ->Hp ->VK ->Prop):Prop:=
 ∀(pins:List (Addr×Obj)) (s:Shared) (σ:St) (H:Hp) (xs:List V) (us:List Value) (Q:VK),Inv X pins σ H s ->Vals xs us ->r xs H Q ->
  wpAny (model X.prog X.w) X.A (call f us) (EP X pins σ Q) X.xe s
noncomputable def tOp(r:R2)(ta tb:TE):TE:=fun σ H Q=>ta σ H fun x H1=>tb σ H1 fun y H2=>r x y H2 Q
noncomputable def tUn(r:V ->Hp ->VK ->Prop)(ta:TE):TE:=fun σ H Q=>ta σ H fun x H1=>r x H1 Q
noncomputable def rI(C:Int ->Int ->Prop)(g:Int ->Int ->V):R2:=fun x y H Q=>∃i j,x= .int i /\ y= .int j /\ C i j /\ Q (g i j) H
noncomputable def rI0(g:Int ->Int ->V):R2:=fun x y H Q=>∃i j,x= .int i /\ y= .int j /\ Q (g i j) H
noncomputable def rU(g:Int ->V):V ->Hp ->VK ->Prop:=fun x H Q=>∃i,x= .int i /\ Q (g i) H
section
variable {X:Cx} {a b c:Expr} {ta tb tc:TE} {pos:Pos}
theorem Cs(ha:PE X a ta)(hb:PE X b tb){pins:List (Addr×Obj)}{s:Shared}{σ:St}{H:Hp}{R:V ->V ->Hp ->Prop}(I:Inv X pins σ H s)
  (h:ta σ H fun x H1=>tb σ H1 fun y H2=>R x y H2) {Q:Value ->Shared ->Prop} {f:Value ->Value ->Sem Value}
  (hf:∀v u s2 x y H2,Inv X pins σ H2 s2 ->RelV x v ->RelV y u ->R x y H2 ->wpAny (model X.prog X.w) X.A (f v u) Q X.xe s2):
  wpAny (model X.prog X.w) X.A (eval a X.env) (fun v s₁=>wpAny (model X.prog X.w) X.A (eval b X.env) (fun u s₂=>wpAny (model X.prog X.w) X.A (f v u) Q X.xe s₂) X.xe s₁) X.xe s:=by
 refine thn (ha pins s σ H _ I h) fun v s1 ⟨x,H1,I1,r1,q1⟩=> ?_
 refine thn (hb pins s1 σ H1 _ I1 q1) fun u s2 ⟨y,H2,I2,r2,q2⟩=> ?_
 exact hf v u s2 x y H2 I2 r1 r2 q2
theorem i8{op:Operator}{r:R2}(ho:OpR X (binaryOp op) r)(ha:PE X a ta)(hb:PE X b tb):PE X (.BinOp a op b pos) (tOp r ta tb):=by
 intro pins s σ H Q I h;exact wpAny_BinOp (Cs ha hb I h fun v u s2 x y H2 I2 rx ry q=>ho pins s2 σ H2 x y v u Q I2 rx ry q)
theorem vC{op:UnaryOp}{r:V ->Hp ->VK ->Prop}(ho:UnR X (unaryOp op) r)(ha:PE X a ta):PE X (.UnaryOp op a pos) (tUn r ta):=by
 intro pins s σ H Q I h;exact UnaryOp_ (thn (ha pins s σ H _ I h) fun v s1 ⟨x,H1,I1,r1,q1⟩=>ho pins s1 σ H1 x v Q I1 r1 q1)
theorem opI{f:Value ->Value ->Sem Value}{C:Int ->Int ->Prop}{g:Int ->Int ->Int}
  (rule:∀(i j:Int) (t u:Tok) (s:Shared) (Q:Value ->Shared ->Prop) (E:Value ->Shared ->Prop),C i j ->Q (.int (g i j) s.toks) {s with toks:=s.toks+1} ->wpAny (model X.prog X.w) X.A (f (.int i t) (.int j u)) Q E s):
  OpR X f (rI C fun i j=> .int (g i j)):=by
 intro pins s σ H x y v u Q I rx ry h;obtain⟨i,j,rfl,rfl,hc,q⟩:=h
 obtain⟨t,rfl⟩:=rx
 obtain⟨t',rfl⟩:=ry
 exact rule i j t t' s _ _ hc ⟨.int (g i j),H,I.tok _,⟨_,rfl⟩,q⟩
theorem CA{f:Value ->Value ->Sem Value}{g:Int ->Int ->Int}
  (rule:∀(i j:Int) (t u:Tok) (s:Shared) (Q:Value ->Shared ->Prop) (E:Value ->Shared ->Prop),Q (.int (g i j) s.toks) {s with toks:=s.toks+1} ->wpAny (model X.prog X.w) X.A (f (.int i t) (.int j u)) Q E s):
  OpR X f (rI0 fun i j=> .int (g i j)):=by
 intro pins s σ H x y v u Q I rx ry h;obtain⟨i,j,rfl,rfl,q⟩:=h
 obtain⟨t,rfl⟩:=rx
 obtain⟨t',rfl⟩:=ry
 exact rule i j t t' s _ _ ⟨.int (g i j),H,I.tok _,⟨_,rfl⟩,q⟩
theorem Ap{f:Value ->Value ->Sem Value}{g:Int ->Int ->Bool}
  (rule:∀(i j:Int) (t u:Tok) (s:Shared) (Q:Value ->Shared ->Prop) (E:Value ->Shared ->Prop),Q (.bool (g i j)) s ->wpAny (model X.prog X.w) X.A (f (.int i t) (.int j u)) Q E s):
  OpR X f (rI0 fun i j=> .bl (g i j)):=by
 intro pins s σ H x y v u Q I rx ry h;obtain⟨i,j,rfl,rfl,q⟩:=h
 obtain⟨t,rfl⟩:=rx
 obtain⟨t',rfl⟩:=ry
 exact rule i j t t' s _ _ ⟨.bl (g i j),H,I,rfl,q⟩
noncomputable def CMul(i j:Int):Prop:=(-(2^64)<i /\ i<2^64)∨(-(2^64)<j /\ j<2^64)
theorem CMul.ok{i j:Int}(h:CMul i j):IntMulOk i j:=by
 rcases h with⟨h1,h2⟩|⟨h1,h2⟩
 ·exact .of_left (intBits_le_64 h1 h2)
 ·exact .of_right (intBits_le_64 h1 h2)
theorem jG:OpR X (binaryOp .Add) (rI0 fun i j=> .int (i+j)):=CA fun _ _ _ _ _ _ _ q=>add_int q
theorem jR:OpR X (binaryOp .Sub) (rI0 fun i j=> .int (i-j)):=CA fun _ _ _ _ _ _ _ q=>sub_int q
theorem ly:OpR X (binaryOp .Mod) (rI (fun _ j=>0<j) fun i j=> .int (i%j)):=opI fun i j _ _ _ _ _ hc q=>by
 have h1:(0:Int)<j:=hc
 exact mod_int' (by omega) (by rw[Int.fmod_eq_emod_of_nonneg i (by omega)];exact q)
theorem unI{f:Value ->Sem Value}{g:Int ->Int}
  (rule:∀(i:Int) (t:Tok) (s:Shared) (Q:Value ->Shared ->Prop) (E:Value ->Shared ->Prop),Q (.int (g i) s.toks) {s with toks:=s.toks+1} ->wpAny (model X.prog X.w) X.A (f (.int i t)) Q E s):
  UnR X f (rU fun i=> .int (g i)):=by
 intro pins s σ H x v Q I rx h;obtain⟨i,rfl,q⟩:=h
 obtain⟨t,rfl⟩:=rx
 exact rule i t s _ _ ⟨.int (g i),H,I.tok _,⟨_,rfl⟩,q⟩
theorem qy:UnR X (unaryOp .USub) (rU fun i=> .int (-i)):=unI fun _ _ _ _ _ q=>neg_int q
end
noncomputable def An:V ->V ->Bool
 | .non,.non=>true| .non,.int _=>true| .int _,.non=>true| .non,.bl _=>true| .bl _,.non=>true| .non,.str _=>true| .str _,.non=>true
 | .int _,.int _=>true| .bl _,.bl _=>true| .str _,.str _=>true| .byt _,.byt _=>true
 | .int _,.str _=>true| .str _,.int _=>true| .bl _,.str _=>true| .str _,.bl _=>true
 |_,_=>false
noncomputable def rEq:R2:=fun x y H Q=>An x y=true /\ Q (.bl (decide (x=y))) H
noncomputable def rNe:R2:=fun x y H Q=>An x y=true /\ Q (.bl (!decide (x=y))) H
section
variable {X:Cx} {a b c:Expr} {ta tb tc:TE} {pos:Pos}
theorem mO:OpR X (compareOp .Lt) (rI0 fun i j=> .bl (decide (i<j))):=Ap fun _ _ _ _ _ _ _ q=>lt_int q
theorem uw:OpR X (compareOp .LtE) (rI0 fun i j=> .bl (decide (i<=j))):=Ap fun _ _ _ _ _ _ _ q=>le_int q
theorem pU:OpR X (compareOp .Gt) (rI0 fun i j=> .bl (decide (j<i))):=Ap fun _ _ _ _ _ _ _ q=>gt_int q
theorem ux:OpR X (compareOp .GtE) (rI0 fun i j=> .bl (decide (j<=i))):=Ap fun _ _ _ _ _ _ _ q=>ge_int q
theorem OpR.or{f:Value ->Value ->Sem Value}{r r':R2}(h:OpR X f r)(h':OpR X f r'):OpR X f (fun x y H Q=>r x y H Q∨r' x y H Q):=by
 intro pins s σ H x y v u Q I rx ry q;rcases q with q|q
 ·exact h pins s σ H x y v u Q I rx ry q
 ·exact h' pins s σ H x y v u Q I rx ry q
theorem je(b:Expr){op:CmpOp}(h:op≠ .In:=by decide)(h2:op≠ .NotIn:=by decide):behindInMarks op b=false:=by
 have e1:(op==CmpOp.In)=false:=by cases op<;>first|rfl|exact absurd rfl h
 have e2:(op==CmpOp.NotIn)=false:=by cases op<;>first|rfl|exact absurd rfl h2
 cases b<;>simp[behindInMarks,e1,e2]
theorem kG{op:CmpOp}{r:R2}(ho:OpR X (compareOp op) r)(ha:PE X a ta)(hb:PE X b tb)(hm:behindInMarks op b=false):PE X (.Compare a [op] [b] pos) (tOp r ta tb):=by
 intro pins s σ H Q I h;exact wpAny_Compare1 (Cs ha hb I h fun v u s2 x y H2 I2 rx ry q=>ho pins s2 σ H2 x y v u Q I2 rx ry q) hm
noncomputable def wU(t:TE):TT:=fun σ H Q=>t σ H fun x H'=>∃k,x= .bl k /\ Q k H'
noncomputable def yC(r r':R2)(ta tb tc:TE):TE:=fun σ H Q=>ta σ H fun x H1=>tb σ H1 fun y H2=>r x y H2 fun z H3=>∃k,z= .bl k /\
 (if k=true then tc σ H3 fun w' H4=>r' y w' H4 Q else Q (.bl false) H3)
theorem tF{op op':CmpOp}{r r':R2}(ho:OpR X (compareOp op) r)(ho':OpR X (compareOp op') r')(ha:PE X a ta)(hb:PE X b tb)(hc:PE X c tc)
  (hm:lastMarks [op,op'] [b,c]=false:=by with_unfolding_all rfl):PE X (.Compare a [op,op'] [b,c] pos) (yC r r' ta tb tc):=by
 intro pins s σ H Q I h;refine Compare_chain (thn (ha pins s σ H _ I h) fun v s1 ⟨x,H1,I1,r1,q1⟩=>chain_link (thn (hb pins s1 σ H1 _ I1 q1) fun u s2 ⟨y,H2,I2,r2,q2⟩=>
  thn (ho pins s2 σ H2 x y v u _ I2 r1 r2 q2) fun d s3 ⟨z,H3,I3,r3,k,e,q3⟩=> ?_)) hm
 subst e;cases r3;refine wpAny_truthy_bool ?_;cases k with
 |false=>exact ite_ff ⟨.bl false,H3,I3,rfl,q3⟩
 |true=>exact ite_tt (chain_last (thn (hc pins s3 σ H3 _ I3 q3) fun w' s4 ⟨z',H4,I4,r4,q4⟩=>ho' pins s4 σ H4 y z' u w' Q I4 r2 r4 q4))
theorem vS:(sizeLine:Nat)<2^63:=by rw[sizeLine_eq];decide
theorem vals1{x:V}{us:List Value}(r:Vals [x] us):∃u,us=[u] /\ RelV x u:=by
 cases r with
 |cons r1 r2=>cases r2;exact⟨_,rfl,r1⟩
theorem ud:CallR X (.builtin "abs") (fun xs H Q=>∃i,xs=[.int i] /\ Q (.int (if i<0 then -i else i)) H):=by
 intro pins s σ H xs us Q I r h;obtain⟨i,rfl,q⟩:=h
 obtain⟨u,rfl,t,rfl⟩:=vals1 r
 exact call_abs_int fun u tk=>⟨.int (if i<0 then -i else i),H,I.tok _,⟨_,rfl⟩,q⟩
theorem rj:CallR X (.type "int") (fun xs H Q=>(∃i,xs=[.int i] /\ Q (.int i) H)∨∃k,xs=[.bl k] /\ Q (.int (if k then 1 else 0)) H):=by
 intro pins s σ H xs us Q I r h;rcases h with⟨i,rfl,q⟩|⟨k,rfl,q⟩
 ·obtain⟨u,rfl,t,rfl⟩:=vals1 r
  exact call_int_int ⟨.int i,H,I,⟨_,rfl⟩,q⟩
 ·obtain⟨u,rfl,r1⟩:=vals1 r
  cases r1;exact call_int_bool ⟨.int (if k then 1 else 0),H,I.tok _,⟨_,rfl⟩,q⟩
end
end L2
namespace L2
open PySem PySem.Spec PyProof.Rows
structure ObjM(h:Heap)(x dx C:Addr)(mA:Str ->Option Value):Prop where
 obj:h.get? x=some (fY C dx)
 ns:h.Ns1 dx mA
 ne:dx≠x
theorem vR{h:Heap}{dx:Addr}{mA:Str ->Option Value}(n:h.Ns1 dx mA):∃od,h.get? dx=some od /\ ∀name,gy name od=some (mA name):=by
 obtain⟨o,es,ep,ho,hd,hk,_,hm⟩:=n
 refine⟨o,ho,fun name=> ?_⟩;have e:=hm name
 unfold nsFind findBy at e;rw[<-Array.find?_toList] at e;unfold gy;rw[hd];dsimp only;split
 ·rename_i y q
  rw[q] at e;exact congrArg some e
 ·rename_i q
  rw[q] at e;have a:es.toList.any (·.refKey)=false:=by
   rw[fE];intro y hy;obtain⟨z,t,hkey⟩:=hk y (Array.mem_toList_iff.mp hy)
   simp[DictEntry.refKey,hkey]
  have a':¬es.toList.any (·.refKey)=true:=by rw[a];exact bQ
  rw[if_neg a'];exact congrArg some e
theorem ObjM.look{h:Heap}{x dx C:Addr}{mA:Str ->Option Value}(I:ObjM h x dx C mA):∃od,PySem.W.InstAt h x (fY C dx) C (some od) /\ ∀name,gy name od=some (mA name):=
 let⟨od,ho,hl⟩:=vR I.ns
 ⟨od,⟨I.obj,rfl,rfl,ho⟩,hl⟩
theorem RelO.some_of{v:V}{o:Option Value}(r:RelO (some v) o):∃u,o=some u /\ RelV v u:=by
 cases o with
 |none=>exact(show False from r).elim
 |some u=>exact⟨u,rfl,r⟩
structure Cls(K:ah)(C:Addr):Prop where
 pg:gV K C Str.empty=true
 hd:PySem.W.hasDictIn K C=true
 po:PySem.W.plainOver K C=true
 sa:de K (.ref C) "__setattr__"=some (some (.builtin "object.__setattr__"))
theorem Cls.get{K:ah}{C:Addr}(c:Cls K C)(f:Str):gV K C f=true:=c.pg
end L2
namespace L2
open PySem PySem.Spec PyProof.Rows
structure Room(k:Nat)(A:Around):Prop where
 hd:A.handled=none
 dp:A.depth+3*k+5<recursionLimit
 un:A.units+16*k+200<cLine
theorem Room.mono{j k:Nat}{A:Around}(r:Room k A)(h:j<=k):Room j A:=⟨r.hd,by have:=r.dp;omega,by have:=r.un;omega⟩
theorem Room.deeper{k:Nat}{A:Around}(r:Room (k+1) A)(env:Env):Room k (A.deeper env):=
 ⟨r.hd,by have:=r.dp;show A.depth+1+3*k+5<_;omega,by have:=r.un;show A.units+3+16*k+200<_;omega⟩
theorem Room.in1{k:Nat}{A:Around}(r:Room (k+1) A):Room k A.in1:=
 ⟨r.hd,by have:=r.dp;show A.depth+3*k+5<_;omega,by have:=r.un;show A.units+1+16*k+200<_;omega⟩
theorem Room.depth{k:Nat}{A:Around}(r:Room k A):A.depth<recursionLimit:=by have:=r.dp;omega
theorem Room.units{k:Nat}{A:Around}(r:Room k A):A.units+64<cLine:=by have:=r.un;omega
noncomputable def AH:TA:=fun _ H Q=>Q [] H
noncomputable def uk(ta:TE)(tr:TA):TA:=fun σ H Q=>ta σ H fun x H1=>tr σ H1 fun xs H2=>Q (x::xs) H2
section
variable {X:Cx} {e:Expr} {es:List Expr} {te:TE} {t:TA} {pos:Pos}
theorem iV:PA X [] AH:=fun _ _ _ _ H Q I h=>Calls.spliced_nil ⟨[],H,I,.nil,h⟩
theorem iT(ha:PE X e te)(hr:PA X es t)(hs:starEach (e::es) X.env=(false,eval e X.env)::starEach es X.env:=by rfl):PA X (e::es) (uk te t):=by
 intro pos pins s σ H Q I h;rw[hs];show wpAny _ _ (spliced ((false,eval e X.env)::backTo pos (starEach es X.env))) _ _ s
 refine Calls.spliced_cons (thn (ha pins s σ H _ I h) fun u s1 ⟨x,H1,I1,r1,q1⟩=> ?_);exact thn (hr pos pins s1 σ H1 _ I1 q1) fun us s2 ⟨xs,H2,I2,r2,q2⟩=>⟨x::xs,H2,I2,.cons r1 r2,q2⟩
noncomputable def AD(t:TA):TE:=fun σ H Q=>t σ H fun xs H1=>xs.length<=sizeLine /\ ∀p,H1 p=none ->Q (.ref p) (upd H1 p (.tup xs))
noncomputable def AJ(t:TA):TE:=fun σ H Q=>t σ H fun xs H1=>xs.length<=sizeLine /\ ∀p,H1 p=none ->Q (.ref p) (upd H1 p (.lst xs))
theorem jA{x1}(h:PA X es t):PE X (.Tuple es x1 pos) (AD t):=by
 intro pins s σ H Q I hq;refine wpAny_Tuple_spliced (thn (h pos pins s σ H _ I hq) fun us s1 ⟨xs,H1,I1,r,z,q⟩=>⟨by rw[<-r.length];exact z,?_⟩);have hf:H1 s1.heap.objs.size=none:=I1.hok.fresh (av _)
 refine⟨.ref s1.heap.objs.size,upd H1 s1.heap.objs.size (.tup xs),I1.laid (t':=s1.toks) (fun b u e=>Heap.get?_push_of_some _ e) (av _) ?_,rfl,q _ hf⟩;exact⟨z,us,r,⟨_,Heap.get?_push_size _ rfl,rfl,_,rfl⟩⟩
theorem kD(h:PA X es t):PE X (.List es pos) (AJ t):=by
 intro pins s σ H Q I hq;refine wpAny_List_spliced (thn (h pos pins s σ H _ I hq) fun us s1 ⟨xs,H1,I1,r,z,q⟩=>⟨by rw[<-r.length];exact z,?_⟩);have hf:H1 s1.heap.objs.size=none:=I1.hok.fresh (av _)
 refine⟨.ref s1.heap.objs.size,upd H1 s1.heap.objs.size (.lst xs),I1.laid (t':=s1.toks) (fun b u e=>Heap.get?_push_of_some _ e) (av _) ?_,rfl,q _ hf⟩;exact⟨z,us,0,r,Heap.get?_push_size _ rfl⟩
end
noncomputable abbrev Sp:=List V ->Hp ->VK ->XK ->Prop
noncomputable abbrev CXT:=List Env ->Hp ->Shared ->XK ->Value ->Shared ->Prop
structure Env0(P:Program)(w:World)(K:ah)(mg:Str ->Option Value)(base:Heap)(A:Around)(outer:List Env)(s:Shared)(H:Hp):Prop where
 frames:A.frames=some outer
 mod:Mod K mg base
 bs:∀b o,base.get? b=some o ->s.heap.get? b=some o /\ H b=none
 bsz:base.objs.size<=s.heap.objs.size
 funs:s.heap.FunFrames base outer
 frf:∀b∈frs outer,H b=none
 hok:HOk P w H s.heap
 bare:AllBare s.gens
noncomputable def CE(outer:List Env)(P:Program)(w:World)(H:Hp)(s:Shared)(Q:VK)(u:Value)(s':Shared):Prop:=
 ∃v H',s'.os=s.os /\ AllBare s'.gens /\ Un (frs outer) [] H H' s.heap s'.heap /\ HOk P w H' s'.heap /\ RelV v u /\ Q v H'
noncomputable def CR(CX:CXT)(outer:List Env)(P:Program)(w:World)(H:Hp)(s:Shared)(Q:VK)(E:XK)(r:Result)(s':Shared):Prop:=
 match r with
 | .ok (.ret u)=>CE outer P w H s Q u s'
 | .ok _=>False
 | .error e=>CX outer H s E e s'
structure FnOk(P:Program)(w:World)(K:ah)(mg:Str ->Option Value)(base:Heap)(CX:CXT)(k:Nat)(f:Addr)(fd:FuncData)(ps:List Str)(sp:Sp):Prop where
 len:∀vs H Q E,sp vs H Q E ->vs.length=ps.length
 run:∀(A:Around) (outer:List Env) (s:Shared) (H:Hp) (args:Args) (us:List Value) (vs:List V) (Q:VK) (E:XK),Room k A ->Env0 P w K mg base A outer s H ->BindsTo s fd args (ps.zip us) ->Vals vs us ->sp vs H Q E ->
  codeAny (model P w) A (.call (.ref f) args) (CR CX outer P w H s Q E) s
theorem FnOk.mono{P:Program}{w:World}{K:ah}{mg:Str ->Option Value}{base:Heap}{CX:CXT}{j k:Nat}{f:Addr}{fd:FuncData}{ps:List Str}{sp:Sp}(F:FnOk P w K mg base CX j f fd ps sp)(h:j<=k):
  FnOk P w K mg base CX k f fd ps sp:=⟨F.len,fun A outer s H args us vs Q E hr=>F.run A outer s H args us vs Q E (hr.mono h)⟩
theorem FnOk.imp{P:Program}{w:World}{K:ah}{mg:Str ->Option Value}{base:Heap}{CX:CXT}{k:Nat}{f:Addr}{fd:FuncData}{ps:List Str}{sp sp':Sp}(F:FnOk P w K mg base CX k f fd ps sp)
  (h:∀vs H Q E,sp' vs H Q E ->sp vs H Q E):FnOk P w K mg base CX k f fd ps sp':=
 ⟨fun vs H Q E q=>F.len vs H Q E (h _ _ _ _ q),fun A outer s H args us vs Q E hr he hb hv hs=>F.run A outer s H args us vs Q E hr he hb hv (h _ _ _ _ hs)⟩
theorem Env0.in1{P:Program}{w:World}{K:ah}{mg:Str ->Option Value}{base:Heap}{A:Around}{outer:List Env}{s:Shared}{H:Hp}(e:Env0 P w K mg base A outer s H):
  Env0 P w K mg base A.in1 outer s H:=⟨e.frames,e.mod,e.bs,e.bsz,e.funs,e.frf,e.hok,e.bare⟩
section
variable {X:Cx} {pins:List (Addr×Obj)} {σ:St} {H:Hp} {s s':Shared}
theorem Inv.env0(I:Inv X pins σ H s):Env0 X.prog X.w X.K X.mg X.base X.A X.stack s H:=
 ⟨I.ok.frames,I.ok.mod,I.bs,bW I.ok.bsz I.sz,I.stack,I.stkFree,I.hok,I.bare⟩
theorem Inv.after{Q:VK}{u:Value}(I:Inv X pins σ H s)(h:CE X.stack X.prog X.w H s Q u s'):EP X pins σ Q u s':=by
 obtain⟨v,H',os,bare,un,hok,r,q⟩:=h
 obtain⟨hh,g,d,t,os'⟩:=s'
 obtain rfl:os'=s.os:=os
 exact⟨v,H',I.call (h':=hh) (g':=g) (d':=d) (t':=t) (ch:=[]) un hok bare (fun b z=>absurd z (by simp)),r,q⟩
end
noncomputable def ul(sp:Sp)(dvs:List V)(E:XK)(t:TA):TE:=fun σ H Q=>t σ H fun vs H1=>sp (vs++dvs) H1 Q E
noncomputable def Binds(K:ah)(fd:FuncData)(ps:List Str)(ds:List Value):Prop:=
 ∀(s:Shared) (us:List Value),K.In s.heap ->(us++ds).length=ps.length ->BindsTo s fd ⟨us,[]⟩ (ps.zip (us++ds))
theorem Binds.all{K:ah}{fd:FuncData}{ps:List Str}(h:∀us:List Value,us.length=ps.length ->bindArgs fd ⟨us,[]⟩=pure (ps.zip us)):Binds K fd ps []:=fun s us _ hl=>by
 rw[aI] at hl⊢;exact .of_eq (h us hl)
noncomputable def rA(CX:CXT)(X:Cx)(E:XK):Prop:=∀(pins:List (Addr×Obj)) (σ:St) (H:Hp) (s:Shared) (e:Value) (s':Shared),Inv X pins σ H s ->CX X.stack H s E e s' ->X.xe e s'
section
variable {X:Cx} {CX:CXT} {k:Nat} {f C:Addr} {fd:FuncData} {ps:List Str} {sp:Sp} {dvs:List V} {ds:List Value} {E:XK} {x m:Str} {p pos apos:Pos} {e o:Expr} {es:List Expr} {ta:TE} {t:TA}
theorem AU{pins:List (Addr×Obj)}{σ:St}{H:Hp}{s:Shared}{Q:VK}{us:List Value}{vs:List V}(F:FnOk X.prog X.w X.K X.mg X.base CX k f fd ps sp)(hr:Room k X.A)(hb:Binds X.K fd ps ds)(hd:Vals dvs ds)(hx:rA CX X E)
  (I:Inv X pins σ H s) (r:Vals vs us) (h:sp (vs++dvs) H Q E):wpAny (model X.prog X.w) X.A (call (.ref f) us) (EP X pins σ Q) X.xe s:=by
 have r2:Vals (vs++dvs) (us++ds):=r.append hd
 have hl:(us++ds).length=ps.length:=by rw[<-r2.length];exact F.len _ _ _ _ h
 refine wpAny_call (codeAny_mono (F.run X.A X.stack s H ⟨us,[]⟩ (us++ds) (vs++dvs) Q E hr I.env0 (hb s us I.kIn hl) r2 h) fun r s' hq=> ?_);cases r with
 |error e=>exact hx pins σ H s e s' I hq
 |ok fl=>
  cases fl with
  |ret u=>exact I.after hq
  |next=>exact False.elim hq
  |brk=>exact False.elim hq
  |cont=>exact False.elim hq
theorem zr(F:FnOk X.prog X.w X.K X.mg X.base CX k f fd ps sp)(hr:Room k X.A)(hg:Gl X x)(hm:X.mg x=some (.ref f))(hk:aE X.K (.ref f)=true)(hb:Binds X.K fd ps ds)(hd:Vals dvs ds)(hx:rA CX X E)
  (ha:PA X (e::es) t) (hdb:(x==("__debug__":Str))=false:=by decide) (he:starEach (e::es) X.env=(false,eval e X.env)::starEach es X.env:=by rfl) (hpl:(backTo pos (starEach es X.env)).any (·.1)=false:=by rfl):
  PE X (.Call (.Name x p) (e::es) [] pos) (ul sp dvs E t):=by
 intro pins s σ H Q I h;refine wpAny_Call_Name_kw (vT I hg hm ?_ hdb);refine gE (h₀:=X.base) I.ok.mod.kin hk (thn (ha pos pins s σ H _ I h) fun us s1 ⟨vs,H1,I1,r,q⟩=>⟨I1.kIn,?_⟩) he hpl;exact AU F hr hb hd hx I1 r q
end
structure FnScope(N P:List Str)(sc:Scope):Prop where
 kind:sc.kind= .function
 co:sc.isCoroutine=false
 gen:sc.isGenerator=false
 nd:N.Nodup
 pre:N.take P.length=P
 par:∀x∈P,sc.names.lookup x=some .local∨sc.names.lookup x=some .cell
 nofree:∀y∈sc.names,y.2≠ .free
theorem rl{kindOf:Str ->Option NameKind}{x:Str}:∀{binds:List (Str×Value)} {m:Str ->Option Value},(∀v,(x,v)∉binds) ->bindL kindOf binds m x=m x
 |[],_,_=>rfl
 |(n,v)::r,m,h=>by
  unfold bindL;rw[rl fun w hw=>h w (aB _ hw)];split
  ·have:x≠n:=by rintro rfl;exact h v aY
   simp[this]
  ·rfl
theorem rn{kindOf:Str ->Option NameKind}{x:Str}:∀{binds:List (Str×Value)} {m:Str ->Option Value},(∀v,(x,v)∉binds) ->bindC kindOf binds m x=m x
 |[],_,_=>rfl
 |(n,v)::r,m,h=>by
  unfold bindC;rw[rn fun w hw=>h w (aB _ hw)];split
  ·rfl
  ·have:x≠n:=by rintro rfl;exact h v aY
   simp[this]
theorem rm{kindOf:Str ->Option NameKind}{x:Str}{v:Value}:∀{P:List Str} {vs:List Value} {i:Nat} {m:Str ->Option Value},P.Nodup ->P[i]? =some x ->vs[i]? =some v ->kindOf x=some .local ->
  bindL kindOf (P.zip vs) m x=some v
 |[],_,_,_,_,h,_,_=>by simp at h
 |_::_,[],_,_,_,_,h,_=>by simp at h
 |p::P,w::vs,0,m,nd,h1,h2,hk=>by
  simp at h1 h2;subst h1;subst h2;show bindL kindOf ((p,w)::P.zip vs) m p=_
  unfold bindL;rw[rl fun v hv=>(bb.mp nd).1 (bE hv).1,if_pos hk];simp
 |p::P,w::vs,i+1,m,nd,h1,h2,hk=>by
  show bindL kindOf ((p,w)::P.zip vs) m x=_
  unfold bindL;exact rm (i:=i) (bb.mp nd).2 (by simpa using h1) (by simpa using h2) hk
theorem ro{kindOf:Str ->Option NameKind}{x:Str}{v:Value}:∀{P:List Str} {vs:List Value} {i:Nat} {m:Str ->Option Value},P.Nodup ->P[i]? =some x ->vs[i]? =some v ->kindOf x≠some .local ->
  bindC kindOf (P.zip vs) m x=some v
 |[],_,_,_,_,h,_,_=>by simp at h
 |_::_,[],_,_,_,_,h,_=>by simp at h
 |p::P,w::vs,0,m,nd,h1,h2,hk=>by
  simp at h1 h2;subst h1;subst h2;show bindC kindOf ((p,w)::P.zip vs) m p=_
  unfold bindC;rw[rn fun v hv=>(bb.mp nd).1 (bE hv).1,if_neg hk];simp
 |p::P,w::vs,i+1,m,nd,h1,h2,hk=>by
  show bindC kindOf ((p,w)::P.zip vs) m x=_
  unfold bindC;exact ro (i:=i) (bb.mp nd).2 (by simpa using h1) (by simpa using h2) hk
noncomputable def start(N:List Str)(vs:List V):St:=vs.map some++iG (N.length-vs.length) none
noncomputable def wH(CX:CXT)(P:Program)(w:World)(K:ah)(mg:Str ->Option Value)(base:Heap)(N:List Str)(qual:Str)(scope:Scope)(f:Addr)(cd:Value)(A:Around)(outer:List Env)(s:Shared)(H:Hp)(E:XK):Cx where
 prog:=P
 w:=w
 K:=K
 mg:=mg
 base:=base
 A:=A.deeper (envOfC qual scope s.heap.objs.size f cd)
 N:=N
 s₀:=s
 H₀:=H
 env:=envOfC qual scope s.heap.objs.size f cd
 outer:=outer
 stack:=envOfC qual scope s.heap.objs.size f cd::outer
 ex:=[]
 calm:=true
 fn:=fun _=>true
 pn:=[]
 xe:=fun e s'=>wpAny (model P w) (A.deeper (envOfC qual scope s.heap.objs.size f cd)) (leaving (envOfC qual scope s.heap.objs.size f cd) e) (fun _ s''=>CX outer H s E e s'') (fun e' s''=>CX outer H s E e' s'') s'
theorem uc{sc:Scope}{n:Nat}{x:Str}(h:sc.names.lookup x=some .cell):∃c,(cellsFrom n sc.names []).lookup x=some c:=by
 have q:=fV sc.names n [] (.inl h)
 exact dR.mp q
theorem v0{CX:CXT}{P:Program}{w:World}{K:ah}{mg:Str ->Option Value}{base:Heap}{N ps:List Str}{qual:Str}{scope:Scope}{f:Addr}{cd:Value}{A:Around}{outer:List Env}{s s1:Shared}{H:Hp}{E:XK}{us:List Value}{vs:List V}
  (S:FnScope N ps scope) (hd:A.handled=none) (e0:Env0 P w K mg base A outer s H) (hl:vs.length=ps.length) (r:Vals vs us)
  (x:InCallC s s.heap.objs.size (bindL (envOfC qual scope s.heap.objs.size f cd).kindOf (ps.zip us) fun _=>none) (cellsFrom (s.heap.objs.size+1) scope.names []) (bindC (envOfC qual scope s.heap.objs.size f cd).kindOf (ps.zip us) fun _=>none) s1):
  Inv (wH CX P w K mg base N qual scope f cd A outer s H E) [] (start N vs) H s1:=by
 have hpl:ps.length<=N.length:=by have:=congrArg List.length S.pre;rw[az] at this;omega
 obtain⟨h1,tk,rfl,hk⟩:=x.done
 have noA:∀b:Addr,b∉(wH CX P w K mg base N qual scope f cd A outer s H E).ex:=fun b z=>absurd (show b∈([]:List Addr) from z) (by simp)
 refine⟨⟨e0.mod,S.kind,rfl,rfl,av _,fun y z c h1 h2=> ?_,fun y hy=> ?_,fun y c _ h=> ?_,fun _=>hd,Around.frames_deeper e0.frames,.inr ⟨rfl,rfl⟩,fun b z=>absurd z (noA b),e0.bs,e0.bsz,fun b _ _=>noA b,fun b z=>absurd z (noA b),e0.funs,e0.frf⟩,
  rfl,e0.bare,Un.kept hk,⟨_,x.toInCall.ns,fun i y v h1 h2 h3=> ?_⟩,fun y c h=>⟨_,x.cell y c h⟩,e0.hok.fresh (av _),fun y c h=> ?_,fun p hp=>absurd (show p∈([]:List (Addr×Obj)) from hp) (by simp),e0.hok.kept hk,?_⟩
 ·exact name_of_addr x.apart (cU h1) (cU h2)
 ·have hy:scope.names.lookup y=some .cell∨scope.names.lookup y=some .free:=hy
  rcases hy with hy|hy
  ·exact uc hy
  ·exact absurd rfl (S.nofree _ (cU hy))
 ·exact fZ (x.above y c (cU h))
 ·have hi:i<vs.length:=by
   unfold start at h2
   by_cases hi:i<vs.length
   ·exact hi
   ·rw[aH (by simpa using hi)] at h2;rw[dW] at h2;split at h2<;>cases h2
  have ha:vs[i]? =some v:=by
   unfold start at h2;rw[aQ (by simpa using hi),aC] at h2;cases e:vs[i]? with
   |none=>rw[e] at h2;cases h2
   |some a=>rw[e] at h2;cases h2;rfl
  obtain⟨u,hu,rv⟩:=r.get ha
  have hp:ps[i]? =some y:=by
   rw[<-S.pre,bu (by omega)];exact h1
  have ndP:ps.Nodup:=by rw[<-S.pre];exact S.nd.sublist (List.take_sublist _ _)
  refine⟨u,rv,?_⟩;rcases S.par y (ar hp) with k|k
  ·exact .inl ⟨k,rm ndP hp hu k⟩
  ·obtain⟨c,e⟩:=uc (n:=s.heap.objs.size+1) k
   refine .inr ⟨.inl k,c,e,?_⟩;have q:=x.cell y c e
   rw[ro ndP hp hu (by show scope.names.lookup y≠_;rw[k];decide)] at q
   exact q
 ·exact e0.hok.fresh (fZ (x.above y c (cU h)))
 ·unfold start;show _=N.length
  rw[aq,ae,f6];omega
theorem zS{CX:CXT}{P:Program}{w:World}{K:ah}{mg:Str ->Option Value}{base:Heap}{k:Nat}{f:Addr}{name qual:Str}{params:Arguments}{body:List Stmt}{scope:Scope}{dV kV doc pm cdv ct oc:Value}{an od:Option Addr}
  {osl:Array (Option Value)} {N ps:List Str} {sp:Sp} (lk:K.lookup f=some ⟨oc,od,.func (aK name qual params body scope dV kV doc pm an cdv ct),osl⟩) (hcd:aG K cdv qual=true) (S:FnScope N ps scope)
  (len:∀vs H Q E,sp vs H Q E ->vs.length=ps.length)
  (hbody:∀(A:Around) (outer:List Env) (s:Shared) (H:Hp) (vs:List V) (Q:VK) (E:XK),Room k (A.deeper (envOfC qual scope s.heap.objs.size f cdv)) ->sp vs H Q E ->
   ∃t,PSs (wH CX P w K mg base N qual scope f cdv A outer s H E) body t /\ t {nx:=fun _ H'=>Q .non H',rt:=Q} (start N vs) H):
  FnOk P w K mg base CX (k+1) f (aK name qual params body scope dV kV doc pm an cdv ct) ps sp:=by
 refine⟨len,fun A outer s H args us vs Q E hr e0 hb r hsp=> ?_⟩;have hl:=len _ _ _ _ hsp
 have KX:K.In s.heap:=e0.mod.kin.keeps fun b o e=>(e0.bs b o e).1
 have lim:s.heap.NoLimit:=e0.mod.nolimit.keeps fun b o e=>(e0.bs b o e).1
 have hkind:∀y∈ps.zip us,scope.names.lookup y.1=some .local∨(scope.names.lookup y.1=some .cell /\ ((cellsFrom (s.heap.objs.size+1) scope.names []).lookup y.1).isSome=true):=fun⟨n,v⟩ hy=>by
  rcases S.par n (bE hy).1 with q|q
  ·exact .inl q
  ·exact .inr ⟨q,fV _ _ _ (.inl q)⟩
 refine codeAny_call_function hr.depth (KX _ _ lk) rfl S.co S.gen rfl (PySem.W.codeRec_of KX hcd) (hb _ _ _ _ ?_);refine wpAny_newFunctionEnv_cells S.kind hkind fun env he s1 x=> ?_
 subst he;refine⟨lim.keeps x.toInCall.keep,codeAny_func ?_⟩;obtain⟨t,ht,hq⟩:=hbody A outer s H vs Q E (hr.deeper _) hsp
 have I:Inv (wH CX P w K mg base N qual scope f cdv A outer s H E) [] (start N vs) H s1:=v0 S hr.hd e0 hl r x
 refine wpAny_mono (ht [] s1 (start N vs) H _ I hq) (fun fl s' hs=> ?_) fun e s' hs=>hs
 have fin:∀{σ':St} {H':Hp} {v:V} {u:Value},Inv (wH CX P w K mg base N qual scope f cdv A outer s H E) [] σ' H' s' ->RelV v u ->Q v H' ->CE outer P w H s Q u s':=
  fun {σ' H' v u} J rv q=>⟨v,H',J.os,J.bare,J.base,J.hok,rv,q⟩
 cases fl with
 |ret u=>
  obtain⟨v,σ',H',J,rv,q⟩:=hs
  exact fin J rv q
 |next=>
  obtain⟨σ',H',J,q⟩:=hs
  exact fin (v:=V.non) (u:=Value.none) J rfl q
 |brk=>
  obtain⟨_,_,_,q⟩:=hs
  exact False.elim q
 |cont=>
  obtain⟨_,_,_,q⟩:=hs
  exact False.elim q
end L2
namespace L2
open PySem PySem.Spec PyProof.Rows
section
variable {X:Cx} {x:Str} {p pos:Pos} {e:Expr} {es:List Expr} {t:TA} {id T:String} {r:List V ->Hp ->VK ->Prop}
noncomputable def tCB(r:List V ->Hp ->VK ->Prop)(t:TA):TE:=fun σ H Q=>t σ H fun vs H1=>r vs H1 Q
theorem jc(hc:CallR X (.builtin id) r)(hg:Gl X x)(hm:X.mg x=none)(hv:bootBuiltins x=some (.builtin id))(ha:PA X (e::es) t)(hn:x≠"__name__":=by decide)(hdb:(x==("__debug__":Str))=false:=by decide)
  (he:starEach (e::es) X.env=(false,eval e X.env)::starEach es X.env:=by rfl) (hpl:(backTo pos (starEach es X.env)).any (·.1)=false:=by rfl):PE X (.Call (.Name x p) (e::es) [] pos) (tCB r t):=by
 intro pins s σ H Q I h;refine wpAny_Call_Name_kw (oH I hg hm hv ?_ hn hdb);exact PyProof.Rows.callWith_builtin1 (thn (ha pos pins s σ H _ I h) fun us s1 ⟨vs,H1,I1,r1,q1⟩=>hc pins s1 σ H1 vs us Q I1 r1 q1) he hpl
theorem jL(hc:CallR X (.type T) r)(hg:Gl X x)(hm:X.mg x=none)(hv:bootBuiltins x=some (.type T))(ha:PA X (e::es) t)(hn:x≠"__name__":=by decide)(hdb:(x==("__debug__":Str))=false:=by decide)
  (he:starEach (e::es) X.env=(false,eval e X.env)::starEach es X.env:=by rfl) (hpl:(backTo pos (starEach es X.env)).any (·.1)=false:=by rfl):PE X (.Call (.Name x p) (e::es) [] pos) (tCB r t):=by
 intro pins s σ H Q I h;refine wpAny_Call_Name_kw (oH I hg hm hv ?_ hn hdb);exact cO (thn (ha pos pins s σ H _ I h) fun us s1 ⟨vs,H1,I1,r1,q1⟩=>hc pins s1 σ H1 vs us Q I1 r1 q1) he hpl
end
end L2
namespace HT
open PySem PyProof.Rows
noncomputable def lexLt:List Int ->List Int ->Bool
 |[],[]=>false
 |[],_::_=>true
 |_::_,[]=>false
 |x::xs,y::ys=>if x=y then lexLt xs ys else decide (x<y)
theorem lexLt_cons(x y:Int)(xs ys:List Int):lexLt (x::xs) (y::ys)=if x=y then lexLt xs ys else decide (x<y):=rfl
theorem lexLt_nil_nil:lexLt [] []=false:=rfl
theorem ou(y:Int)(ys:List Int):lexLt [] (y::ys)=true:=rfl
theorem ow(x:Int)(xs:List Int):lexLt (x::xs) []=false:=rfl
theorem t6(A:Around)(s:Shared)(a:Int)(t:Tok)(c:Int)(u:Tok):∃e,SeqAt.EqAt A s (.int a t) (.int c u) e /\ (e=true↔a=c):=
 ⟨(a==c),SeqAt.EqAt.int_int a t c u,by simp⟩
theorem xw(A:Around)(s:Shared)(a:Int)(t:Tok)(c:Int)(u:Tok)(prog:Program)(w:World)(E:Value ->Shared ->Prop)(Q:Value ->Shared ->Prop)(h:Q (.bool (decide (a<c))) s):
  wpAny (model prog w) A (richCompare .Lt (.int a t) (.int c u)) Q E s:=
 (PyProof.Rows.lt_int h:wpAny (model prog w) A (compareOp .Lt (.int a t) (.int c u)) Q E s)
section
open PySem.SeqAt
open PySem.AutoSeq1 (wpAny_loadPart')
open PySem.MeetsSeq PySem.MeetsSeq2 PySem.MeetsSeq3
theorem oY(l b:Addr)(items items2:Array Value)(n n2:Nat)(dd dd2:Option Addr)(sl sl2:Array (Option Value))(ns ms:List Int)(hi:IntsAre items.toList ns)(hj:IntsAre items2.toList ms):
  Meets (Builtin.«tuple.__lt__» ⟨[.ref l,.ref b],[]⟩)
   (fun _ R s=>s.heap.get? l=some {cls:= .type "tuple",dict:=dd,data:= .seq items n,slots:=sl} /\ s.heap.get? b=some {cls:= .type "tuple",dict:=dd2,data:= .seq items2 n2,slots:=sl2} /\
    R (.ok (.ret (.bool (lexLt ns ms)))) s):=
 .of_wp fun prog w A R s h=>by
  obtain⟨hp,g,d,tk,os⟩:=s;obtain⟨hl,hb,h⟩:=h
  have f2:=AutoSeq1.sub_tuple_tuple
  have z1:items.size=ns.length:=by rw[<-hi.length];simp
  have z2:items2.size=ms.length:=by rw[<-hj.length];simp
  wp_walk using wpAny_loadPart' hl,wpAny_loadPart' hb,wpAny_forIn_list _ (fun rest b s'=>b.1=none /\ s'=⟨hp,g,d,tk,os⟩ /\ ∃(vs ws:List Value) (ns' ms':List Int),rest=vs.zip ws /\
   IntsAre vs ns' /\ IntsAre ws ms' /\ ns'.length+items2.size=ms'.length+items.size /\ R (.ok (.ret (.bool (lexLt ns' ms')))) ⟨hp,g,d,tk,os⟩) _
  case turn=>
   rintro⟨y,x⟩ rest b s' ⟨hb',rfl,vs,ws,ns',ms',hz,hvi,hwi,hlen,hR⟩;cases hvi with
   |nil=>rw[gL] at hz;cases hz
   |cons a t hvi'=>
    cases hwi with
    |nil=>rw[gF] at hz;cases hz
    |cons c u hwi'=>
     rw[cH] at hz
     injection hz with hyx hrest
     injection hyx with hy hx
     subst hy hx;rw[lexLt_cons] at hR;simp only[aX] at hlen;obtain⟨e,he,hiff⟩:=t6 A.in1 ⟨hp,g,d,tk,os⟩ a t c u
     refine wpAny_bind (he prog w _ _ ?_);cases e with
     |true=>
      rw[if_pos (hiff.mp rfl)] at hR
      wp_walk
      exact⟨rfl,rfl,_,_,_,_,hrest,hvi',hwi',by omega,hR⟩
     |false=>
      rw[if_neg (fun q=>absurd (hiff.mpr q) bQ)] at hR;have hri:=xw A.in1 ⟨hp,g,d,tk,os⟩ a t c u prog w
      wp_walk using hri
      exact⟨_,rfl,by simpa using hR⟩
  case fin=>
   rintro⟨b1,b2⟩ s' ⟨hb',rfl,vs,ws,ns',ms',hz,hvi,hwi,hlen,hR⟩;simp only at hb';subst hb';have hv:lexLt ns' ms'=decide (items.size<items2.size):=by
    cases hvi with
    |nil=>
     cases hwi with
     |nil=>
      simp only[bo] at hlen;rw[lexLt_nil_nil];exact(decide_eq_false (by omega)).symm
     |cons c u hw=>
      simp only[bo,aX] at hlen;rw[ou];exact(decide_eq_true (by omega)).symm
    |cons a t hv=>
     cases hwi with
     |nil=>
      simp only[bo,aX] at hlen;rw[ow];exact(decide_eq_false (by omega)).symm
     |cons c u hw=>
      rw[cH] at hz;cases hz
   rw[hv] at hR
   wp_walk
   exact⟨_,rfl,by simpa[Builtin.Tuple.tupleCompareSizes] using hR⟩
  case h=>
   exact⟨rfl,rfl,items.toList,items2.toList,ns,ms,rfl,hi,hj,by omega,h⟩
end
section
variable {prog:Program} {w:World} {A:Around} {E:Value ->Shared ->Prop} {s:Shared}
theorem lt_tupInts{l b:Addr}{items items2:Array Value}{ns ms:List Int}{Q:Value ->Shared ->Prop}(hl:IsTup s.heap l items)(hb:IsTup s.heap b items2)(hi:IntsAre items.toList ns)(hj:IntsAre items2.toList ms)
  (hu:A.units<cLine) (h:Q (.bool (lexLt ns ms)) s):wpAny (model prog w) A (compareOp .Lt (.ref l) (.ref b)) Q E s:=by
 obtain⟨⟨cls,dd,data,sl⟩,ho,hc,n,hd⟩:=id hl
 obtain⟨⟨cls2,dd2,data2,sl2⟩,ho2,hc2,n2,hd2⟩:=id hb
 simp only at hc hd hc2 hd2;subst hc hd hc2 hd2;exact richCompare_meets_room (op:= .Lt) ⟨_,ho,rfl⟩ ⟨_,ho2,rfl⟩ PySem.F.slot_tuple_lt PySem.F.entry_tuple_lt (PySem.F.args_tuple_lt_2 _ _) (oY l b items items2 n n2 dd dd2 sl sl2 ns ms hi hj)
  ⟨ho,ho2,show Value.bool (lexLt ns ms)≠Value.notImplemented /\ Q (.bool (lexLt ns ms)) s from⟨(fun x=>nomatch x),h⟩⟩ hu
noncomputable def sIx(n d:Nat):Option Int ->Nat
 |none=>d
 |some v=>if v<0 then(v+(n:Int)).toNat else min v.toNat n
theorem sIx_none(n d:Nat):sIx n d none=d:=rfl
theorem sIx_nat(n d k:Nat):sIx n d (some (k:Int))=min k n:=by
 show(if(k:Int)<0 then((k:Int)+(n:Int)).toNat else min (k:Int).toNat n)=min k n
 rw[if_neg (by omega),fF]
end
end HT
namespace L2
open PySem PySem.Spec PyProof.Rows
noncomputable abbrev TO:=St ->Hp ->(Option Int ->Hp ->Prop) ->Prop
noncomputable def PO(X:Cx)(e:Option Expr)(t:TO):Prop:=
 ∀(pins:List (Addr×Obj)) (s:Shared) (σ:St) (H:Hp) (Q:Option Int ->Hp ->Prop),Inv X pins σ H s ->t σ H Q ->
  wpAny (model X.prog X.w) X.A (evalPart e X.env) (fun u s'=>∃o H',Inv X pins σ H' s' /\ IsPart u o /\ Q o H') X.xe s
noncomputable def ny:TO:=fun _ H Q=>Q none H
noncomputable def uS(t:TE):TO:=fun σ H Q=>t σ H fun x H1=>∃i,x= .int i /\ Q (some i) H1
theorem intsAre_of{ns:List Int}:∀{us:List Value},Vals (ns.map V.int) us ->IntsAre us ns:=by
 induction ns with
 |nil=>intro us r;rw[bI] at r;cases r;exact .nil
 |cons n ns ih=>
  intro us r;rw[aD] at r;cases r with
  |cons r1 r2=>
   obtain⟨t,e⟩:=r1
   subst e;exact .cons n t (ih r2)
section
variable {X:Cx} {e:Expr} {te:TE} {lo hi:Option Expr} {tl th:TO} {pos p2:Pos}
theorem kr:PO X none ny:=by
 intro pins s σ H Q I h;rw[evalPart_none];exact wpAny_pure ⟨none,H,I,.none,h⟩
theorem ko(h:PE X e te):PO X (some e) (uS te):=by
 intro pins s σ H Q I hw;rw[evalPart_some];refine thn (h pins s σ H _ I hw) fun u s1 ⟨x,H1,I1,r1,q1⟩=> ?_
 obtain⟨i,rfl,q⟩:=q1
 obtain⟨t,rfl⟩:=r1
 exact⟨some i,H1,I1,.int i t,q⟩
noncomputable def SlR(X:Cx)(r:V ->Option Int ->Option Int ->Hp ->VK ->Prop):Prop:=
 ∀(pins:List (Addr×Obj)) (s:Shared) (σ:St) (H:Hp) (x:V) (v vl vu:Value) (lo hi:Option Int) (sl:Addr) (Q:VK),Inv X pins σ H s ->RelV x v ->s.heap.IsSliceOf sl vl vu .none ->IsPart vl lo ->IsPart vu hi ->r x lo hi H Q ->
  ∃T id,typeLookup (.type T) "__getitem__"=pure (some (.builtin id)) /\ s.TypeIs v T /\ wpAny (model X.prog X.w) X.A (getItem v (.ref sl)) (EP X pins σ Q) X.xe s
theorem SlR.or{r r':V ->Option Int ->Option Int ->Hp ->VK ->Prop}(h:SlR X r)(h':SlR X r'):SlR X (fun x lo hi H Q=>r x lo hi H Q∨r' x lo hi H Q):=by
 intro pins s σ H x v vl vu lo hi sl Q I rx hs pl pu q;rcases q with q|q
 ·exact h pins s σ H x v vl vu lo hi sl Q I rx hs pl pu q
 ·exact h' pins s σ H x v vl vu lo hi sl Q I rx hs pl pu q
noncomputable def tSl(r:V ->Option Int ->Option Int ->Hp ->VK ->Prop)(te:TE)(tl th:TO):TE:=fun σ H Q=>te σ H fun x H1=>tl σ H1 fun l H2=>th σ H2 fun u H3=>r x l u H3 Q
theorem jV{r:V ->Option Int ->Option Int ->Hp ->VK ->Prop}(hr:SlR X r)(he:PE X e te)(hl:PO X lo tl)(hu:PO X hi th):PE X (.Subscript e (.Slice lo hi none p2) pos) (tSl r te tl th):=by
 intro pins s σ H Q I h;refine Subscript_ (thn (he pins s σ H _ I h) fun v s1 ⟨x,H1,I1,r1,q1⟩=> ?_);refine wpAny_Slice (thn (hl pins s1 σ H1 _ I1 q1) fun vl s2 ⟨l,H2,I2,pl,q2⟩=>thn (hu pins s2 σ H2 _ I2 q2) fun vu s3 ⟨u,H3,I3,pu,q3⟩=> ?_);rw[evalPart_none];refine wpAny_pure ?_;have I4:Inv X pins σ H3 {s3 with heap:=s3.heap.push {cls:= .type "slice",data:= .fields #[vl,vu,.none]}}:=I3.kept (t':=s3.toks) fun b ob q=>Heap.get?_push_of_some _ q
 obtain⟨T,id,hT,ht,hg⟩:=hr pins {s3 with heap:=s3.heap.push {cls:= .type "slice",data:= .fields #[vl,vu,.none]}} σ H3 x v vl vu l u s3.heap.objs.size Q I4 r1 (Heap.IsSliceOf.new ..) pl pu q3
 show wpAny (model X.prog X.w) X.A (subscriptTail e (.Slice lo hi none p2) v (.ref s3.heap.objs.size)) (EP X pins σ Q) X.xe {s3 with heap:=s3.heap.push {cls:= .type "slice",data:= .fields #[vl,vu,.none]}}
 exact tail_any (ops:=[.ref s3.heap.objs.size,v]) ht hT hg (by with_unfolding_all rfl)
noncomputable def ua(xs:List V)(lo hi:Option Int):List V:=(xs.drop (HT.sIx xs.length 0 lo)).take (HT.sIx xs.length xs.length hi-HT.sIx xs.length 0 lo)
theorem sF(xs:List V)(lo hi:Option Int):(ua xs lo hi).length<=xs.length:=by
 unfold ua;rw[az,aJ];omega
end
end L2
namespace L2
open PySem PySem.Spec PyProof.Rows
noncomputable def ixN(n:Nat)(i:Int):Option Nat:=if 0<=i then(if i<n then some i.toNat else none) else if -(n:Int)<=i then some (i+n).toNat else none
noncomputable def atI{α:Type}(xs:List α)(i:Int):Option α:=(ixN xs.length i).bind fun j=>xs[j]?
theorem zP{n:Nat}{i:Int}{j:Nat}(h:ixN n i=some j):seqIndex? i n=some j /\ j<n /\ -(n:Int)<=i /\ i<n:=by
 unfold ixN at h
 by_cases h0:0<=i
 ·rw[if_pos h0] at h
  by_cases h1:i<n
  ·rw[if_pos h1] at h;have e:i.toNat=j:=aZ.inj h
   exact⟨by rw[seqIndex_of h0 h1,e],by omega,by omega,h1⟩
  ·rw[if_neg h1] at h;cases h
 ·rw[if_neg h0] at h
  by_cases h1: -(n:Int)<=i
  ·rw[if_pos h1] at h;have e:(i+n).toNat=j:=aZ.inj h
   exact⟨by rw[seqIndex_neg (by omega) h1,e],by omega,h1,by omega⟩
  ·rw[if_neg h1] at h;cases h
theorem atI_get{α:Type}{xs:List α}{i:Int}{v:α}(h:atI xs i=some v):∃j,seqIndex? i xs.length=some j /\ xs[j]? =some v /\ j<xs.length /\ -(xs.length:Int)<=i /\ i<xs.length:=by
 unfold atI at h;cases e:ixN xs.length i with
 |none=>rw[e] at h;cases h
 |some j=>
  rw[e] at h;obtain⟨h1,h2,h3,h4⟩:=zP e
  exact⟨j,h1,h,h2,h3,h4⟩
theorem jK{α:Type}{xs:List α}{j:Nat}{v:α}(h:xs[j]? =some v):atI xs (j:Int)=some v:=by
 have hj:j<xs.length:=(aa.mp h).1
 have e:ixN xs.length (j:Int)=some j:=by
  unfold ixN;rw[if_pos (by omega),if_pos (by omega)];simp
 unfold atI;rw[e];exact h
noncomputable def Aj(b:Expr):Prop:=∀o i,subscripted b false o i=operate [o,i] (getItem o i)
noncomputable def IxR(X:Cx)(r:R2):Prop:=
 ∀(value slice:Expr) (pins:List (Addr×Obj)) (s:Shared) (σ:St) (H:Hp) (x y:V) (v u:Value) (Q:VK),Inv X pins σ H s ->RelV x v ->RelV y u ->r x y H Q ->
  subscripted slice false v u=operate [v,u] (getItem v u) ->wpAny (model X.prog X.w) X.A (subscriptTail value slice v u) (EP X pins σ Q) X.xe s
noncomputable def MtR(X:Cx)(id:String)(r:V ->List V ->Hp ->VK ->Prop):Prop:=
 ∀(pins:List (Addr×Obj)) (s:Shared) (σ:St) (H:Hp) (x:V) (xs:List V) (v:Value) (us:List Value) (Q:VK),Inv X pins σ H s ->RelV x v ->Vals xs us ->r x xs H Q ->
  wpAny (model X.prog X.w) X.A (call (.builtin id) (v::us)) (EP X pins σ Q) X.xe s
section
variable {X:Cx} {a b:Expr} {ta tb:TE} {pos:Pos}
theorem IxR.or{r r':R2}(h:IxR X r)(h':IxR X r'):IxR X (fun x y H Q=>r x y H Q∨r' x y H Q):=by
 intro value slice pins s σ H x y v u Q I rx ry q hs;rcases q with q|q
 ·exact h value slice pins s σ H x y v u Q I rx ry q hs
 ·exact h' value slice pins s σ H x y v u Q I rx ry q hs
theorem MtR.or{id:String}{r r':V ->List V ->Hp ->VK ->Prop}(h:MtR X id r)(h':MtR X id r'):MtR X id (fun x xs H Q=>r x xs H Q∨r' x xs H Q):=by
 intro pins s σ H x xs v us Q I rx rs q;rcases q with q|q
 ·exact h pins s σ H x xs v us Q I rx rs q
 ·exact h' pins s σ H x xs v us Q I rx rs q
theorem jj{r:R2}(hr:IxR X r)(ha:PE X a ta)(hb:PE X b tb)(hs:Aj b):PE X (.Subscript a b pos) (tOp r ta tb):=by
 intro pins s σ H Q I h;exact Subscript_ (Cs ha hb I h fun v u s2 x y H2 I2 rx ry q=>hr a b pins s2 σ H2 x y v u Q I2 rx ry q (hs _ _))
noncomputable def CP(K:ah):R2:=fun x y H Q=>∃p xs i v,x= .ref p /\ y= .int i /\ SqL K H p xs /\ atI xs i=some v /\ Q v H
noncomputable def CO(K:ah):R2:=fun x y H Q=>∃p xs i v,x= .ref p /\ y= .int i /\ SqT K H p xs /\ atI xs i=some v /\ Q v H
theorem zO:IxR X (CP X.K):=by
 intro value slice pins s σ H x y v u Q I rx ry h hs;obtain⟨p,xs,i,z,rfl,rfl,hq,he,q⟩:=h
 cases rx;obtain⟨t,rfl⟩:=ry
 obtain⟨its,r,pl,hz⟩:=I.list hq
 obtain⟨j,h1,h2,h3,h4,h5⟩:=atI_get he
 obtain⟨w,ew,rw'⟩:=r.get h2
 have hl:=r.length
 have hn:=vS
 have fin:EP X pins σ Q w s:=⟨z,H,I,rw',q⟩
 by_cases h0:0<=i
 ·have hj:i.toNat=j:=by
   rw[seqIndex_of h0 h5] at h1;exact aZ.inj h1
  exact item_listR pl.isList h0 (by omega) (by rw[hj];simpa using ew) fin hs
 ·have hj:(i+(its.toArray.size:Int)).toNat=j:=by
   rw[seqIndex_neg (by omega) h4] at h1;rw[ax, <-hl];exact aZ.inj h1
  exact subscriptTail_builtinR (x:=w) pl.isList.typeIs slot_list_getitem.lookup
   (wpAny_getItem_list_neg (Q:=fun r s'=>r=w /\ EP X pins σ Q r s') pl.isList (by omega) (by rw[ax]<;>omega) (by omega) (by rw[hj];simpa using ew) ⟨rfl,fin⟩) hs
theorem Bo:IxR X (CO X.K):=by
 intro value slice pins s σ H x y v u Q I rx ry h hs;obtain⟨p,xs,i,z,rfl,rfl,hq,he,q⟩:=h
 cases rx;obtain⟨t,rfl⟩:=ry
 obtain⟨its,r,pl,hz⟩:=I.tuple hq
 obtain⟨j,h1,h2,h3,h4,h5⟩:=atI_get he
 obtain⟨w,ew,rw'⟩:=r.get h2
 have hl:=r.length
 have hn:=vS
 have fin:EP X pins σ Q w s:=⟨z,H,I,rw',q⟩
 exact subscriptTail_builtinR (x:=w) pl.typeIs slot_tuple_getitem.lookup
  (getItem_tuple (j:=j) (Q:=fun r s'=>r=w /\ EP X pins σ Q r s') pl (by omega) (by omega) (by rw[ax, <-hl];exact h1) (by simpa using ew) ⟨rfl,fin⟩) hs
theorem Inv.lst{pins:List (Addr×Obj)}{σ:St}{H:Hp}{s:Shared}{p:Addr}{xs:List V}(I:Inv X pins σ H s)(h:H p=some (.lst xs)):
  ∃(its:List Value) (n:Nat),Vals xs its /\ s.heap.get? p=some {cls:= .type "list",data:= .seq its.toArray n} /\ xs.length<=sizeLine:=by
 obtain⟨z,its,n,r,e⟩:=I.hok p _ h
 exact⟨its,n,r,e,z⟩
theorem qE(lo hi:Option Int)(n:Nat):(sliceBounds lo hi none n).1=((HT.sIx n 0 lo:Nat):Int) /\ (sliceBounds lo hi none n).2.1=((HT.sIx n n hi:Nat):Int) /\ (sliceBounds lo hi none n).2.2=1:=by
 refine⟨?_,?_,rfl⟩
 ·cases lo with
  |none=>simp[sliceBounds,HT.sIx]
  |some i=>
   simp only[sliceBounds,HT.sIx,gW,show(1:Int)>0 by decide,if_true]
   by_cases h:i<0
   ·simp only[h,if_true]<;>omega
   ·simp only[h,if_false]<;>omega
 ·cases hi with
  |none=>simp[sliceBounds,HT.sIx]
  |some i=>
   simp only[sliceBounds,HT.sIx,gW,show(1:Int)>0 by decide,if_true]
   by_cases h:i<0
   ·simp only[h,if_true]<;>omega
   ·simp only[h,if_false]<;>omega
theorem pG(its:List Value)(lo hi:Option Int):slicePick its.toArray lo hi none=((its.drop (HT.sIx its.length 0 lo)).take (HT.sIx its.length its.length hi-HT.sIx its.length 0 lo)).toArray:=by
 obtain⟨h1,h2,h3⟩:=qE lo hi its.toArray.size
 unfold slicePick;rw[h1,h2,h3];simp only[sliceRange_one,pick_run,ax]<;>rfl
noncomputable def Cw(K:ah):V ->Option Int ->Option Int ->Hp ->VK ->Prop:=fun x lo hi H Q=>∃a xs,x= .ref a /\ SqL K H a xs /\ ∀p,H p=none ->Q (.ref p) (upd H p (.lst (ua xs lo hi)))
theorem uZ:SlR X (Cw X.K):=by
 intro pins s σ H x v vl vu lo hi sl Q I rx hs pl pu h;obtain⟨a,xs,rfl,hx,q⟩:=h
 cases rx;obtain⟨its,r,ht,hz⟩:=I.list hx
 have hlen:=r.length
 refine⟨"list",_,slot_list_getitem.lookup,ht.isList.typeIs,?_⟩;refine wpAny_getItem_list_slice ht.isList hs pl pu .none (by simp) ?_ (by rw[ax]<;>omega)
 rw[pG, <-hlen];refine⟨.ref s.heap.objs.size,_,I.laid (t':=s.toks) (o:= .lst (ua xs lo hi)) (fun b ob q=>Heap.get?_push_of_some _ q) (av _) ?_,rfl,q _ (I.hok.fresh (av _))⟩;exact⟨bW (sF xs lo hi) hz,_,0,(r.drop (HT.sIx xs.length 0 lo)).take (HT.sIx xs.length xs.length hi-HT.sIx xs.length 0 lo),Heap.get?_push_size _ rfl⟩
noncomputable def qo:V ->Bool
 | .non=>true
 | .bl _=>true
 | .int _=>true
 | .str _=>true
 |_=>false
noncomputable def eqV:V ->V ->Bool
 | .non,.non=>true
 | .bl a,.bl b=>a==b
 | .bl a,.int b=>(if a then 1 else 0)==b
 | .int a,.bl b=>a==(if b then 1 else 0)
 | .int a,.int b=>a==b
 | .str a,.str b=>a==b
 |_,_=>false
theorem BC{A:Around}{s:Shared}{y x:V}{u v:Value}(ry:RelV y u)(rx:RelV x v)(fy:qo y=true)(fx:qo x=true):SeqAt.EqAt A s u v (eqV y x):=by
 cases y with
 |non=>
  cases ry;cases x with
  |non=>cases rx;exact SeqAt.EqAt.same _
  |bl b=>cases rx;exact SeqAt.EqAt.none_bool b
  |int b=>obtain⟨t,rfl⟩:=rx;exact SeqAt.EqAt.none_int b t
  |str b=>obtain⟨t,rfl⟩:=rx;exact SeqAt.EqAt.none_str b t
  |_=>exact absurd (show false=true from fx) bQ
 |bl a=>
  cases ry;cases x with
  |non=>cases rx;exact SeqAt.EqAt.bool_none a
  |bl b=>cases rx;exact SeqAt.EqAt.bool_bool a b
  |int b=>obtain⟨t,rfl⟩:=rx;exact SeqAt.EqAt.bool_int a b t
  |str b=>obtain⟨t,rfl⟩:=rx;exact SeqAt.EqAt.bool_str a b t
  |_=>exact absurd (show false=true from fx) bQ
 |int a=>
  obtain⟨t',rfl⟩:=ry
  cases x with
  |non=>cases rx;exact SeqAt.EqAt.int_none a t'
  |bl b=>cases rx;exact SeqAt.EqAt.int_bool a t' b
  |int b=>obtain⟨t,rfl⟩:=rx;exact SeqAt.EqAt.int_int a t' b t
  |str b=>obtain⟨t,rfl⟩:=rx;exact SeqAt.EqAt.int_str a t' b t
  |_=>exact absurd (show false=true from fx) bQ
 |str a=>
  obtain⟨t',rfl⟩:=ry
  cases x with
  |non=>cases rx;exact SeqAt.EqAt.str_none a t'
  |bl b=>cases rx;exact SeqAt.EqAt.str_bool a t' b
  |int b=>obtain⟨t,rfl⟩:=rx;exact SeqAt.EqAt.str_int a t' b t
  |str b=>obtain⟨t,rfl⟩:=rx;exact SeqAt.EqAt.str_str a t' b t
  |_=>exact absurd (show false=true from fx) bQ
 |_=>exact absurd (show false=true from fy) bQ
noncomputable def eqU(x:V)(u:Value):Bool:=match u with
 | .none=>eqV .non x
 | .bool b=>eqV (.bl b) x
 | .int i _=>eqV (.int i) x
 | .str z _=>eqV (.str z) x
 |_=>false
theorem yN{x y:V}{u:Value}(r:RelV y u)(f:qo y=true):eqU x u=eqV y x:=by
 cases y with
 |non=>cases r;rfl
 |bl b=>cases r;rfl
 |int i=>obtain⟨t,rfl⟩:=r;rfl
 |str z=>obtain⟨t,rfl⟩:=r;rfl
 |_=>exact absurd (show false=true from f) bQ
theorem sI{x:V}:∀{xs:List V} {us:List Value},Vals xs us ->xs.all qo=true ->us.any (eqU x)=xs.any fun y=>eqV y x
 |_,_,.nil,_=>rfl
 |y::xs,u::us,.cons r t,f=>by
  rw[iJ,cK] at f;rw[dX,dX,yN r f.1,sI t f.2]
theorem pY{A:Around}{s:Shared}{x:V}{v:Value}(rx:RelV x v)(fx:qo x=true):∀{xs:List V} {us:List Value},Vals xs us ->xs.all qo=true -> ∀u∈us,SeqAt.EqAt A s u v (eqU x u)
 |_,_,.nil,_=>fun u hu=>by cases hu
 |y::xs,u::us,.cons r t,f=>fun u' hu=>by
  rw[iJ,cK] at f;rcases ao.mp hu with rfl|hu
  ·rw[yN r f.1];exact BC r rx f.1 fx
  ·exact pY rx fx t f.2 u' hu
noncomputable def inV(x:V)(xs:List V):Bool:=xs.any fun y=>eqV y x
noncomputable def rIn(K:ah)(neg:Bool):R2:=fun x y H Q=>∃p xs,y= .ref p /\ (SqL K H p xs∨SqT K H p xs) /\ qo x=true /\ xs.all qo=true /\ Q (.bl (if neg then !inV x xs else inV x xs)) H
theorem qP:OpR X (compareOp .NotIn) (rIn X.K true):=by
 intro pins s σ H x y v u Q I rx ry h;obtain⟨p,xs,rfl,hq,fx,fs,q⟩:=h
 cases ry;rcases hq with hq|hq
 ·obtain⟨its,r,pl,hz⟩:=I.list hq
  refine SeqAt.notIn_listAt (eqU x) pl.isList (fun w hw=>pY rx fx r fs w (by simpa using hw)) ⟨.bl _,H,I,rfl,?_⟩;rw[show its.toArray.any (eqU x)=its.any (eqU x) by simp,sI r fs];exact q
 ·obtain⟨its,r,pl,hz⟩:=I.tuple hq
  refine SeqAt.notIn_tupleAt (eqU x) pl (fun w hw=>pY rx fx r fs w (by simpa using hw)) ⟨.bl _,H,I,rfl,?_⟩;rw[show its.toArray.any (eqU x)=its.any (eqU x) by simp,sI r fs];exact q
theorem rh:CallR X (.builtin "len") (fun xs H Q=>∃p ys,xs=[.ref p] /\ (SqL X.K H p ys∨SqT X.K H p ys) /\ Q (.int ys.length) H):=by
 intro pins s σ H xs us Q I r h;obtain⟨p,ys,rfl,hq,q⟩:=h
 obtain⟨u,rfl,rx⟩:=vals1 r
 cases rx;have hn:=vS
 rcases hq with hq|hq
 ·obtain⟨its,r',pl,hz⟩:=I.list hq
  have hlen:=r'.length
  exact Calls.call_len_list pl.isList (by simp only[ax]<;>omega) ⟨.int ys.length,H,I.tok _,⟨s.toks+1,by rw[ax,hlen]⟩,q⟩
 ·obtain⟨its,r',pl,hz⟩:=I.tuple hq
  have hlen:=r'.length
  exact len_tuple pl (by simp only[ax]<;>omega) ⟨.int ys.length,H,I.tok _,⟨s.toks+1,by rw[ax,hlen]⟩,q⟩
theorem CallR.or{f:Value}{r r':List V ->Hp ->VK ->Prop}(h:CallR X f r)(h':CallR X f r'):CallR X f (fun xs H Q=>r xs H Q∨r' xs H Q):=by
 intro pins s σ H xs us Q I rs q;rcases q with q|q
 ·exact h pins s σ H xs us Q I rs q
 ·exact h' pins s σ H xs us Q I rs q
theorem rg:CallR X (.type "list") (fun xs H Q=>∃p ys,xs=[.ref p] /\ (SqL X.K H p ys∨SqT X.K H p ys) /\ ∀l,H l=none ->Q (.ref l) (upd H l (.lst ys))):=by
 intro pins s σ H xs us Q I r h;obtain⟨p,ys,rfl,hq,q⟩:=h
 obtain⟨u,rfl,rx⟩:=vals1 r
 cases rx;have fin:∀(its:List Value),Vals ys its ->ys.length<=sizeLine -> ∀(h':Heap) (c':Nat),(∀b o',s.heap.get? b=some o' ->h'.get? b=some o') ->
   h'.get? s.heap.objs.size=some {cls:= .type "list",dict:=none,data:= .seq its.toArray c',slots:= #[]} ->EP X pins σ Q (.ref s.heap.objs.size) {s with heap:=h'}:=fun its r' hz h' c' kp e=>
  ⟨.ref s.heap.objs.size,_,I.laid (t':=s.toks) kp (av _) (show ObjOk X.prog X.w _ h' _ (.lst ys) from⟨hz,its,c',r',e⟩),rfl,q _ (I.hok.fresh (av _))⟩
 rcases hq with hq|hq
 ·obtain⟨its,r',pl,hz⟩:=I.list hq
  have hlen:=r'.length
  obtain⟨o,ho,hc,n,hd⟩:=pl.isList
  exact call_list_seq p (.inl rfl) ho hc hd (fun h' c' kp e=>fin its r' hz h' c' kp e) (by simp only[ax]<;>omega)
 ·obtain⟨its,r',pl,hz⟩:=I.tuple hq
  have hlen:=r'.length
  obtain⟨o,ho,hc,n,hd⟩:=pl
  exact call_list_seq p (.inr rfl) ho hc hd (fun h' c' kp e=>fin its r' hz h' c' kp e) (by simp only[ax]<;>omega)
noncomputable def tyV(K:ah)(T:String)(x:V)(H:Hp):Prop:=match x with
 | .str _=>T="str"
 | .int _=>T="int"
 | .ref p=>(T="list" /\ ∃xs,SqL K H p xs)∨(T="tuple" /\ ∃o,K.lookup p=some o /\ o.cls= .type "tuple" /\ o.dict=none)∨
   (T="dict" /\ ((∃kvs,H p=some (.dK kvs))∨∃kvs,H p=some (.dT kvs)))∨(T="set" /\ ∃S n,H p=some (.set S n))
 |_=>False
theorem Az{pins:List (Addr×Obj)}{σ:St}{H:Hp}{s:Shared}{T:String}{x:V}{v:Value}(I:Inv X pins σ H s)(r:RelV x v)(ty:tyV X.K T x H):
  s.TypeIs v T /\ ∀a,v= .ref a -> ∃ob,s.heap.get? a=some ob /\ ob.dict=none:=by
 cases x with
 |str z=>
  obtain⟨t,rfl⟩:=r
  cases(show T="str" from ty);exact⟨typeIs_str s z t,fun _ e=>nomatch e⟩
 |int i=>
  obtain⟨t,rfl⟩:=r
  cases(show T="int" from ty);exact⟨typeIs_int s i t,fun _ e=>nomatch e⟩
 |ref p=>
  cases r;rcases ty with⟨rfl,xs,hq⟩|⟨rfl,o,hk,hc,hd⟩|⟨rfl,hk⟩|⟨rfl,S,n,hk⟩
  ·obtain⟨its,_,pl,_⟩:=I.list hq
   refine⟨pl.isList.typeIs,fun a e=> ?_⟩;cases e;obtain⟨o,n,e,c,hd,_⟩:=pl
   exact⟨o,e,hd⟩
  ·refine⟨⟨o,I.kIn p o hk,hc⟩,fun a e=> ?_⟩;cases e;exact⟨o,I.kIn _ o hk,hd⟩
  ·have z:∃o,s.heap.get? p=some o /\ o.ExactDict:=by
    rcases hk with⟨kvs,hk⟩|⟨kvs,hk⟩
    ·obtain⟨_,_,_,_,o,_,_,e,ex,_⟩:=I.hok p _ hk
     exact⟨o,e,ex⟩
    ·obtain⟨_,_,_,_,o,_,_,e,ex,_⟩:=I.hok p _ hk
     exact⟨o,e,ex⟩
   obtain⟨o,e,ex⟩:=z
   refine⟨⟨o,e,ex.1⟩,fun a e2=> ?_⟩;cases e2;exact⟨o,e,ex.2.1⟩
  ·obtain⟨o,_,_,_,e,ex,_⟩:=I.hok p _ hk
   refine⟨⟨o,e,ex.1⟩,fun a e2=> ?_⟩;cases e2;exact⟨o,e,ex.2.1⟩
 |_=>exact False.elim ty
noncomputable def tBM(K:ah)(T:String)(r:V ->List V ->Hp ->VK ->Prop)(to:TE)(t:TA):TE:=fun σ H Q=>to σ H fun x H1=>tyV K T x H1 /\ t σ H1 fun xs H2=>r x xs H2 Q
variable {o e:Expr} {es:List Expr} {to:TE} {t:TA} {name:Str} {apos cpos:Pos} {T id:String} {r:V ->List V ->Hp ->VK ->Prop}
theorem A8(pa:PlainAttrs T)(slot:Slot T name id)(hty:typeOf (.builtin id)=pure (.type "method_descriptor"))(hm:MtR X id r)(ho:PE X o to)(ha:PA X (e::es) t)
  (hbase:attributeBase o name X.env (eval o X.env)=eval o X.env:=by rfl)
  (hfew:((backTo cpos (starEach (e::es) X.env)).all (fun x=> !x.1)&&(backToKw cpos (keywordEach [] X.env)).all (fun x=>x.1.isSome)
   &&decide ((e::es).length+([]:List Keyword).length+(if([]:List Keyword).isEmpty then 0 else 1)<30))=true:=by rfl)
  (hline:(apos.endLine==cpos.line)=true:=by rfl) (hs:starEach (e::es) X.env=(false,eval e X.env)::starEach es X.env:=by rfl) (hplain:(backTo cpos (starEach es X.env)).any (·.1)=false:=by rfl):
  PE X (.Call (.Attribute o name apos) (e::es) [] cpos) (tBM X.K T r to t):=by
 intro pins s σ H Q I h;refine wpAny_Call_method_late hbase hfew hline rfl (thn (ho pins s σ H _ I h) fun v s1 ⟨x,H1,I1,r1,ty,q1⟩=> ?_);obtain⟨h1,h2⟩:=Az I1 r1 ty
 refine⟨T,id,pa,slot,hty,h1,h2,?_⟩;have hA:=ha cpos pins s1 σ H1 _ I1 q1
 rw[hs] at hA⊢;refine Calls.callWith_builtin (by show(false||(backTo cpos (starEach es X.env)).any (·.1))=false;rw[hplain]<;>rfl) (Calls.evalArgs_plain ?_)
 exact thn hA fun us s2 ⟨vs,H2,I2,r2,q2⟩=>hm pins s2 σ H2 x vs v us Q I2 r1 r2 q2
end
end L2
namespace L2
open PySem PySem.Spec PyProof.Rows
noncomputable def MtM(X:Cx)(id:String)(r:V ->List V ->Hp ->VK ->Prop):Prop:=
 ∀(pins:List (Addr×Obj)) (s:Shared) (σ:St) (H:Hp) (x:V) (xs:List V) (v:Value) (us:List Value) (Q:VK),Inv X pins σ H s ->RelV x v ->Vals xs us ->r x xs H Q ->
  wpAny (model X.prog X.w) X.A (call (.builtin id) (v::us)) (EP X pins σ Q) X.xe s
theorem Vals.one:∀{x:V} {us:List Value},Vals [x] us -> ∃u,us=[u] /\ RelV x u
 |_,_,.cons r .nil=>⟨_,rfl,r⟩
theorem Vals.two:∀{x y:V} {us:List Value},Vals [x,y] us -> ∃u v,us=[u,v] /\ RelV x u /\ RelV y v
 |_,_,_,.cons r (.cons q .nil)=>⟨_,_,rfl,r,q⟩
theorem Vals.zero:∀{us:List Value},Vals [] us ->us=[]
 |_,.nil=>rfl
theorem Vals.dropLast{xs:List V}{us:List Value}(h:Vals xs us):Vals xs.dropLast us.dropLast:=by
 induction h with
 |nil=>exact .nil
 |cons r t ih=>
  cases t with
  |nil=>exact .nil
  |cons q t'=>exact .cons r ih
theorem Vals.eraseIdx:∀{xs:List V} {us:List Value} (i:Nat),Vals xs us ->Vals (xs.eraseIdx i) (us.eraseIdx i)
 |_,_,_,.nil=> .nil
 |_,_,0,.cons _ t=>t
 |_,_,i+1,.cons r t=> .cons r (Vals.eraseIdx i t)
theorem Vals.reverse{xs:List V}{us:List Value}(h:Vals xs us):Vals xs.reverse us.reverse:=by
 induction h with
 |nil=>exact .nil
 |cons r t ih=>rw[gM,gM];exact Vals.append ih (.cons r .nil)
section
variable {X:Cx} {pins:List (Addr×Obj)} {σ:St} {H:Hp} {s:Shared} {l b:Addr} {xs ys zs:List V}
theorem Inv.lset{its its':List Value}{n:Nat}{f:Array Value ->Array Value}{t':Nat}(I:Inv X pins σ H s)(hH:H l=some (.lst xs))
  (e:s.heap.get? l=some {cls:= .type "list",data:= .seq its.toArray n}) (hf:f its.toArray=its'.toArray) (hv:Vals ys its') (hz:ys.length<=sizeLine):
  Inv X pins σ (upd H l (.lst ys)) {s with heap:=s.heap.update l (Obj.mapSeq f),toks:=t'}:=by
 have q:=PySem.IsL.update e f
 rw[hf] at q;refine I.write (x:=l) (e:=l) (by rw[hH];exact trivial) (.inl rfl) (fun b' u hb hu=>(Heap.get?_update_other s.heap (Obj.mapSeq f) (Ne.symm hb)).trans hu) ⟨_,q⟩ ?_;exact⟨hz,its',_,hv,q⟩
theorem Inv.lnew{its:List Value}{t':Nat}(I:Inv X pins σ H s)(hv:Vals ys its)(hz:ys.length<=sizeLine):
  Inv X pins σ (upd H s.heap.objs.size (.lst ys)) {s with heap:=s.heap.push {cls:= .type "list",data:= .seq its.toArray},toks:=t'}:=
 I.laid (fun _ _ q=>Heap.get?_push_of_some _ q) (av _) ⟨hz,its,0,hv,Heap.get?_push_size _ rfl⟩
theorem Inv.fresh(I:Inv X pins σ H s):H s.heap.objs.size=none:=I.hok.fresh (av _)
theorem Inv.lstM(I:Inv X pins σ H s)(hH:H l=some (.lst xs)):xs.length<=sizeLine /\ ∃(its:List Value) (n:Nat),Vals xs its /\ xs.length=its.length /\ s.heap.get? l=some {cls:= .type "list",data:= .seq its.toArray n}:=by
 obtain⟨z,its,n,r,e⟩:=I.hok l _ hH
 exact⟨z,its,n,r,r.length,e⟩
end
section
variable {X:Cx}
noncomputable def zh:V ->List V ->Hp ->VK ->Prop:=fun x vs H Q=>∃l xs y,x= .ref l /\ vs=[y] /\ H l=some (.lst xs) /\ xs.length<sizeLine /\ Q .non (upd H l (.lst (xs++[y])))
theorem qS:MtM X "list.append" zh:=by
 intro pins s σ H x vs v us Q I rx rv h;obtain⟨l,xs,y,rfl,rfl,hH,hz,q⟩:=h
 cases rx;obtain⟨u,rfl,ru⟩:=rv.one
 obtain⟨z,its,n,r,hl,e⟩:=I.lstM hH
 refine call_meets F.slot_list_append ⟨_,e,rfl⟩ F.entry_list_append (F.args_list_append_2 _ _) (PySem.list_append l its.toArray n u (by rw[ax];omega)) ⟨e,?_⟩;refine⟨.non,_,I.lset (its':=its++[u]) hH e (by simp) (r.append (.cons ru .nil)) ?_,rfl,q⟩;rw[aq,f7];omega
noncomputable def CT:R2:=fun x y H Q=>∃l b xs zs,x= .ref l /\ y= .ref b /\ H l=some (.lst xs) /\ H b=some (.lst zs) /\ xs.length+zs.length<=sizeLine /\ ∀p,H p=none ->Q (.ref p) (upd H p (.lst (xs++zs)))
theorem Be:OpR X (binaryOp .Add) CT:=by
 intro pins s σ H x y v u Q I rx ry h;obtain⟨l,b,xs,zs,rfl,rfl,hH,hB,hz,q⟩:=h
 cases rx;cases ry;obtain⟨z,its,n,r,hl,e⟩:=I.lstM hH
 obtain⟨z2,its2,n2,r2,hl2,e2⟩:=I.lstM hB
 refine PySem.P.add_list e e2 ?_ (by rw[ax,ax];omega);have ea:its.toArray++its2.toArray=(its++its2).toArray:=by simp
 rw[ea];exact⟨.ref _,_,I.lnew (t':=s.toks) (r.append r2) (by rw[aq];omega),rfl,q _ I.fresh⟩
end
end L2
namespace Att
open PySem PySem.W PySem.Calls PyProof.Rows
theorem nV{P:Params}{h:Heap}:∀(ns:List Int) (vs:List Value),WellAll P h vs (ns.map WData.int) ->IntsAre vs ns:=by
 intro ns
 induction ns with
 |nil=>
  intro vs w;rw[bI] at w;cases w;exact .nil
 |cons n ns ih=>
  intro vs w;rw[aD] at w;cases w with
  |cons a b=>
   cases a;exact .cons _ _ (ih _ b)
theorem vd{l:OpenLaw}{n:Nat}(hn:l.most=some n){P:Params}{h:Heap}{args:List WData}{vals:List Value}
  (hpre:l.row.toRowW.claim.pre args=true) (hwl:WellAll P h vals args):
  ∃a vs ns,vals=[Value.ref a] /\ args=[WData.list (ns.map WData.int)] /\ h.get? a=some {cls:= .type "list",data:= .seq vs.toArray} /\ IntsAre vs ns /\ ns.length<=n:=by
 have hsh:WShape.hasAll [] args [.list .int]=true:=(pre_splitW hpre).1
 have hc:l.pre.holds [] {args:=args}=true:=(pre_splitW hpre).2
 obtain⟨d,r,rfl,h1,h2⟩:=hasAllW_cons hsh
 obtain rfl:=hasAllW_nil h2
 obtain⟨xs,rfl,h3⟩:=hasW_list h1
 obtain⟨ns,rfl⟩:=items_int h3
 have hlen:ns.length<=n:=by
  unfold OpenLaw.pre at hc;have h4:(WTm.not (.lt (.lit (.int (n:Int))) (.len (.arg 0)))).holds [] {args:=[.list (ns.map .int)]}=true:=by
   have h4:=(holds_andW hc).1
   rw[hn] at h4;exact h4
  have h5:=condW_of h4 (w_not (w_lt w_lit (w_len_list (w_arg rfl))))
  rw[ae] at h5;refine Nat.le_of_not_lt fun q=> ?_
  have q':(n:Int)<((ns.length:Nat):Int):=by omega
  first
   |(rw[decide_eq_true q'] at h5;exact absurd h5 (by decide))
   |(simp at h5;omega)
 cases hwl with
 |cons w1 w2=>
  cases w2;cases w1 with
  |list ho hall=>exact⟨_,_,ns,rfl,rfl,ho,nV ns _ hall,hlen⟩
theorem vB(l:OpenLaw)(args:List WData):l.row.toRowW.claim.post args (.bool true) args=true:=
 postW_of (r:=l.row.toRowW) (X:=(true==true))
  (show WShape.has [] (.bool true) .bool=true by first|rfl|decide|simp[WShape.has,WShape.arms,WShape.armsAll])
  (show(WTm.eq .res (.lit (.bool true))).value [] {args:=args,res:=some (.bool true),after:=args}=some (.bool (true==true)) from w_eq_bool (w_res rfl) w_lit) rfl
theorem attach_call{l:OpenLaw}{n:Nat}{q:Program}{loose:List Str}{XP:(Str ->Option Value) ->Heap ->Prop}{YP:World ->Heap ->Prop}{d:DefRec}
  (hn:l.most=some n) (hdf:d.params.defaults=[])
  (call:∀(w:World) (s₀ s₁:Shared) (mg mb:Str ->Option Value) (fa:Addr) (o:Obj) (pm cd doc:Value) (a:Addr) (vs:List Value) (ns:List Int),
   Ground q loose [] XP w s₀ mg mb s₁.heap ->YP w s₁.heap ->
   s₁.heap.get? fa=some o ->o.data= .func (docDef d.name d.params d.body d.scope pm cd doc) ->s₁.heap.CodeRec cd d.name ->mg d.name=some (.ref fa) ->
   s₁.heap.get? a=some {cls:= .type "list",data:= .seq vs.toArray} ->IntsAre vs ns ->ns.length<=n ->s₁.gens= #[] ->
   codeAny (model l.prog w) callerA (.call (.ref fa) ⟨[.ref a],[]⟩) (fun r s'=>r= .ok (.ret (.bool true)) /\ OldK s₁.heap s'.heap /\ s'.os=s₁.os /\ AllBare s'.gens) s₁):
  WalkO q loose XP YP l.row.toRowW d [] (fun f vs=>iI f vs):=by
 intro w s₀ s₁ mg mb G Y fa o pm cd doc dV kV ho hd hcd hD hmg hg args vals as hpre hlay hrd hwl hlo;obtain rfl:dV= .none:=Dflts.none hD hdf
 obtain rfl:kV= .none:=Dflts.noKw hD
 obtain⟨a,vs,ns,rfl,rfl,hobj,hints,hlen⟩:=vd hn hpre hwl
 refine enter_call (codeAny_mono (call w s₀ s₁ mg mb fa o pm cd doc a vs ns G Y ho (fd_plain hd) hcd hmg hobj hints hlen hg) fun r s' hq=> ?_);obtain⟨rfl,h2,h3,h4⟩:=hq
 exact⟨.inl ⟨.bool true,.bool true,[],rfl,fun _=>rfl,.bool true,vB l _,fun _=>⟨fH,fun _ hm=>(nomatch hm)⟩⟩,h2,h3,h4⟩
end Att
namespace L2
open PySem PySem.Spec PyProof.Rows
theorem qx:∀{vs:List Value} {ns:List Int},IntsAre vs ns ->Vals (ns.map V.int) vs
 |_,_,.nil=> .nil
 |_,_,.cons n t h=> .cons ⟨t,rfl⟩ (qx h)
end L2
namespace L2
open PySem PySem.Spec PyProof.Rows
noncomputable def jd(s:Stmt):Arguments:=match s with
 | .FunctionDef _ a _ _ _ _ _ _ _ _=>a
 |_=>{posonlyargs:=[],args:=[],vararg:=none,kwonlyargs:=[],kw_defaults:=[],kwarg:=none,defaults:=[]}
noncomputable def jb(s:Stmt):List Stmt:=match s with
 | .FunctionDef _ _ b _ _ _ _ _ _ _=>b
 |_=>[]
noncomputable def iW(s:Stmt):Scope:=match s with
 | .FunctionDef _ _ _ _ _ _ sc _ _ _=>sc
 |_=>{kind:= .function,names:=[],isGenerator:=false,isCoroutine:=false}
noncomputable abbrev CX0:CXT:=fun _ _ _ _ _ _=>False
noncomputable abbrev E0:XK:=fun _ _ _=>False
structure Fun(K:ah)(x qual:Str)(st:Stmt)(f:Addr)(fd:FuncData):Prop where
 ex:∃(oc:Value) (od:Option Addr) (kV doc pm:Value) (an:Option Addr) (cdv ct:Value) (osl:Array (Option Value)),
  fd=aK x qual (jd st) (jb st) (iW st) .none kV doc pm an cdv ct /\ K.lookup f=some ⟨oc,od,.func fd,osl⟩ /\ aG K cdv qual=true
 kp:aE K (.ref f)=true
section
variable {P:Program} {w:World} {K:ah} {mg:Str ->Option Value} {base:Heap}
theorem Fun.ok{x qual:Str}{st:Stmt}{f:Addr}{fd:FuncData}{N ps:List Str}{k:Nat}{sp:Sp}(F:Fun K x qual st f fd)(S:FnScope N ps (iW st))(len:∀vs H Q E,sp vs H Q E ->vs.length=ps.length)
  (hbody:∀(cdv:Value) (A:Around) (outer:List Env) (s:Shared) (H:Hp) (vs:List V) (Q:VK) (E:XK),Room k (A.deeper (envOfC qual (iW st) s.heap.objs.size f cdv)) ->sp vs H Q E ->
   ∃t,PSs (wH CX0 P w K mg base N qual (iW st) f cdv A outer s H E).nox (jb st) t /\ t {nx:=fun _ H'=>Q .non H',rt:=Q} (start N vs) H):FnOk P w K mg base CX0 (k+1) f fd ps sp:=by
 obtain⟨oc,od,kV,doc,pm,an,cdv,ct,osl,rfl,lk,hcd⟩:=F.ex
 refine zS lk hcd S len fun A outer s H vs Q E hr hsp=> ?_
 obtain⟨t,h,q⟩:=hbody cdv A outer s H vs Q E hr hsp
 exact⟨t,h.nox,q⟩
theorem Fun.binds{x qual:Str}{st:Stmt}{f:Addr}{fd:FuncData}{ps:List Str}(F:Fun K x qual st f fd)
  (h:∀(kV doc pm:Value) (an:Option Addr) (cdv ct:Value) (us:List Value),us.length=ps.length ->bindArgs (aK x qual (jd st) (jb st) (iW st) .none kV doc pm an cdv ct) ⟨us,[]⟩=pure (ps.zip us)):Binds K fd ps []:=by
 obtain⟨oc,od,kV,doc,pm,an,cdv,ct,osl,rfl,lk,hcd⟩:=F.ex
 exact .all (h kV doc pm an cdv ct)
theorem jw{x qual:Str}{st:Stmt}{f:Addr}{oc:Value}{od an:Option Addr}{osl:Array (Option Value)}{kV doc pm cdv ct:Value}(l:K.lookup f=some ⟨oc,od,.func (aK x qual (jd st) (jb st) (iW st) .none kV doc pm an cdv ct),osl⟩)
  (c:aG K cdv qual=true) (k:aE K (.ref f)=true):Fun K x qual st f (aK x qual (jd st) (jb st) (iW st) .none kV doc pm an cdv ct):=⟨⟨oc,od,kV,doc,pm,an,cdv,ct,osl,rfl,l,c⟩,k⟩
end
theorem mQ{A:Around}{k:Nat}(hr:Room k A):A.units+1<cLine:=bJ (Nat.add_le_add_left (by decide:1<=64) _) hr.units
section
variable {X:Cx}
theorem pv(i:Nat){x:Str}{pos:Pos}(hN:X.N[i]? =some x:=by rfl)(hv:Vis X.env.scope x:=by first|exact aS rfl|exact gR (aS rfl)|exact gR (gR rfl))(hd:(x==("__debug__":Str))=false:=by decide)
  (hcd:(x==("__classdict__":Str))=false:=by decide):PE X (.Name x pos) (Ak i):=A6 hN hv hd hcd
end
noncomputable def Same(H H':Hp):Prop:=∀b o,H b=some o ->H' b=some o
theorem Same.refl(H:Hp):Same H H:=fun _ _ h=>h
theorem Same.trans{H H1 H2:Hp}(a:Same H H1)(b:Same H1 H2):Same H H2:=fun c o h=>b c o (a c o h)
theorem Same.free{H H':Hp}(e:Same H H'){l:Addr}(h:H' l=iS):H l=iS:=by
 cases q:H l with
 |none=>rfl
 |some o=>
  rw[e l o q] at h;cases h
theorem Same.seq{K:ah}{H H':Hp}{a:Addr}{xs:List V}(e:Same H H')(h:SqL K H a xs):SqL K H' a xs:=by
 rcases h with(h|⟨o,h⟩)|h
 ·exact .inl (.inl (e _ _ h))
 ·exact .inl (.inr ⟨o,e _ _ h⟩)
 ·exact .inr h
end L2
namespace L2
open PySem PySem.Spec PyProof.Rows
section
variable {κ:Type} [DecidableEq κ]
noncomputable def qt(kvs:List (κ×V))(k:κ):Option V:=(kvs.find? fun kv=>decide (kv.1=k)).map (·.2)
noncomputable def putK(kvs:List (κ×V))(k:κ)(v:V):List (κ×V):=
 if(kvs.any fun kv=>decide (kv.1=k))=true then kvs.map (fun kv=>if kv.1=k then(kv.1,v) else kv) else kvs++[(k,v)]
noncomputable def BE(kvs:List (κ×V))(k:κ):List (κ×V):=kvs.filter fun kv=>decide (kv.1≠k)
theorem oV{p:κ×V}{r:List (κ×V)}{k:κ}(e:p.1=k):qt (p::r) k=some p.2:=by simp[qt,di,e]
theorem oW{p:κ×V}{r:List (κ×V)}{k:κ}(e:¬p.1=k):qt (p::r) k=qt r k:=by simp[qt,di,e]
theorem sN(k:κ):∀kvs:List (κ×V),(kvs.any fun kv=>decide (kv.1=k))=(qt kvs k).isSome
 |[]=>rfl
 |p::r=>by
  rw[dX]
  by_cases e:p.1=k
  ·simp only[oV e,decide_eq_true e,Bool.true_or,dh]
  ·rw[oW e,decide_eq_false e,iK];exact sN k r
theorem lR(kvs:List (κ×V))(k:κ)(v:V):(putK kvs k v).length<=kvs.length+1:=by
 unfold putK;split
 ·rw[ae];omega
 ·rw[aq,aX,bo];omega
theorem RelO.isSome_eq{o:Option V}{u:Option Value}(r:RelO o u):o.isSome=u.isSome:=by
 cases o with
 |none=>cases u with
  |none=>rfl
  |some _=>exact(show False from r).elim
 |some _=>cases u with
  |none=>exact(show False from r).elim
  |some _=>rfl
theorem RelO.getD{o:Option V}{u:Option Value}{d:V}{d':Value}(r:RelO o u)(rd:RelV d d'):RelV (o.getD d) (u.getD d'):=by
 cases o with
 |none=>cases u with
  |none=>exact rd
  |some _=>exact(show False from r).elim
 |some _=>cases u with
  |none=>exact(show False from r).elim
  |some _=>exact r
theorem KV.val{kvs:List (κ×V)}{vs:List (κ×Value)}(r:KV kvs vs)(k:κ):RelO (qt kvs k) (valueAt vs k):=by
 unfold KV at r
 induction r with
 |nil=>exact True.intro
 | @cons p q ps qs h t ih=>
  obtain⟨h1,h2⟩:=h
  by_cases e:p.1=k
  ·have e':q.1=k:=h1.symm.trans e
   have b:valueAt (q::qs) k=some q.2:=by simp[valueAt,di,e']
   rw[oV e,b];exact h2
  ·have e':¬q.1=k:=fun z=>e (h1.trans z)
   have b:valueAt (q::qs) k=valueAt qs k:=by simp[valueAt,di,e']
   rw[oW e,b];exact ih
theorem KV.any{kvs:List (κ×V)}{vs:List (κ×Value)}(r:KV kvs vs)(k:κ):(kvs.any fun kv=>decide (kv.1=k))=vs.any fun kv=>decide (kv.1=k):=by
 unfold KV at r
 induction r with
 |nil=>rfl
 |cons h t ih=>rw[dX,dX,ih,h.1]
theorem KV.repl{kvs:List (κ×V)}{vs:List (κ×Value)}(r:KV kvs vs)(k:κ){y:V}{u:Value}(ry:RelV y u):
  KV (kvs.map fun kv=>if kv.1=k then(kv.1,y) else kv) (vs.map fun kv=>if kv.1=k then(kv.1,u) else kv):=by
 unfold KV at r⊢
 induction r with
 |nil=>exact .nil
 | @cons p q ps qs h t ih=>
  rw[aD,aD];refine .cons ?_ ih;obtain⟨h1,h2⟩:=h
  by_cases e:p.1=k
  ·rw[if_pos e,if_pos (h1.symm.trans e)];exact⟨h1,ry⟩
  ·rw[if_neg e,if_neg (fun z=>e (h1.trans z))];exact⟨h1,h2⟩
theorem KV.put{kvs:List (κ×V)}{vs:List (κ×Value)}(r:KV kvs vs)(k:κ){y:V}{u:Value}(ry:RelV y u):KV (putK kvs k y) (stored vs k u):=by
 unfold putK stored;rw[r.any k]
 by_cases e:(vs.any fun kv=>decide (kv.1=k))=true
 ·rw[if_pos e,if_pos e];exact r.repl k ry
 ·rw[if_neg e,if_neg e];exact Paired.snoc r ⟨rfl,ry⟩
theorem KV.drop{kvs:List (κ×V)}{vs:List (κ×Value)}(r:KV kvs vs)(k:κ):KV (BE kvs k) (without vs k):=by
 unfold KV at r⊢;unfold BE without
 induction r with
 |nil=>exact .nil
 | @cons p q ps qs h t ih=>
  obtain⟨h1,h2⟩:=h
  rw[gX,gX]
  by_cases e:p.1=k
  ·have a:¬decide (p.1≠k)=true:=by simp[e]
   have b:¬decide (q.1≠k)=true:=by simp[h1.symm.trans e]
   rw[if_neg a,if_neg b];exact ih
  ·have e':¬q.1=k:=fun z=>e (h1.trans z)
   have a:decide (p.1≠k)=true:=by simp[e]
   have b:decide (q.1≠k)=true:=by simp[e']
   rw[if_pos a,if_pos b];exact .cons ⟨h1,h2⟩ ih
theorem KV.keys{kvs:List (κ×V)}{vs:List (κ×Value)}(r:KV kvs vs):kvs.map (·.1)=vs.map (·.1):=by
 unfold KV at r
 induction r with
 |nil=>rfl
 |cons h t ih=>rw[aD,aD,ih,h.1]
theorem KV.length{kvs:List (κ×V)}{vs:List (κ×Value)}(r:KV kvs vs):kvs.length=vs.length:=Paired.length r
end
theorem xX{P:Program}{w:World}{k:Key}{u:Value}(r:RelV (kV k) u):(jS P w).is k u=true:=by
 cases k with
 |inl i=>obtain⟨t,e⟩:=(show∃t,u=Value.int i t from r);subst e;exact rV P w i t
 |inr x=>obtain⟨t,e⟩:=(show∃t,u=Value.str x t from r);subst e;exact rT P w x t
theorem qW{P:Program}{w:World}:∀{ks:List Key} {us:List Value},Vals (ks.map kV) us ->ItemsAre (jS P w) ks us
 |[],_,r=>by rw[bI] at r;cases r;exact .nil
 |k::ks,_,r=>by
  rw[aD] at r;cases r with
  |cons h t=>exact .cons (xX h) (qW t)
noncomputable abbrev KT(H:Hp):List (List Key×V) ->List (List Key×Addr×Value) ->Prop:=Paired fun p q=>p.1=q.1 /\ H q.2.1=some (.tup (p.1.map kV)) /\ RelV p.2 q.2.2
theorem KT.val{H:Hp}{kvs:List (List Key×V)}{xs:List (List Key×Addr×Value)}(r:KT H kvs xs)(k:List Key):RelO (qt kvs k) ((atKey xs k).map (·.2)):=by
 induction r with
 |nil=>exact True.intro
 | @cons p q ps qs h t ih=>
  obtain⟨h1,_,h2⟩:=h
  by_cases e:p.1=k
  ·have e':q.1=k:=h1.symm.trans e
   have b:atKey (q::qs) k=some q.2:=by simp[atKey,di,e']
   rw[oV e,b];exact h2
  ·have e':¬q.1=k:=fun z=>e (h1.trans z)
   have b:atKey (q::qs) k=atKey qs k:=by simp[atKey,di,e']
   rw[oW e,b];exact ih
theorem KT.repl{H:Hp}{kvs:List (List Key×V)}{xs:List (List Key×Addr×Value)}(r:KT H kvs xs)(k:List Key){y:V}{u:Value}(ry:RelV y u):
  KT H (kvs.map fun kv=>if kv.1=k then(kv.1,y) else kv) (xs.map (putAt k u)):=by
 induction r with
 |nil=>exact .nil
 | @cons p q ps qs h t ih=>
  rw[aD,aD];refine .cons ?_ ih;obtain⟨h1,h2,h3⟩:=h
  unfold putAt
  by_cases e:p.1=k
  ·rw[if_pos e,if_pos (h1.symm.trans e)];exact⟨h1,h2,ry⟩
  ·rw[if_neg e,if_neg (fun z=>e (h1.trans z))];exact⟨h1,h2,h3⟩
theorem KT.put{H:Hp}{kvs:List (List Key×V)}{xs:List (List Key×Addr×Value)}(r:KT H kvs xs)(k:List Key){b:Addr}{y:V}{u:Value}(hb:H b=some (.tup (k.map kV)))(ry:RelV y u):
  KT H (putK kvs k y) (storedH xs k b u):=by
 have e:(kvs.any fun kv=>decide (kv.1=k))=(atKey xs k).isSome:=by
  rw[sN,(r.val k).isSome_eq,Option.isSome_map]
 unfold putK storedH;rw[e]
 by_cases q:(atKey xs k).isSome=true
 ·rw[if_pos q,if_pos q];exact r.repl k ry
 ·rw[if_neg q,if_neg q];exact Paired.snoc r ⟨rfl,hb,ry⟩
theorem KT.keeps{H H':Hp}{kvs:List (List Key×V)}{xs:List (List Key×Addr×Value)}(r:KT H kvs xs)(ht:∀b ys,H b=some (.tup ys) ->H' b=some (.tup ys)):KT H' kvs xs:=
 Paired.mapP r fun _ _ z=>⟨z.1,ht _ _ z.2.1,z.2.2⟩
section
variable {P:Program} {w:World} {H:Hp} {h:Heap} {a:Addr}
theorem AV{u:HO}(ok:HOk P w H h)(e:Rd H a u):ObjOk P w H h a u:=e.ok ok
theorem z8{kvs:List (Key×V)}(ok:HOk P w H h)(e:Rd H a (.dK kvs)):kvs.length<=sizeLine /\ (a==sysModules)=false /\ ∃vs,KV kvs vs /\ h.DictOf (jS P w) a vs:=
 show ObjOk P w H h a (.dK kvs) from AV ok e
theorem BH{kvs:List (Key×V)}(ok:HOk P w H h)(e:H a=some (.dK kvs)):kvs.length<=sizeLine /\ (a==sysModules)=false /\ ∃vs,KV kvs vs /\ h.DictOf (jS P w) a vs:=z8 ok (.inl e)
theorem vX{ks:List Key}(ok:HOk P w H h)(e:H a=some (.tup (ks.map kV))):(tupleKind (jS P w)).is h ks a:=by
 obtain⟨_,its,r,o,h1,h2,n,h3⟩:=(show ObjOk P w H h a (.tup (ks.map kV)) from ok a _ e)
 exact⟨o,its.toArray,n,h1,h2,h3,by simpa using qW r⟩
theorem zZ{kvs:List (List Key×V)}(ok:HOk P w H h)(e:Rd H a (.dT kvs)):kvs.length<=sizeLine /\ (a==sysModules)=false /\
  ∃xs,KT H kvs xs /\ h.DictOfH (tupleKind (jS P w)) a xs:=by
 obtain⟨z,y,xs,r,o,es,ep,h1,h2,h3,h4,h5⟩:=(show ObjOk P w H h a (.dT kvs) from AV ok e)
 refine⟨z,y,xs,r,o,es,ep,h1,h2,h3,h4,fun x hx=> ?_,h5⟩;have all:∀{l:List (List Key×V)} {m:List (List Key×Addr×Value)},KT H l m -> ∀x∈m,(tupleKind (jS P w)).is h x.1 x.2.1:=by
  intro l m q
  induction q with
  |nil=>intro x hx;exact nomatch hx
  | @cons p q ps qs hq t ih=>
   intro x hx;rcases ao.mp hx with e|hx
   ·subst e;exact vX ok (by rw[<-hq.1];exact hq.2.1)
   ·exact ih x hx
 exact all r x hx
theorem Cr{kvs:List (List Key×V)}(ok:HOk P w H h)(e:H a=some (.dT kvs)):kvs.length<=sizeLine /\ (a==sysModules)=false /\
  ∃xs,KT H kvs xs /\ h.DictOfH (tupleKind (jS P w)) a xs:=zZ ok (.inl e)
end
noncomputable def DGet(H:Hp)(a:Addr)(y:V)(r:Option V):Prop:=
 (∃kvs k,Rd H a (.dK kvs) /\ y=kV k /\ r=qt kvs k)∨∃kvs k b,Rd H a (.dT kvs) /\ y= .ref b /\ H b=some (.tup (k.map kV)) /\ r=qt kvs k
noncomputable def DPut(H:Hp)(a:Addr)(y v:V)(H':Hp):Prop:=
 (∃kvs k,H a=some (.dK kvs) /\ y=kV k /\ kvs.length<sizeLine /\ H'=upd H a (.dK (putK kvs k v)))∨
 ∃kvs k b,H a=some (.dT kvs) /\ y= .ref b /\ H b=some (.tup (k.map kV)) /\ kvs.length<sizeLine /\ H'=upd H a (.dT (putK kvs k v))
theorem DGet.k{H:Hp}{a:Addr}{kvs:List (Key×V)}{k:Key}(e:H a=some (.dK kvs)):DGet H a (kV k) (qt kvs k):= .inl ⟨kvs,k,.inl e,rfl,rfl⟩
theorem DGet.t{H:Hp}{a b:Addr}{kvs:List (List Key×V)}{k:List Key}(e:H a=some (.dT kvs))(eb:H b=some (.tup (k.map kV))):DGet H a (.ref b) (qt kvs k):= .inr ⟨kvs,k,b,.inl e,rfl,eb,rfl⟩
theorem DPut.k{H:Hp}{a:Addr}{kvs:List (Key×V)}{k:Key}{v:V}(e:H a=some (.dK kvs))(hl:kvs.length<sizeLine):DPut H a (kV k) v (upd H a (.dK (putK kvs k v))):= .inl ⟨kvs,k,e,rfl,hl,rfl⟩
theorem DPut.t{H:Hp}{a b:Addr}{kvs:List (List Key×V)}{k:List Key}{v:V}(e:H a=some (.dT kvs))(eb:H b=some (.tup (k.map kV)))(hl:kvs.length<sizeLine):
  DPut H a (.ref b) v (upd H a (.dT (putK kvs k v))):= .inr ⟨kvs,k,b,e,rfl,eb,hl,rfl⟩
section
variable {X:Cx} {pins:List (Addr×Obj)} {σ:St} {H:Hp} {s:Shared} {a:Addr} {y v:V} {u r:Value} {o:Option V} {A:Around} {E:Value ->Shared ->Prop}
theorem Inv.big(I:Inv X pins σ H s):sysModules<s.heap.objs.size:=by
 have h:mainGlobals<s.heap.objs.size:=(I.mod.glob.keeps I.bk).lt
 exact fo (by decide) h
theorem wl{Q:Value ->Shared ->Prop}(hu:A.units+1<cLine)(I:Inv X pins σ H s)(g:DGet H a y (some v))(ry:RelV y u)(h:∀w' s',Inv X pins σ H s' ->RelV v w' ->Q w' s'):
  wpAny (model X.prog X.w) A (getItem (.ref a) u) Q E s:=by
 rcases g with⟨kvs,k,e,ey,l⟩|⟨kvs,k,b,e,ey,eb,l⟩
 ·subst ey;obtain⟨z,hd,vs,rel,dd⟩:=z8 I.hok e
  obtain⟨w',hw,rw'⟩:=RelO.some_of (v:=v) (o:=valueAt vs k) (by rw[l];exact rel.val k)
  exact wpAny_getItem_of (xX ry) dd.mapOf hw (h w' _ (I.tok _) rw')
 ·subst ey;cases(show u=Value.ref b from ry);obtain⟨z,hd,xs,rel,dd⟩:=zZ I.hok e
  obtain⟨w',hw,rw'⟩:=RelO.some_of (v:=v) (o:=(atKey xs k).map (·.2)) (by rw[l];exact rel.val k)
  obtain⟨p,hp,hp2⟩:=df.mp hw
  refine wpAny_getItem_heap (tupleKind_room_in1 hu) (vX I.hok eb) dd hp ?_;rw[hp2];exact h w' _ (I.tok _) rw'
theorem sC{h':Heap}{t':Nat}{ob:HO}(I:Inv X pins σ H s)(mu:Mut (H a))(hs:Heap.SameBut a s.heap h')(he:∃q,h'.get? a=some q)(new:ObjOk X.prog X.w (upd H a ob) h' a ob):
  Inv X pins σ (upd H a ob) {s with heap:=h',toks:=t'}:=
 I.write (x:=a) (e:=a) mu (.inl rfl) (fun b q hb z=>(hs.2 b hb).trans z) he new
theorem yQ{P:Program}{w:World}{H':Hp}{h':Heap}{kvs:List (Key×V)}{vs:List (Key×Value)}(z:kvs.length<=sizeLine)(hd:(a==sysModules)=false)(rel:KV kvs vs)(dd:h'.DictOf (jS P w) a vs):
  ObjOk P w H' h' a (.dK kvs):=⟨z,hd,vs,rel,dd⟩
theorem wj{H':Hp}{Q:Unit ->Shared ->Prop}(hu:A.units+1<cLine)(I:Inv X pins σ H s)(g:DPut H a y v H')(ry:RelV y u)(rv:RelV v r)(h:∀s',Inv X pins σ H' s' ->Q () s'):
  wpAny (model X.prog X.w) A (setItem (.ref a) u r) Q E s:=by
 rcases g with⟨kvs,k,e,ey,l,eH⟩|⟨kvs,k,b,e,ey,eb,l,eH⟩
 ·subst ey eH;obtain⟨z,hd,vs,rel,dd⟩:=BH I.hok e
  have hz:vs.length<=sizeLine:=by rw[<-rel.length];exact z
  have hl:(putK kvs k v).length<=sizeLine:=by have:=lR kvs k v;omega
  refine wpAny_setItem_pairs (hsz:=hz) (xX ry) dd fun h' dd' hs=>h _ ?_
  have he:∃q,h'.get? a=some q:=let⟨q,_,_,hq,_⟩:=dd';⟨q,hq⟩
  exact sC I (by rw[e];exact True.intro) hs he (yQ hl hd (rel.put k rv) dd')
 ·subst ey eH;cases(show u=Value.ref b from ry);obtain⟨z,hd,xs,rel,dd⟩:=Cr I.hok e
  have hz:xs.length<=sizeLine:=by rw[<-Paired.length rel];exact z
  have hl:(putK kvs k v).length<=sizeLine:=by have:=lR kvs k v;omega
  refine wpAny_setItem_heap (hsz:=hz) (tupleKind_room_in1 hu) (vX I.hok eb) dd fun h' dd' hs=>h _ ?_
  obtain⟨q,es,ep,hq,h2,h3,h4,_,h5⟩:=dd'
  refine sC I (by rw[e];exact True.intro) hs ⟨q,hq⟩ ⟨hl,hd,_,(rel.put k eb rv).keeps fun c ys ec=> ?_,q,es,ep,hq,h2,h3,h4,h5⟩;rw[i7 (lA ec e (fun z=>nomatch z))];exact ec
end
noncomputable def CH(i:Expr):Prop:=∀ov iv,subscripted i false ov iv=operate [ov,iv] (getItem ov iv)
theorem y0{prog:Program}{w:World}{A:Around}{E:Value ->Shared ->Prop}{s:Shared}{env:Env}{value slice:Expr}{pos:Pos}{T id:String}{Q:Value ->Shared ->Prop}
  (hl:typeLookup (.type T) "__getitem__"=pure (some (.builtin id))) (hs:CH slice)
  (h:wpAny (model prog w) A (eval value env) (fun o s₁=>wpAny (model prog w) A (eval slice env) (fun i s₂=>s₂.TypeIs o T /\ wpAny (model prog w) A (getItem o i) Q E s₂) E s₁) E s):
  wpAny (model prog w) A (eval (.Subscript value slice pos) env) Q E s:=by
 refine Subscript_ (wpAny_mono h (fun o s₁ h₁=>wpAny_mono h₁ (fun i s₂ h₂=> ?_) fun _ _ x=>x) fun _ _ x=>x);obtain⟨hT,h₂⟩:=h₂
 unfold subscriptTail;refine wpAny_bind ?_;rw[getitemInPython_of_ne hT.not_modules];refine wpAny_bind (wpAny_specialOf hT hl ?_);have fin:wpAny (model prog w) A (subscripted slice false o i) (fun r s₃=>wpAny (model prog w) A (letTemporaryGo value o r>>=fun _=>pure r) Q E s₃) E s₂:=by
  rw[hs o i];exact wpAny_operating (wpAny_mono h₂ (fun r s₃ h₃=>wpAny_bind (wpAny_letTemporaryGo (wpAny_pure h₃))) fun _ _ x=>x)
 first
  |exact wpAny_pure (wpAny_bind fin)
  |exact wpAny_bind (wpAny_pure (wpAny_bind fin))
  |exact wpAny_bind fin
theorem sv{X:Cx}{pins:List (Addr×Obj)}{σ:St}{H:Hp}{s:Shared}{a:Addr}{y:V}{o:Option V}(I:Inv X pins σ H s)(g:DGet H a y o):s.TypeIs (.ref a) "dict":=by
 rcases g with⟨kvs,k,e,_,_⟩|⟨kvs,k,b,e,_,_,_⟩
 ·obtain⟨_,_,vs,_,dd⟩:=z8 I.hok e
  exact dd.typeIs
 ·obtain⟨_,_,xs,_,dd⟩:=zZ I.hok e
  exact dd.typeIs
theorem yj{P:Program}{w:World}{H:Hp}(h:Heap)(hb:sysModules<h.objs.size):ObjOk P w H (h.push {cls:= .type "dict",data:= .dict #[]}) h.objs.size (.dK []):=
 ⟨bp _,beq_eq_false_iff_ne.mpr (Ne.symm (aW hb)),[],.nil,Heap.DictOf.new h⟩
noncomputable def sT:TE:=fun _ H Q=>∀p,H p=none ->Q (.ref p) (upd H p (.dK []))
noncomputable def sS:TE:=fun _ H Q=>∀p,H p=none ->Q (.ref p) (upd H p (.dT []))
noncomputable def nv:List (TE×TE) ->St ->Hp ->(List (V×V) ->Hp ->Prop) ->Prop
 |[],_,H,Q=>Q [] H
 |(tk,tv)::r,σ,H,Q=>tk σ H fun x H1=>tv σ H1 fun y H2=>nv r σ H2 fun ps H3=>Q ((x,y)::ps) H3
noncomputable abbrev VV:List (V×V) ->List (Value×Value) ->Prop:=Paired fun p q=>RelV p.1 q.1 /\ RelV p.2 q.2
noncomputable def PPs(X:Cx)(pos:Pos)(keys:List (Option Expr))(values:List Expr)(trs:List (TE×TE)):Prop:=
 ∀(pins:List (Addr×Obj)) (s:Shared) (σ:St) (H:Hp) (Q:List (V×V) ->Hp ->Prop),Inv X pins σ H s ->nv trs σ H Q ->
  wpAny (model X.prog X.w) X.A (evalPairs (pairTrees keys values X.env pos)) (fun vs s'=>∃ps H',Inv X pins σ H' s' /\ VV ps vs /\ Q ps H') X.xe s
theorem zj{X:Cx}{pos:Pos}:PPs X pos [] [] []:=fun pins s σ H Q I h=>pairTrees_nil_walk ⟨[],H,I,.nil,h⟩
theorem pO{X:Cx}{pos:Pos}{k v:Expr}{ks:List (Option Expr)}{vs:List Expr}{tk tv:TE}{trs:List (TE×TE)}(hk:PE X k tk)(hv:PE X v tv)(hr:PPs X pos ks vs trs):
  PPs X pos (some k::ks) (v::vs) ((tk,tv)::trs):=fun pins s σ H Q I h=>
 pairTrees_cons_walk (thn (hk pins s σ H _ I h) fun u s1 ⟨x,H1,I1,rx,q1⟩=>thn (hv pins s1 σ H1 _ I1 q1) fun w2 s2 ⟨y,H2,I2,ry,q2⟩=>
  thn (hr pins s2 σ H2 _ I2 q2) fun ws s3 ⟨ps,H3,I3,rel,q3⟩=>⟨(x,y)::ps,H3,I3,.cons ⟨rx,ry⟩ rel,q3⟩)
noncomputable def qT(kvs more:List (Key×V)):List (Key×V):=more.foldl (fun acc kv=>putK acc kv.1 kv.2) kvs
theorem KV.merge:∀{more:List (Key×V)} {rs:List (Key×Value)} {kvs:List (Key×V)} {vs:List (Key×Value)},KV more rs ->KV kvs vs ->KV (qT kvs more) (merged vs rs):=by
 intro more rs kvs vs r;unfold KV at r
 induction r generalizing kvs vs with
 |nil=>intro q;exact q
 | @cons p q ps qs h t ih=>
  intro r0;have e:KV (putK kvs p.1 p.2) (stored vs q.1 q.2):=by
   have:=r0.put p.1 h.2
   rw[<-h.1];exact this
  exact ih e
theorem l7:∀(more kvs:List (Key×V)),(qT kvs more).length<=kvs.length+more.length
 |[],kvs=>by show kvs.length<=kvs.length+0;omega
 |p::r,kvs=>by
  have h1:=l7 r (putK kvs p.1 p.2)
  have h2:=lR kvs p.1 p.2
  show(qT (putK kvs p.1 p.2) r).length<=_
  rw[aX];omega
theorem oP{P:Program}{w:World}:∀{kvs:List (Key×V)} {ws:List (Value×Value)},VV (kvs.map fun kv=>(kV kv.1,kv.2)) ws -> ∃rs,Carries (jS P w) ws rs /\ KV kvs rs
 |[],_,r=>by rw[bI] at r;cases r;exact⟨[],True.intro,.nil⟩
 |p::kvs,_,r=>by
  rw[aD] at r;cases r with
  | @cons a b as bs h t=>
   obtain⟨rs,c,q⟩:=oP (P:=P) (w:=w) t
   obtain⟨b1,b2⟩:=b
   exact⟨(p.1,b2)::rs,⟨xX h.1,rfl,c⟩,.cons ⟨rfl,h.2⟩ q⟩
noncomputable def uV(trs:List (TE×TE)):TE:=fun σ H Q=>∀p,H p=none ->nv trs σ (upd H p (.dK [])) fun ps H2=>H2 p=some (.dK []) /\ ∃kvs:List (Key×V),ps=kvs.map (fun kv=>(kV kv.1,kv.2)) /\ kvs.length<=15 /\ Q (.ref p) (upd H2 p (.dK (qT [] kvs)))
theorem zq{X:Cx}{pos:Pos}{keys:List (Option Expr)}{values:List Expr}{trs:List (TE×TE)}(h:PPs X pos keys values trs)(hall:keys.all (·.isSome)=true)(hl:keys.length=values.length)(h0:keys≠[])
  (h15:keys.length<=15):PE X (.Dict keys values pos) (uV trs):=by
 intro pins s σ H Q I q;have hn:=I.hok.fresh (av s.heap.objs.size)
 have I1:=I.laid (a:=s.heap.objs.size) (o:= .dK []) (h':=s.heap.push {cls:= .type "dict",data:= .dict #[]}) (t':=s.toks) (fun _ _ q=>Heap.get?_push_of_some _ q) (av _) (yj s.heap I.big)
 refine wpAny_Dict_walk (knd:=jS X.prog X.w) hall hl h0 h15 (thn (h pins _ σ _ _ I1 (q _ hn)) fun ws s2 ⟨ps,H2,I2,rel,e,kvs,ep,lk,q2⟩=> ?_);subst ep;obtain⟨rs,c,rk⟩:=oP (P:=X.prog) (w:=X.w) rel
 obtain⟨z,hd,vs0,r0,dd⟩:=BH I2.hok e
 cases r0;refine⟨rs,c,dd,fun h' dd' hs=>⟨.ref s.heap.objs.size,_,?_,rfl,q2⟩⟩;have hz:(qT [] kvs).length<=sizeLine:=by
  have h1:=l7 kvs []
  rw[bo] at h1;rw[sizeLine_eq];omega
 have he:∃q,h'.get? s.heap.objs.size=some q:=let⟨q,_,_,hq,_⟩:=dd';⟨q,hq⟩
 exact sC I2 (by rw[e];exact True.intro) hs he (yQ hz hd (rk.merge .nil) dd')
structure M2(X:Cx)(o:Expr)(m:Str)(apos:Pos)(e f:Expr)(cpos:Pos):Prop where
 base:attributeBase o m X.env (eval o X.env)=eval o X.env
 few:((backTo cpos (starEach [e,f] X.env)).all (fun x=> !x.1)&&(backToKw cpos (keywordEach [] X.env)).all (fun x=>x.1.isSome)
  &&decide (([e,f]:List Expr).length+([]:List Keyword).length+(if([]:List Keyword).isEmpty then 0 else 1)<30))=true
 line:(apos.endLine==cpos.line)=true
 trees:backTo cpos (starEach [e,f] X.env)=[(false,eval e X.env),(false,eval f X.env)]
end L2
namespace L2
open PySem PySem.Spec PyProof.Rows
noncomputable def Bd(n:Nat)(i:Int):Prop:=i.natAbs<2^n
theorem Bd.mono{m n:Nat}{i:Int}(h:Bd m i)(hm:m<=n):Bd n i:=aO h (dE (by decide) hm)
theorem Bd.mul{m n:Nat}{i j:Int}(h:Bd m i)(k:Bd n j):Bd (m+n) (i*j):=by
 unfold Bd at*;rw[fB,Nat.pow_add];exact Nat.mul_lt_mul'' h k
theorem oF(m n:Nat):2^m+2^n<=2^(m+n+1):=by
 have h1:2^m<=2^(m+n):=dE (by decide) (Nat.le_add_right _ _)
 have h2:2^n<=2^(m+n):=dE (by decide) (Nat.le_add_left _ _)
 have h3:2^(m+n+1)=2^(m+n)*2:=Nat.pow_succ _ _
 omega
theorem Bd.add{m n:Nat}{i j:Int}(h:Bd m i)(k:Bd n j):Bd (m+n+1) (i+j):=by
 have e:=oF m n
 unfold Bd at*;omega
theorem Bd.sub{m n:Nat}{i j:Int}(h:Bd m i)(k:Bd n j):Bd (m+n+1) (i-j):=by
 have e:=oF m n
 unfold Bd at*;omega
theorem Bd.neg{m:Nat}{i:Int}(h:Bd m i):Bd m (-i):=by
 unfold Bd at*;omega
theorem Bd.abs{m:Nat}{i:Int}(h:Bd m i):Bd m (if i<0 then -i else i):=by
 split
 ·exact h.neg
 ·exact h
theorem Bd.of_le{n:Nat}{i:Int}(b:Int)(h1: -b<=i)(h2:i<=b)(hb:b.natAbs<2^n):Bd n i:=by
 unfold Bd;omega
theorem Bd.bits{n:Nat}{i:Int}(h:Bd n i):Builtin.Int.intBits i<=n:=by
 unfold Bd at h;unfold Builtin.Int.intBits;split
 ·exact bp _
 ·rename_i z
  have:i.natAbs≠0:=by
   intro e;apply z;have:i=0:=by omega
   subst this;rfl
  have:=(Nat.log2_lt this).mpr h
  omega
theorem Bd.log{n:Nat}{i:Int}(h:Bd n i)(h0:0<n):i.natAbs.log2<n:=by
 by_cases e:i.natAbs=0
 ·rw[e];exact bJ (by decide) h0
 ·exact(Nat.log2_lt e).mpr h
theorem Bd.sq{m:Nat}{i:Int}(h:Bd m i):Bd (m+m) (i^2):=by
 have e:i^2=i*i:=by grind
 rw[e];exact h.mul h
section
variable {X:Cx}
noncomputable def CMulA(i j:Int):Prop:=CMul i j∨(Bd 100000 i /\ Bd 100000 j)
theorem CMulA.ok{i j:Int}(h:CMulA i j):IntMulOk i j:=by
 rcases h with h|⟨h1,h2⟩
 ·exact h.ok
 ·exact .of_bits (bW h1.bits (by decide)) (bW h2.bits (by decide))
theorem jf:OpR X (binaryOp .Mult) (rI CMulA fun i j=> .int (i*j)):=opI fun _ _ _ _ _ _ _ hc q=>mul_int q hc.ok
theorem jW:OpR X (binaryOp .FloorDiv) (rI (fun _ j=>j≠0 /\ Bd 9000 j) fun i j=> .int (i.fdiv j)):=opI fun _ _ _ _ _ _ _ hc q=>floordiv_int hc.1 q (.inl (PyProof.noPylong_of_log2 (hc.2.log (by decide))))
theorem zu:OpR X (binaryOp .Pow) (rI (fun i j=>0<=j /\ j<=100 /\ Bd 100000 i) fun i j=> .int (i^j.toNat)):=opI fun i j _ _ _ _ _ hc q=>by
 obtain⟨h1,h2,h3⟩:=hc
 refine pow_int h1 ?_ q;have hb:Builtin.Int.intBits i<=100000:=h3.bits
 have e:((Builtin.Int.intBits i:Nat):Int)*j<=100000*100:=Int.mul_le_mul (by omega) h2 h1 (by decide)
 exact f9 e (by decide)
end
end L2
namespace L2
open PySem PySem.Spec PyProof.Rows
section
variable {prog:Program} {w:World} {A:Around} {E:Value ->Shared ->Prop} {s:Shared}
theorem oK{it l:Addr}{items:Array Value}(hne:l≠it):∀(n i:Nat) (s:Shared) (Q:List Value ->Shared ->Prop),s.heap.IsListIter it l i ->s.heap.IsList l items ->i+n<=items.size ->
  (∀h',h'.IsListIter it l (i+n) ->Heap.SameBut it s.heap h' ->Q ((items.toList.drop i).take n) {s with heap:=h'}) ->wpAny (model prog w) A (draw (.ref it) n) Q E s
 |0,i,s,Q,hit,_,_,hQ=>by
  show wpAny _ _ (pure []) Q E s
  exact wpAny_pure (by simpa using hQ s.heap hit (Heap.SameBut.refl ..))
 |n+1,i,s,Q,hit,ht,hle,hQ=>by
  have hlt:i<items.size:=by omega
  show wpAny _ _ (pyNext (.ref it)>>=_) Q E s
  refine wpAny_bind (wpAny_pyNext_list_item hit ht (x:=items[i]) (by simp[hlt]) fun h₁ hit₁ hs₁=> ?_);refine wpAny_bind (wpAny_holding (oK hne n (i+1) _ _ hit₁ (ht.extBut hs₁.extBut hne) (by omega) fun h₂ hit₂ hs₂=>wpAny_pure ?_));have hd:items.toList.drop i=items[i]::items.toList.drop (i+1):=by simp[bU,hlt]
  have:=hQ h₂ (by rw[show i+(n+1)=i+1+n by omega];exact hit₂) (hs₁.trans hs₂)
  rw[hd,List.take_succ_cons] at this;exact this
theorem mw{t:Addr}{items:Array Value}{Q:List Value ->Shared ->Prop}(hh:A.handled=none)(ht:s.heap.IsList t items)
  (hQ:∀h',Heap.ExtBut s.heap.objs.size s.heap h' ->Q items.toList {s with heap:=h'}):wpAny (model prog w) A (unpackItems (.ref t) items.size none) Q E s:=by
 have hlt:t≠s.heap.objs.size:=by obtain⟨o,ho,_⟩:=ht;exact aW (Heap.lt_size ho)
 unfold unpackItems;refine wpAny_bind ?_
 ·unfold notIterableAtAll;refine wpAny_bind (wpAny_specialOf ht.typeIs slot_list_iter.lookup ?_);refine wpAny_pure ?_;simp only[bR,if_false];refine wpAny_bind (wpAny_holding (wpAny_pyIter_list ht ?_));have ht0:(s.heap.push {cls:= .type "list_iterator",data:= .fields #[.ref t,.int 0 0]}).IsList t items:=ht.at fun o e=>Heap.get?_push_of_some _ e
  refine wpAny_bind (wpAny_holding (oK hlt items.size 0 _ _ ⟨_,Heap.get?_push_size _ rfl,rfl,rfl⟩ ht0 (by omega) fun h₁ hit₁ hs₁=> ?_));have hall:List.take items.size (List.drop 0 items.toList)=items.toList:=by
   rw[dF];exact cc (by simp)
  rw[hall];rw[if_neg (by simp)];have ht₁:h₁.IsList t items:=ht0.extBut hs₁.extBut hlt
  refine wpAny_bind (wpAny_holding (wpAny_pyNext_list_end hh hit₁ ht₁ (by simp) fun h₂ he₂=> ?_));simp only[Option.isSome_none,bR,if_false];refine wpAny_pure (hQ h₂ fun b o hb e=>he₂ b o hb (hs₁.extBut b o hb (Heap.get?_push_of_some _ e)))
theorem mj{env:Env}{elts:List Expr}{x1}{pos:Pos}{t:Addr}{items:Array Value}{Q:Unit ->Shared ->Prop}(hh:A.handled=none)(ht:s.heap.IsList t items)
  (hn:(assignEach elts env).length=items.size) (hstar:(assignEach elts env).findIdx? (·.1)=none)
  (h:∀h',Heap.ExtBut s.heap.objs.size s.heap h' ->wpAny (model prog w) A (assignInOrder ((assignEach elts env).map (·.2)) items.toList) Q E {s with heap:=h'}):
  wpAny (model prog w) A (assign (.Tuple elts x1 pos) env (.ref t)) Q E s:=by
 rw[assign_Tuple];refine wpAny_bind (wpAny_standAt ?_);unfold unpack;rw[hn,hstar];exact wpAny_bind (wpAny_holding (mw hh ht h))
end
section
variable {X:Cx} {pos:Pos}
noncomputable def CD(K:ah)(n:Nat)(t:TGs):TG:=fun v σ H Q=>∃a xs,v= .ref a /\ SqL K H a xs /\ xs.length=n /\ t xs σ H Q
theorem A5{es:List Expr}{k:Nat}{t:TGs}{n:Nat}(hc:X.calm=true)(h:PGs X es t)
  (hn:(assignEach es X.env).length=n:=by rfl) (hst:(assignEach es X.env).findIdx? (·.1)=none:=by rfl):PG X (.Tuple es k pos) (CD X.K n t):=by
 intro pins s σ H v u Q I r hw;obtain⟨a,xs,e1,hq,hl,hw⟩:=hw
 subst e1;cases r;obtain⟨its,rv,ht,hz⟩:=I.list hq
 refine mj (I.ok.hd hc) ht.isList (by simp[hn, <-hl,rv.length]) hst fun h' hx=> ?_
 have I1:Inv X pins σ H {s with heap:=h'}:=I.kept (t':=s.toks) fun b o e=>hx b o (aW (Heap.lt_size e)) e
 exact h pins _ σ H xs _ Q I1 (by simpa using rv) hw
noncomputable def CY(K:ah)(n:Nat)(t:TGs):TG:=fun v σ H Q=>CC K n t v σ H Q∨CD K n t v σ H Q
theorem yF{es:List Expr}{k:Nat}{t:TGs}{n:Nat}(hc:X.calm=true)(h:PGs X es t)
  (hn:(assignEach es X.env).length=n:=by rfl) (hst:(assignEach es X.env).findIdx? (·.1)=none:=by rfl):PG X (.Tuple es k pos) (CY X.K n t):=by
 intro pins s σ H v u Q I r hw;rcases hw with hw|hw
 ·exact A4 hc h hn hst pins s σ H v u Q I r hw
 ·exact A5 hc h hn hst pins s σ H v u Q I r hw
end
theorem kW{env:Env}:∀(names:List (Str×NameKind)) (acc:List (Str×Addr)),(∀y∈names,y.2= .free -> ∃c,env.cells.lookup y.1=some c) ->(∀x c,acc.lookup x=some c ->env.cells.lookup x=some c) ->
  ∃cl,(forIn (m:=Sem) names acc fun y cs=>(match y with|(name,kind)=>do
    let mut cs:=cs
    if kind== .free then cs:=(name, <-cellOf env name)::cs
    pure (ForInStep.yield cs):Sem (ForInStep (List (Str×Addr)))))=pure cl /\ (∀x c,cl.lookup x=some c ->env.cells.lookup x=some c) /\ (∀y∈names,y.2= .free -> ∃c,cl.lookup y.1=some c) /\ (∀x c,acc.lookup x=some c -> ∃c',cl.lookup x=some c')
 |[],acc,_,ha=>⟨acc,rfl,ha,fun _ z=>absurd z ay,fun x c h=>⟨c,h⟩⟩
 |(n,k)::r,acc,hf,ha=>by
  by_cases hk:k= .free
  ·subst hk;obtain⟨c,hc⟩:=hf (n,.free) aY rfl
   obtain⟨cl,e,h1,h2,h3⟩:=kW r ((n,c)::acc) (fun y hy=>hf y (aB _ hy)) (fun x d hx=>by
    rw[cz] at hx;split at hx
    ·rename_i z
     have:x=n:=by simpa using z
     subst this;cases hx;exact hc
    ·exact ha x d hx)
   refine⟨cl,?_,h1,fun y hy hyf=> ?_,fun x d hx=> ?_⟩
   ·rw[fc];simp only[beq_self_eq_true,if_true,cellOf,hc,pure_bind,bind_pure_comp,map_pure];simp only[cellOf] at e
    simpa using e
   ·rcases ao.mp hy with z|z
    ·subst z;exact h3 n c (by simp)
    ·exact h2 y z hyf
   ·by_cases z:x=n
    ·subst z;exact h3 x c (by simp)
    ·refine h3 x d ?_;rw[cz];have:(x==n)=false:=by simpa using z
     rw[this];exact hx
  ·obtain⟨cl,e,h1,h2,h3⟩:=kW r acc (fun y hy=>hf y (aB _ hy)) ha
   have hb:(k==NameKind.free)=false:=by simpa using hk
   refine⟨cl,?_,h1,fun y hy hyf=> ?_,h3⟩
   ·rw[fc];simp only[hb,bR,if_false,pure_bind]
    simpa using e
   ·rcases ao.mp hy with z|z
    ·subst z;exact absurd hyf hk
    ·exact h2 y z hyf
theorem mi{scope:Scope}{env:Env}(hf:∀y∈scope.names,y.2= .free -> ∃c,env.cells.lookup y.1=some c):
  ∃cl,closureFor scope env=pure cl /\ (∀x c,cl.lookup x=some c ->env.cells.lookup x=some c) /\ (∀y∈scope.names,y.2= .free -> ∃c,cl.lookup y.1=some c):=by
 obtain⟨cl,e,h1,h2,_⟩:=kW (env:=env) scope.names [] hf (fun x c h=>by simp at h)
 refine⟨cl,?_,h1,h2⟩;unfold closureFor;have e':=e
 simp only[bind_pure] at*
 first|exact e|(rw[e];rfl)|simpa using e
end L2
namespace L2
open PySem PySem.Spec PyProof.Rows
noncomputable def t9(X:Cx)(scope:Scope)(cl:List (Str×Addr))(N:List Str)(C:Addr)(s:Shared)(H:Hp)(ex:List Addr)(pn:List (Addr×Obj)):Cx where
 prog:=X.prog
 w:=X.w
 K:=X.K
 mg:=X.mg
 base:=X.base
 A:=X.A
 N:=N
 s₀:=s
 H₀:=H
 env:=compEnvC scope cl C X.env
 outer:=X.stack
 stack:=X.stack
 ex:=ex
 fn:=fun _=>false
 calm:=X.calm
 pn:=pn
 xe:=fun _ _=>False
structure CScope(X:Cx)(scope:Scope)(N:List Str)(k:Nat)(js:List Nat):Prop where
 kind:scope.kind= .function
 nocell:∀y∈scope.names,y.2≠ .cell
 names:∀y∈scope.names,y.2= .local ->scope.names.lookup y.1=some .local
 frees:∀y∈scope.names,y.2= .free ->X.env.kindOf y.1=some .cell∨X.env.kindOf y.1=some .free
 len:N.length=k+js.length
 look:∀i j,js[i]? =some j -> ∃x,N[k+i]? =some x /\ X.N[j]? =some x /\ scope.names.lookup x=some .free
theorem oq{scope:Scope}{env:Env}(x:Str):(relabel scope env).names.lookup x=(scope.names.lookup x).map fun k=>if(k== .free&&env.scope.kind== .function&&env.kindOf x==some .cell) then .cell else k:=by
 unfold relabel;dsimp only;generalize scope.names=l
 induction l with
 |nil=>rfl
 |cons y r ih=>
  obtain⟨n,k⟩:=y
  rw[aD,cz]
  by_cases hx:x=n
  ·subst hx;dsimp only
   by_cases hc:(k==NameKind.free&&env.scope.kind==ScopeKind.function&&env.kindOf x==some NameKind.cell)=true
   ·rw[if_pos hc];simp only[cz,beq_self_eq_true,dY];rw[if_pos hc]
   ·rw[if_neg hc];simp only[cz,beq_self_eq_true,dY];rw[if_neg hc]
  ·have hb:(x==n)=false:=by simpa using hx
   dsimp only
   by_cases hc:(k==NameKind.free&&env.scope.kind==ScopeKind.function&&env.kindOf n==some NameKind.cell)=true
   ·rw[if_pos hc];simp only[cz,hb];exact ih
   ·rw[if_neg hc];simp only[cz,hb];exact ih
theorem lookup_mem{α:Type}:∀{l:List (Str×α)} {x:Str} {v:α},l.lookup x=some v ->(x,v)∈l
 |[],_,_,h=>by simp at h
 |(n,k)::r,x,v,h=>by
  rw[cz] at h;split at h
  ·rename_i z
   have:x=n:=by simpa using z
   subst this;cases h;exact aY
  ·exact aB _ (lookup_mem h)
noncomputable def frV(σ:St)(js:List Nat):St:=js.map fun j=>(σ[j]?).join
noncomputable def stLC(σ:St)(k:Nat)(js:List Nat):St:=iG k none++frV σ js
section
variable {X:Cx} {pins:List (Addr×Obj)} {σ:St} {H:Hp} {s:Shared} {scope:Scope} {N:List Str} {k:Nat} {js:List Nat} {cl:List (Str×Addr)} {fp:List Addr}
theorem Inv.block{h1:Heap}{tk:Nat}(I:Inv X pins σ H s)(S:CScope X scope N k js)
  (hcl1:∀x c,cl.lookup x=some c ->X.env.cells.lookup x=some c) (hcl2:∀y∈scope.names,y.2= .free -> ∃c,cl.lookup y.1=some c)
  (hns:h1.Ns s.heap.objs.size (fun _=>none)) (hk:∀b o,s.heap.get? b=some o ->h1.get? b=some o)
  (hf:∀b∈fp,uJ X pins H b) (hfp:∀b∈fp,∃o,s.heap.get? b=some o /\ ∀v,o.data≠ .cell v):
  Inv (t9 X scope cl N s.heap.objs.size s H fp (X.pn++pins)) [] (stLC σ k js) H {s with heap:=h1,toks:=tk}:=by
 have hxc:∀x c,cl.lookup x=some c ->c<s.heap.objs.size:=fun x c h=>by
  obtain⟨v,q⟩:=I.cell x c (hcl1 x c h)
  exact q.lt
 have lkL:∀x,(compEnvC scope cl s.heap.objs.size X.env).kindOf x=(scope.names.lookup x).map fun k=>if(k== .free&&X.env.scope.kind== .function&&X.env.kindOf x==some .cell) then .cell else k:=fun x=>oq x
 refine⟨⟨I.ok.mod,S.kind,I.ok.glob,I.ok.blt,av _,fun x y c h1 h2=>I.ok.inj x y c (hcl1 x c h1) (hcl1 y c h2),fun x hx=> ?_,fun x c h _=>absurd (show false=true from h) (by decide),I.ok.hd,I.ok.frames,.inl rfl,fun b hb=> ?_,I.bs,
  bW I.ok.bsz I.sz,fun b o e z=> ?_,fun b hb z=> ?_,I.stack,I.stkFree⟩,rfl,I.bare,Un.kept hk,⟨_,hns,fun i x v e1 e2 e3=> ?_⟩,fun x c h=> ?_,?_,fun x c h=>I.freeC x c (hcl1 x c h),fun p hp=> ?_,I.hok.kept hk,?_⟩
 ·--has
  have hx:((scope.names.lookup x).map fun k=>if(k== .free&&X.env.scope.kind== .function&&X.env.kindOf x==some .cell) then NameKind.cell else k)=some .cell∨((scope.names.lookup x).map fun k=>if(k== .free&&X.env.scope.kind== .function&&X.env.kindOf x==some .cell) then NameKind.cell else k)=some .free:=by
   rcases hx with hx|hx
   ·exact .inl ((lkL x).symm.trans hx)
   ·exact .inr ((lkL x).symm.trans hx)
  have:scope.names.lookup x=some .free:=by
   cases e:scope.names.lookup x with
   |none=>rw[e] at hx;rcases hx with hx|hx<;>cases hx
   |some q=>
    rw[e] at hx
    by_cases hq:q= .free
    ·rw[hq]
    ·have hb:(q==NameKind.free)=false:=by simpa using hq
     simp only[dY,hb,iF,bR,if_false,aZ.injEq] at hx;rcases hx with hx|hx
     ·exact absurd hx (S.nocell _ (lookup_mem e))
     ·exact absurd hx hq
  obtain⟨c,hc⟩:=hcl2 _ (lookup_mem this) rfl
  exact⟨c,hc⟩
 ·obtain⟨f0,f1,f2,f3,f4,f5⟩:=hf b hb
  obtain⟨o,ho,_⟩:=hfp b hb
  exact⟨aW (Heap.lt_size ho),fun x c h=>f4 x c (hcl1 x c h)⟩
 ·obtain⟨f0,f1,f2,f3,f4,f5⟩:=hf b z
  rcases f3 with f3|f3
  ·exact I.ok.noex b o e f3
  ·exact absurd (aO (Heap.lt_size (I.ok.bs b o e).1) f3) (ci _)
 ·obtain⟨f0,f1,f2,f3,f4,f5⟩:=hf b hb
  rcases ao.mp (I.stkSub b z) with q|q
  ·exact f1 q
  ·exact f2 q
 ·--the values
  by_cases hi:i<k
  ·have:(stLC σ k js)[i]? =some none:=by
    unfold stLC;rw[aQ (by simpa using hi),dW,if_pos hi]
   rw[this] at e2;cases e2
  ·obtain⟨d,rfl⟩:∃d,i=k+d:=⟨i-k,by omega⟩
   have e2':(frV σ js)[d]? =some (some v):=by
    unfold stLC at e2;rw[aH (by simp)] at e2
    simpa using e2
   unfold frV at e2';rw[aC] at e2';cases ej:js[d]? with
   |none=>rw[ej] at e2';cases e2'
   |some j=>
    rw[ej] at e2';have ev:(σ[j]?).join=some v:=aZ.inj e2'
    have ev':σ[j]? =some (some v):=by
     cases q:σ[j]? with
     |none=>rw[q] at ev;cases ev
     |some z=>rw[q] at ev;rw[show z=some v from ev]
    obtain⟨x',n1,n2,n3⟩:=S.look d j ej
    have:x'=x:=aZ.inj (n1.symm.trans e1)
    subst this;obtain⟨m,hn,hl⟩:=I.loc
    have hkx:=S.frees _ (lookup_mem n3) rfl
    have hvis:Vis X.env.scope x':=by
     rcases hkx with q|q
     ·exact .inr (.inl q)
     ·exact .inr (.inr q)
    obtain⟨u,r,l⟩:=hl j x' v n2 ev' hvis
    refine⟨u,r,?_⟩;obtain⟨c,hc⟩:=hcl2 _ (lookup_mem n3) rfl
    rcases l with⟨l1,_⟩|⟨l1,c',l2,l3⟩
    ·rcases hkx with q|q
     ·exact absurd (l1.symm.trans q) (by decide)
     ·exact absurd (l1.symm.trans q) (by decide)
    ·have:c'=c:=aZ.inj (l2.symm.trans (hcl1 _ c hc))
     subst this;refine .inr ⟨?_,c',hc,?_⟩
     ·have q:=lkL x'
      rw[n3] at q
      by_cases hb:((NameKind.free==NameKind.free&&X.env.scope.kind== .function&&X.env.kindOf x'==some .cell))=true
      ·left
       show(compEnvC scope cl s.heap.objs.size X.env).kindOf x'=_
       rw[q];simp only[dY];rw[if_pos hb]
      ·right
       show(compEnvC scope cl s.heap.objs.size X.env).kindOf x'=_
       rw[q];simp only[dY];rw[if_neg hb]
     ·obtain⟨o,ho,hd⟩:=l3
      exact⟨o,hk _ o ho,hd⟩
 ·obtain⟨v,o,ho,hd⟩:=I.cell x c (hcl1 x c h)
  exact⟨v,o,hk _ o ho,hd⟩
 ·exact I.hok.fresh (av _)
 ·have hp':p∈X.pn++pins:=by simpa[t9] using hp
  obtain⟨e,n,ne,nf,d⟩:=I.pin p hp'
  exact⟨hk _ _ e,n,aW (Heap.lt_size e),fun z=>(ao.mp (I.stkSub _ z)).elim ne nf,d⟩
 ·show(stLC σ k js).length=N.length
  unfold stLC frV;rw[S.len];simp
end
end L2
namespace L2
open PySem PySem.Spec PyProof.Rows
noncomputable def BK(X:Cx)(ifs:List Expr)(t:TT):Prop:=
 ∀(pins:List (Addr×Obj)) (s:Shared) (σ:St) (H:Hp) (Q:Bool ->Hp ->Prop),Inv X pins σ H s ->t σ H Q ->
  wpAny (model X.prog X.w) X.A (forIn ifs true fun c r=>if r=true then do let ok<-isTrue c X.env (eval c X.env);pure (ForInStep.yield ok) else pure (ForInStep.yield r)) (TP X pins σ Q) X.xe s
noncomputable def AB:TT:=fun _ H Q=>Q true H
theorem jZ{X:Cx}:BK X [] AB:=fun _ _ _ H _ I h=>wpAny_tests_nil ⟨H,I,h⟩
theorem xH{X:Cx}{c:Expr}{t:TT}(h:PT X c t):BK X [c] t:=fun pins s σ H Q I hw=>wpAny_tests_one (h pins s σ H Q I hw)
noncomputable def tLC(wi:TI)(k:Nat)(js:List Nat)(g:TG)(tt:TT)(te:TE):TE:=fun σ H Q=>wi σ H fun J H1=>∀D,H1 D=none ->
 ∃W:Nat ->Nat ->List V ->Hp ->Prop,(∃m,W 0 m [] (upd H1 D (.lst []))) /\ ∀i m ys H,W i m ys H ->H D=some (.lst ys) /\
  ((J.stop i H /\ Q (.ref D) H)∨(J.go i H /\ ys.length<sizeLine /\ ∃N:List V ->Hp ->Prop,(∀ys' H',N ys' H' -> ∃m',m'<m /\ W (i+1) m' ys' H') /\
   ∀x H',J.yld i H x H' ->g x (stLC σ k js) H' fun σ2 H2=>(σ2.drop k=frV σ js /\ σ2.length=k+js.length) /\ tt σ2 H2 fun b H3=>if b=true then te σ2 H3 fun y H4=>H4 D=some (.lst ys) /\ N (ys++[y]) (upd H4 D (.lst (ys++[y]))) else N ys H3))
section
variable {X:Cx} {scope:Scope} {N:List Str} {k:Nat} {js:List Nat} {elt iter tg:Expr} {ifs:List Expr} {pos:Pos} {wi:TI} {g:TG} {tt:TT} {te:TE}
theorem zI{σ σ2:St}(h1:σ2.drop k=frV σ js)(h2:σ2.length=k+js.length)(i:Nat)(v:V)(h:(stLC σ k js)[i]? =some (some v)):σ2[i]? =some (some v):=by
 unfold stLC at h
 by_cases hi:i<k
 ·rw[aQ (by simpa using hi),dW,if_pos hi] at h;cases h
 ·rw[aH (by simpa using hi), <-h1,cI] at h;simp only[f6] at h;rw[show k+(i-k)=i by omega] at h;exact h
theorem tM{pins:List (Addr×Obj)}{σ:St}{H:Hp}{s:Shared}{cl:List (Str×Addr)}{Q:VK}{it:Addr}{fp:List Addr}{tn:Nat ->Heap ->Prop}{J:It}{RR:Value ->Addr ->Result ->Shared ->Prop}
  (S:CScope X scope N k js) (hc:X.calm=true)
  (hg:∀cl C s H ex pn,PG (t9 X scope cl N C s H ex pn) tg g) (ht:∀cl C s H ex pn,BK (t9 X scope cl N C s H ex pn) ifs tt) (he:∀cl C s H ex pn,PE (t9 X scope cl N C s H ex pn) elt te)
  (hcl1:∀x c,cl.lookup x=some c ->X.env.cells.lookup x=some c) (hcl2:∀y∈scope.names,y.2= .free -> ∃c,cl.lookup y.1=some c)
  (I:Inv X pins σ H s) (T:Turn X.prog X.w X.K tg J fp it tn) (hst:tn 0 s.heap) (hf:∀b∈fp,uJ X pins H b)
  (hr:∀D,H D=none ->
   ∃W:Nat ->Nat ->List V ->Hp ->Prop,(∃m,W 0 m [] (upd H D (.lst []))) /\ ∀i m ys H,W i m ys H ->H D=some (.lst ys) /\
    ((J.stop i H /\ Q (.ref D) H)∨(J.go i H /\ ys.length<sizeLine /\ ∃N:List V ->Hp ->Prop,(∀ys' H',N ys' H' -> ∃m',m'<m /\ W (i+1) m' ys' H') /\
     ∀x H',J.yld i H x H' ->g x (stLC σ k js) H' fun σ2 H2=>(σ2.drop k=frV σ js /\ σ2.length=k+js.length) /\ tt σ2 H2 fun b H3=>if b=true then te σ2 H3 fun y H4=>H4 D=some (.lst ys) /\ N (ys++[y]) (upd H4 D (.lst (ys++[y]))) else N ys H3)))
  (hend:∀D C H' s' m,Inv X pins σ H' s' ->s'.heap.Ns C m ->H' C=none ->C≠X.env.locals ->C∉frs X.stack ->X.s₀.heap.objs.size<=C ->(∀x c,X.env.cells.lookup x=some c ->c≠C) ->(∀p∈X.pn++pins,p.1≠C) ->D≠C ->Q (.ref D) H' ->RR (.ref D) C (.ok .next) s')
  {E:Value ->Shared ->Prop}:
  wpAny (model X.prog X.w) X.A (newList []) (fun acc s₃=>wpAny (model X.prog X.w) X.A (newFunctionEnv scope X.env.globals cl [] X.env.qual none .none (some X.env)) (fun cenv s₄=>
   codeAny (model X.prog X.w) X.A (.compStart (.ListComp elt [⟨tg,iter,ifs,0⟩] scope pos) 0 (.ref it) acc {cenv with scope:=relabel scope X.env}) (RR acc cenv.locals) s₄) E s₃) E s:=by
 refine wpAny_newObj_type (wpAny_newFunctionEnv S.nocell (by intro y hy;simp at hy) (fun h₁ hns₁ hsb₁=> ?_) S.kind);dsimp only at hns₁ hsb₁⊢;have hD:H s.heap.objs.size=none:=I.fresh
 obtain⟨W,⟨m0,w0⟩,turn⟩:=hr s.heap.objs.size hD
 have I2:Inv X pins σ (upd H s.heap.objs.size (.lst [])) {s with heap:=s.heap.push {cls:= .type "list",dict:=none,data:= .seq ([]:List Value).toArray},toks:=s.toks}:=I.lnew (its:=[]) .nil (bp _)
 generalize hH2:s.heap.push {cls:= .type "list",dict:=none,data:= .seq ([]:List Value).toArray}=H2 at hns₁ hsb₁ I2⊢;have hsz:H2.objs.size=s.heap.objs.size+1:=by rw[<-hH2,Heap.size_push]
 generalize hs3:({s with heap:=H2,toks:=s.toks}:Shared)=s3 at I2;have hs3h:s3.heap=H2:=by rw[<-hs3]
 have old:∀b o,s.heap.get? b=some o ->H2.get? b=some o:=fun b o e=>by rw[<-hH2];exact Heap.get?_push_of_some _ e
 have old1:∀b o,H2.get? b=some o ->h₁.get? b=some o:=fun b o e=>hsb₁.extBut b o (aW (Heap.lt_size e)) (Heap.get?_push_of_some _ e)
 have hfH:∀b∈fp,∃o,s.heap.get? b=some o /\ ∀v,o.data≠ .cell v:=T.obj 0 _ hst
 have ff:∀b∈fp,uJ X pins (upd H s.heap.objs.size (.lst [])) b:=fun b hb=>by
  obtain⟨f0,fr⟩:=hf b hb
  obtain⟨o,ho,_⟩:=hfH b hb
  exact⟨by rw[i7 (aW (Heap.lt_size ho))];exact f0,fr⟩
 have hns':h₁.Ns s3.heap.objs.size (fun _=>none):=by
  rw[hs3h]
  simpa using hns₁
 have J0:Inv (t9 X scope cl N s3.heap.objs.size s3 (upd H s.heap.objs.size (.lst [])) fp (X.pn++pins)) [] (stLC σ k js) (upd H s.heap.objs.size (.lst [])) {s3 with heap:=h₁,toks:=s.toks+([]:List (Str×Value)).length}:=
  I2.block (fp:=fp) (tk:=s.toks+([]:List (Str×Value)).length) S hcl1 hcl2 hns' (fun b o e=>old1 b o (by rw[<-hs3h];exact e)) ff (fun b hb=>by
   obtain⟨o,ho,hd⟩:=hfH b hb
   exact⟨o,by rw[hs3h];exact old b o ho,hd⟩)
 have es3:({s3 with heap:=h₁,toks:=s.toks+([]:List (Str×Value)).length}:Shared)={s with heap:=h₁,toks:=s.toks+([]:List (Str×Value)).length}:=by rw[<-hs3]
 rw[es3] at J0;have hst1:tn 0 h₁:=T.keep 0 _ _ hst fun b hb o e=>old1 b o (old b o e)
 generalize hY:t9 X scope cl N s3.heap.objs.size s3 (upd H s.heap.objs.size (.lst [])) fp (X.pn++pins)=Y at J0;have eA:Y.A=X.A:=by rw[<-hY];rfl
 have eP:Y.prog=X.prog:=by rw[<-hY];rfl
 have eW:Y.w=X.w:=by rw[<-hY];rfl
 have eK:Y.K=X.K:=by rw[<-hY];rfl
 have eE:Y.env=compEnvC scope cl H2.objs.size X.env:=by rw[<-hY, <-hs3h];rfl
 have eX:Y.xe=fun _ _=>False:=by rw[<-hY];rfl
 have eC:Y.calm=true:=by rw[<-hY];exact hc
 have stat:∀{H':Hp},(∀b∈fp,H' b=none) -> ∀b∈fp,uJ Y [] H' b:=fun hn b hb=>by
  obtain⟨f0,f1,f2,f3,f4,f5⟩:=hf b hb
  obtain⟨o,ho,_⟩:=hfH b hb
  refine⟨hn b hb,?_,?_,.inl (by rw[<-hY];exact hb),fun x c h=> ?_,fun p hp=> ?_⟩
  ·rw[eE];exact aW (aO (Heap.lt_size ho) (by rw[hsz];exact iu _))
  ·rw[<-hY];intro z;rcases ao.mp (I.stkSub b z) with q|q
   ·exact f1 q
   ·exact f2 q
  ·rw[eE] at h;exact f4 x c (hcl1 x c h)
  ·rw[<-hY] at hp;exact f5 p (by simpa[t9] using hp)
 have loop:∀s₂:Shared,s₂={s with heap:=h₁,toks:=s.toks+([]:List (Str×Value)).length} ->
   codeAny (model X.prog X.w) X.A (.compLoop (.ListComp elt [⟨tg,iter,ifs,0⟩] scope pos) 0 (.ref it) (.ref s.heap.objs.size) (compEnvC scope cl H2.objs.size X.env)) (RR (.ref s.heap.objs.size) H2.objs.size) s₂:=by
  rintro s₂ rfl;have noE:∀(e:Value) (s':Shared),False ->notedBy (model X.prog X.w) X.A (compEnvC scope cl H2.objs.size X.env) (fun e s'=>RR (.ref s.heap.objs.size) H2.objs.size (.error e) s') e s':=fun _ _ z=>z.elim
  --one turn,by hand:the step ahead of the store is the iterator's
  refine codeAny_loop rfl (fun n s'=>∃i H' ys,Inv Y [] (stLC σ k js) H' s' /\ tn i s'.heap /\ (∀b∈fp,H' b=none) /\ W i n ys H') (fun n s5 hI=> ?_) m0 ⟨0,_,[],J0,hst1,fun b hb=>(ff b hb).1,w0⟩;obtain⟨i,H5,ys,I5,st5,fr5,w5⟩:=hI
  show wpAny _ X.A ((compTurn (.ListComp elt [⟨tg,iter,ifs,0⟩] scope pos) 0 (.ref it) (.ref s.heap.objs.size) (compEnvC scope cl H2.objs.size X.env)).onRaise (fun x=>do noteFrame x (compEnvC scope cl H2.objs.size X.env);theTreesLotGoes x)) _ _ s5
  refine wpAny_noted ?_;rw[compTurn_list];refine wpAny_bind (wpAny_standAt (wpAny_bind ?_));obtain⟨hDy,tr⟩:=turn i n ys H5 w5
  rcases tr with⟨stop,q⟩|⟨go,hlen,NN,hN,step⟩
  ·have h6:=T.done Y eP eW eK eC i [] s5 _ H5 (fun _ _=>False) I5 (stat fr5) st5 stop
   rw[eA] at h6;refine wpAny_mono h6 (fun r s6 h=> ?_) noE;obtain⟨rfl,I6⟩:=h
   refine wpAny_pure ?_;obtain⟨m6,hn6,_⟩:=I6.loc
   rw[eE] at hn6;have hu:Un (frs X.stack) fp (upd H s.heap.objs.size (.lst [])) H5 s3.heap s6.heap:=by
    have:=I6.base
    rw[<-hY] at this;exact this
   have hok6:HOk X.prog X.w H5 s6.heap:=by
    have:=I6.hok
    rw[eP,eW] at this;exact this
   have I7:Inv X pins σ H5 s6:=I2.call' (ch:=fp) (by have:=I6.os;rw[<-hY] at this;exact this) hu hok6 I6.bare fun b hb=>by
    obtain⟨f0,f1,f2,f3,f4,f5⟩:=hf b hb
    exact⟨f3,f1,f4,f5⟩
   have hfree:H5 H2.objs.size=none:=by
    have:=I6.free
    rw[eE] at this;exact this
   refine hend _ _ H5 s6 m6 I7 hn6 hfree ?_ ?_ ?_ ?_ ?_ ?_ q
   ·rw[<-hs3h];exact cT I2.lt
   ·rw[<-hs3h];intro z;rcases ao.mp (I2.stkSub _ z) with q|q
    ·exact absurd q (cT I2.lt)
    ·exact I2.nofs (av _) q
   ·rw[<-hs3h];exact I2.sz
   ·intro x c h z;obtain⟨v,hv⟩:=I2.cell x c h
    have:=hv.lt
    rw[hs3h,z] at this;exact absurd this (ci _)
   ·intro p hp z;have:=Heap.lt_size (I2.pin p hp).1
    rw[hs3h,z] at this;exact absurd this (ci _)
   ·rw[hsz];exact aW (fQ _)
  ·have h6:=T.item Y eP eW eK eC i [] s5 _ H5 (fun _ _=>False) I5 (stat fr5) st5 go
   rw[eA] at h6;refine wpAny_mono h6 (fun r s6 h=> ?_) noE;obtain⟨u,rfl,h7⟩:=h
   refine wpAny_bind (wpAny_mono h7 (fun _ s7 h=> ?_) noE);obtain⟨x,H7,I7,rx,y7,st7,fr7⟩:=h
   have I7':=I7.pinned (stat fr7) (T.obj _ _ st7)
   have h8:=hg cl s3.heap.objs.size s3 (upd H s.heap.objs.size (.lst [])) fp (X.pn++pins)
   rw[hY] at h8;have h8:=h8 _ s7 _ H7 x u _ I7' rx (step x H7 y7)
   rw[eP,eW,eA,eE,eX] at h8;refine wpAny_bind (wpAny_mono h8 (fun _ s8 h=> ?_) noE);obtain⟨σ8,H8,I8,⟨k1,k2⟩,q8⟩:=h
   have h9:=ht cl s3.heap.objs.size s3 (upd H s.heap.objs.size (.lst [])) fp (X.pn++pins)
   rw[hY] at h9;have h9:=h9 _ s8 σ8 H8 _ I8 q8
   rw[eP,eW,eA,eE,eX] at h9;refine wpAny_bind (wpAny_mono h9 (fun ok s9 h=> ?_) noE);obtain⟨H9,I9,q9⟩:=h
   have again:∀{H':Hp} {ys':List V} {s':Shared},Inv Y ([]++qN fp s7.heap) σ8 H' s' ->NN ys' H' -> ∃m,m<n /\ ∃i H' ys,Inv Y [] (stLC σ k js) H' s' /\ tn i s'.heap /\ (∀b∈fp,H' b=none) /\ W i m ys H':=fun {H' ys' s'} I' n'=>by
    obtain⟨m',hm,w'⟩:=hN ys' H' n'
    refine⟨m',hm,i+1,H',ys',(I'.unpinned).weak (by unfold stLC frV;rw[k2];simp) (fun j v h=>zI k1 k2 j v h),T.keep _ _ _ st7 fun b hb o e=>(I'.pin (b,o) (aM _ (aM _ (lH hb e)))).1,fun b hb=> ?_,w'⟩;obtain⟨o,e,d⟩:=T.obj _ _ st7 b hb
    exact(I'.pin (b,o) (aM _ (aM _ (lH hb e)))).2.1
   cases ok with
   |false=>
    rw[if_neg bQ] at q9;exact wpAny_pure ⟨rfl,again I9 q9⟩
   |true=>
    rw[if_pos rfl] at q9;have h10:=he cl s3.heap.objs.size s3 (upd H s.heap.objs.size (.lst [])) fp (X.pn++pins)
    rw[hY] at h10;have h10:=h10 _ s9 σ8 H9 _ I9 q9
    rw[eP,eW,eA,eE,eX] at h10;refine wpAny_bind (wpAny_bind (wpAny_mono h10 (fun y s10 h=> ?_) noE));obtain⟨yv,H10,I10,ry,e10,n10⟩:=h
    have h11:=qS (X:=Y) _ s10 σ8 H10 (.ref s.heap.objs.size) [yv] (.ref s.heap.objs.size) [y] (fun _ H'=>NN (ys++[yv]) H') I10 rfl (.cons ry .nil) ⟨_,ys,yv,rfl,rfl,e10,hlen,n10⟩
    rw[eP,eW,eA,eX] at h11;refine wpAny_bind (wpAny_mono h11 (fun _ s11 h=> ?_) noE);obtain⟨_,H11,I11,_,n11⟩:=h
    exact wpAny_pure (wpAny_pure ⟨rfl,again I11 n11⟩)
 exact codeAny_compStart_list (loop _ rfl) (T.self X.A 0 _ _ _ hst1 (loop _ rfl))
end
end L2
namespace L2
open PySem PySem.Spec PyProof.Rows
section
variable {X:Cx} {scope:Scope} {N:List Str} {k:Nat} {js:List Nat} {elt iter tg:Expr} {ifs:List Expr} {pos:Pos} {wi:TI} {g:TG} {tt:TT} {te:TE}
theorem CScope.closure{pins:List (Addr×Obj)}{σ:St}{H:Hp}{s:Shared}(S:CScope X scope N k js)(I:Inv X pins σ H s):
  ∃cl,closureFor scope X.env=pure cl /\ (∀x c,cl.lookup x=some c ->X.env.cells.lookup x=some c) /\ (∀y∈scope.names,y.2= .free -> ∃c,cl.lookup y.1=some c):=
 mi fun y hy hf=>I.ok.has y.1 (S.frees y hy hf)
theorem uu(S:CScope X scope N k js)(hc:X.calm=true)(hi:PI X tg iter wi)
  (hg:∀cl C s H ex pn,PG (t9 X scope cl N C s H ex pn) tg g) (ht:∀cl C s H ex pn,BK (t9 X scope cl N C s H ex pn) ifs tt) (he:∀cl C s H ex pn,PE (t9 X scope cl N C s H ex pn) elt te)
  (hs:∀x,foldedSetIterable iter X.env x=pure x:=by intro _;rfl):PE X (.ListComp elt [⟨tg,iter,ifs,0⟩] scope pos) (tLC wi k js g tt te):=by
 intro pins s σ H Q I h;obtain⟨cl,hclos,hcl1,hcl2⟩:=S.closure I
 rw[eval_ListComp];refine wpAny_comprehension_free (use:=none) rfl hs hclos S.kind S.names (thn (hi pins s σ H _ I h) fun v s1 h1=>thn h1 fun itv s2 h2=> ?_);obtain⟨it,fp,tn,J,H2,rfl,I2,T,st2,f2,hr⟩:=h2
 refine tM (Q:=Q) (RR:=fun acc C=>compPost (model X.prog X.w) X.A X.xe none (EP X pins σ Q) acc C) S hc hg ht he hcl1 hcl2 I2 T st2 f2 hr ?_;intro D C H' s' m I' hn h0 hL hF hz hcell hpin hDC q;refine⟨m,hn,fun h' sb=>⟨.ref D,H',?_,rfl,q⟩⟩;exact I'.turned (t':=s'.toks) (fun b o hb e=>(sb.2 b hb).trans e) h0 hL (.inr hz) hcell hpin
end
end L2
namespace L2
open PySem PySem.Spec PyProof.Rows
section
variable {X:Cx} {scope:Scope} {N:List Str} {k:Nat} {js:List Nat} {elt iter tg:Expr} {ifs:List Expr} {pos:Pos} {wi:TI} {g:TG} {tt:TT} {te:TE}
theorem vv{i:Nat}{y:Str}{py spos:Pos}(S:CScope X scope N k js)(hc:X.calm=true)(hi:PI X tg iter wi)
  (hg:∀cl C s H ex pn,PG (t9 X scope cl N C s H ex pn) tg g) (ht:∀cl C s H ex pn,BK (t9 X scope cl N C s H ex pn) ifs tt) (he:∀cl C s H ex pn,PE (t9 X scope cl N C s H ex pn) elt te)
  (hN:X.N.Nodup) (hix:X.N[i]? =some y) (hy:X.env.scope.names.lookup y=some .local)
  (hsw:swapsWith (.ListComp elt [⟨tg,iter,ifs,0⟩] scope pos) (some (.Name y py)) spos.line X.env=pure true:=by rfl)
  (hs:∀x,foldedSetIterable iter X.env x=pure x:=by intro _;rfl):PS X (.Assign [.Name y py] (.ListComp elt [⟨tg,iter,ifs,0⟩] scope pos) spos) (yZ (tLC wi k js g tt te) (sj i)):=by
 intro pins s σ H D0 I h;obtain⟨cl,hclos,hcl1,hcl2⟩:=S.closure I
 rw[exec_Assign_Name_used _ _ _ _ hsw];refine wpAny_bind (wpAny_standAt (wpAny_bind ?_));show wpAny _ X.A (do let _<-comprehension (.ListComp elt [⟨tg,iter,ifs,0⟩] scope pos) scope X.env _ (newList []) false (eval iter X.env) (some (assign (.Name y py) X.env))) _ _ s
 refine wpAny_bind (wpAny_mono (wpAny_comprehension_free (use:=some (assign (.Name y py) X.env)) (Q:=fun _ s'=>SP X pins D0 .next s') rfl hs hclos S.kind S.names
  (thn (hi pins s σ H _ I h) fun v s1 h1=>thn h1 fun itv s2 h2=> ?_)) (fun _ s' hq=>wpAny_pure (wpAny_pure hq)) fun _ _ e=>e)
 obtain⟨it,fp,tn,J,H2,rfl,I2,T,st2,f2,hr⟩:=h2
 refine tM (Q:=fun v H'=>D0.nx (σ.set i (some v)) H') (RR:=fun acc C=>compPost (model X.prog X.w) X.A X.xe (some (assign (.Name y py) X.env)) (fun _ s'=>SP X pins D0 .next s') acc C) S hc hg ht he hcl1 hcl2 I2 T st2 f2 hr ?_;intro D C H' s' m I' hn h0 hL hF hz hcell hpin hDC q;show wpAny _ X.A (assign (.Name y py) X.env (.ref D)) _ _ _
 refine wpAny_assign_Name (qB I' hN hix (.inl hy) (v:= .ref D) rfl (fun s'' I'' hsb=> ?_) (.inr hy));obtain⟨a,sb,ha⟩:=hsb
 have haC:C≠a:=by
  rcases ha with rfl|ha
  ·exact hL
  ·exact fun z=>hcell y a ha z.symm
 refine⟨m,hn.sameBut sb haC,fun h' sb'=>⟨σ.set i (some (.ref D)),H',?_,q⟩⟩;exact I''.turned (t':=s''.toks) (fun b o hb e=>(sb'.2 b hb).trans e) h0 hL (.inr hz) hcell hpin
end
end L2
namespace L2
open PySem PySem.Spec PyProof.Rows
mutual
inductive Rdy(K:ah)(H:Hp):V ->PyData ->Prop
 |non:Rdy K H .non .none
 |bl (b:Bool):Rdy K H (.bl b) (.bool b)
 |int (i:Int):Rdy K H (.int i) (.int i)
 |str (x:Str):Rdy K H (.str x) (.str x)
 |tup {a:Addr} {xs:List V} {ds:List PyData}:SqT K H a xs ->RdyAll K H xs ds ->Rdy K H (.ref a) (.tuple ds)
 |lst {a:Addr} {xs:List V} {ds:List PyData}:SqL K H a xs ->RdyAll K H xs ds ->Rdy K H (.ref a) (.list ds)
inductive RdyAll(K:ah)(H:Hp):List V ->List PyData ->Prop
 |nil:RdyAll K H [] []
 |cons {x:V} {xs:List V} {d:PyData} {ds:List PyData}:Rdy K H x d ->RdyAll K H xs ds ->RdyAll K H (x::xs) (d::ds)
end
section
variable {X:Cx} {pins:List (Addr×Obj)} {σ:St} {H:Hp} {s:Shared}
mutual
theorem Rdy.reads(I:Inv X pins σ H s):∀{x:V} {d:PyData},Rdy X.K H x d -> ∀{u:Value},RelV x u -> ∃as,Reads s.heap u d as
 |_,_,.non,u,r=>by cases(show u=Value.none from r);exact⟨_,.none⟩
 |_,_,.bl b,u,r=>by cases(show u=Value.bool b from r);exact⟨_,.bool b⟩
 |_,_,.int i,u,r=>by obtain⟨t,rfl⟩:=(show∃t,u=Value.int i t from r);exact⟨_,.int i t⟩
 |_,_,.str x,u,r=>by obtain⟨t,rfl⟩:=(show∃t,u=Value.str x t from r);exact⟨_,.str x t⟩
 |_,_, @Rdy.tup _ _ a xs ds hq ha,u,r=>by
  cases(show u=Value.ref a from r);obtain⟨its,rv,⟨o,ho,hc,n,hd⟩,hz⟩:=I.tuple hq
  obtain⟨as,ra⟩:=RdyAll.reads I ha rv
  exact⟨_,.tuple ho hc hd (by simpa using ra)⟩
 |_,_, @Rdy.lst _ _ a xs ds hq ha,u,r=>by
  cases(show u=Value.ref a from r);obtain⟨its,rv,⟨o,n,ho,hc,_,hd⟩,hz⟩:=I.list hq
  obtain⟨as,ra⟩:=RdyAll.reads I ha rv
  exact⟨_,.list ho hc hd (by simpa using ra)⟩
theorem RdyAll.reads(I:Inv X pins σ H s):∀{xs:List V} {ds:List PyData},RdyAll X.K H xs ds -> ∀{us:List Value},Vals xs us -> ∃as,ReadsAll s.heap us ds as
 |_,_,.nil,_,.nil=>⟨_,.nil⟩
 |_,_,.cons h t,_,.cons r rs=>by
  obtain⟨as,h1⟩:=Rdy.reads I h r
  obtain⟨bs,h2⟩:=RdyAll.reads I t rs
  exact⟨_,.cons h1 h2⟩
end
end
section
variable {X:Cx}
open PySem.SeqAt in
noncomputable def Cy(K:ah)(f:Bool ->Bool):R2:=fun x y H Q=>∃d e,Rdy K H x d /\ Rdy K H y e /\ shaped d=true /\ shaped e=true /\ Q (.bl (f (PyData.eqv d e))) H
theorem Bc(hu:X.A.units+64<cLine):OpR X (compareOp .Eq) (Cy X.K id):=by
 intro pins s σ H x y v u Q I rx ry h;obtain⟨d,e,hd,he,sd,se,q⟩:=h
 obtain⟨as,ra⟩:=hd.reads I rx
 obtain⟨bs,rb⟩:=he.reads I ry
 exact eq_dataH ra rb sd se hu ⟨.bl _,H,I,rfl,q⟩
end
noncomputable def Ext(H H':Hp):Prop:=∀b o,H b=some o ->H' b=some o
theorem Ext.refl(H:Hp):Ext H H:=fun _ _ h=>h
theorem Ext.trans{H H1 H2:Hp}(a:Ext H H1)(b:Ext H1 H2):Ext H H2:=fun c o h=>b c o (a c o h)
theorem Ext.upd{H:Hp}{p:Addr}{o:HO}(h:H p=none):Ext H (upd H p o):=fun b u e=>by rw[i7 (i4 e h)];exact e
theorem Ext.then{H H1:Hp}{p:Addr}{o:HO}(a:Ext H H1)(h:H1 p=none):Ext H (L2.upd H1 p o):=a.trans (Ext.upd h)
theorem Ext.none{H H':Hp}(e:Ext H H'){l:Addr}(h:H' l= .none):H l= .none:=by
 cases q:H l with
 |none=>rfl
 |some o=>rw[e l o q] at h;cases h
theorem Ext.sqT{K:ah}{H H':Hp}{a:Addr}{xs:List V}(e:Ext H H')(h:SqT K H a xs):SqT K H' a xs:=by
 rcases h with(h|⟨o,h⟩)|h
 ·exact .inl (.inl (e _ _ h))
 ·exact .inl (.inr ⟨o,e _ _ h⟩)
 ·exact .inr h
theorem Ext.sqL{K:ah}{H H':Hp}{a:Addr}{xs:List V}(e:Ext H H')(h:SqL K H a xs):SqL K H' a xs:=by
 rcases h with(h|⟨o,h⟩)|h
 ·exact .inl (.inl (e _ _ h))
 ·exact .inl (.inr ⟨o,e _ _ h⟩)
 ·exact .inr h
mutual
theorem Rdy.ext{K:ah}{H H':Hp}(e:Ext H H'):∀{x:V} {d:PyData},Rdy K H x d ->Rdy K H' x d
 |_,_,.non=> .non
 |_,_,.bl b=> .bl b
 |_,_,.int b=> .int b
 |_,_,.str b=> .str b
 |_,_,.tup h t=> .tup (e.sqT h) (RdyAll.ext e t)
 |_,_,.lst h t=> .lst (e.sqL h) (RdyAll.ext e t)
theorem RdyAll.ext{K:ah}{H H':Hp}(e:Ext H H'):∀{xs:List V} {ds:List PyData},RdyAll K H xs ds ->RdyAll K H' xs ds
 |_,_,.nil=> .nil
 |_,_,.cons h t=> .cons (Rdy.ext e h) (RdyAll.ext e t)
end
end L2
namespace L2
open PySem PySem.Spec PyProof.Rows
structure FnB(P:Program)(w:World)(K:ah)(mg:Str ->Option Value)(base:Heap)(CX:CXT)(k:Nat)(x:Str)(ps:List Str)(sp:Sp):Prop where
 ex:∃f fd,FnOk P w K mg base CX k f fd ps sp /\ mg x=some (.ref f) /\ aE K (.ref f)=true /\ Binds K fd ps []
section
variable {X:Cx} {CX:CXT} {k:Nat} {ps:List Str} {sp:Sp} {E:XK} {x:Str} {p pos:Pos} {e:Expr} {es:List Expr} {t:TA}
theorem jm(F:FnB X.prog X.w X.K X.mg X.base CX k x ps sp)(hr:Room k X.A)(hg:Gl X x)(hx:rA CX X E)
  (ha:PA X (e::es) t) (hdb:(x==("__debug__":Str))=false:=by decide) (he:starEach (e::es) X.env=(false,eval e X.env)::starEach es X.env:=by rfl) (hpl:(backTo pos (starEach es X.env)).any (·.1)=false:=by rfl):
  PE X (.Call (.Name x p) (e::es) [] pos) (ul sp [] E t):=by
 obtain⟨f,fd,h1,h2,h3,h4⟩:=F.ex
 exact zr h1 hr hg h2 h3 h4 .nil hx ha hdb he hpl
end
theorem FnB.of{P:Program}{w:World}{K:ah}{mg:Str ->Option Value}{base:Heap}{CX:CXT}{k:Nat}{x:Str}{ps:List Str}{sp:Sp}{f:Addr}{fd:FuncData}(h:FnOk P w K mg base CX k f fd ps sp)(m:mg x=some (.ref f))(kp:aE K (.ref f)=true)(b:Binds K fd ps []):FnB P w K mg base CX k x ps sp:=⟨f,fd,h,m,kp,b⟩
noncomputable def kH{α:Type}(o:Option α)(k:α ->Prop):Prop:=match o with|some v=>k v|none=>False
noncomputable def rF(o:Option HO):Option (List V):=match o with
 |some (.lst xs)=>some xs
 |some (.tup xs)=>some xs
 |_=>none
theorem kn(xs:List V):rF (some (.lst xs))=some xs:=rfl
theorem k7(xs:List V):rF (some (.tup xs))=some xs:=rfl
noncomputable def ixF:R2:=fun x y H Q=>match x,y with
 | .ref p,.int i=>kH (rF (H p)) fun xs=>kH (atI xs i) fun v=>Q v H
 |_,_=>False
theorem jQ{X:Cx}:IxR X ixF:=by
 intro value slice pins s σ H x y v u Q I rx ry q hs;unfold ixF at q;split at q
 ·rename_i p i
  cases e:H p with
  |none=>rw[e] at q;exact q.elim
  |some o=>
   rw[e] at q;cases o with
   |lst xs=>
    have q:kH (atI xs i) fun v=>Q v H:=q
    unfold kH at q;split at q
    ·rename_i w hw
     exact zO value slice pins s σ H _ _ v u Q I rx ry ⟨p,xs,i,w,rfl,rfl,SqL.of e,hw,q⟩ hs
    ·exact q.elim
   |tup xs=>
    have q:kH (atI xs i) fun v=>Q v H:=q
    unfold kH at q;split at q
    ·rename_i w hw
     exact Bo value slice pins s σ H _ _ v u Q I rx ry ⟨p,xs,i,w,rfl,rfl,SqT.of e,hw,q⟩ hs
    ·exact q.elim
   |_=>exact q.elim
 ·exact q.elim
theorem uI{α:Type}(a:α)(l:List α):atI (a::l) 0=some a:=jK (j:=0) rfl
theorem yt{α:Type}(a b:α)(l:List α):atI (a::b::l) 1=some b:=jK (j:=1) rfl
theorem yr{α:Type}(a b c:α)(l:List α):atI (a::b::c::l) 2=some c:=jK (j:=2) rfl
theorem yq{α:Type}(a b c d:α)(l:List α):atI (a::b::c::d::l) 3=some d:=jK (j:=3) rfl
theorem i6{α:Type}(a:α)(k:α ->Prop):kH (some a) k=k a:=rfl
noncomputable def BU:V ->V ->V ->Hp ->(Hp ->Prop) ->Prop:=fun o i v H Q=>match o,i with
 | .ref p,.int k=>(match H p with
  |some (.lst xs)=>kH (ixN xs.length k) fun j=>Q (upd H p (.lst (xs.set j v)))
  |_=>False)
 |_,_=>False
noncomputable def BI(dsc scope:Scope)(N0 N:List Str)(k:Nat)(js:List Nat):Bool:=
 scope.kind== .function&&scope.names.all (fun y=>y.2 != .cell)&&scope.names.all (fun y=>y.2 != .local||scope.names.lookup y.1==some .local)&&
 scope.names.all (fun y=>y.2 != .free||dsc.names.lookup y.1==some .cell||dsc.names.lookup y.1==some .free)&&N.length==k+js.length&&
 (bg js.length).all (fun i=>match js[i]? with|some j=>(match N[k+i]? with|some x=>N0[j]? ==some x&&scope.names.lookup x==some .free|none=>false)|none=>false)
theorem CScope.of_ok{X:Cx}{dsc scope:Scope}{N0 N:List Str}{k:Nat}{js:List Nat}(e:X.env.scope=dsc)(n:X.N=N0)(h:BI dsc scope N0 N k js=true):CScope X scope N k js:=by
 subst e n;unfold BI at h;simp only[cK,fR] at h;obtain⟨⟨⟨⟨⟨h1,h2⟩,h3⟩,h4⟩,h5⟩,h6⟩:=h
 refine⟨by simpa using h1,fun y hy=>by simpa using h2 y hy,fun y hy hl=> ?_,fun y hy hl=> ?_,by simpa using h5,fun i j hj=> ?_⟩
 ·have:=h3 y hy
  simpa[hl] using this
 ·have:=h4 y hy
  simp only[hl,bne_self_eq_false,iK,Bool.or_eq_true,beq_iff_eq] at this;exact this
 ·have hi:i<js.length:=(aa.mp hj).1
  have:=h6 i (by simpa using hi)
  rw[hj] at this;dsimp only at this;cases q:N[k+i]? with
  |none=>rw[q] at this;cases this
  |some x=>
   rw[q] at this;simp only[cK,beq_iff_eq] at this;exact⟨x,rfl,this.1,this.2⟩
theorem xQ{lo:Int}{n:Nat}{g:TG}{tt:TT}{te:TE}{k:Nat}{js:List Nat}{σ:St}{D:Addr}{Q:VK}{H:Hp}(Pv:Nat ->List V ->Hp ->Prop)(h0:Pv 0 [] (upd H D (.lst [])))
  (hn:n<sizeLine) (hl:∀i ys H,i<=n ->Pv i ys H ->H D=some (.lst ys) /\ ys.length<=i)
  (hs:∀i ys H,i<n ->Pv i ys H ->g (.int (lo+i)) (stLC σ k js) H fun σ2 H2=>(σ2.drop k=frV σ js /\ σ2.length=k+js.length) /\ tt σ2 H2 fun b H3=>if b=true then te σ2 H3 fun y H4=>H4 D=some (.lst ys) /\ Pv (i+1) (ys++[y]) (upd H4 D (.lst (ys++[y]))) else Pv (i+1) ys H3)
  (hd:∀ys H,Pv n ys H ->Q (.ref D) H):
  ∃W:Nat ->Nat ->List V ->Hp ->Prop,(∃m,W 0 m [] (upd H D (.lst []))) /\ ∀i m ys H,W i m ys H ->H D=some (.lst ys) /\
  (((Itr lo n).stop i H /\ Q (.ref D) H)∨((Itr lo n).go i H /\ ys.length<sizeLine /\ ∃N:List V ->Hp ->Prop,(∀ys' H',N ys' H' -> ∃m',m'<m /\ W (i+1) m' ys' H') /\
   ∀x H',(Itr lo n).yld i H x H' ->g x (stLC σ k js) H' fun σ2 H2=>(σ2.drop k=frV σ js /\ σ2.length=k+js.length) /\ tt σ2 H2 fun b H3=>if b=true then te σ2 H3 fun y H4=>H4 D=some (.lst ys) /\ N (ys++[y]) (upd H4 D (.lst (ys++[y]))) else N ys H3)):=by
 refine⟨fun i m ys H=>m=n-i /\ i<=n /\ Pv i ys H,⟨n,by simp,bp _,h0⟩,?_⟩;rintro i m ys H ⟨rfl,hi,p⟩;obtain⟨e1,e2⟩:=hl i ys H hi p
 refine⟨e1,?_⟩
 by_cases hlt:i<n
 ·refine .inr ⟨hlt,by omega,Pv (i+1),fun ys' H' p'=>⟨n-(i+1),by omega,rfl,hlt,p'⟩,fun x H' y=> ?_⟩;obtain⟨e,y⟩:=y
  subst e y;exact hs i ys _ hlt p
 ·have e:i=n:=by omega
  subst e;exact .inl ⟨av _,hd ys H p⟩
theorem zH{K:ah}{a:Addr}{xs:List V}{g:TG}{tt:TT}{te:TE}{k:Nat}{js:List Nat}{σ:St}{D:Addr}{Q:VK}{H:Hp}(Pv:Nat ->List V ->Hp ->Prop)(h0:Pv 0 [] (upd H D (.lst [])))
  (hn:xs.length<sizeLine) (hl:∀i ys H,i<=xs.length ->Pv i ys H ->H D=some (.lst ys) /\ ys.length<=i /\ SqL K H a xs)
  (hs:∀i x ys H,xs[i]? =some x ->Pv i ys H ->g x (stLC σ k js) H fun σ2 H2=>(σ2.drop k=frV σ js /\ σ2.length=k+js.length) /\ tt σ2 H2 fun b H3=>if b=true then te σ2 H3 fun y H4=>H4 D=some (.lst ys) /\ Pv (i+1) (ys++[y]) (upd H4 D (.lst (ys++[y]))) else Pv (i+1) ys H3)
  (hd:∀ys H,Pv xs.length ys H ->Q (.ref D) H):
  ∃W:Nat ->Nat ->List V ->Hp ->Prop,(∃m,W 0 m [] (upd H D (.lst []))) /\ ∀i m ys H,W i m ys H ->H D=some (.lst ys) /\
  (((Itl K a).stop i H /\ Q (.ref D) H)∨((Itl K a).go i H /\ ys.length<sizeLine /\ ∃N:List V ->Hp ->Prop,(∀ys' H',N ys' H' -> ∃m',m'<m /\ W (i+1) m' ys' H') /\
   ∀x H',(Itl K a).yld i H x H' ->g x (stLC σ k js) H' fun σ2 H2=>(σ2.drop k=frV σ js /\ σ2.length=k+js.length) /\ tt σ2 H2 fun b H3=>if b=true then te σ2 H3 fun y H4=>H4 D=some (.lst ys) /\ N (ys++[y]) (upd H4 D (.lst (ys++[y]))) else N ys H3)):=by
 refine⟨fun i m ys H=>m=xs.length-i /\ i<=xs.length /\ Pv i ys H,⟨xs.length,by simp,bp _,h0⟩,?_⟩;rintro i m ys H ⟨rfl,hi,p⟩;obtain⟨e1,e2,q⟩:=hl i ys H hi p
 refine⟨e1,?_⟩
 by_cases hlt:i<xs.length
 ·refine .inr ⟨⟨xs,xs[i],q,by simp[hlt]⟩,by omega,Pv (i+1),fun ys' H' p'=>⟨xs.length-(i+1),by omega,rfl,hlt,p'⟩,fun x H' y=> ?_⟩;obtain⟨e,y⟩:=y
  subst e;exact hs i x ys _ (y xs q) p
 ·have e:i=xs.length:=by omega
  subst e;exact .inl ⟨⟨xs,q,av _⟩,hd ys H p⟩
end L2
namespace L2
open PySem PySem.Spec PyProof.Rows
section
variable {X:Cx} {st:Stmt} {rest:List Stmt} {t u:TS}
noncomputable def CL(t u:TS):TS:=fun D σ H=>∃Pv:St ->Hp ->Prop,t {D with nx:=Pv} σ H /\ ∀σ H,Pv σ H ->u D σ H
theorem jr(h1:PS X st t)(h2:PSs X rest u):PSs X (st::rest) (CL t u):=by
 intro pins s σ H D I h;obtain⟨Pv,ha,hb⟩:=h
 refine wpAny_execs_cons (thn (h1 pins s σ H {D with nx:=Pv} I ha) fun f s1 q=> ?_);cases f with
 |next=>
  obtain⟨σ',H',I',q⟩:=q
  exact h2 pins s1 σ' H' D I' (hb σ' H' q)
 |ret v=>exact q
 |brk=>exact q
 |cont=>exact q
end
theorem CMulA.of{m n:Nat}{i j:Int}(h:Bd m i)(k:Bd n j)(hm:m<=100000)(hn:n<=100000):CMulA i j:= .inr ⟨h.mono hm,k.mono hn⟩
theorem CMulA.left{i j:Int}(h1: -(2^64)<i)(h2:i<2^64):CMulA i j:= .inl (.inl ⟨h1,h2⟩)
theorem CMulA.right{i j:Int}(h1: -(2^64)<j)(h2:j<2^64):CMulA i j:= .inl (.inr ⟨h1,h2⟩)
theorem yp{a b c d r:Int}(Pr:Int ->Prop)(ha:Pr a)(hb:Pr b)(hc:Pr c)(hd:Pr d)(h0:0<=r)(h4:r<4):∃x,atI [V.int a,V.int b,V.int c,V.int d] r=some (.int x) /\ Pr x:=by
 have:r=0∨r=1∨r=2∨r=3:=by omega
 rcases this with rfl|rfl|rfl|rfl
 ·exact⟨a,rfl,ha⟩
 ·exact⟨b,rfl,hb⟩
 ·exact⟨c,rfl,hc⟩
 ·exact⟨d,rfl,hd⟩
noncomputable def Feed(H:Hp)(p:Addr):Prop:=∃a b c:Int,H p=some (.lst [.int a,.int b,.int c])
structure FX(p:Addr)(H H':Hp):Prop where
 feed:Feed H' p
 keep:∀b o,b≠p ->H b=some o ->H' b=some o
theorem FX.trans{p:Addr}{H H1 H2:Hp}(a:FX p H H1)(b:FX p H1 H2):FX p H H2:=⟨b.feed,fun c o hc h=>b.keep c o hc (a.keep c o hc h)⟩
theorem FX.refl{p:Addr}{H:Hp}(h:Feed H p):FX p H H:=⟨h,fun _ _ _ h=>h⟩
theorem FX.upd{p q:Addr}{H H1:Hp}{o:HO}(a:FX p H H1)(h:H1 q=none):FX p H (L2.upd H1 q o):=by
 obtain⟨x,y,z,e⟩:=a.feed
 exact⟨⟨x,y,z,by rw[i7 (i4 e h)];exact e⟩,fun b u hb hu=>by rw[i7 (i4 (a.keep b u hb hu) h)];exact a.keep b u hb hu⟩
theorem FX.set{p q:Addr}{H H1:Hp}{o:HO}(a:FX p H H1)(hn:H q=none)(hq:q≠p):FX p H (L2.upd H1 q o):=by
 obtain⟨x,y,z,e⟩:=a.feed
 refine⟨⟨x,y,z,by rw[i7 (Ne.symm hq)];exact e⟩,fun b u hb hu=> ?_⟩;rw[i7 (i4 hu hn)];exact a.keep b u hb hu
theorem FX.ext{p:Addr}{H H':Hp}{o:HO}(h:H p=none)(a:FX p (L2.upd H p o) H'):Ext H H':=fun b u e=>a.keep b u (i4 e h) (by rw[i7 (i4 e h)];exact e)
theorem Feed.upd{p q:Addr}{H:Hp}{o:HO}(a:Feed H p)(h:H q=none):Feed (L2.upd H q o) p:=by
 obtain⟨x,y,z,e⟩:=a
 exact⟨x,y,z,by rw[i7 (i4 e h)];exact e⟩
theorem ju{H:Hp}{q b:Addr}{o u:HO}(h:H q=none)(e:H b=some u):upd H q o b=some u:=by rw[i7 (i4 e h)];exact e
end L2
namespace L2
open PySem PySem.Spec PyProof.Rows
theorem Bd.lit{n:Nat}{i:Int}(h:i.natAbs<2^64)(hn:64<=n):Bd n i:=Bd.mono (m:=64) h hn
theorem B8:Bd 100000 10=True:=eq_true (Bd.lit (by decide) (by decide))
theorem B7:Bd 9000 64=True:=eq_true (Bd.lit (by decide) (by decide))
theorem bd2:Bd 9000 2=True:=eq_true (Bd.lit (by decide) (by decide))
theorem bd4:Bd 9000 4=True:=eq_true (Bd.lit (by decide) (by decide))
theorem bd3:Bd 9000 3=True:=eq_true (Bd.lit (by decide) (by decide))
theorem CMulA.mod{x m y:Int}(h0:0<m)(h:m<=2^64):CMulA (x%m) y:=by
 have h1:=cF x (by omega:m≠0)
 have h2:=b7 x h0
 exact .left (by omega) (by omega)
theorem qd:ixN 3 0=some 0:=rfl
theorem qc:ixN 3 1=some 1:=rfl
theorem qa:ixN 3 2=some 2:=rfl
theorem qf:ixN 2 0=some 0:=rfl
theorem qe:ixN 2 1=some 1:=rfl
theorem p9:ixN 4 0=some 0:=rfl
theorem p8:ixN 4 1=some 1:=rfl
theorem p7:ixN 4 2=some 2:=rfl
theorem p6:ixN 4 3=some 3:=rfl
theorem Ad{xs:List Int}{k:Int}(h:0<xs.length):∃x,atI (xs.map V.int) (k%(xs.length:Int))=some (.int x) /\ x∈xs:=by
 have h1:=cF k (by omega:(xs.length:Int)≠0)
 have h2:=b7 k (by omega:0<(xs.length:Int))
 obtain⟨j,hj⟩:∃j:Nat,k%(xs.length:Int)=(j:Int):=⟨(k%(xs.length:Int)).toNat,by omega⟩
 rw[hj] at h2⊢;have hjl:j<xs.length:=by omega
 exact⟨xs[j],jK (by rw[aC];simp[hjl]),cL hjl⟩
end L2
namespace L2
open PySem PySem.Spec PyProof.Rows
section
variable {g:TG} {tt:TT} {te tl:TE} {ta:TA} {k:Nat} {js:List Nat} {σ:St} {Q:VK} {H:Hp} {tb:TS} {Dn:Ends} {K:ah} {a:Addr} {xs:List V}
theorem qz(n:Nat)(ha:∀R:List V ->Hp ->Prop,R [.int n] H ->ta σ H R)(hn:n<1000000)(Pv:Addr ->Nat ->List V ->Hp ->Prop)(h0:∀D,H D=none ->Pv D 0 [] (upd H D (.lst [])))
  (hl:∀D i ys H,i<=n ->Pv D i ys H ->H D=some (.lst ys) /\ ys.length<=i)
  (hs:∀D i ys H1,H D=none ->i<n ->Pv D i ys H1 ->g (.int (0+(i:Int))) (L2.stLC σ k js) H1 fun σ2 H2=>(σ2.drop k=frV σ js /\ σ2.length=k+js.length) /\ tt σ2 H2 fun b H3=>if b=true then te σ2 H3 fun y H4=>H4 D=some (.lst ys) /\ Pv D (i+1) (ys++[y]) (upd H4 D (.lst (ys++[y]))) else Pv D (i+1) ys H3)
  (hd:∀D ys H1,H D=none ->Pv D n ys H1 ->Q (.ref D) H1):tLC (xZ ta) k js g tt te σ H Q:=
 ha _ ⟨n,rfl,by omega,by omega,fun D hD=>xQ (lo:=0) (n:=(n:Int).toNat) (Pv D) (h0 D hD) (fo (by simpa using hn) (by decide)) (fun i ys H hi p=>hl D i ys H (by simpa using hi) p) (fun i ys H hi p=>hs D i ys H hD (by simpa using hi) p) (fun ys H p=>hd D ys H hD (by simpa using p))⟩
theorem j9(ha:∀R:VK,R (.ref a) H ->tl σ H R)(hq:SqL K H a xs)(hn:xs.length<1000000)(Pv:Addr ->Nat ->List V ->Hp ->Prop)(h0:∀D,H D=none ->Pv D 0 [] (upd H D (.lst [])))
  (hl:∀D i ys H,i<=xs.length ->Pv D i ys H ->H D=some (.lst ys) /\ ys.length<=i /\ SqL K H a xs)
  (hs:∀D i x ys H1,H D=none ->xs[i]? =some x ->Pv D i ys H1 ->g x (L2.stLC σ k js) H1 fun σ2 H2=>(σ2.drop k=frV σ js /\ σ2.length=k+js.length) /\ tt σ2 H2 fun b H3=>if b=true then te σ2 H3 fun y H4=>H4 D=some (.lst ys) /\ Pv D (i+1) (ys++[y]) (upd H4 D (.lst (ys++[y]))) else Pv D (i+1) ys H3)
  (hd:∀D ys H1,H D=none ->Pv D xs.length ys H1 ->Q (.ref D) H1):tLC (ya K tl) k js g tt te σ H Q:=
 ha _ ⟨a,rfl,⟨xs,hq⟩,fun D hD=>zH (Pv D) (h0 D hD) (fo hn (by decide)) (fun i ys H hi p=>hl D i ys H hi p) (fun i x ys H hi p=>hs D i x ys H hD hi p) (fun ys H p=>hd D ys H hD p)⟩
theorem uj(n:Nat)(ha:∀R:List V ->Hp ->Prop,R [.int n] H ->ta σ H R)(hn:n<1000000)(Pv:Nat ->St ->Hp ->Prop)(h0:Pv 0 σ H)
  (hs:∀i σ H,i<n ->Pv i σ H ->g (.int (0+(i:Int))) σ H fun σ2 H2=>tb {Dn with nx:=Pv (i+1),ct:=Pv (i+1),bk:=Dn.nx} σ2 H2) (hd:∀σ H,Pv n σ H ->Dn.nx σ H):Am (xZ ta) g tb Dn σ H:=
 ha _ ⟨n,rfl,by omega,by omega,q5 (lo:=0) (n:=(n:Int).toNat) Pv h0 (fun i σ H hi p=>hs i σ H (by simpa using hi) p) (fun σ H p=>hd σ H (by simpa using p))⟩
theorem kY(ha:∀R:VK,R (.ref a) H ->tl σ H R)(Pv:Nat ->St ->Hp ->Prop)(h0:Pv 0 σ H)(hl:∀i σ H,i<=xs.length ->Pv i σ H ->SqL K H a xs)
  (hs:∀i x σ H,xs[i]? =some x ->Pv i σ H ->g x σ H fun σ2 H2=>tb {Dn with nx:=Pv (i+1),ct:=Pv (i+1),bk:=Dn.nx} σ2 H2) (hd:∀σ H,Pv xs.length σ H ->Dn.nx σ H):Am (ya K tl) g tb Dn σ H:=
 ha _ ⟨a,rfl,⟨xs,hl 0 σ H (bp _) h0⟩,yd (xs:=xs) Pv h0 hl hs hd⟩
end
end L2
namespace L2
open PySem PySem.Spec PyProof.Rows
section
variable {X:Cx} {K:ah}
noncomputable def xC(K:ah):List V ->Hp ->VK ->Prop:=fun xs H Q=>∃p ys,xs=[.ref p] /\ (SqL K H p ys∨SqT K H p ys) /\ Q (.int ys.length) H
theorem xf(hK:X.K=K):SlR X (Cw K):=by subst hK;exact uZ
theorem rO(hK:X.K=K)(hu:X.A.units+64<cLine):OpR X (compareOp .Eq) (Cy K id):=by subst hK;exact Bc hu
theorem pT(hK:X.K=K):OpR X (compareOp .NotIn) (rIn K true):=by subst hK;exact qP
theorem jP{tg l:Expr}{tl:TE}(hK:X.K=K)(hl:PE X l tl):PI X tg l (ya K tl):=by subst hK;exact zm hl
end
end L2
namespace L2
open PySem
theorem Feed.ne{p t:Addr}{H:Hp}(h:Feed H p)(ht:H t=none):t≠p:=by
 obtain⟨a,b,c,e⟩:=h
 exact(i4 e ht).symm
end L2
namespace L2
open PySem PySem.Spec PyProof.Rows
noncomputable def lK(o:Option HO):Option (List V):=match o with
 |some (.lst xs)=>some xs
 |_=>none
theorem jH(xs:List V):lK (some (.lst xs))=some xs:=rfl
theorem kU{o:Option HO}{xs:List V}(h:lK o=some xs):o=some (.lst xs):=by
 cases o with
 |none=>cases h
 |some o=>
  cases o with
  |lst ys=>rw[show ys=xs from aZ.inj h]
  |_=>cases h
theorem jy{α:Type}{o:Option α}{k:α ->Prop}(h:kH o k):∃v,o=some v /\ k v:=by
 unfold kH at h;split at h
 ·exact⟨_,rfl,h⟩
 ·exact h.elim
theorem pK{K:ah}{H:Hp}{p:Addr}{xs:List V}(h:rF (H p)=some xs):SqL K H p xs∨SqT K H p xs:=by
 cases e:H p with
 |none=>rw[e] at h;cases h
 |some o=>
  rw[e] at h;cases o with
  |lst ys=>rw[show ys=xs from aZ.inj h] at e;exact .inl (SqL.of e)
  |tup ys=>rw[show ys=xs from aZ.inj h] at e;exact .inr (SqT.of e)
  |_=>cases h
section
variable {X:Cx} {e:Expr}
theorem PE.imp{t t':TE}(h:PE X e t)(i:∀σ H Q,t' σ H Q ->t σ H Q):PE X e t':=fun pins s σ H Q I hw=>h pins s σ H Q I (i σ H Q hw)
noncomputable def tUp(t:TE):TE:=fun σ H Q=>∃R:VK,t σ H R /\ ∀x H1,R x H1 ->Q x H1
theorem PE.up{t:TE}(h:PE X e t):PE X e (tUp t):=fun pins s σ H Q I ⟨R,hw,hq⟩=>thn (h pins s σ H R I hw) fun v s1 ⟨x,H1,I1,r1,q1⟩=>⟨x,H1,I1,r1,hq x H1 q1⟩
end
theorem uY{n:Nat}(h:n<1000000):n<sizeLine:=fo h (by decide)
noncomputable def Af:V ->List V ->Hp ->VK ->Prop:=fun x vs H Q=>match x,vs with
 | .ref l,[y]=>kH (lK (H l)) fun xs=>xs.length<1000000 /\ Q .non (upd H l (.lst (xs++[y])))
 |_,_=>False
noncomputable def BX:V ->List V ->Hp ->VK ->Prop:=fun x vs H Q=>match x,vs with
 | .ref l,[]=>kH (lK (H l)) fun xs=>kH xs.getLast? fun y=>Q y (upd H l (.lst xs.dropLast))
 |_,_=>False
section
variable {X:Cx}
theorem Bf:MtM X "list.append" Af:=by
 intro pins s σ H x vs v us Q I rx rv h;unfold Af at h;split at h
 ·rename_i l y
  obtain⟨xs,e,hz,q⟩:=jy h
  exact qS pins s σ H _ _ v us Q I rx rv ⟨l,xs,y,rfl,rfl,kU e,uY hz,q⟩
 ·exact h.elim
noncomputable def tML(r:V ->List V ->Hp ->VK ->Prop)(to:TE)(t:TA):TE:=fun σ H Q=>to σ H fun x H1=>match x with
 | .ref l=>(lK (H1 l)).isSome=true /\ t σ H1 fun vs H2=>r x vs H2 Q
 |_=>False
end
section
variable {X:Cx} {K:ah} {a b:Expr} {ta tb:TE} {pos:Pos}
noncomputable def Ax:R2:=fun x y H Q=>match x,y with
 | .ref a,.ref b=>kH (lK (H a)) fun xs=>kH (lK (H b)) fun ys=>xs.length+ys.length<1000000 /\ ∀p,H p=none ->Q (.ref p) (upd H p (.lst (xs++ys)))
 |_,_=>False
theorem rP:OpR X (binaryOp .Add) Ax:=by
 intro pins s σ H x y v u Q I rx ry h;unfold Ax at h;split at h
 ·rename_i p q
  obtain⟨xs,e,h⟩:=jy h
  obtain⟨ys,e',hz,k⟩:=jy h
  exact Be pins s σ H _ _ v u Q I rx ry ⟨p,q,xs,ys,rfl,rfl,kU e,kU e',fZ (uY hz),k⟩
 ·exact h.elim
noncomputable def uy:List V ->Hp ->VK ->Prop:=fun vs H Q=>match vs with
 |[.ref p]=>kH (rF (H p)) fun ys=>∀l,H l=none ->Q (.ref l) (upd H l (.lst ys))
 |_=>False
theorem jU:CallR X (.type "list") uy:=by
 intro pins s σ H xs us Q I r h;unfold uy at h;split at h
 ·rename_i p
  obtain⟨ys,e,h⟩:=jy h
  exact rg pins s σ H _ us Q I r ⟨p,ys,rfl,pK e,h⟩
 ·exact h.elim
noncomputable def As:List V ->Hp ->VK ->Prop:=fun vs H Q=>match vs with
 |[.ref p]=>kH (rF (H p)) fun ys=>Q (.int ys.length) H
 |_=>False
theorem jx:CallR X (.builtin "len") As:=by
 intro pins s σ H xs us Q I r h;unfold As at h;split at h
 ·rename_i p
  obtain⟨ys,e,h⟩:=jy h
  exact rh pins s σ H _ us Q I r ⟨p,ys,rfl,pK e,h⟩
 ·exact h.elim
noncomputable def slF:V ->Option Int ->Option Int ->Hp ->VK ->Prop:=fun x lo hi H Q=>match x with
 | .ref a=>kH (lK (H a)) fun xs=>∀p,H p=none ->Q (.ref p) (upd H p (.lst (ua xs lo hi)))
 |_=>False
theorem wG:SlR X slF:=by
 intro pins s σ H x v vl vu lo hi sl Q I rx hs pl pu h;unfold slF at h;split at h
 ·rename_i p
  obtain⟨ys,e,h⟩:=jy h
  exact uZ pins s σ H _ v vl vu lo hi sl Q I rx hs pl pu ⟨p,ys,rfl,SqL.of (kU e),h⟩
 ·exact h.elim
noncomputable def tyN(H:Hp):V ->Option String
 | .non=>some "NoneType"
 | .bl _=>some "bool"
 | .int _=>some "int"
 | .str _=>some "str"
 | .ref a=>(match H a with
  |some (.lst _)=>some "list"
  |some (.tup _)=>some "tuple"
  |_=>none)
 |_=>none
noncomputable def yL:String ->String ->Option Bool
 | "int","int"=>some true| "int","bool"=>some false| "bool","int"=>some true| "bool","bool"=>some true
 | "tuple","tuple"=>some true| "list","list"=>some true| "list","tuple"=>some false| "tuple","list"=>some false|_,_=>none
noncomputable def BZ:List V ->Hp ->VK ->Prop:=fun vs H Q=>match vs with
 |[x,.ty T]=>kH (tyN H x) fun n=>kH (yL n T) fun b=>Q (.bl b) H
 |_=>False
end
section
variable {X:Cx} {o e:Expr} {to:TE} {t:TA} {apos cpos:Pos}
theorem pe_app(ho:PE X o to)(ha:PA X [e] t)
  (hbase:attributeBase o "append" X.env (eval o X.env)=eval o X.env:=by rfl)
  (hfew:((backTo cpos (starEach [e] X.env)).all (fun x=> !x.1)&&(backToKw cpos (keywordEach [] X.env)).all (fun x=>x.1.isSome)
   &&decide ([e].length+([]:List Keyword).length+(if([]:List Keyword).isEmpty then 0 else 1)<30))=true:=by rfl)
  (hline:(apos.endLine==cpos.line)=true:=by rfl) (hs:starEach [e] X.env=(false,eval e X.env)::starEach [] X.env:=by rfl) (hplain:(backTo cpos (starEach [] X.env)).any (·.1)=false:=by rfl):
  PE X (.Call (.Attribute o "append" apos) [e] [] cpos) (tML Af to t):=by
 intro pins s σ H Q I h;refine A8 fK PySem.F.slot_list_append PySem.F.type_list_append Bf ho.up ha hbase hfew hline hs hplain pins s σ H Q I ⟨_,h,fun x H1 q=> ?_⟩;cases x with
 |ref l=>
  obtain⟨h1,h2⟩:=q
  obtain⟨xs,e⟩:=dR.mp h1
  exact⟨.inl ⟨rfl,xs,SqL.of (kU e)⟩,h2⟩
 |_=>exact q.elim
noncomputable def BP(r:V ->List V ->Hp ->VK ->Prop)(to:TE):TE:=fun σ H Q=>to σ H fun x H1=>match x with
 | .ref l=>(lK (H1 l)).isSome=true /\ r x [] H1 Q
 |_=>False
end
theorem tU:yL "int" "int"=some true:=rfl
theorem tT:yL "int" "bool"=some false:=rfl
theorem tS:yL "bool" "int"=some true:=rfl
theorem tR:yL "bool" "bool"=some true:=rfl
theorem tQ:yL "tuple" "tuple"=some true:=rfl
theorem tP:yL "list" "list"=some true:=rfl
theorem tO:yL "list" "tuple"=some false:=rfl
end L2
namespace L2
open PySem
theorem Ext.set{H H2:Hp}{D:Addr}{o:HO}(x:Ext H H2)(hD:H D= .none):Ext H (L2.upd H2 D o):=fun b u e=>by rw[i7 (i4 e hD)];exact x b u e
theorem FX.more{p:Addr}{H H1 H2:Hp}(f:FX p H H1)(x:Ext H1 H2):FX p H H2:=by
 obtain⟨a,b,c,e⟩:=f.feed
 exact⟨⟨a,b,c,x _ _ e⟩,fun b u hb e=>x _ _ (f.keep b u hb e)⟩
end L2
namespace L2
open PySem
noncomputable def yW(o:Option HO):Option (Int×Int×Int):=match o with
 |some (.tup [.int a,.int b,.int c])=>some (a,b,c)
 |_=>none
theorem lS(a b c:Int):yW (some (.tup [.int a,.int b,.int c]))=some (a,b,c):=rfl
theorem pd{o:Option HO}{x:Int×Int×Int}(h:yW o=some x):o=some (.tup [.int x.1,.int x.2.1,.int x.2.2]):=by
 unfold yW at h;split at h
 ·cases h;rfl
 ·cases h
noncomputable def AA(o:Option HO):Option (Int×Int):=match o with
 |some (.tup [.int a,.int b])=>some (a,b)
 |_=>none
theorem lT(a b:Int):AA (some (.tup [.int a,.int b]))=some (a,b):=rfl
theorem uP{o:Option HO}{x:Int×Int}(h:AA o=some x):o=some (.tup [.int x.1,.int x.2]):=by
 unfold AA at h;split at h
 ·cases h;rfl
 ·cases h
noncomputable def B3(n:Nat)(x:Int×Int×Int):Prop:=Bd n x.1 /\ Bd n x.2.1 /\ Bd n x.2.2
noncomputable def B2(n:Nat)(x:Int×Int):Prop:=Bd n x.1 /\ Bd n x.2
end L2
namespace L2
open PySem
section
variable {X:Cx} {pos:Pos}
noncomputable def kg(n:Nat)(t:TGs):TG:=fun v σ H Q=>match v with
 | .ref a=>kH (rF (H a)) fun xs=>xs.length=n /\ t xs σ H Q
 |_=>False
theorem mY{es:List Expr}{k:Nat}{t:TGs}{n:Nat}(hc:X.calm=true)(h:PGs X es t)
  (hn:(assignEach es X.env).length=n:=by rfl) (hst:(assignEach es X.env).findIdx? (·.1)=none:=by rfl):PG X (.Tuple es k pos) (kg n t):=by
 intro pins s σ H v u Q I r hw;unfold kg at hw;split at hw
 ·rename_i a
  obtain⟨xs,e,hl,q⟩:=jy hw
  rcases pK (K:=X.K) e with e|e
  ·exact yF hc h hn hst pins s σ H _ u Q I r (.inr ⟨a,xs,rfl,e,hl,q⟩)
  ·exact yF hc h hn hst pins s σ H _ u Q I r (.inl ⟨a,xs,rfl,e,hl,q⟩)
 ·exact hw.elim
end
end L2
namespace L2
open PySem
theorem Ext.fx{p:Addr}{H H1 H2:Hp}(x:Ext H H1)(hp:H p= .none)(f:FX p H1 H2):Ext H H2:=fun b o e=>f.keep b o (i4 e hp) (x b o e)
end L2
namespace L2
open PySem
theorem tZ(a b c d:Int):PyData.eqv (.tuple [.int a,.int b]) (.tuple [.int c,.int d])=decide (a=c /\ b=d):=by
 rw[gc];simp[PyData.eqv,PyData.eqvAll]
theorem BA(a b c d e f:Int):PyData.eqv (.tuple [.int a,.int b,.int c]) (.tuple [.int d,.int e,.int f])=decide (a=d /\ b=e /\ c=f):=by
 rw[gc];simp[PyData.eqv,PyData.eqvAll]
theorem oE{K:ah}{H:Hp}{q:Addr}{a b:Int}(e:H q=some (.tup [.int a,.int b])):Rdy K H (.ref q) (.tuple [.int a,.int b]):= .tup (SqT.of e) (.cons (.int a) (.cons (.int b) .nil))
end L2
namespace L2
open PySem PySem.Spec PyProof.Rows
structure ExcC(K:ah)(C:Addr):Prop where
 exc:PySem.W.excIn K C [.type "ValueError",.type "Exception",.type "BaseException",.type "object"] "ValueError.__new__"=true
 ga:de K (.ref C) "__getattribute__"=some (some (.builtin "BaseException.__getattribute__"))
 nog:de K (.ref C) "__getattr__"=some none
 cl:de K (.ref C) "__class__"=some (some (.builtin "object.__class__"))
 hn:gN K (.builtin "object.__class__") "__get__"=some (some (.builtin "getset_descriptor.__get__"))
 htk:iw K (.builtin "object.__class__")=some true
 isc:(iL K C).isSome=true
 sube:fL K C (.type "BaseException")=some true
 subo:fL K C (.type "object")=some true
noncomputable def CJ(K:ah)(C:Addr):Prop:=
 de K (.ref C) "__getattribute__"=some (some (.builtin "BaseException.__getattribute__")) /\ de K (.ref C) "__getattr__"=some none /\
 de K (.ref C) "__class__"=some (some (.builtin "object.__class__")) /\ gN K (.builtin "object.__class__") "__get__"=some (some (.builtin "getset_descriptor.__get__")) /\
 iw K (.builtin "object.__class__")=some true /\ (iL K C).isSome=true /\ fL K C (.type "BaseException")=some true /\ fL K C (.type "object")=some true
noncomputable def IsExc(a C:Addr)(h:Heap):Prop:=∃(o:Obj) (vs:Array Value),h.get? a=some o /\ o.cls= .ref C /\ o.data= .fields vs
section
open PySem.W PySem.Builtin PySem.Builtin.ObjectAttr PySem.Builtin.Getset_descriptor
variable {prog:Program} {w:World} {A:Around} {E:Value ->Shared ->Prop} {h:Heap} {g:Array GenState} {d:Drawn} {t:Nat} {os:OsState} {a:Addr} {o:Obj} {vs:Array Value} {C:Addr} {K:ah}
theorem IsExc.type{M:Model}(I:IsExc a C h):Looks M h (typeOf (.ref a)) (.ref C):=by
 obtain⟨o,vs,h1,h2,h3⟩:=I
 exact h2▸(Looks.ld h1).andThen .now
end
theorem ExcC.b{K:ah}{C:Addr}(T:ExcC K C):CJ K C:=⟨T.ga,T.nog,T.cl,T.hn,T.htk,T.isc,T.sube,T.subo⟩
noncomputable def IsExcD(a C:Addr)(od:Option Addr)(h:Heap):Prop:=∃(o:Obj) (vs:Array Value),h.get? a=some o /\ o.cls= .ref C /\ o.data= .fields vs /\ ∀dx,od=some dx ->o.dict=some dx
theorem IsExcD.e{a C:Addr}{od:Option Addr}{h:Heap}(x:IsExcD a C od h):IsExc a C h:=by
 obtain⟨o,vs,h1,h2,h3,_⟩:=x
 exact⟨o,vs,h1,h2,h3⟩
noncomputable def CZ(a C:Addr)(od:Option Addr):HO:= .ext (IsExcD a C od)
end L2
namespace L2
open PySem PySem.Spec PyProof.Rows
noncomputable def DKept(h h':Heap):Prop:=∀a o,h.get? a=some o -> ∃o',h'.get? a=some o' /\ o'.dict=o.dict
theorem DKept.refl{h:Heap}:DKept h h:=fun a o e=>⟨o,e,rfl⟩
theorem DKept.trans{h1 h2 h3:Heap}(x:DKept h1 h2)(y:DKept h2 h3):DKept h1 h3:=fun a o e=>by
 obtain⟨o1,e1,d1⟩:=x a o e
 obtain⟨o2,e2,d2⟩:=y a o1 e1
 exact⟨o2,e2,d2.trans d1⟩
inductive KD{α:Type}:Sem α ->Prop
 |pure (a:α):KD (.pure a)
 |raise (e:Value):KD (.raise e)
 |uns (x:String):KD (.unsupported x)
 |rule {t:String} {k:Unit ->Sem α}:KD (k ()) ->KD (.rule t k)
 |at {p:Pos} {k:Unit ->Sem α}:KD (k ()) ->KD (.at p k)
 |load {a:Addr} {p:Option Value} {k:Obj ->Sem α}:(∀o,KD (k o)) ->KD (.load a p k)
 |upd {a:Addr} {p:Option Value} {f:Obj ->Obj} {k:Unit ->Sem α}:(∀o,(f o).dict=o.dict /\ (o.isFreed=false ->(f o).isFreed=false)) ->KD (k ()) ->KD (.update a p f k)
 |alloc {o:Obj} {k:Addr ->Sem α}:(∀a,KD (k a)) ->KD (.alloc o k)
 |stack {k:List (Code×Pos) ->Sem α}:(∀l,KD (k l)) ->KD (.stack k)
 |ask {k:Setting ->Sem α}:(∀l,KD (k l)) ->KD (.ask k)
 |fresh {k:Tok ->Sem α}:(∀l,KD (k l)) ->KD (.fresh k)
theorem KD.bind{α β:Type}{t:Sem α}{f:α ->Sem β}(h:KD t)(g:∀a,KD (f a)):KD (t>>=f):=by
 induction h with
 |pure a=>exact g a
 |raise e=>exact .raise e
 |uns x=>exact .uns x
 |rule _ ih=>exact .rule ih
 |«at» _ ih=>exact .at ih
 |load _ ih=>exact .load ih
 |upd c _ ih=>exact .upd c ih
 |alloc _ ih=>exact .alloc ih
 |stack _ ih=>exact .stack ih
 |ask _ ih=>exact .ask ih
 |fresh _ ih=>exact .fresh ih
theorem BG{h:Heap}{a:Addr}{f:Obj ->Obj}(c:∀o,(f o).dict=o.dict /\ (o.isFreed=false ->(f o).isFreed=false)):DKept h (h.update a f):=by
 intro b o e
 by_cases hb:b=a
 ·subst hb;obtain⟨e1,e2⟩:=Heap.get?_some_iff.mp e
  refine⟨f o,Heap.get?_some_iff.mpr ⟨?_,(c o).2 e2⟩,(c o).1⟩;cases h with
  |mk objs l=>
   show(objs.modify b f)[b]? =_
   rw[Array.getElem?_modify,if_pos rfl];show Option.map f objs[b]? =_
   rw[show objs[b]? =some o from e1];rfl
 ·exact⟨o,Heap.get?_update_of_ne f (Ne.symm hb) e,rfl⟩
theorem KD.wp{α:Type}{M:Model}{Γ:PySem.Ctx}{t:Sem α}(h:KD t){h0:Heap}:∀{Q:α ->Pos ->Shared ->Prop} {E:Value ->Pos ->Shared ->Prop} {p:Pos} {s:Shared},DKept h0 s.heap ->Sem.wp M Γ t Q E p s ->
  Sem.wp M Γ t (fun a p' s'=>Q a p' s' /\ DKept h0 s'.heap) (fun e p' s'=>E e p' s' /\ DKept h0 s'.heap) p s:=by
 induction h with
 |pure a=>intro Q E p s d q;exact⟨q,d⟩
 |raise e=>intro Q E p s d q;exact⟨q,d⟩
 |uns x=>intro Q E p s d q;exact q
 |rule _ ih=>intro Q E p s d q;exact ih d q
 |«at» _ ih=>intro Q E p s d q;exact ih d q
 |load _ ih=>intro Q E p s d q;obtain⟨o,e,q⟩:=q;exact⟨o,e,ih o d q⟩
 |upd c _ ih=>intro Q E p s d q;obtain⟨e,q⟩:=q;exact⟨e,ih (d.trans (BG c)) q⟩
 |alloc _ ih=>intro Q E p s d q;exact ih _ (d.trans fun b o e=>⟨o,Heap.get?_push_of_some _ e,rfl⟩) q
 |stack _ ih=>intro Q E p s d q;exact ih _ d q
 |ask _ ih=>intro Q E p s d q;exact ih _ d q
 |fresh _ ih=>intro Q E p s d q;exact ih _ d q
theorem KD.any{α:Type}{M:Model}{A:Around}{t:Sem α}(h:KD t){Q:α ->Shared ->Prop}{E:Value ->Shared ->Prop}{s:Shared}(q:wpAny M A t Q E s):
  wpAny M A t (fun a s'=>Q a s' /\ DKept s.heap s'.heap) (fun e s'=>E e s' /\ DKept s.heap s'.heap) s:=fun Γ p hΓ=>h.wp .refl (q Γ p hΓ)
end L2
namespace L2
open PySem PySem.Spec PyProof.Rows
theorem ObjOk.there{P:Program}{w:World}{H:Hp}{h:Heap}{a:Addr}{o:HO}(x:ObjOk P w H h a o):∃u,h.get? a=some u:=by
 cases o with
 |lst xs=>obtain⟨_,_,_,_,e⟩:=x;exact⟨_,e⟩
 |tup xs=>obtain⟨_,_,_,ob,e,_⟩:=x;exact⟨_,e⟩
 |dK kvs=>obtain⟨_,_,_,_,ob,_,_,e,_⟩:=x;exact⟨_,e⟩
 |dT kvs=>obtain⟨_,_,_,_,ob,_,_,e,_⟩:=x;exact⟨_,e⟩
 |set S n=>obtain⟨ob,_,_,_,e,_⟩:=x;exact⟨_,e⟩
 |ins C dx fs=>obtain⟨_,_,_,e,_⟩:=x;exact⟨_,e⟩
 |own y=>exact x
 |xd fs=>obtain⟨_,⟨ob,_,_,e,_⟩,_⟩:=x;exact⟨_,e⟩
 |rng lo hi=>obtain⟨_,_,_,e⟩:=x;exact⟨_,e⟩
 |frz ob u=>exact⟨_,x.1⟩
 |tbl ps=>obtain⟨_,e,_⟩:=x;exact⟨_,e⟩
 |met f y=>exact⟨_,(show h.get? a=some _ from x)⟩
 |ext φ=>exact x.2.1
noncomputable def CXE(P:Program)(w:World):CXT:=fun outer H s E ev s'=>∃(e C:Addr) (a0:Value) (B:Heap) (H':Hp) (od:Option Addr),ev= .ref e /\ s'.os=s.os /\ AllBare s'.gens /\ Un (frs outer) [] H H' s.heap s'.heap /\
 HOk P w H' s'.heap /\ Heap.FlyingW B outer e (.ref C) a0 s'.heap /\ (∀b u,H' b=some u -> ∃o,B.get? b=some o) /\ (∀b o,s.heap.get? b=some o ->b∉frs outer -> ∃o',B.get? b=some o') /\ (∃oe,s'.heap.get? e=some oe /\ ∀dx,od=some dx ->oe.dict=some dx) /\ E (.ref C) od H'
theorem i9{X:Cx}{P:Program}{w:World}:rA (CXE P w) X E0:=fun _ _ _ _ _ _ _ h=>by
 obtain⟨_,_,_,_,_,_,_,_,_,_,_,_,_,_,_,hE⟩:=h
 exact hE.elim
noncomputable def sQ(C:Addr)(E:XK)(t:TA):TS:=fun _ σ H=>t σ H fun vs H1=>vs.length<=3 /\ E (.ref C) none H1
section
variable {X:Cx} {E:XK} {C:Addr} {x:Str} {np cpos pos:Pos} {e:Expr} {es:List Expr} {t:TA}
theorem Vals.len3{vs:List V}{us:List Value}(r:Vals vs us)(h:vs.length<=3):us.length<=sizeLine:=by
 rw[<-r.length];exact bW h (by decide)
end
end L2
namespace L2
open PySem PySem.Spec PyProof.Rows
noncomputable def sU(σ0:St)(sp:Sp)(E:XK)(t:TA):TE:=fun σ H Q=>t σ H fun vs H1=>σ=σ0 /\ sp vs H1 Q E
noncomputable abbrev Cx.suite(X:Cx)(ev:Value):Cx:={X with A:=X.A.mark (some ev),calm:=false,xe:=fun _ _=>False}
section
variable {X:Cx} {pins pins' pn:List (Addr×Obj)} {σ:St} {H:Hp} {s:Shared} {W:Value ->Shared ->Prop} {ev:Value} {D:Ends} {f:Flow}
theorem Cx.Ok.suite(ok:X.Ok):(X.suite ev).Ok:=
 ⟨ok.mod,ok.kind,ok.glob,ok.blt,ok.above,ok.inj,ok.has,ok.cab,(fun z=>nomatch z),ok.frames,ok.stk,ok.exf,ok.bs,ok.bsz,ok.noex,ok.exfs,ok.funs,ok.frf⟩
theorem Inv.suite(I:Inv X pins σ H s):Inv (X.suite ev) pins σ H s:=⟨I.ok.suite,I.os,I.bare,I.base,I.loc,I.cell,I.free,I.freeC,I.pin,I.hok,I.len⟩
theorem Inv.track{a:Addr}{o:HO}(I:Inv X pins σ H s)(hn:H a=none)(h0:∀b u,X.s₀.heap.get? b=some u ->b∉X.ex ->b≠a)(hl:X.env.locals≠a)(hc:∀x c,X.env.cells.lookup x=some c ->c≠a)
  (hp:∀p∈X.pn++pins,p.1≠a) (new:ObjOk X.prog X.w (upd H a o) s.heap a o):Inv X pins σ (upd H a o) s:=by
 refine⟨I.ok,I.os,I.bare,⟨I.base.keep,I.base.slot,fun b u q n hx=> ?_,I.base.there,fun b xs q=> ?_,fun b u xs q=> ?_,fun b ps q=> ?_⟩,I.loc,I.cell,?_,fun x c e=> ?_,fun p hq=> ?_,fun b u q=> ?_,I.len⟩
 ·rw[i7 (h0 b u q hx)];exact I.base.free b u q n hx
 ·have z:=I.base.tups b xs q
  rw[i7 (i4 z hn)];exact z
 ·have z:=I.base.frzs b u xs q
  rw[i7 (i4 z hn)];exact z
 ·obtain⟨more,z⟩:=I.base.tbls b ps q
  exact⟨more,by rw[i7 (i4 z hn)];exact z⟩
 ·rw[i7 hl];exact I.free
 ·rw[i7 (hc x c e)];exact I.freeC x c e
 ·obtain⟨e1,e2,e3,e4,e5⟩:=I.pin p hq
  exact⟨e1,by rw[i7 (hp p hq)];exact e2,e3,e4,e5⟩
 ·by_cases hb:b=a
  ·subst hb;rw[iX] at q;cases q;exact new
  ·rw[i7 hb] at q;exact(I.hok b u q).stay (fun c v _ z=>z) (fun c z=>by rw[i7 (i4 z hn)];exact z) fun c xs z=>by rw[i7 (i4 z hn)];exact z
end
noncomputable def l8(D:Ends)(i:Nat):Ends:={nx:=fun σ H=>D.nx (σ.set i none) H,rt:=D.rt,bk:=fun σ H=>D.bk (σ.set i none) H,ct:=fun σ H=>D.ct (σ.set i none) H}
noncomputable def CK(K:ah)(cD:Addr)(i:Nat)(th:TS)(D:Ends)(σ:St):XK:=fun cls od H'=>∃C,cls= .ref C /\ CJ K C /\ PySem.W.exmOne K (.ref C) (.ref cD)=some true /\
 ∀e,H' e=none ->th (l8 D i) (σ.set i (some (.ref e))) (upd H' e (CZ e C od))
noncomputable def BN(K:ah)(cD:Addr)(i:Nat)(tb:XK ->St ->TS)(th:TS):TS:=fun D σ H=>tb (CK K cD i th D σ) σ D σ H
end L2
namespace L2
open PySem PySem.Spec PyProof.Rows
theorem FnB.imp{P:Program}{w:World}{K:ah}{mg:Str ->Option Value}{base:Heap}{CX:CXT}{k:Nat}{x:Str}{ps:List Str}{sp sp':Sp}(F:FnB P w K mg base CX k x ps sp)(h:∀vs H Q E,sp' vs H Q E ->sp vs H Q E):FnB P w K mg base CX k x ps sp':=by
 obtain⟨f,fd,h1,h2,h3,h4⟩:=F.ex
 exact⟨f,fd,h1.imp h,h2,h3,h4⟩
section
variable {P:Program} {w:World} {K:ah} {mg:Str ->Option Value} {base:Heap} {x qual:Str} {st:Stmt} {f:Addr} {fd:FuncData} {N ps:List Str} {k:Nat} {sp:Sp}
theorem okE(F:Fun K x qual st f fd)(S:FnScope N ps (iW st))(len:∀vs H Q E,sp vs H Q E ->vs.length=ps.length)
  (hb:∀(cdv:Value) (A:Around) (outer:List Env) (s:Shared) (H:Hp) (vs:List V) (Q:VK) (E:XK),Room k (A.deeper (envOfC qual (iW st) s.heap.objs.size f cdv)) ->sp vs H Q E ->
   ∃t,PSs (wH (CXE P w) P w K mg base N qual (iW st) f cdv A outer s H E) (jb st) t /\ t {nx:=fun _ H'=>Q .non H',rt:=Q} (start N vs) H):FnOk P w K mg base (CXE P w) (k+1) f fd ps sp:=by
 have e:=F.ex
 obtain⟨oc,od,kV,doc,pm,an,cdv,ct,osl,e,lk,hcd⟩:=e
 subst e;exact zS lk hcd S len (hb cdv)
theorem okN(F:Fun K x qual st f fd)(S:FnScope N ps (iW st))(len:∀vs H Q E,sp vs H Q E ->vs.length=ps.length)
  (hb:∀(cdv:Value) (A:Around) (outer:List Env) (s:Shared) (H:Hp) (vs:List V) (Q:VK) (E:XK),Room k (A.deeper (envOfC qual (iW st) s.heap.objs.size f cdv)) ->sp vs H Q E ->
   ∃t,PSs (wH (CXE P w) P w K mg base N qual (iW st) f cdv A outer s H E).nox (jb st) t /\ t {nx:=fun _ H'=>Q .non H',rt:=Q} (start N vs) H):FnOk P w K mg base (CXE P w) (k+1) f fd ps sp:=
 okE F S len fun cdv A outer s H vs Q E hr h=>by
  obtain⟨t,h1,h2⟩:=hb cdv A outer s H vs Q E hr h
  exact⟨t,h1.nox,h2⟩
end
end L2
namespace L2
open PySem PySem.Spec PyProof.Rows
section
variable {X:Cx}
theorem yU{X:Cx}{pins:List (Addr×Obj)}{σ:St}{H:Hp}{s:Shared}{h':Heap}{tk:Nat}{wr:List Addr}{T:Addr}{x y:V}{u v:Value}(I:Inv X pins σ H s)(hf:∀b∈wr,uJ X pins H b)(hT:s.heap.objs.size<=T)
  (ht:h'.IsTuple T #[u,v]) (rx:RelV x u) (ry:RelV y v) (k:∀b o,b∉wr ->s.heap.get? b=some o ->h'.get? b=some o):Inv X pins σ (upd H T (.tup [x,y])) {s with heap:=h',toks:=tk}:=by
 have hn:H T=none:=I.hok.fresh hT
 have tr:∀b w,H b=some w ->b∉wr:=fun b w e z=>by rw[(hf b z).1] at e;cases e
 refine I.step (g':=s.gens) (d':=s.drawn) (ch:=wr) (fun b hb=> ?_) (fun b o _ _ hc e _=>k b o hc e) (fun b o _ _ hc e _=>⟨o.slots,k b o hc e⟩) (fun b o hc e n=> ?_) (fun b o hc e=>⟨o,k b o hc e⟩) (fun b xs e=> ?_) (fun b o w e=> ?_) (fun b ps e=> ?_) (fun m hm=> ?_) (fun b w e=> ?_) I.bare
 ·obtain⟨f0,f1,f2,f3,f4,f5⟩:=hf b hb
  exact⟨f3,f1,f4,f5⟩
 ·rw[i7 (aW (aO (Heap.lt_size e) hT))];exact n
 ·rw[i7 (i4 e hn)];exact e
 ·rw[i7 (i4 e hn)];exact e
 ·exact⟨#[],by rw[i7 (i4 e hn),e];simp⟩
 ·obtain⟨o,es,ep,ho,r⟩:=hm
  exact⟨o,es,ep,k _ o (fun z=>(hf _ z).2.1 rfl) ho,r⟩
 ·by_cases hb:b=T
  ·subst hb;rw[iX] at e;cases e;exact⟨show 2<=sizeLine by decide,[u,v],.cons rx (.cons ry .nil),ht⟩
  ·rw[i7 hb] at e;refine(I.hok b w e).stay (fun c z hc q=>k c z ?_ q) (fun c q=>by rw[i7 (i4 q hn)];exact q) fun c xs q=>by rw[i7 (i4 q hn)];exact q
   rcases hc with rfl|hc
   ·exact tr _ _ e
   ·exact tr _ _ hc
end
end L2
namespace L2
open PySem PySem.Spec PyProof.Rows
noncomputable def pj(C:Addr)(E:XK):TS:=fun _ _ H=>E (.ref C) none H
end L2
namespace L2
open PySem PySem.Spec PyProof.Rows
section
variable {X:Cx} {pos:Pos}
noncomputable def wW(i j k:Nat)(ta:TA):TS:=fun D σ H=>ta σ H fun vs H1=>∃v w u,vs=[v,w,u] /\ D.nx (((σ.set i (some v)).set j (some w)).set k (some u)) H1
end
end L2
namespace L2
open PySem PySem.Spec PyProof.Rows
noncomputable def yk(o:Option HO):Option (List (Key×V)):=match o with
 |some (.dK kvs)=>some kvs
 |_=>none
theorem t8(kvs:List (Key×V)):yk (some (.dK kvs))=some kvs:=rfl
theorem we{o:Option HO}{kvs:List (Key×V)}(h:yk o=some kvs):o=some (.dK kvs):=by
 unfold yk at h;split at h
 ·cases h;rfl
 ·cases h
noncomputable def tDg(k:Str)(td:TE):TE:=fun σ H Q=>td σ H fun x H1=>match x with
 | .ref a=>kH (yk (H1 a)) fun kvs=>kH (qt kvs (Sum.inr k)) fun v=>Q v H1
 |_=>False
noncomputable def tDp(k:Str)(td tv:TE):TS:=fun D σ H=>tv σ H fun v H1=>td σ H1 fun x H2=>match x with
 | .ref a=>kH (yk (H2 a)) fun kvs=>kvs.length<1000000 /\ D.nx σ (upd H2 a (.dK (putK kvs (Sum.inr k) v)))
 |_=>False
section
variable {X:Cx} {o i value:Expr} {pos pos':Pos} {td tv:TE} {k:Str}
theorem mI(hu:X.A.units+1<cLine)(ho:PE X o td)(hi:PE X i (tC (.str k)))(hs:CH i):PE X (.Subscript o i pos) (tDg k td):=by
 intro pins s σ H Q I h;refine y0 PySem.F.slot_dict_getitem.lookup hs (thn (ho pins s σ H _ I h) fun u s1 ⟨x,H1,I1,rx,q1⟩=> ?_);cases x with
 |ref a=>
  obtain⟨kvs,e,q1⟩:=jy q1
  obtain⟨v,e2,q1⟩:=jy q1
  have e:=we e
  refine thn (hi pins s1 σ H1 (fun y H2=>y=V.str k /\ H2=H1) I1 ⟨rfl,rfl⟩) fun iv s2 ⟨y,H2,I2,ry,ey,eH⟩=> ?_
  subst ey;subst eH;obtain rfl:u=Value.ref a:=rx
  have g:DGet H2 a (V.str k) (some v):=by
   have:=DGet.k (k:=Sum.inr k) e
   rw[e2] at this;exact this
  exact⟨sv I2 g,wl hu I2 g ry fun w' s3 I3 rw'=>⟨v,H2,I3,rw',q1⟩⟩
 |_=>exact q1.elim
theorem vw(hu:X.A.units+1<cLine)(ho:PE X o td)(hi:PE X i (tC (.str k)))(hv:PE X value tv)(hs:swapsWith value (some (.Subscript o i pos')) pos.line X.env=pure false):
  PS X (.Assign [.Subscript o i pos'] value pos) (tDp k td tv):=by
 intro pins s σ H D I h;refine wpAny_Assign_Subscript (thn (hv pins s σ H _ I h) fun r s1 ⟨v,H1,I1,rv,q1⟩=>thn (ho pins s1 σ H1 _ I1 q1) fun u s2 ⟨x,H2,I2,rx,q2⟩=> ?_) hs;cases x with
 |ref a=>
  obtain⟨kvs,e,hl,q2⟩:=jy q2
  have e:=we e
  refine thn (hi pins s2 σ H2 (fun y H3=>y=V.str k /\ H3=H2) I2 ⟨rfl,rfl⟩) fun iv s3 ⟨y,H3,I3,ry,ey,eH⟩=> ?_
  subst ey;subst eH;obtain rfl:u=Value.ref a:=rx
  exact wj hu I3 (DPut.k (k:=Sum.inr k) e (uY hl)) ry rv fun s4 I4=>⟨σ,_,I4,q2⟩
 |_=>exact q2.elim
end
theorem FnB.no{P:Program}{w:World}{K:ah}{mg:Str ->Option Value}{base:Heap}{CX:CXT}{x:Str}{ps:List Str}{f:Addr}{fd:FuncData}(m:mg x=some (.ref f))(kp:aE K (.ref f)=true)(b:Binds K fd ps []):FnB P w K mg base CX 0 x ps (fun _ _ _ _=>False):=
 ⟨f,fd,⟨fun _ _ _ _ h=>h.elim,fun _ _ _ _ _ _ _ _ _ _ _ _ _ h=>h.elim⟩,m,kp,b⟩
end L2
namespace L2
open PySem PySem.Spec PyProof.Rows
section
variable {X:Cx} {pos pos':Pos}
theorem Ab(val:Nat ->Int):∀k,argBest (fun i j=>decide (val i<val j)) k<=k /\ ∀j,j<=k ->val (argBest (fun i j=>decide (val i<val j)) k)<=val j:=by
 intro k
 induction k with
 |zero=>
  rw[argBest.eq_1];exact⟨av _,fun j hj=>by obtain rfl:j=0:=(by omega);exact cM _⟩
 |succ k ih=>
  rw[show k+1=k.succ from rfl,argBest.eq_2]
  by_cases h:val (k+1)<val (argBest (fun i j=>decide (val i<val j)) k)
  ·rw[if_pos (decide_eq_true h)];refine⟨av _,fun j hj=> ?_⟩
   by_cases e:j=k+1
   ·subst e;exact cM _
   ·have:=ih.2 j (by omega)
    omega
  ·rw[if_neg (by rw[decide_eq_true_eq];exact h)];refine⟨by have:=ih.1;omega,fun j hj=> ?_⟩
   by_cases e:j=k+1
   ·subst e;omega
   ·exact ih.2 j (by omega)
theorem Ac(val:Nat ->Int):∀k,argBest (fun i j=>decide (val i>val j)) k<=k /\ ∀j,j<=k ->val j<=val (argBest (fun i j=>decide (val i>val j)) k):=by
 intro k
 induction k with
 |zero=>
  rw[argBest.eq_1];exact⟨av _,fun j hj=>by obtain rfl:j=0:=(by omega);exact cM _⟩
 |succ k ih=>
  rw[show k+1=k.succ from rfl,argBest.eq_2]
  by_cases h:val (k+1)>val (argBest (fun i j=>decide (val i>val j)) k)
  ·rw[if_pos (decide_eq_true h)];refine⟨av _,fun j hj=> ?_⟩
   by_cases e:j=k+1
   ·subst e;exact cM _
   ·have:=ih.2 j (by omega)
    omega
  ·rw[if_neg (by rw[decide_eq_true_eq];exact h)];refine⟨by have:=ih.1;omega,fun j hj=> ?_⟩
   by_cases e:j=k+1
   ·subst e;omega
   ·exact ih.2 j (by omega)
noncomputable def yE(K:ah)(ok:Int ->Int ->Prop):List V ->Hp ->VK ->Prop:=fun vs H Q=>∃(l:Addr) (ns:List Int),vs=[.ref l] /\ SqL K H l (ns.map V.int) /\ 0<ns.length /\ ∀M,M∈ns ->(∀a∈ns,ok M a) ->Q (.int M) H
theorem yB{ns:List Int}:∀{its:List Value},Vals (ns.map V.int) its ->its.length=ns.length /\ ∀(i:Nat) (v:Value),its[i]? =some v -> ∃t,v=Value.int (ns.getD i 0) t:=by
 induction ns with
 |nil=>intro its r;cases r;exact⟨rfl,fun i v h=>by simp at h⟩
 |cons n ns ih=>
  intro its r;cases r with
  |cons p q=>
   obtain⟨h1,h2⟩:=ih q
   refine⟨by simp[h1],fun i v h=> ?_⟩;cases i with
   |zero=>cases h;exact p
   |succ i=>exact h2 i v h
theorem nS{ns:List Int}{i:Nat}(h:i<ns.length):ns.getD i 0∈ns:=by
 rw[aR,af h];exact cL h
theorem kM{K:ah}(hK:X.K=K)(hcalm:X.calm=true):CallR X (.builtin "min") (yE K fun M a=>M<=a):=by
 subst hK;intro pins s σ H xs us Q I r h;obtain⟨l,ns,rfl,hl,h0,q⟩:=h
 obtain⟨u,rfl,rx⟩:=vals1 r
 cases rx;obtain⟨its,r',pl,hz⟩:=I.list hl
 obtain⟨hlen,hat⟩:=yB r'
 have hIs:=pl.isList
 refine call_min_walk (wpAny_pyIter_list hIs ?_);obtain⟨o,ho,hcl,hdt⟩:=hIs
 have W:=Walks.list (prog:=X.prog) (w:=X.w) (A:=X.A.in1) (show X.A.in1.handled=none from I.ok.hd hcalm) s.heap.objs.size l (aW (Heap.lt_size ho)) its.toArray
 have S0:(s.heap.push {cls:= .type "list_iterator",data:= .fields #[.ref l,.int 0 0]}).IsListIter s.heap.objs.size l 0 /\ (s.heap.push {cls:= .type "list_iterator",data:= .fields #[.ref l,.int 0 0]}).IsList l its.toArray:=⟨⟨_,Heap.get?_push_size _ rfl,rfl,rfl⟩,⟨o,Heap.get?_push_of_some _ ho,hcl,hdt⟩⟩
 refine⟨s.heap.objs.size,[s.heap.objs.size,l],[s.heap.objs.size],its.toArray.size,(fun i v=>its.toArray[i]? =some v),_,fun i j=>decide (ns.getD i 0<ns.getD j 0),rfl,W,S0,?_,?_,CmpOf.ints_lt (fun i=>ns.getD i 0) (fun i v hv=>hat i v (by simpa using hv)),?_⟩
 ·intro b hb;simp only[ao,ay,or_false] at hb;rw[Heap.size_push];rcases hb with rfl|rfl
  ·exact fQ _
  ·exact du (Heap.lt_size ho)
 ·simp only[ax];omega
 ·intro v h' tk hv kp;obtain⟨hb1,hb2⟩:=Ab (fun i=>ns.getD i 0) (its.toArray.size-1)
  simp only[ax] at hb1 hb2 hv;rw[gd] at hv;obtain⟨t,rfl⟩:=hat _ v hv
  refine⟨.int _,H,I.kept (t':=tk) (fun b ob hq=>kp b ob ?_ (Heap.get?_push_of_some _ hq)),⟨t,rfl⟩,q _ (nS (by omega)) fun a ha=> ?_⟩
  ·simp only[ao,ay,or_false];exact aW (Heap.lt_size hq)
  ·obtain⟨j,hj⟩:=bF ha
   have lj:=(aa.mp hj).1
   have:=hb2 j (by omega)
   rw[show ns.getD j 0=a by rw[aR,hj];rfl] at this;exact this
theorem kz{K:ah}(hK:X.K=K)(hcalm:X.calm=true):CallR X (.builtin "max") (yE K fun M a=>a<=M):=by
 subst hK;intro pins s σ H xs us Q I r h;obtain⟨l,ns,rfl,hl,h0,q⟩:=h
 obtain⟨u,rfl,rx⟩:=vals1 r
 cases rx;obtain⟨its,r',pl,hz⟩:=I.list hl
 obtain⟨hlen,hat⟩:=yB r'
 have hIs:=pl.isList
 refine call_max_walk (wpAny_pyIter_list hIs ?_);obtain⟨o,ho,hcl,hdt⟩:=hIs
 have W:=Walks.list (prog:=X.prog) (w:=X.w) (A:=X.A.in1) (show X.A.in1.handled=none from I.ok.hd hcalm) s.heap.objs.size l (aW (Heap.lt_size ho)) its.toArray
 have S0:(s.heap.push {cls:= .type "list_iterator",data:= .fields #[.ref l,.int 0 0]}).IsListIter s.heap.objs.size l 0 /\ (s.heap.push {cls:= .type "list_iterator",data:= .fields #[.ref l,.int 0 0]}).IsList l its.toArray:=⟨⟨_,Heap.get?_push_size _ rfl,rfl,rfl⟩,⟨o,Heap.get?_push_of_some _ ho,hcl,hdt⟩⟩
 refine⟨s.heap.objs.size,[s.heap.objs.size,l],[s.heap.objs.size],its.toArray.size,(fun i v=>its.toArray[i]? =some v),_,fun i j=>decide (ns.getD i 0>ns.getD j 0),rfl,W,S0,?_,?_,CmpOf.ints_gt (fun i=>ns.getD i 0) (fun i v hv=>hat i v (by simpa using hv)),?_⟩
 ·intro b hb;simp only[ao,ay,or_false] at hb;rw[Heap.size_push];rcases hb with rfl|rfl
  ·exact fQ _
  ·exact du (Heap.lt_size ho)
 ·simp only[ax];omega
 ·intro v h' tk hv kp;obtain⟨hb1,hb2⟩:=Ac (fun i=>ns.getD i 0) (its.toArray.size-1)
  simp only[ax] at hb1 hb2 hv;rw[gd] at hv;obtain⟨t,rfl⟩:=hat _ v hv
  refine⟨.int _,H,I.kept (t':=tk) (fun b ob hq=>kp b ob ?_ (Heap.get?_push_of_some _ hq)),⟨t,rfl⟩,q _ (nS (by omega)) fun a ha=> ?_⟩
  ·simp only[ao,ay,or_false];exact aW (Heap.lt_size hq)
  ·obtain⟨j,hj⟩:=bF ha
   have lj:=(aa.mp hj).1
   have:=hb2 j (by omega)
   rw[show ns.getD j 0=a by rw[aR,hj];rfl] at this;exact this
noncomputable def CB:List V ->Option (List Key)
 |[]=>some []
 | .int i::r=>(CB r).map (Sum.inl i:: ·)
 |_=>none
noncomputable def BQ(td ty tv:TE):TS:=fun D σ H=>tv σ H fun v H1=>td σ H1 fun x H2=>ty σ H2 fun y H3=>∃a b kvs xs k,x= .ref a /\ y= .ref b /\ H3 a=some (.dT kvs) /\ H3 b=some (.tup xs) /\ CB xs=some k /\ kvs.length<1000000 /\ D.nx σ (upd H3 a (.dT (putK kvs k v)))
end
end L2
namespace L2
open PySem PySem.Spec PyProof.Rows
noncomputable def Ite(K:ah)(a:Addr):It:=
 ⟨fun i H=>∃xs,SqL K H a xs /\ i<xs.length,
  fun i H v H'=>∃t,v= .ref t /\ H t=none /\ ∀xs x,SqL K H a xs ->xs[i]? =some x ->H'=upd H t (.tup [.int (i:Int),x]),
  fun i H=>∃xs,SqL K H a xs /\ i=xs.length⟩
noncomputable def Bt(K:ah)(ta:TA):TI:=fun σ H R=>ta σ H fun vs H1=>∃a,vs=[.ref a] /\ (∃xs,SqL K H1 a xs) /\ R (Ite K a) H1
section
variable {X:Cx}
theorem uO{P:Program}{w:World}{K:ah}{elts:List Expr}{kk:Nat}{pos:Pos}(n l:Addr)(h1:l<n):Turn P w K (.Tuple elts kk pos) (Ite K l) [n+1,n] (n+1)
  (fun i h=>(∃old,IsEnum h (n+1) n (↑i) old) /\ h.IsListIter n l i) where
 mem:=by simp
 obj:=fun i h st b hb=>by
  obtain⟨⟨old,z1⟩,⟨o1,e1,c1,d1⟩⟩:=st
  simp only[ao,ay,or_false] at hb;rcases hb with rfl|rfl
  ·exact⟨_,z1,fun v q=>by cases q⟩
  ·exact⟨_,e1,fun v q=>by rw[d1] at q;cases q⟩
 keep:=fun i h h' st k=>by
  obtain⟨⟨old,z1⟩,z4⟩:=st
  exact⟨⟨old,k _ (by simp) _ z1⟩,z4.at fun o e=>k _ (by simp) o e⟩
 item:=by
  intro X hP hw hK hc i pins s σ H E I hf st hg;subst hP hw hK;obtain⟨xs,q1,hi⟩:=hg
  obtain⟨us,r1,p1,_⟩:=I.list q1
  obtain⟨z1,z4⟩:=st
  have W:=WalksT.enumerate (prog:=X.prog) (w:=X.w) (I.ok.hd hc) (n+1) n l (gY n) (aW (du h1)) (aW h1) us.toArray
  have len1:=r1.length
  refine W.item i s _ _ (by simp only[ax];omega) ⟨z1,z4,p1.isList⟩ fun T vals h' tk hPt hT hTup hMid hk=> ?_
  obtain⟨t,u,hu,rfl⟩:=hPt
  refine⟨.ref T,rfl,W.go elts kk pos i T _ _ _ hMid fun h'' st' hk'=> ?_⟩;obtain⟨x,hx⟩:∃x,xs[i]? =some x:=⟨_,af hi⟩
  obtain⟨u',eu,rx⟩:=r1.get hx
  have e1:u'=u:=by
   have z:us[i]? =some u:=by simpa using hu
   rw[eu] at z;exact aZ.inj z
  subst e1;have ap:=W.apart i T h' hMid
  have ht2:h''.IsTuple T #[.int (i:Int) t,u']:=hTup.at fun o e=>hk' T o ap e
  have J:=yU (x:= .int (i:Int)) (tk:=tk) (h':=h'') I (wr:=[n+1,n]) hf hT ht2 ⟨t,rfl⟩ rx (fun b o hb e=>hk' b o hb (hk b o hb e))
  refine⟨.ref T,_,J,rfl,⟨T,rfl,I.hok.fresh hT,fun xs' x' a1 a3=> ?_⟩,⟨st'.1,st'.2.1⟩,fun b hb=> ?_⟩
  ·rw[I.list_inj a1 q1,hx] at a3;cases a3;rfl
  ·have hb0:=(hf b hb).1
   have hlt:b<s.heap.objs.size:=by
    obtain⟨old,z1⟩:=z1
    obtain⟨o1,e1,_⟩:=z4
    simp only[ao,ay,or_false] at hb;rcases hb with rfl|rfl
    ·exact Heap.lt_size z1
    ·exact Heap.lt_size e1
   rw[i7 (aW (aO hlt hT))];exact hb0
 done:=by
  intro X hP hw hK hc i pins s σ H E I hf st hg;subst hP hw hK;obtain⟨xs,q1,hi⟩:=hg
  obtain⟨us,r1,p1,_⟩:=I.list q1
  obtain⟨z1,z4⟩:=st
  have W:=WalksT.enumerate (prog:=X.prog) (w:=X.w) (I.ok.hd hc) (n+1) n l (gY n) (aW (du h1)) (aW h1) us.toArray
  have e:i=us.toArray.size:=by
   simp only[ax];rw[<-r1.length];exact hi
  subst e;refine W.done s _ _ ⟨z1,z4,p1.isList⟩ fun h' tk hk=>⟨rfl,?_⟩
  have tr:∀b w,H b=some w ->b∉[n+1,n]:=fun b w e z=>by
   rw[(hf b z).1] at e;cases e
  refine I.step (g':=s.gens) (d':=s.drawn) (ch:=[n+1,n]) (fun b hb=> ?_) (fun b o _ _ hc e _=>hk b o hc e) (fun b o _ _ hc e _=>⟨o.slots,hk b o hc e⟩) (fun b o hc e n=>n) (fun b o hc e=>⟨o,hk b o hc e⟩) (fun b xs e=>e) (fun b o w e=>e) (fun b ps e=>⟨#[],by rw[e];simp⟩) (fun m hm=> ?_) (fun b w e=> ?_) I.bare
  ·obtain⟨f0,f1,f2,f3,f4,f5⟩:=hf b hb
   exact⟨f3,f1,f4,f5⟩
  ·obtain⟨o,es,ep,ho,r⟩:=hm
   exact⟨o,es,ep,hk _ o (fun z=>(hf _ z).2.1 rfl) ho,r⟩
  ·refine(I.hok b w e).stay (fun c z hc q=>hk c z ?_ q) (fun _ q=>q) fun _ _ q=>q
   rcases hc with rfl|hc
   ·exact tr _ _ e
   ·exact tr _ _ hc
 self:=fun A i s Q E st q=>by
  obtain⟨⟨old,z1⟩,_⟩:=st
  exact wpAny_pyIter_enum z1 q
theorem pR{a:Expr}{ta:TA}{p pos tpos:Pos}{elts:List Expr}{kk:Nat}{K:ah}(hK:X.K=K)(hg:Gl X "enumerate")(hm:X.mg "enumerate"=none)(ha:PA X [a] ta)(hs:starEach [a] X.env=[(false,eval a X.env)]:=by rfl):
  PI X (.Tuple elts kk tpos) (.Call (.Name "enumerate" p) [a] [] pos) (Bt K ta):=by
 subst hK;intro pins s σ H R I h;refine Call_ (oH I hg hm boot_enumerate (cO (thn (ha pos pins s σ H _ I h) fun us s1 z=> ?_) hs rfl));obtain⟨vs,H1,I1,r1,l,rfl,⟨xs,q1⟩,q⟩:=z
 obtain⟨u,rfl,ru⟩:=r1.one
 obtain rfl:u=Value.ref l:=ru
 obtain⟨is1,s1',p1,_⟩:=I1.list q1
 have b1:l<s1.heap.objs.size:=by
  obtain⟨o,e,_⟩:=p1.isList
  exact Heap.lt_size e
 refine call_enumerate_list p1.isList fun h' hz hi1 hsz hk=> ?_
 refine wpAny_pyIter_enum hz ?_;refine⟨_,_,_,_,H1,rfl,I1.kept (t':=s1.toks) hk,uO s1.heap.objs.size l b1,⟨⟨_,hz⟩,hi1⟩,fun b hb=> ?_,q⟩;simp only[ao,ay,or_false] at hb;have hle:s1.heap.objs.size<=b:=by
  rcases hb with rfl|rfl<;>omega
 exact I1.fpOk hle (I1.hok.fresh hle)
end
section
variable {K:ah} {a:Addr} {xs:List V} {ta:TA} {g:TG} {tb:TS} {Dn:Ends} {σ:St} {H:Hp}
theorem lV(Ra:Addr ->Hp ->Prop)(ha:∀R:List V ->Hp ->Prop,(∀a H1,Ra a H1 ->R [.ref a] H1) ->ta σ H R)
  (hb:∀a H1,Ra a H1 -> ∃xs,∃Pv:Nat ->St ->Hp ->Prop,Pv 0 σ H1 /\ (∀i σ H,i<=xs.length ->Pv i σ H ->SqL K H a xs) /\
   (∀i x t σ H,xs[i]? =some x ->Pv i σ H ->H t=none ->g (.ref t) σ (upd H t (.tup [.int (i:Int),x])) fun σ2 H2=>tb {Dn with nx:=Pv (i+1),ct:=Pv (i+1),bk:=Dn.nx} σ2 H2) /\ ∀σ H,Pv xs.length σ H ->Dn.nx σ H):
  Am (Bt K ta) g tb Dn σ H:=by
 refine ha _ fun a H1 q=> ?_
 obtain⟨xs,Pv,h0,hq,hs,hd⟩:=hb a H1 q
 have s1:=hq 0 σ H1 (bp _) h0
 refine⟨a,rfl,⟨xs,s1⟩,fun i m σ H=>Pv i σ H /\ i<=xs.length /\ m=xs.length-i,⟨_,h0,bp _,rfl⟩,?_⟩;rintro i m σ H ⟨p,hi,rfl⟩;have s1:=hq i σ H hi p
 rcases ft hi with hi|hi
 ·right
  refine⟨⟨xs,s1,by omega⟩,fun σ' H'=>Pv (i+1) σ' H',fun σ' H' p'=>⟨xs.length-(i+1),by omega,p',by omega,rfl⟩,?_⟩;rintro v H' ⟨t,rfl,hn,e⟩;obtain⟨x,hx⟩:∃x,xs[i]? =some x:=⟨_,af hi⟩
  rw[e xs x s1 hx];exact hs i x t σ H hx p hn
 ·left
  exact⟨⟨xs,s1,by omega⟩,hd σ H (hi▸p)⟩
end
noncomputable def CQ(K:ah):R2:=fun x y H Q=>∃d ds,Rdy K H x d /\ Rdy K H y (.list ds) /\ SeqAt.shaped d=true /\ SeqAt.shaped (.list ds)=true /\ (∀y∈ds,SeqAt.noMix y d=true) /\ Q (.bl (decide (Spec.countIn d ds≠0))) H
theorem vL{X:Cx}{K:ah}(hK:X.K=K)(hu:X.A.units+65<cLine):OpR X (compareOp .In) (CQ K):=by
 subst hK;intro pins s σ H x y v u Q I rx ry h;obtain⟨d,ds,h1,h2,s1,s2,nm,q⟩:=h
 obtain⟨as,r1⟩:=h1.reads I rx
 obtain⟨bs,r2⟩:=h2.reads I ry
 exact in_list_dataH r2 r1 s2 s1 hu nm ⟨.bl _,H,I,rfl,q⟩
theorem xJ{X:Cx}{x:Str}{i:Int}{pos:Pos}(hg:Gl X x)(hm:∃t,X.mg x=some (.int i t))(hd:(x==("__debug__":Str))=false:=by decide):PE X (.Name x pos) (tC (.int i)):=by
 obtain⟨t,hm⟩:=hm
 exact vH hg hm ⟨t,rfl⟩ hd
end L2
namespace HT
open PySem PySem.Spec PyProof.Rows
noncomputable def lexGe:List Int ->List Int ->Bool
 |[],[]=>true
 |[],_::_=>false
 |_::_,[]=>true
 |x::xs,y::ys=>if x=y then lexGe xs ys else decide (x≥y)
theorem uz(x y:Int)(xs ys:List Int):lexGe (x::xs) (y::ys)=if x=y then lexGe xs ys else decide (x≥y):=rfl
theorem xA(A:Around)(s:Shared)(a:Int)(t:Tok)(c:Int)(u:Tok)(prog:Program)(w:World)(E:Value ->Shared ->Prop)(Q:Value ->Shared ->Prop)(h:Q (.bool (decide (a≥c))) s):
  wpAny (model prog w) A (richCompare .GtE (.int a t) (.int c u)) Q E s:=
 (PyProof.Rows.ge_int h:wpAny (model prog w) A (compareOp .GtE (.int a t) (.int c u)) Q E s)
section
open PySem.AutoSeq1 (wpAny_loadPart')
open PySem.MeetsSeq PySem.MeetsSeq2 PySem.MeetsSeq3
theorem oZ(l b:Addr)(items items2:Array Value)(n n2:Nat)(dd dd2:Option Addr)(sl sl2:Array (Option Value))(ns ms:List Int)(hi:IntsAre items.toList ns)(hj:IntsAre items2.toList ms):
  Meets (Builtin.«tuple.__ge__» ⟨[.ref l,.ref b],[]⟩)
   (fun _ R s=>s.heap.get? l=some {cls:= .type "tuple",dict:=dd,data:= .seq items n,slots:=sl} /\ s.heap.get? b=some {cls:= .type "tuple",dict:=dd2,data:= .seq items2 n2,slots:=sl2} /\
    R (.ok (.ret (.bool (lexGe ns ms)))) s):=
 .of_wp fun prog w A R s h=>by
  obtain⟨hp,g,d,tk,os⟩:=s;obtain⟨hl,hb,h⟩:=h
  have f2:=AutoSeq1.sub_tuple_tuple
  have z1:items.size=ns.length:=by rw[<-hi.length];simp
  have z2:items2.size=ms.length:=by rw[<-hj.length];simp
  wp_walk using wpAny_loadPart' hl,wpAny_loadPart' hb,wpAny_forIn_list _ (fun rest b s'=>b.1=none /\ s'=⟨hp,g,d,tk,os⟩ /\ ∃(vs ws:List Value) (ns' ms':List Int),rest=vs.zip ws /\
   IntsAre vs ns' /\ IntsAre ws ms' /\ ns'.length+items2.size=ms'.length+items.size /\ R (.ok (.ret (.bool (lexGe ns' ms')))) ⟨hp,g,d,tk,os⟩) _
  case turn=>
   rintro⟨y,x⟩ rest b s' ⟨hb',rfl,vs,ws,ns',ms',hz,hvi,hwi,hlen,hR⟩;cases hvi with
   |nil=>rw[gL] at hz;cases hz
   |cons a t hvi'=>
    cases hwi with
    |nil=>rw[gF] at hz;cases hz
    |cons c u hwi'=>
     rw[cH] at hz
     injection hz with hyx hrest
     injection hyx with hy hx
     subst hy hx;rw[uz] at hR;simp only[aX] at hlen;obtain⟨e,he,hiff⟩:=t6 A.in1 ⟨hp,g,d,tk,os⟩ a t c u
     refine wpAny_bind (he prog w _ _ ?_);cases e with
     |true=>
      rw[if_pos (hiff.mp rfl)] at hR
      wp_walk
      exact⟨rfl,rfl,_,_,_,_,hrest,hvi',hwi',by omega,hR⟩
     |false=>
      rw[if_neg (fun q=>absurd (hiff.mpr q) bQ)] at hR;have hri:=xA A.in1 ⟨hp,g,d,tk,os⟩ a t c u prog w
      wp_walk using hri
      exact⟨_,rfl,by simpa using hR⟩
  case fin=>
   rintro⟨b1,b2⟩ s' ⟨hb',rfl,vs,ws,ns',ms',hz,hvi,hwi,hlen,hR⟩;simp only at hb';subst hb';have hv:lexGe ns' ms'=decide (items.size≥items2.size):=by
    cases hvi with
    |nil=>
     cases hwi with
     |nil=>
      simp only[bo] at hlen;exact(decide_eq_true (by omega)).symm
     |cons c u hw=>
      simp only[bo,aX] at hlen;exact(decide_eq_false (by omega)).symm
    |cons a t hv=>
     cases hwi with
     |nil=>
      simp only[bo,aX] at hlen;exact(decide_eq_true (by omega)).symm
     |cons c u hw=>
      rw[cH] at hz;cases hz
   rw[hv] at hR
   wp_walk
   exact⟨_,rfl,by simpa[Builtin.Tuple.tupleCompareSizes] using hR⟩
  case h=>
   exact⟨rfl,rfl,items.toList,items2.toList,ns,ms,rfl,hi,hj,by omega,h⟩
end
section
variable {prog:Program} {w:World} {A:Around} {E:Value ->Shared ->Prop} {s:Shared}
theorem ge_tupInts{l b:Addr}{items items2:Array Value}{ns ms:List Int}{Q:Value ->Shared ->Prop}(hl:IsTup s.heap l items)(hb:IsTup s.heap b items2)(hi:IntsAre items.toList ns)(hj:IntsAre items2.toList ms)
  (hu:A.units<cLine) (h:Q (.bool (lexGe ns ms)) s):wpAny (model prog w) A (compareOp .GtE (.ref l) (.ref b)) Q E s:=by
 obtain⟨⟨cls,dd,data,sl⟩,ho,hc,n,hd⟩:=id hl
 obtain⟨⟨cls2,dd2,data2,sl2⟩,ho2,hc2,n2,hd2⟩:=id hb
 simp only at hc hd hc2 hd2;subst hc hd hc2 hd2;exact richCompare_meets_room (op:= .GtE) ⟨_,ho,rfl⟩ ⟨_,ho2,rfl⟩ PySem.F.slot_tuple_ge PySem.F.entry_tuple_ge (PySem.F.args_tuple_ge_2 _ _) (oZ l b items items2 n n2 dd dd2 sl sl2 ns ms hi hj)
  ⟨ho,ho2,show Value.bool (lexGe ns ms)≠Value.notImplemented /\ Q (.bool (lexGe ns ms)) s from⟨(fun x=>nomatch x),h⟩⟩ hu
end
end HT
namespace L2
open PySem PySem.Spec PyProof.Rows
section
variable {X:Cx}
noncomputable def CS(K:ah):R2:=fun x y H Q=>∃a b ns ms,x= .ref a /\ y= .ref b /\ SqT K H a (ns.map V.int) /\ SqT K H b (ms.map V.int) /\ Q (.bl (HT.lexGe ns ms)) H
theorem Bb{K:ah}(hK:X.K=K)(hu:X.A.units<cLine):OpR X (compareOp .GtE) (CS K):=by
 subst hK;intro pins s σ H x y v u Q I rx ry h;obtain⟨a,b,ns,ms,rfl,rfl,ha,hb,q⟩:=h
 cases rx;cases ry;obtain⟨its,r1,p1,_⟩:=I.tuple ha
 obtain⟨its2,r2,p2,_⟩:=I.tuple hb
 exact HT.ge_tupInts p1 p2 (intsAre_of r1) (intsAre_of r2) hu ⟨.bl (HT.lexGe ns ms),H,I,rfl,q⟩
noncomputable def Ce(K:ah):List V ->Hp ->VK ->Prop:=fun vs H Q=>∃(l:Addr) (ns:List Int),vs=[.ref l] /\ SqL K H l (ns.map V.int) /\ ns.length<1000 /\ ∀p S,H p=none ->Q (.ref p) (upd H p (.set S (firstMet (fun i=>ns.getD i 0) ns.length).length))
theorem wu{K:ah}(hK:X.K=K)(hcalm:X.calm=true):CallR X (.type "set") (Ce K):=by
 subst hK;intro pins s σ H xs us Q I r h;obtain⟨l,ns,rfl,hl,hn,q⟩:=h
 obtain⟨u,rfl,rx⟩:=vals1 r
 cases rx;obtain⟨its,r',pl,hz⟩:=I.list hl
 have hlen:its.length=ns.length:=by rw[<-r'.length,ae]
 refine PySem.call_set_list (items:=its.toArray) (ns:=ns) (I.ok.hd hcalm) pl.isList (by simpa using intsAre_of r') (by rw[ax,hlen];exact fo (Nat.succ_lt_succ hn) (by decide)) fun h' tk hS kp=> ?_
 have hsz:its.toArray.size=ns.length:=by rw[ax,hlen]
 rw[hsz] at hS;refine⟨.ref s.heap.objs.size,_,I.laid (t':=tk) (o:= .set _ _) (fun b ob e=>kp b ob (Heap.lt_size e) e) (av _) hS,rfl,q _ _ (I.hok.fresh (av _))⟩
noncomputable def Cg:List V ->Hp ->VK ->Prop:=fun vs H Q=>∃(p:Addr) (S:Int ->Bool) (n:Nat),vs=[.ref p] /\ H p=some (.set S n) /\ n<100000 /\ Q (.int n) H
theorem wx:CallR X (.builtin "len") Cg:=by
 intro pins s σ H xs us Q I r h;obtain⟨p,S,n,rfl,hp,hn,q⟩:=h
 obtain⟨u,rfl,rx⟩:=vals1 r
 cases rx;obtain⟨o,es,ep,t,ho,hex,hd,hel,hmem,hb,hf,e⟩:=I.hok p _ hp
 subst e;exact PySem.call_len_set ho hex hd hf (by omega) ⟨.int es.size,H,I.tok _,⟨s.toks+1,rfl⟩,q⟩
theorem oy{ns:List Int}(h:ns.Nodup):(firstMet (fun i=>ns.getD i 0) ns.length).length=ns.length:=by
 have e:(bg ns.length).map (fun i=>ns.getD i 0)=ns:=by
  apply gO;intro i;rw[aC]
  by_cases hi:i<ns.length
  ·rw[fe hi];simp[hi]
  ·rw[ck (by rw[bC];omega),ck (by omega)];rfl
 unfold firstMet;rw[e];have key:∀(r:List Int) (acc:List Int),(∀x∈r,x∉acc) ->r.Nodup ->(r.foldl step_dedup acc).length=acc.length+r.length:=by
  intro r
  induction r with
  |nil=>intro acc _ _;rfl
  |cons x r ih=>
   intro acc h1 h2;rw[bb] at h2;have hx:acc.any (· ==x)=false:=by
    rw[fE];intro y hy e;have:y=x:=by simpa using e
    subst this;exact h1 y (by simp) hy
   rw[ix];have es:step_dedup acc x=acc++[x]:=by
    unfold step_dedup;rw[hx];rfl
   rw[es,ih (acc++[x]) ?_ h2.2,aq,aX]
   ·simp only[aX,bo];omega
   ·intro y hy hm;rcases aU.mp hm with q|q
    ·exact h1 y (by simp[hy]) q
    ·rw[bK] at q;subst q;exact h2.1 hy
 have:=key ns [] (by simp) h
 simpa using this
noncomputable def B6:V ->List V ->Hp ->VK ->Prop:=fun x vs H Q=>match x,vs with
 | .ref l,[]=>kH (lK (H l)) fun _=>Q .non (upd H l (.lst []))
 |_,_=>False
variable {o:Expr} {to:TE} {apos cpos:Pos}
end
end L2
namespace L2
open PySem
mutual
noncomputable def j3:PyData ->Bool
 | .int _=>true
 | .none=>true
 | .list xs=>kR xs
 | .tuple xs=>kR xs
 |_=>false
noncomputable def kR:List PyData ->Bool
 |[]=>true
 |x::xs=>j3 x&&kR xs
end
mutual
theorem wa:∀(d e:PyData),j3 d=true ->j3 e=true ->(PyData.eqv d e=true↔d=e)
 | .int a,e,_,he=>by
  cases e<;>simp[PyData.eqv,j3] at he⊢
 | .none,e,_,he=>by
  cases e<;>simp[PyData.eqv,j3] at he⊢
 | .list xs,e,hd,he=>by
  cases e with
  |list ys=>
   simp only[j3] at hd he;simp only[PyData.eqv,PyData.list.injEq];exact mE xs ys hd he
  |_=>simp[PyData.eqv,j3] at he⊢
 | .tuple xs,e,hd,he=>by
  cases e with
  |tuple ys=>
   simp only[j3] at hd he;simp only[PyData.eqv,PyData.tuple.injEq];exact mE xs ys hd he
  |_=>simp[PyData.eqv,j3] at he⊢
 | .bool _,e,hd,_=>by simp[j3] at hd
 | .str _,e,hd,_=>by simp[j3] at hd
 | .dict _,e,hd,_=>by simp[j3] at hd
theorem mE:∀(xs ys:List PyData),kR xs=true ->kR ys=true ->(PyData.eqvAll xs ys=true↔xs=ys)
 |[],[],_,_=>by simp[PyData.eqvAll]
 |[],y::ys,_,_=>by simp[PyData.eqvAll]
 |x::xs,[],_,_=>by simp[PyData.eqvAll]
 |x::xs,y::ys,hx,hy=>by
  simp only[kR,cK] at hx hy;simp only[PyData.eqvAll,cK,cp.injEq];rw[wa x y hx.1 hy.1,mE xs ys hx.2 hy.2]
end
theorem nM{α:Type}(f:α ->PyData)(h:∀a,j3 (f a)=true):∀l:List α,kR (l.map f)=true
 |[]=>rfl
 |a::l=>by
  rw[aD,kR,h a,nM f h l];rfl
theorem zW{d e:PyData}(hd:j3 d=true)(h:d=e):PyData.eqv d e=true:=(wa d e hd (h▸hd)).mpr h
end L2
namespace L2
open PySem PySem.Spec PyProof.Rows
noncomputable def zg(K:ah):R2:=fun x y H Q=>∃d ds,Rdy K H x d /\ Rdy K H y (.list ds) /\ SeqAt.shaped d=true /\ SeqAt.shaped (.list ds)=true /\ (∀y∈ds,SeqAt.noMix y d=true) /\ Q (.bl (!decide (Spec.countIn d ds≠0))) H
theorem uv{X:Cx}{K:ah}(hK:X.K=K)(hu:X.A.units+65<cLine):OpR X (compareOp .NotIn) (zg K):=by
 subst hK;intro pins s σ H x y v u Q I rx ry h;obtain⟨d,ds,h1,h2,s1,s2,nm,q⟩:=h
 obtain⟨as,r1⟩:=h1.reads I rx
 obtain⟨bs,r2⟩:=h2.reads I ry
 exact notIn_list_dataH r2 r1 s2 s1 hu nm ⟨.bl _,H,I,rfl,q⟩
end L2
namespace L2
open PySem
section
variable {ta:TA} {g:TG} {tb:TS} {Dn:Ends} {σ:St} {H:Hp}
theorem nt(Pn:Nat ->Hp ->Prop)(ha:∀R:List V ->Hp ->Prop,(∀(n:Nat) H1,Pn n H1 ->R [.int n] H1) ->ta σ H R)
  (hb:∀n H1,Pn n H1 ->n<1000000 /\ ∃Pv:Nat ->St ->Hp ->Prop,Pv 0 σ H1 /\ (∀i σ H,i<n ->Pv i σ H ->g (.int (0+(i:Int))) σ H fun σ2 H2=>tb {Dn with nx:=Pv (i+1),ct:=Pv (i+1),bk:=Dn.nx} σ2 H2) /\ ∀σ H,Pv n σ H ->Dn.nx σ H):Am (xZ ta) g tb Dn σ H:=
 ha _ fun n H1 hn=>by
  obtain⟨h1,Pv,h0,hs,hd⟩:=hb n H1 hn
  exact⟨n,rfl,by omega,by omega,q5 (lo:=0) (n:=(n:Int).toNat) Pv h0 (fun i σ H hi p=>hs i σ H (by simpa using hi) p) (fun σ H p=>hd σ H (by simpa using p))⟩
end
end L2
namespace L2
open PySem
theorem l5{X:Cx}{a b:Expr}{p:Pos}{es:List Expr}{te:TE}{t:TA}(ha:PE X (.Subscript a b p) te)(hr:PA X es t):PA X (.Subscript a b p::es) (uk te t):=iT ha hr rfl
end L2
namespace L2
open PySem PyProof PyProof.Rows
noncomputable def AX(K:ah):List V ->Hp ->VK ->Prop:=fun xs H Q=>∃(l:Addr) (ns:List Int),xs=[.ref l] /\ SqL K H l (ns.map V.int) /\ ns.length<64 /\ ∀(D:Addr) (ns':List Int),H D=none ->ns'.Perm ns ->ns'.Pairwise (· <= ·) ->Q (.ref D) (upd H D (.lst (ns'.map V.int)))
section
variable {X:Cx}
theorem mG:∀{us:List Value} {ns:List Int},IntsAre us ns ->Vals (ns.map V.int) us
 |_,_,.nil=> .nil
 |_,_,.cons n t h=> .cons ⟨t,rfl⟩ (mG h)
theorem oR{K:ah}(hK:X.K=K):CallR X (.builtin "sorted") (AX K):=by
 subst hK;intro pins s σ H xs us Q I r h;obtain⟨l,ns,rfl,hl,h64,q⟩:=h
 obtain⟨u,rfl,rx⟩:=vals1 r
 cases rx;obtain⟨its,r',pl,hz⟩:=I.list hl
 have hI:IntsAre its ns:=intsAre_of r'
 refine sorted_ints pl.isList hI (by have:=r'.length;rw[ae] at this;omega) fun out ns' a1 a2 a3=> ?_
 obtain⟨e,he⟩:=sortedAll_at s.heap its out
 refine⟨.ref _,_,I.laid (t':=s.toks) (o:= .lst (ns'.map V.int)) (fun b ob q=>sortedAll_old q) (iu _) ?_,rfl,q _ ns' (I.hok.fresh (iu _)) a2 a3⟩;refine⟨?_,out.toList,e,mG a1,?_⟩
 ·rw[ae,a2.length_eq];have:64<=sizeLine:=by decide
  omega
 ·exact he
end
end L2
namespace L2
open PySem PySem.Spec PyProof.Rows
section
variable {X:Cx} {a b:Expr} {ta tb:TE} {pos:Pos}
noncomputable def Au(i:Nat):TE:=fun σ H Q=>match σ[i]? with
 |some (some v)=>Q v H
 |_=>False
theorem pvF(i:Nat){x:Str}(hN:X.N[i]? =some x:=by rfl)(hv:Vis X.env.scope x:=by first|exact aS rfl|exact gR (aS rfl)|exact gR (gR rfl))(hd:(x==("__debug__":Str))=false:=by decide)
  (hcd:(x==("__classdict__":Str))=false:=by decide):PE X (.Name x pos) (Au i):=by
 intro pins s σ H Q I h;refine pv i hN hv hd hcd pins s σ H Q I ?_;unfold Au at h;split at h
 ·exact⟨_,‹_›,h⟩
 ·exact h.elim
noncomputable def fI(C:Int ->Int ->Prop)(g:Int ->Int ->V):R2:=fun x y H Q=>match x,y with
 | .int i,.int j=>C i j /\ Q (g i j) H
 |_,_=>False
noncomputable def fI0(g:Int ->Int ->V):R2:=fun x y H Q=>match x,y with
 | .int i,.int j=>Q (g i j) H
 |_,_=>False
noncomputable def fU(g:Int ->V):V ->Hp ->VK ->Prop:=fun x H Q=>match x with
 | .int i=>Q (g i) H
 |_=>False
theorem OpR.f{F:Value ->Value ->Sem Value}{C:Int ->Int ->Prop}{g:Int ->Int ->V}(h:OpR X F (rI C g)):OpR X F (fI C g):=by
 intro pins s σ H x y v u Q I r1 r2 q;refine h pins s σ H x y v u Q I r1 r2 ?_;unfold fI at q;split at q
 ·exact⟨_,_,rfl,rfl,q.1,q.2⟩
 ·exact q.elim
theorem OpR.f0{F:Value ->Value ->Sem Value}{g:Int ->Int ->V}(h:OpR X F (rI0 g)):OpR X F (fI0 g):=by
 intro pins s σ H x y v u Q I r1 r2 q;refine h pins s σ H x y v u Q I r1 r2 ?_;unfold fI0 at q;split at q
 ·exact⟨_,_,rfl,rfl,q⟩
 ·exact q.elim
theorem UnR.f{F:Value ->Sem Value}{g:Int ->V}(h:UnR X F (rU g)):UnR X F (fU g):=by
 intro pins s σ H x v Q I r1 q;refine h pins s σ H x v Q I r1 ?_;unfold fU at q;split at q
 ·exact⟨_,rfl,q⟩
 ·exact q.elim
noncomputable def fEq:R2:=fun x y H Q=>match x,y with
 | .int i,.int j=>Q (.bl (decide (i=j))) H
 |_,_=>rEq x y H Q
noncomputable def fNe:R2:=fun x y H Q=>match x,y with
 | .int i,.int j=>Q (.bl (!decide (i=j))) H
 |_,_=>rNe x y H Q
theorem OpR.e{F:Value ->Value ->Sem Value}(h:OpR X F rEq):OpR X F fEq:=by
 intro pins s σ H x y v u Q I r1 r2 q;refine h pins s σ H x y v u Q I r1 r2 ?_;unfold fEq at q;split at q
 ·refine⟨rfl,?_⟩
  simpa only[V.int.injEq] using q
 ·exact q
theorem OpR.n{F:Value ->Value ->Sem Value}(h:OpR X F rNe):OpR X F fNe:=by
 intro pins s σ H x y v u Q I r1 r2 q;refine h pins s σ H x y v u Q I r1 r2 ?_;unfold fNe at q;split at q
 ·refine⟨rfl,?_⟩
  simpa only[V.int.injEq] using q
 ·exact q
theorem jX:OpR X (compareOp .Eq) (fI0 fun i j=> .bl (decide (i=j))):=OpR.f0 (Ap fun _ _ _ _ _ _ _ q=>eq_int q)
theorem qQ:OpR X (compareOp .NotEq) (fI0 fun i j=> .bl (!decide (i=j))):=OpR.f0 (Ap fun _ _ _ _ _ _ _ q=>ne_int q)
noncomputable def B4:R2:=fun x y H Q=>match x,y with
 | .bl i,.bl j=>Q (.bl (!decide (i=j))) H
 |_,_=>False
noncomputable def uD(t:TE):TT:=fun σ H Q=>t σ H fun x H'=>match x with
 | .bl k=>Q k H'
 |_=>False
theorem ja{op:CmpOp}{r:R2}(ho:OpR X (compareOp op) r)(ha:PE X a ta)(hb:PE X b tb)(hm:behindInMarks op b=false):PT X (.Compare a [op] [b] pos) (uD (tOp r ta tb)):=by
 intro pins s σ H Q I h;refine wpAny_isTrue_Compare1 (thn (ha pins s σ H _ I h) fun v s1 ⟨x,H1,I1,r1,q1⟩=>thn (hb pins s1 σ H1 _ I1 q1) fun u s2 ⟨y,H2,I2,r2,q2⟩=>
  thn (ho pins s2 σ H2 x y v u _ I2 r1 r2 q2) fun c s3 ⟨z,H3,I3,r3,q3⟩=> ?_) hm
 dsimp only at q3;split at q3
 ·cases r3;exact wpAny_truthy_bool ⟨H3,I3,q3⟩
 ·exact q3.elim
noncomputable def uE(t:TG)(u:TGs):TGs:=fun vs σ H Q=>match vs with
 |v::r=>t v σ H fun σ' H'=>u r σ' H' Q
 |[]=>False
noncomputable def Av:TGs:=fun vs σ H Q=>match vs with
 |[]=>Q σ H
 |_=>False
theorem jv:PGs X [] Av:=by
 intro pins s σ H vs us Q I r h;refine zo pins s σ H vs us Q I r ?_;unfold Av at h;split at h
 ·exact⟨rfl,h⟩
 ·exact h.elim
theorem iZ{e:Expr}{es:List Expr}{t:TG}{u:TGs}(h1:PG X e t)(h2:PGs X es u)
  (hs:(assignEach (e::es) X.env).map (·.2)=assign e X.env::(assignEach es X.env).map (·.2):=by rfl):PGs X (e::es) (uE t u):=by
 intro pins s σ H vs us Q I r h;refine xI h1 h2 hs pins s σ H vs us Q I r ?_;unfold uE at h;split at h
 ·exact⟨_,_,rfl,h⟩
 ·exact h.elim
theorem mD{e:Expr}{t:TE}(h:PE X e t)(he:∀whole,isTrue e X.env whole=(do let v<-whole;standAt e.pos;holding [v] (truthy v)):=by intro _;rfl):PT X e (uD t):=by
 intro pins s σ H Q I hw;refine isTrue_plain (thn (h pins s σ H _ I hw) fun v s1 ⟨x,H1,I1,r1,q1⟩=> ?_) (he _);dsimp only at q1;split at q1
 ·cases r1;exact wpAny_truthy_bool ⟨H1,I1,q1⟩
 ·exact q1.elim
end
end L2
namespace L2
open PySem PySem.Spec PyProof.Rows
noncomputable def BS(td ti:TE):TE:=fun σ H Q=>td σ H fun x H1=>ti σ H1 fun y H2=>match x,y with
 | .ref a,.int i=>kH (yk (H2 a)) fun kvs=>kH (qt kvs (Sum.inl i)) fun v=>Q v H2
 |_,_=>False
noncomputable def BR(td ti tv:TE):TS:=fun D σ H=>tv σ H fun v H1=>td σ H1 fun x H2=>ti σ H2 fun y H3=>match x,y with
 | .ref a,.int i=>kH (yk (H3 a)) fun kvs=>kvs.length<1000000 /\ D.nx σ (upd H3 a (.dK (putK kvs (Sum.inl i) v)))
 |_,_=>False
noncomputable def sR(td ti tx:TE):TE:=fun σ H Q=>td σ H fun x H1=>match x with
 | .ref a=>(yk (H1 a)).isSome=true /\ ti σ H1 fun y H2=>tx σ H2 fun z H3=>match y with
  | .int i=>kH (yk (H3 a)) fun kvs=>Q ((qt kvs (Sum.inl i)).getD z) H3
  |_=>False
 |_=>False
noncomputable def tE:V ->List V ->Hp ->VK ->Prop:=fun x vs H Q=>match x,vs with
 | .ref l,[.int i]=>kH (lK (H l)) fun xs=>xs.length<1000000 /\ kH (ixN xs.length i) fun k=>kH (xs[k]?) fun y=>Q y (upd H l (.lst (xs.eraseIdx k)))
 |_,_=>False
noncomputable def BW:V ->List V ->Hp ->VK ->Prop:=fun x vs H Q=>match x,vs with
 | .ref l,[]=>kH (lK (H l)) fun xs=>Q .non (upd H l (.lst xs.reverse))
 |_,_=>False
noncomputable def qg(n:Nat)(i:Int):Nat:=if i<0 then(i+(n:Int)).toNat else min i.toNat n
noncomputable def zQ:V ->List V ->Hp ->VK ->Prop:=fun x vs H Q=>match x,vs with
 | .ref l,[.int i,y]=>kH (lK (H l)) fun xs=>xs.length<1000000 /\ (-(2^63)<=i /\ i<2^63) /\ Q .non (upd H l (.lst (xs.take (qg xs.length i)++[y]++xs.drop (qg xs.length i))))
 |_,_=>False
section
variable {X:Cx}
theorem zB:MtM X "list.insert" zQ:=by
 intro pins s σ H x vs v us Q I rx rv h;unfold zQ at h;split at h
 ·rename_i l i y
  obtain⟨xs,e,hl,⟨hi1,hi2⟩,q⟩:=jy h
  replace e:=kU e
  cases rx;obtain⟨u,w,rfl,ru,rw'⟩:=rv.two
  obtain⟨t,rfl⟩:=ru
  obtain⟨z,its,n,r,hl',e'⟩:=I.lstM e
  have hz:its.toArray.size<=sizeLine:=by rw[ax];omega
  refine call_meets F.slot_list_insert ⟨_,e',rfl⟩ F.entry_list_insert (F.args_list_insert_3 _ _ _) (fW l its.toArray n i t w (by simp[fitsIndex_both hi1 hi2]) hz) ⟨e',?_⟩;refine⟨.non,upd H l (.lst (xs.take (qg xs.length i)++[y]++xs.drop (qg xs.length i))),I.lset (its':=its.take (qg its.length i)++[w]++its.drop (qg its.length i)) e e' ?_ ?_ ?_,rfl,?_⟩
  ·show(its.toArray.extract 0 (if i<0 then(i+(its.toArray.size:Int)).toNat else min i.toNat its.toArray.size)).push w++its.toArray.extract (if i<0 then(i+(its.toArray.size:Int)).toNat else min i.toNat its.toArray.size)=_
   rw[ax];unfold qg;generalize(if i<0 then(i+(its.length:Int)).toNat else min i.toNat its.length)=k;simp[List.extract_eq_take_drop];exact cc (by rw[aJ];exact av _)
  ·rw[<-hl'];exact((r.take _).append (.cons rw' .nil)).append (r.drop _)
  ·simp only[aq,az,aJ,f7];have:1000000+1<=sizeLine:=by decide
   omega
  ·exact q
 ·exact h.elim
variable {o e f:Expr} {to:TE} {t:TA} {apos cpos:Pos}
theorem zp(ho:PE X o to)(ha:PA X [e,f] t)
  (hbase:attributeBase o "insert" X.env (eval o X.env)=eval o X.env:=by rfl)
  (hfew:((backTo cpos (starEach [e,f] X.env)).all (fun x=> !x.1)&&(backToKw cpos (keywordEach [] X.env)).all (fun x=>x.1.isSome)
   &&decide ([e,f].length+([]:List Keyword).length+(if([]:List Keyword).isEmpty then 0 else 1)<30))=true:=by rfl)
  (hline:(apos.endLine==cpos.line)=true:=by rfl) (hs:starEach [e,f] X.env=(false,eval e X.env)::starEach [f] X.env:=by rfl) (hplain:(backTo cpos (starEach [f] X.env)).any (·.1)=false:=by rfl):
  PE X (.Call (.Attribute o "insert" apos) [e,f] [] cpos) (tML zQ to t):=by
 intro pins s σ H Q I h;refine A8 fK PySem.F.slot_list_insert PySem.F.type_list_insert zB ho.up ha hbase hfew hline hs hplain pins s σ H Q I ⟨_,h,fun x H1 q=> ?_⟩;cases x with
 |ref l=>
  obtain⟨h1,h2⟩:=q
  obtain⟨xs,e⟩:=dR.mp h1
  exact⟨.inl ⟨rfl,xs,SqL.of (kU e)⟩,h2⟩
 |_=>exact q.elim
end
end L2
namespace L2
open PySem PySem.Spec PyProof.Rows
noncomputable def Cf:List V ->Hp ->VK ->Prop:=fun vs H Q=>∃n:Nat,vs=[.int (n:Int)] /\ n<=1000000 /\ ∀r,H r=none ->Q (.ref r) (upd H r (.rng 0 (n:Int)))
section
variable {X:Cx}
theorem ww:CallR X (.type "range") Cf:=by
 intro pins s σ H xs us Q I r h;obtain⟨n,rfl,hn,q⟩:=h
 obtain⟨u,rfl,ru⟩:=vals1 r
 obtain⟨t,rfl⟩:=ru
 refine call_range_1 ?_;refine⟨.ref s.heap.objs.size,_,I.laid (t':=s.toks+1+1) (o:= .rng 0 (n:Int)) (fun b ob e=>Heap.get?_push_of_some _ e) (av _) ?_,rfl,q _ (I.hok.fresh (av _))⟩;exact⟨_,_,_,Heap.get?_push_size _ rfl⟩
end
end L2
namespace L2
open PySem PySem.Spec PyProof.Rows
noncomputable def qA(f:Addr)(tn:TE)(sp:Sp)(E:XK)(t:TA):TE:=fun σ H Q=>tn σ H fun v H'=>v= .ref f /\ t σ H' fun vs H1=>sp vs H1 Q E
section
variable {X:Cx} {CX:CXT} {k:Nat} {ps:List Str} {sp:Sp} {E:XK} {x x0:Str} {p pos:Pos} {e:Expr} {es:List Expr} {t:TA} {tn:TE}
theorem A7{f:Addr}(F:FnB X.prog X.w X.K X.mg X.base CX k x0 ps sp)(hm0:X.mg x0=some (.ref f))(hr:Room k X.A)(hn:PE X (.Name x p) tn)(hx:rA CX X E)
  (ha:PA X (e::es) t) (he:starEach (e::es) X.env=(false,eval e X.env)::starEach es X.env:=by rfl) (hpl:(backTo pos (starEach es X.env)).any (·.1)=false:=by rfl):
  PE X (.Call (.Name x p) (e::es) [] pos) (qA f tn sp E t):=by
 obtain⟨f',fd,F1,hm,hk,hb⟩:=F.ex
 have ef:f'=f:=by
  rw[hm0] at hm;cases hm;rfl
 subst ef;intro pins s σ H Q I h;refine wpAny_Call_Name_kw (thn (hn pins s σ H _ I h) fun u s0 z=> ?_);obtain⟨v,H0,I0,r0,ev,h2⟩:=z
 subst ev;cases r0;have ha2:=ha pos pins s0 σ H0 _ I0 h2
 refine gE (h₀:=X.base) I0.ok.mod.kin hk (thn ha2 fun us s1 z=> ?_) he hpl;obtain⟨vs,H1,I1,r,q⟩:=z
 refine⟨I1.kIn,?_⟩;have hl:us.length=ps.length:=by
  rw[<-r.length];exact F1.len _ _ _ _ q
 have hb2:=hb s1 us I1.kIn (by rw[aI];exact hl)
 rw[aI] at hb2;have run:=F1.run X.A X.stack s1 H1 ⟨us,[]⟩ us vs Q E hr I1.env0 hb2 r q
 refine wpAny_call (codeAny_mono run fun r' s' hq=> ?_)
 match r',hq with
 | .error ev,hq=>exact hx pins σ H1 s1 ev s' I1 hq
 | .ok (.ret u),hq=>exact I1.after hq
 | .ok .next,hq=>exact False.elim hq
 | .ok .brk,hq=>exact False.elim hq
 | .ok .cont,hq=>exact False.elim hq
end
end L2
namespace L2
open PySem PySem.Spec PyProof.Rows
noncomputable abbrev jE(h:Heap)(T:Addr)(a b c:Value):Prop:=h.get? T=some {cls:= .type "tuple",data:= .seq #[a,b,c]}
structure ZipApart3(z TI TO i1 i2 i3 l1 l2 l3:Addr):Prop where
 TIz:TI≠z
 TOz:TO≠z
 TITO:TI≠TO
 i1z:i1≠z
 i2z:i2≠z
 i3z:i3≠z
 TIi1:TI≠i1
 TIi2:TI≠i2
 TIi3:TI≠i3
 TOi1:TO≠i1
 TOi2:TO≠i2
 TOi3:TO≠i3
 i12:i1≠i2
 i13:i1≠i3
 i23:i2≠i3
 l1z:l1≠z
 l1TO:l1≠TO
 l1i1:l1≠i1
 l1i2:l1≠i2
 l1i3:l1≠i3
 l2z:l2≠z
 l2TO:l2≠TO
 l2i1:l2≠i1
 l2i2:l2≠i2
 l2i3:l2≠i3
 l3z:l3≠z
 l3TO:l3≠TO
 l3i1:l3≠i1
 l3i2:l3≠i2
 l3i3:l3≠i3
theorem oz{n l1 l2 l3:Nat}(h1:l1<n)(h2:l2<n)(h3:l3<n):ZipApart3 (n+5) (n+3) (n+4) n (n+1) (n+2) l1 l2 l3:=by
 constructor<;>(first|(intro h;have h:(_:Nat)=_:=h;omega)|(show(_:Nat)≠_;omega))
section
variable {prog:Program} {w:World} {A:Around} {E:Value ->Shared ->Prop} {s:Shared}
theorem oX{T:Addr}{a b c x:Value}{k:Nat}{Q:Unit ->Shared ->Prop}(hT:jE s.heap T a b c)
  (h:∀h',h'.get? T=some {cls:= .type "tuple",data:= .seq ((#[a,b,c]:Array Value).setIfInBounds k x)} ->Heap.SameBut T s.heap h' ->Q () {s with heap:=h'}):
  wpAny (model prog w) A (updateSeq T (·.setIfInBounds k x)) Q E s:=by
 refine wpAny_updateSeq hT rfl (h _ ?_ (Heap.SameBut.update ..));rw[Heap.get?_update_self _ hT rfl];simp[Obj.mapSeq]
theorem oi{z TI TO i1 i2 i3 l1 l2 l3:Addr}{k:Nat}{xs1 xs2 xs3:Array Value}{x1 x2 x3 a b c:Value}{Q:Value ->Shared ->Prop}(D:ZipApart3 z TI TO i1 i2 i3 l1 l2 l3)
  (hz:IsZip s.heap z TI TO .none) (hTI:jE s.heap TI (.ref i1) (.ref i2) (.ref i3)) (hTO:jE s.heap TO a b c)
  (h1:s.heap.IsListIter i1 l1 k) (h2:s.heap.IsListIter i2 l2 k) (h3:s.heap.IsListIter i3 l3 k) (hl1:s.heap.IsList l1 xs1) (hl2:s.heap.IsList l2 xs2) (hl3:s.heap.IsList l3 xs3) (hx1:xs1[k]? =some x1) (hx2:xs2[k]? =some x2) (hx3:xs3[k]? =some x3)
  (hQ:∀h',IsZip h' z TI TO (rawInt s.heap.objs.size) ->jE h' TO x1 x2 x3 ->h'.IsListIter i1 l1 (k+1) ->h'.IsListIter i2 l2 (k+1) ->h'.IsListIter i3 l3 (k+1) ->jE h' s.heap.objs.size x1 x2 x3 ->h'.objs.size=s.heap.objs.size+1 ->(∀c o,c≠z ->c≠TO ->c≠i1 ->c≠i2 ->c≠i3 ->s.heap.get? c=some o ->h'.get? c=some o) ->Q (.ref s.heap.objs.size) {s with heap:=h'}):
  wpAny (model prog w) A (Builtin.«zip.__next__» ⟨[.ref z],[]⟩) (fun fin s'=>∃v,fin= .done (.ret v) /\ Q v s') E s:=by
 show wpAny _ _ (field (.ref z) 2>>=_) _ _ _
 refine wpAny_bind (wpAny_field hz rfl (x:= .bool false) rfl ?_);show wpAny _ _ (field (.ref z) 3>>=_) _ _ _
 refine wpAny_bind (wpAny_field hz rfl (x:= .ref TI) rfl ?_);refine wpAny_bind (wpAny_seqItems hTI rfl ?_);show wpAny _ _ (Builtin.SmallTypes.ownedTupleIsFree (.ref z)>>=_) _ _ _
 refine wpAny_bind ?_;unfold Builtin.SmallTypes.ownedTupleIsFree;refine wpAny_bind (wpAny_field hz rfl (x:= .none) rfl (wpAny_pure ?_));simp only[if_true];refine wpAny_bind (wpAny_rule ?_);refine wpAny_bind (wpAny_field hz rfl (x:= .ref TO) rfl ?_);refine wpAny_bind (wpAny_setField_rec hz (by simp) fun g1 hz1 hs1=> ?_);replace hz1:IsZip g1 z TI TO .ellipsis:=hz1
 refine wpAny_bind ?_;simp only[gZ,iy,fc,iH];refine wpAny_bind (wpAny_bind (wpAny_onRaise ?_));show wpAny _ _ (Builtin.SmallTypes.nextOf (.ref i1)>>=_) _ _ _
 refine wpAny_bind (wpAny_nextOf_list_item (h1.extBut hs1.extBut D.i1z) (hl1.extBut hs1.extBut D.l1z) hx1 fun g2 hi1 hs2=>wpAny_pure ?_);have hTO2:jE g2 TO a b c:=(hs2.extBut _ _ D.TOi1 (hs1.extBut _ _ D.TOz hTO))
 refine wpAny_bind (wpAny_seqItems hTO2 rfl ?_);refine wpAny_bind (oX hTO2 fun g3 hTO3 hs3=> ?_);replace hTO3:jE g3 TO x1 b c:=hTO3
 refine wpAny_bind (wpAny_letGo (wpAny_pure ?_));refine wpAny_bind (wpAny_bind (wpAny_onRaise ?_));show wpAny _ _ (Builtin.SmallTypes.nextOf (.ref i2)>>=_) _ _ _
 refine wpAny_bind (wpAny_nextOf_list_item (((h2.extBut hs1.extBut D.i2z).extBut hs2.extBut D.i12.symm).extBut hs3.extBut D.TOi2.symm) (((hl2.extBut hs1.extBut D.l2z).extBut hs2.extBut D.l2i1).extBut hs3.extBut D.l2TO) hx2 fun g4 hi2 hs4=>wpAny_pure ?_);have hTO4:jE g4 TO x1 b c:=(hs4.extBut _ _ D.TOi2 hTO3)
 refine wpAny_bind (wpAny_seqItems hTO4 rfl ?_);refine wpAny_bind (oX hTO4 fun g5 hTO5 hs5=> ?_);replace hTO5:jE g5 TO x1 x2 c:=hTO5
 refine wpAny_bind (wpAny_letGo (wpAny_pure ?_));refine wpAny_bind (wpAny_bind (wpAny_onRaise ?_));show wpAny _ _ (Builtin.SmallTypes.nextOf (.ref i3)>>=_) _ _ _
 refine wpAny_bind (wpAny_nextOf_list_item (((((h3.extBut hs1.extBut D.i3z).extBut hs2.extBut D.i13.symm).extBut hs3.extBut D.TOi3.symm).extBut hs4.extBut D.i23.symm).extBut hs5.extBut D.TOi3.symm) (((((hl3.extBut hs1.extBut D.l3z).extBut hs2.extBut D.l3i1).extBut hs3.extBut D.l3TO).extBut hs4.extBut D.l3i2).extBut hs5.extBut D.l3TO) hx3 fun g6 hi3 hs6=>wpAny_pure ?_);have hTO6:jE g6 TO x1 x2 c:=(hs6.extBut _ _ D.TOi3 hTO5)
 refine wpAny_bind (wpAny_seqItems hTO6 rfl ?_);refine wpAny_bind (oX hTO6 fun g7 hTO7 hs7=> ?_);replace hTO7:jE g7 TO x1 x2 x3:=hTO7
 refine wpAny_bind (wpAny_letGo (wpAny_pure (wpAny_pure ?_)));refine wpAny_bind (wpAny_seqItems hTO7 rfl ?_);refine wpAny_bind (wpAny_newTuple ?_);have hsz:g7.objs.size=s.heap.objs.size:=by rw[hs7.1,hs6.1,hs5.1,hs4.1,hs3.1,hs2.1,hs1.1]
 have hz7:IsZip g7 z TI TO .ellipsis:=(hs7.extBut _ _ D.TOz.symm (hs6.extBut _ _ D.i3z.symm (hs5.extBut _ _ D.TOz.symm (hs4.extBut _ _ D.i2z.symm (hs3.extBut _ _ D.TOz.symm (hs2.extBut _ _ D.i1z.symm hz1))))))
 have hk7:∀c o,c≠z ->c≠TO ->c≠i1 ->c≠i2 ->c≠i3 ->s.heap.get? c=some o ->g7.get? c=some o:=fun c o c1 c2 c3 c4 c5 e=>(hs7.extBut _ _ c2 (hs6.extBut _ _ c5 (hs5.extBut _ _ c2 (hs4.extBut _ _ c4 (hs3.extBut _ _ c2 (hs2.extBut _ _ c3 (hs1.extBut _ _ c1 e)))))))
 have h17:g7.IsListIter i1 l1 (k+1):=(((((hi1.extBut hs3.extBut D.TOi1.symm).extBut hs4.extBut D.i12).extBut hs5.extBut D.TOi1.symm).extBut hs6.extBut D.i13).extBut hs7.extBut D.TOi1.symm)
 have h27:g7.IsListIter i2 l2 (k+1):=(((hi2.extBut hs5.extBut D.TOi2.symm).extBut hs6.extBut D.i23).extBut hs7.extBut D.TOi2.symm)
 have h37:g7.IsListIter i3 l3 (k+1):=(hi3.extBut hs7.extBut D.TOi3.symm)
 have hzlt:z<g7.objs.size:=Heap.lt_size hz7
 show wpAny _ _ (Builtin.SmallTypes.ownedTupleHandOut (.ref z) (.ref g7.objs.size)>>=_) _ _ _
 refine wpAny_bind ?_;unfold Builtin.SmallTypes.ownedTupleHandOut;have hz8:IsZip (g7.push {cls:= .type "tuple",data:= .seq #[x1,x2,x3]}) z TI TO .ellipsis:=Heap.get?_push_of_some _ hz7
 refine wpAny_bind (wpAny_setField_rec hz8 (by simp) fun g9 hz9 hs9=> ?_);replace hz9:IsZip g9 z TI TO (rawInt g7.objs.size):=hz9
 refine wpAny_setField_rec hz9 (by simp) fun g10 hz10 hs10=> ?_
 replace hz10:IsZip g10 z TI TO (rawInt g7.objs.size):=hz10
 have up:∀c o,c≠z ->g7.get? c=some o ->g10.get? c=some o:=fun c o c1 e=>hs10.extBut _ _ c1 (hs9.extBut _ _ c1 (Heap.get?_push_of_some _ e))
 have hT10:jE g10 g7.objs.size x1 x2 x3:=hs10.extBut _ _ (cT hzlt) (hs9.extBut _ _ (cT hzlt) (Heap.get?_push_size _ rfl))
 have hsz10:g10.objs.size=g7.objs.size+1:=by rw[hs10.1,hs9.1,Heap.size_push]
 rw[hsz] at hz10 hT10 hsz10;refine wpAny_pure ⟨_,rfl,?_⟩;show Q (.ref g7.objs.size) _
 rw[hsz];exact hQ g10 hz10 (up _ _ D.TOz hTO7) (h17.at fun o e=>up _ o D.i1z e) (h27.at fun o e=>up _ o D.i2z e) (h37.at fun o e=>up _ o D.i3z e) hT10 hsz10 fun c o c1 c2 c3 c4 c5 e=>up c o c1 (hk7 c o c1 c2 c3 c4 c5 e)
theorem oU{z TI TO i1 i2 i3 l1 l2 l3:Addr}{k:Nat}{xs1:Array Value}{a b c:Value}{Q:Fin ->Shared ->Prop}(hh:A.handled=none)(D:ZipApart3 z TI TO i1 i2 i3 l1 l2 l3)
  (hz:IsZip s.heap z TI TO .none) (hTI:jE s.heap TI (.ref i1) (.ref i2) (.ref i3)) (hTO:jE s.heap TO a b c)
  (h1:s.heap.IsListIter i1 l1 k) (hl1:s.heap.IsList l1 xs1) (hend:xs1[k]? =none)
  (hE:∀h' e,(∀c o,c≠z ->c≠TO ->c≠i1 ->c≠i2 ->c≠i3 ->s.heap.get? c=some o ->h'.get? c=some o) ->(∃o,h'.get? e=some o /\ o.cls= .type "StopIteration") ->E (.ref e) {s with heap:=h'}):
  wpAny (model prog w) A (Builtin.«zip.__next__» ⟨[.ref z],[]⟩) Q E s:=by
 show wpAny _ _ (field (.ref z) 2>>=_) _ _ _
 refine wpAny_bind (wpAny_field hz rfl (x:= .bool false) rfl ?_);show wpAny _ _ (field (.ref z) 3>>=_) _ _ _
 refine wpAny_bind (wpAny_field hz rfl (x:= .ref TI) rfl ?_);refine wpAny_bind (wpAny_seqItems hTI rfl ?_);show wpAny _ _ (Builtin.SmallTypes.ownedTupleIsFree (.ref z)>>=_) _ _ _
 refine wpAny_bind ?_;unfold Builtin.SmallTypes.ownedTupleIsFree;refine wpAny_bind (wpAny_field hz rfl (x:= .none) rfl (wpAny_pure ?_));simp only[if_true];refine wpAny_bind (wpAny_rule ?_);refine wpAny_bind (wpAny_field hz rfl (x:= .ref TO) rfl ?_);refine wpAny_bind (wpAny_setField_rec hz (by simp) fun g1 hz1 hs1=> ?_);replace hz1:IsZip g1 z TI TO .ellipsis:=hz1
 refine wpAny_bind ?_;simp only[gZ,iy,fc,iH];refine wpAny_bind (wpAny_bind (wpAny_onRaise ?_));show wpAny _ _ (Builtin.SmallTypes.nextOf (.ref i1)>>=_) _ _ _
 refine wpAny_bind (wpAny_nextOf_list_end hh (h1.extBut hs1.extBut D.i1z) (hl1.extBut hs1.extBut D.l1z) hend fun g2 e hs2 he=> ?_);obtain⟨oe,hoe,hce⟩:=he
 have hz2:IsZip g2 z TI TO .ellipsis:=hs2 _ _ D.i1z.symm hz1
 have hez:e≠z:=fun x=>by subst x;rw[hz2] at hoe;cases hoe;simp at hce
 refine wpAny_setField_rec hz2 (by simp) fun g3 _ hs3=>hE g3 e (fun c o c1 _ c3 _ _ x=>hs3.extBut _ _ c1 (hs2 _ _ c3 (hs1.extBut _ _ c1 x))) ⟨oe,hs3.extBut _ _ hez hoe,hce⟩
theorem mN{z TI TO i1 i2 i3 l1 l2 l3:Addr}{k:Nat}{xs1 xs2 xs3:Array Value}{x1 x2 x3 a b c:Value}{Q:Option Value ->Shared ->Prop}(D:ZipApart3 z TI TO i1 i2 i3 l1 l2 l3)
  (hz:IsZip s.heap z TI TO .none) (hTI:jE s.heap TI (.ref i1) (.ref i2) (.ref i3)) (hTO:jE s.heap TO a b c)
  (h1:s.heap.IsListIter i1 l1 k) (h2:s.heap.IsListIter i2 l2 k) (h3:s.heap.IsListIter i3 l3 k) (hl1:s.heap.IsList l1 xs1) (hl2:s.heap.IsList l2 xs2) (hl3:s.heap.IsList l3 xs3) (hx1:xs1[k]? =some x1) (hx2:xs2[k]? =some x2) (hx3:xs3[k]? =some x3)
  (hQ:∀h',IsZip h' z TI TO (rawInt s.heap.objs.size) ->jE h' TO x1 x2 x3 ->h'.IsListIter i1 l1 (k+1) ->h'.IsListIter i2 l2 (k+1) ->h'.IsListIter i3 l3 (k+1) ->jE h' s.heap.objs.size x1 x2 x3 ->h'.objs.size=s.heap.objs.size+1 ->(∀c o,c≠z ->c≠TO ->c≠i1 ->c≠i2 ->c≠i3 ->s.heap.get? c=some o ->h'.get? c=some o) ->Q (some (.ref s.heap.objs.size)) {s with heap:=h'}):
  wpAny (model prog w) A (pyNext (.ref z)) Q E s:=by
 have hT:s.TypeIs (.ref z) "zip":=⟨_,hz,rfl⟩
 unfold pyNext;exact wpAny_bind (wpAny_attempt (wpAny_callSpecial?_slot (name:=Str.ofString "__next__") hT F.slot_zip_next
  (wpAny_call_entry F.slot_zip_next hT F.entry_zip_next
   (oi D hz hTI hTO h1 h2 h3 hl1 hl2 hl3 hx1 hx2 hx3 fun h' a1 a2 a3 a4 a5 a6 a7 a8=>wpAny_pure (hQ h' a1 a2 a3 a4 a5 a6 a7 a8)) (F.args_zip_next_1 _))))
theorem nK{z TI TO i1 i2 i3 l1 l2 l3:Addr}{k:Nat}{xs1:Array Value}{a b c:Value}{Q:Option Value ->Shared ->Prop}(hh:A.handled=none)(D:ZipApart3 z TI TO i1 i2 i3 l1 l2 l3)
  (hz:IsZip s.heap z TI TO .none) (hTI:jE s.heap TI (.ref i1) (.ref i2) (.ref i3)) (hTO:jE s.heap TO a b c)
  (h1:s.heap.IsListIter i1 l1 k) (hl1:s.heap.IsList l1 xs1) (hend:xs1[k]? =none)
  (hQ:∀h',(∀c o,c≠z ->c≠TO ->c≠i1 ->c≠i2 ->c≠i3 ->s.heap.get? c=some o ->h'.get? c=some o) ->Q none {s with heap:=h'}):wpAny (model prog w) A (pyNext (.ref z)) Q E s:=by
 have hT:s.TypeIs (.ref z) "zip":=⟨_,hz,rfl⟩
 unfold pyNext;refine wpAny_bind (wpAny_attempt (wpAny_callSpecial?_slot (name:=Str.ofString "__next__") hT F.slot_zip_next
  (wpAny_call_entry F.slot_zip_next hT F.entry_zip_next (oU hh D hz hTI hTO h1 hl1 hend fun h' e hk he=> ?_) (F.args_zip_next_1 _))))
 obtain⟨o,ho,hc⟩:=he
 refine wpAny_bind (wpAny_isInstance (T:="StopIteration") (b:=true) ⟨o,ho,hc⟩ isSubtype_stop ?_);exact wpAny_pure (hQ _ hk)
end
theorem oj(a b c:Value):checkTypeCall "zip" ⟨[a,b,c],[]⟩=pure ():=by kernel_rfl
theorem pW(a b c:Value):checkBuiltinCall "zip.__new__" ⟨[.type "zip",a,b,c],[]⟩=pure ():=by kernel_rfl
theorem mv(a b c d:Value):argsOk "object.__init__" ⟨[a,b,c,d],[]⟩:=by
 unfold argsOk;rw[signature?_of (id:="object.__init__") (n:=['_', '_', 't', 'i', 'n', 'i', '_', '_']) (o:=['t', 'c', 'e', 'j', 'b', 'o']) (by kernel_rfl) F.owner_object];kernel_rfl
noncomputable abbrev wN(h:Heap)(l1:Addr):Heap:=h.push {cls:= .type "list_iterator",data:= .fields #[.ref l1,.int 0 0]}
noncomputable abbrev wM(h:Heap)(l1 l2:Addr):Heap:=(wN h l1).push {cls:= .type "list_iterator",data:= .fields #[.ref l2,.int 0 0]}
noncomputable abbrev wL(h:Heap)(l1 l2 l3:Addr):Heap:=(wM h l1 l2).push {cls:= .type "list_iterator",data:= .fields #[.ref l3,.int 0 0]}
noncomputable abbrev wK(h:Heap)(l1 l2 l3:Addr):Heap:=(wL h l1 l2 l3).push {cls:= .type "tuple",data:= .seq #[.ref h.objs.size,.ref (wN h l1).objs.size,.ref (wM h l1 l2).objs.size]}
noncomputable abbrev wJ(h:Heap)(l1 l2 l3:Addr):Heap:=(wK h l1 l2 l3).push {cls:= .type "tuple",data:= .seq #[.none,.none,.none]}
noncomputable abbrev qu(h:Heap)(l1 l2 l3:Addr):Heap:=(wJ h l1 l2 l3).push {cls:= .type "zip",data:= .fields #[.none,.bool false,.bool false,.ref (wL h l1 l2 l3).objs.size,.ref (wK h l1 l2 l3).objs.size]}
set_option maxHeartbeats 4000000 in
theorem ot(l1 l2 l3:Addr)(xs ys zs:Array Value):
  Meets (Builtin.«zip.__new__» ⟨[.type "zip",.ref l1,.ref l2,.ref l3],[]⟩) (fun _ R s=>s.heap.IsList l1 xs /\ s.heap.IsList l2 ys /\ s.heap.IsList l3 zs /\
   R (.ok (.ret (.ref (wJ s.heap l1 l2 l3).objs.size))) {s with heap:=qu s.heap l1 l2 l3}):=
 .of_wp fun prog w A R s h=>by
  obtain⟨hp,g,d,tk,os⟩:=s;obtain⟨hl1,hl2,hl3,h⟩:=h
  have hsub:=sub_zip
  have hL1:Heap.IsList (Shared.heap ⟨hp,g,d,tk,os⟩) l1 xs:=hl1
  have hL2:Heap.IsList (Shared.heap ⟨hp.push {cls:= .type "list_iterator",data:= .fields #[.ref l1,.int 0 0]},g,d,tk,os⟩) l2 ys:=Heap.IsList.push hl2 _
  have hL3:Heap.IsList (Shared.heap ⟨(hp.push {cls:= .type "list_iterator",data:= .fields #[.ref l1,.int 0 0]}).push {cls:= .type "list_iterator",data:= .fields #[.ref l2,.int 0 0]},g,d,tk,os⟩) l3 zs:=Heap.IsList.push (Heap.IsList.push hl3 _) _
  wp_walk using wpAny_pyIter_list hL1,wpAny_pyIter_list hL2,wpAny_pyIter_list hL3
  exact⟨_,rfl,h⟩
section
variable {prog:Program} {w:World} {A:Around} {E:Value ->Shared ->Prop} {s:Shared}
theorem uH{l1 l2 l3:Addr}{xs ys zs:Array Value}{Q:Value ->Shared ->Prop}(hl1:s.heap.IsList l1 xs)(hl2:s.heap.IsList l2 ys)(hl3:s.heap.IsList l3 zs)
  (h:∀h',IsZip h' (s.heap.objs.size+5) (s.heap.objs.size+3) (s.heap.objs.size+4) .none ->jE h' (s.heap.objs.size+3) (.ref s.heap.objs.size) (.ref (s.heap.objs.size+1)) (.ref (s.heap.objs.size+2)) ->
   jE h' (s.heap.objs.size+4) .none .none .none ->h'.IsListIter s.heap.objs.size l1 0 ->h'.IsListIter (s.heap.objs.size+1) l2 0 ->h'.IsListIter (s.heap.objs.size+2) l3 0 ->h'.objs.size=s.heap.objs.size+6 ->
   (∀c o,s.heap.get? c=some o ->h'.get? c=some o) ->Q (.ref (s.heap.objs.size+5)) {s with heap:=h'}):
  wpAny (model prog w) A (call (.type "zip") [.ref l1,.ref l2,.ref l3]) Q E s:=by
 refine callType_new F.called_zip (by decide) (oj _ _ _) (pW _ _ _) (fun obj=>mv obj _ _ _) F.entry_zip_new
  (ot l1 l2 l3 xs ys zs) ⟨hl1,hl2,hl3,?_⟩
 have z1:(wN s.heap l1).objs.size=s.heap.objs.size+1:=Heap.size_push ..
 have z2:(wM s.heap l1 l2).objs.size=s.heap.objs.size+2:=by rw[Heap.size_push,z1]
 have z3:(wL s.heap l1 l2 l3).objs.size=s.heap.objs.size+3:=by rw[Heap.size_push,z2]
 have z4:(wK s.heap l1 l2 l3).objs.size=s.heap.objs.size+4:=by rw[Heap.size_push,z3]
 have z5:(wJ s.heap l1 l2 l3).objs.size=s.heap.objs.size+5:=by rw[Heap.size_push,z4]
 have z6:(qu s.heap l1 l2 l3).objs.size=s.heap.objs.size+6:=by rw[Heap.size_push,z5]
 have g6:(qu s.heap l1 l2 l3).get? (wJ s.heap l1 l2 l3).objs.size=some _:=Heap.get?_push_size _ rfl
 have g5:(qu s.heap l1 l2 l3).get? (wK s.heap l1 l2 l3).objs.size=some _:=Heap.get?_push_of_some _ (Heap.get?_push_size _ rfl)
 have g4:(qu s.heap l1 l2 l3).get? (wL s.heap l1 l2 l3).objs.size=some _:=Heap.get?_push_of_some _ (Heap.get?_push_of_some _ (Heap.get?_push_size _ rfl))
 have g3:(qu s.heap l1 l2 l3).get? (wM s.heap l1 l2).objs.size=some _:=Heap.get?_push_of_some _ (Heap.get?_push_of_some _ (Heap.get?_push_of_some _ (Heap.get?_push_size _ rfl)))
 have g2:(qu s.heap l1 l2 l3).get? (wN s.heap l1).objs.size=some _:=Heap.get?_push_of_some _ (Heap.get?_push_of_some _ (Heap.get?_push_of_some _ (Heap.get?_push_of_some _ (Heap.get?_push_size _ rfl))))
 have g1:(qu s.heap l1 l2 l3).get? s.heap.objs.size=some _:=Heap.get?_push_of_some _ (Heap.get?_push_of_some _ (Heap.get?_push_of_some _ (Heap.get?_push_of_some _ (Heap.get?_push_of_some _ (Heap.get?_push_size _ rfl)))))
 show _ /\ _
 rw[z3,z4,z5] at g6;rw[z1,z2,z3] at g4;rw[z4] at g5;rw[z2] at g3;rw[z1] at g2;rw[z5];exact⟨⟨_,g6,rfl⟩,h _ g6 g4 g5 ⟨_,g1,rfl,rfl⟩ ⟨_,g2,rfl,rfl⟩ ⟨_,g3,rfl,rfl⟩ z6 fun c o x=>
  Heap.get?_push_of_some _ (Heap.get?_push_of_some _ (Heap.get?_push_of_some _ (Heap.get?_push_of_some _ (Heap.get?_push_of_some _ (Heap.get?_push_of_some _ x)))))⟩
theorem oA(hh:A.handled=none)(z TI TO i1 i2 i3 l1 l2 l3:Addr)(D:ZipApart3 z TI TO i1 i2 i3 l1 l2 l3)(xs ys zs:Array Value)(e2:ys.size=xs.size)(e3:zs.size=xs.size):
  WalksT prog w A z [z,TI,TO,i1,i2,i3,l1,l2,l3] [z,TO,i1,i2,i3] xs.size
   (fun i vals=>∃x y v,xs[i]? =some x /\ ys[i]? =some y /\ zs[i]? =some v /\ vals= #[x,y,v])
   (fun i h=>IsZip h z TI TO .none /\ jE h TI (.ref i1) (.ref i2) (.ref i3) /\ (∃a b c,jE h TO a b c) /\ h.IsListIter i1 l1 i /\ h.IsListIter i2 l2 i /\ h.IsListIter i3 l3 i /\ h.IsList l1 xs /\ h.IsList l2 ys /\ h.IsList l3 zs)
   (fun i T h=>IsZip h z TI TO (rawInt T) /\ jE h TI (.ref i1) (.ref i2) (.ref i3) /\ (∃a b c,jE h TO a b c) /\ h.IsListIter i1 l1 (i+1) /\ h.IsListIter i2 l2 (i+1) /\ h.IsListIter i3 l3 (i+1) /\ h.IsList l1 xs /\ h.IsList l2 ys /\ h.IsList l3 zs /\
    T≠z /\ T≠TO /\ T≠i1 /\ T≠i2 /\ T≠i3) where
 sub:=fun c hc=>by simp at hc⊢;rcases hc with rfl|rfl|rfl|rfl|rfl<;>simp
 frame:=fun i h h' hst hk=>by
  obtain⟨hz,hTI,⟨a,b,c,hTO⟩,h1,h2,h3,hl1,hl2,hl3⟩:=hst
  exact⟨hk z (by simp) _ hz,hk TI (by simp) _ hTI,⟨a,b,c,hk TO (by simp) _ hTO⟩,h1.at fun o e=>hk i1 (by simp) o e,h2.at fun o e=>hk i2 (by simp) o e,h3.at fun o e=>hk i3 (by simp) o e,
   hl1.at fun o e=>hk l1 (by simp) o e,hl2.at fun o e=>hk l2 (by simp) o e,hl3.at fun o e=>hk l3 (by simp) o e⟩
 item:=fun i s Q E hi hst hQ=>by
  obtain⟨hz,hTI,⟨a,b,c,hTO⟩,h1,h2,h3,hl1,hl2,hl3⟩:=hst
  have hiy:i<ys.size:=by omega
  have hiz:i<zs.size:=by omega
  refine mN D hz hTI hTO h1 h2 h3 hl1 hl2 hl3 (bL hi) (bL hiy) (bL hiz) fun h' a1 a2 a3 a4 a5 a6 a7 hk=> ?_
  have lt:∀{c o},s.heap.get? c=some o ->s.heap.objs.size≠c:=fun e=>cT (Heap.lt_size e)
  exact hQ s.heap.objs.size #[xs[i],ys[i],zs[i]] h' s.toks ⟨_,_,_,bL hi,bL hiy,bL hiz,rfl⟩ (av _) ⟨_,a6,rfl,_,rfl⟩
   ⟨a1,hk _ _ D.TIz D.TITO D.TIi1 D.TIi2 D.TIi3 hTI,⟨_,_,_,a2⟩,a3,a4,a5,hl1.at fun o e=>hk _ o D.l1z D.l1TO D.l1i1 D.l1i2 D.l1i3 e,hl2.at fun o e=>hk _ o D.l2z D.l2TO D.l2i1 D.l2i2 D.l2i3 e,hl3.at fun o e=>hk _ o D.l3z D.l3TO D.l3i1 D.l3i2 D.l3i3 e,
    lt hz,lt hTO,(by obtain⟨_,e,_⟩:=h1;exact lt e),(by obtain⟨_,e,_⟩:=h2;exact lt e),(by obtain⟨_,e,_⟩:=h3;exact lt e)⟩
   fun c o hc e=>hk c o (fun x=>hc (by simp[x])) (fun x=>hc (by simp[x])) (fun x=>hc (by simp[x])) (fun x=>hc (by simp[x])) (fun x=>hc (by simp[x])) e
 go:=fun elts k pos i T s Q E hm hQ=>by
  obtain⟨hz,hTI,⟨a,b,c,hTO⟩,h1,h2,h3,hl1,hl2,hl3,_⟩:=hm
  refine wpAny_letOwnedTupleGo_zip hz fun h' hz' hs'=>hQ h' ⟨hz',hs'.extBut _ _ D.TIz hTI,⟨a,b,c,hs'.extBut _ _ D.TOz hTO⟩,h1.extBut hs'.extBut D.i1z,h2.extBut hs'.extBut D.i2z,h3.extBut hs'.extBut D.i3z,
   hl1.extBut hs'.extBut D.l1z,hl2.extBut hs'.extBut D.l2z,hl3.extBut hs'.extBut D.l3z⟩ fun c o hc e=>hs'.extBut _ _ (fun x=>hc (by simp[x])) e
 apart:=fun i T h hm hT=>by
  obtain⟨_,_,_,_,_,_,_,_,_,t1,t2,t3,t4,t5⟩:=hm
  simp at hT;rcases hT with rfl|rfl|rfl|rfl|rfl
  ·exact t1 rfl
  ·exact t2 rfl
  ·exact t3 rfl
  ·exact t4 rfl
  ·exact t5 rfl
 done:=fun s Q E hst hQ=>by
  obtain⟨hz,hTI,⟨a,b,c,hTO⟩,h1,h2,h3,hl1,hl2,hl3⟩:=hst
  exact nK hh D hz hTI hTO h1 hl1 (Array.getElem?_eq_none (av _)) fun h' hk=>hQ h' s.toks fun c o hc e=>
   hk c o (fun x=>hc (by simp[x])) (fun x=>hc (by simp[x])) (fun x=>hc (by simp[x])) (fun x=>hc (by simp[x])) (fun x=>hc (by simp[x])) e
 self:=fun i s Q E hst hQ=>wpAny_pyIter_zip hst.1 hQ
end
noncomputable def CI(K:ah)(a b c:Addr):It:=
 ⟨fun i H=>∃xs ys zs,SqL K H a xs /\ SqL K H b ys /\ SqL K H c zs /\ ys.length=xs.length /\ zs.length=xs.length /\ i<xs.length,
  fun i H v H'=>∃t,v= .ref t /\ H t=none /\ ∀xs ys zs x y z,SqL K H a xs ->SqL K H b ys ->SqL K H c zs ->xs[i]? =some x ->ys[i]? =some y ->zs[i]? =some z ->H'=upd H t (.tup [x,y,z]),
  fun i H=>∃xs ys zs,SqL K H a xs /\ SqL K H b ys /\ SqL K H c zs /\ ys.length=xs.length /\ zs.length=xs.length /\ i=xs.length⟩
noncomputable def Bs(K:ah)(ta:TA):TI:=fun σ H R=>ta σ H fun vs H1=>∃a b c,vs=[.ref a,.ref b,.ref c] /\ (∃xs,SqL K H1 a xs) /\ (∃ys,SqL K H1 b ys) /\ (∃zs,SqL K H1 c zs) /\ R (CI K a b c) H1
theorem wI{X:Cx}{pins:List (Addr×Obj)}{σ:St}{H:Hp}{s:Shared}{h':Heap}{tk:Nat}{wr:List Addr}{T:Addr}{x y z:V}{u v w:Value}(I:Inv X pins σ H s)(hf:∀b∈wr,uJ X pins H b)(hT:s.heap.objs.size<=T)
  (ht:h'.IsTuple T #[u,v,w]) (rx:RelV x u) (ry:RelV y v) (rz:RelV z w) (k:∀b o,b∉wr ->s.heap.get? b=some o ->h'.get? b=some o):Inv X pins σ (upd H T (.tup [x,y,z])) {s with heap:=h',toks:=tk}:=by
 have hn:H T=none:=I.hok.fresh hT
 have tr:∀b w,H b=some w ->b∉wr:=fun b w e z=>by rw[(hf b z).1] at e;cases e
 refine I.step (g':=s.gens) (d':=s.drawn) (ch:=wr) (fun b hb=> ?_) (fun b o _ _ hc e _=>k b o hc e) (fun b o _ _ hc e _=>⟨o.slots,k b o hc e⟩) (fun b o hc e n=> ?_) (fun b o hc e=>⟨o,k b o hc e⟩) (fun b xs e=> ?_) (fun b o w e=> ?_) (fun b ps e=> ?_) (fun m hm=> ?_) (fun b w e=> ?_) I.bare
 ·obtain⟨f0,f1,f2,f3,f4,f5⟩:=hf b hb
  exact⟨f3,f1,f4,f5⟩
 ·rw[i7 (aW (aO (Heap.lt_size e) hT))];exact n
 ·rw[i7 (i4 e hn)];exact e
 ·rw[i7 (i4 e hn)];exact e
 ·exact⟨#[],by rw[i7 (i4 e hn),e];simp⟩
 ·obtain⟨o,es,ep,ho,r⟩:=hm
  exact⟨o,es,ep,k _ o (fun z=>(hf _ z).2.1 rfl) ho,r⟩
 ·by_cases hb:b=T
  ·subst hb;rw[iX] at e;cases e;exact⟨show 3<=sizeLine by decide,[u,v,_],.cons rx (.cons ry (.cons rz .nil)),ht⟩
  ·rw[i7 hb] at e;refine(I.hok b w e).stay (fun c z hc q=>k c z ?_ q) (fun c q=>by rw[i7 (i4 q hn)];exact q) fun c xs q=>by rw[i7 (i4 q hn)];exact q
   rcases hc with rfl|hc
   ·exact tr _ _ e
   ·exact tr _ _ hc
theorem uM{P:Program}{w:World}{K:ah}{elts:List Expr}{kk:Nat}{pos:Pos}(n l1 l2 l3:Addr)(h1:l1<n)(h2:l2<n)(h3:l3<n):Turn P w K (.Tuple elts kk pos) (CI K l1 l2 l3) [n+5,n+3,n+4,n,n+1,n+2] (n+5)
  (fun i h=>IsZip h (n+5) (n+3) (n+4) .none /\ jE h (n+3) (.ref n) (.ref (n+1)) (.ref (n+2)) /\ (∃a b c,jE h (n+4) a b c) /\ h.IsListIter n l1 i /\ h.IsListIter (n+1) l2 i /\ h.IsListIter (n+2) l3 i) where
 mem:=by simp
 obj:=fun i h st b hb=>by
  obtain⟨z1,z2,⟨a,c,d,z3⟩,⟨o1,e1,c1,d1⟩,⟨o2,e2,c2,d2⟩,⟨o3,e3,c3,d3⟩⟩:=st
  simp only[ao,ay,or_false] at hb;rcases hb with rfl|rfl|rfl|rfl|rfl|rfl
  ·exact⟨_,z1,fun v q=>by cases q⟩
  ·exact⟨_,z2,fun v q=>by cases q⟩
  ·exact⟨_,z3,fun v q=>by cases q⟩
  ·exact⟨_,e1,fun v q=>by rw[d1] at q;cases q⟩
  ·exact⟨_,e2,fun v q=>by rw[d2] at q;cases q⟩
  ·exact⟨_,e3,fun v q=>by rw[d3] at q;cases q⟩
 keep:=fun i h h' st k=>by
  obtain⟨z1,z2,⟨a,c,d,z3⟩,z4,z5,z6⟩:=st
  exact⟨k _ (by simp) _ z1,k _ (by simp) _ z2,⟨a,c,d,k _ (by simp) _ z3⟩,z4.at fun o e=>k _ (by simp) o e,z5.at fun o e=>k _ (by simp) o e,z6.at fun o e=>k _ (by simp) o e⟩
 item:=by
  intro X hP hw hK hc i pins s σ H E I hf st hg;subst hP hw hK;obtain⟨xs,ys,zs,q1,q2,q3,m2,m3,hi⟩:=hg
  obtain⟨us,r1,p1,_⟩:=I.list q1
  obtain⟨vs,r2,p2,_⟩:=I.list q2
  obtain⟨ws,r3,p3,_⟩:=I.list q3
  obtain⟨z1,z2,z3,z4,z5,z6⟩:=st
  have len1:=r1.length
  have len2:=r2.length
  have len3:=r3.length
  have W:=oA (prog:=X.prog) (w:=X.w) (I.ok.hd hc) (n+5) (n+3) (n+4) n (n+1) (n+2) l1 l2 l3 (oz h1 h2 h3) us.toArray vs.toArray ws.toArray (by simp only[ax];omega) (by simp only[ax];omega)
  refine W.item i s _ _ (by simp only[ax];omega) ⟨z1,z2,z3,z4,z5,z6,p1.isList,p2.isList,p3.isList⟩ fun T vals h' tk hPt hT hTup hMid hk=> ?_
  obtain⟨u,v,w,hu,hv,hw,rfl⟩:=hPt
  refine⟨.ref T,rfl,W.go elts kk pos i T _ _ _ hMid fun h'' st' hk'=> ?_⟩;obtain⟨x,hx⟩:∃x,xs[i]? =some x:=⟨_,af hi⟩
  obtain⟨y,hy⟩:∃y,ys[i]? =some y:=⟨_,af (by omega)⟩
  obtain⟨z,hz⟩:∃z,zs[i]? =some z:=⟨_,af (by omega)⟩
  obtain⟨u',eu,rx⟩:=r1.get hx
  obtain⟨v',ev,ry⟩:=r2.get hy
  obtain⟨w',ew,rz⟩:=r3.get hz
  have e1:u'=u:=by
   have z:us[i]? =some u:=by simpa using hu
   rw[eu] at z;exact aZ.inj z
  have e2:v'=v:=by
   have z:vs[i]? =some v:=by simpa using hv
   rw[ev] at z;exact aZ.inj z
  have e3:w'=w:=by
   have z:ws[i]? =some w:=by simpa using hw
   rw[ew] at z;exact aZ.inj z
  subst e1 e2 e3;have ap:=W.apart i T h' hMid
  have ht2:h''.IsTuple T #[u',v',w']:=hTup.at fun o e=>hk' T o ap e
  have J:=wI (tk:=tk) (h':=h'') I (wr:=[n+5,n+4,n,n+1,n+2]) (fun b hb=>hf b (by simp only[ao,ay,or_false] at hb⊢;rcases hb with rfl|rfl|rfl|rfl|rfl<;>simp)) hT ht2 rx ry rz (fun b o hb e=>hk' b o hb (hk b o hb e))
  refine⟨.ref T,_,J,rfl,⟨T,rfl,I.hok.fresh hT,fun xs' ys' zs' x' y' z' a1 a2 a3 a4 a5 a6=> ?_⟩,⟨st'.1,st'.2.1,st'.2.2.1,st'.2.2.2.1,st'.2.2.2.2.1,st'.2.2.2.2.2.1⟩,fun b hb=> ?_⟩
  ·rw[I.list_inj a1 q1,hx] at a4;rw[I.list_inj a2 q2,hy] at a5;rw[I.list_inj a3 q3,hz] at a6;cases a4;cases a5;cases a6;rfl
  ·have hb0:=(hf b hb).1
   have hlt:b<s.heap.objs.size:=by
    obtain⟨o1,e1,_⟩:=z4
    obtain⟨o2,e2,_⟩:=z5
    obtain⟨o3,e3,_⟩:=z6
    obtain⟨a,c,d,z3⟩:=z3
    simp only[ao,ay,or_false] at hb;rcases hb with rfl|rfl|rfl|rfl|rfl|rfl
    ·exact Heap.lt_size z1
    ·exact Heap.lt_size z2
    ·exact Heap.lt_size z3
    ·exact Heap.lt_size e1
    ·exact Heap.lt_size e2
    ·exact Heap.lt_size e3
   rw[i7 (aW (aO hlt hT))];exact hb0
 done:=by
  intro X hP hw hK hc i pins s σ H E I hf st hg;subst hP hw hK;obtain⟨xs,ys,zs,q1,q2,q3,m2,m3,hi⟩:=hg
  obtain⟨us,r1,p1,_⟩:=I.list q1
  obtain⟨vs,r2,p2,_⟩:=I.list q2
  obtain⟨ws,r3,p3,_⟩:=I.list q3
  obtain⟨z1,z2,z3,z4,z5,z6⟩:=st
  have len1:=r1.length
  have len2:=r2.length
  have len3:=r3.length
  have W:=oA (prog:=X.prog) (w:=X.w) (I.ok.hd hc) (n+5) (n+3) (n+4) n (n+1) (n+2) l1 l2 l3 (oz h1 h2 h3) us.toArray vs.toArray ws.toArray (by simp only[ax];omega) (by simp only[ax];omega)
  have e:i=us.toArray.size:=by
   simp only[ax];omega
  subst e;refine W.done s _ _ ⟨z1,z2,z3,z4,z5,z6,p1.isList,p2.isList,p3.isList⟩ fun h' tk hk=>⟨rfl,?_⟩
  have hf':∀b∈[n+5,n+4,n,n+1,n+2],uJ X pins H b:=fun b hb=>hf b (by simp only[ao,ay,or_false] at hb⊢;rcases hb with rfl|rfl|rfl|rfl|rfl<;>simp)
  have tr:∀b w,H b=some w ->b∉[n+5,n+4,n,n+1,n+2]:=fun b w e z=>by
   rw[(hf' b z).1] at e;cases e
  refine I.step (g':=s.gens) (d':=s.drawn) (ch:=[n+5,n+4,n,n+1,n+2]) (fun b hb=> ?_) (fun b o _ _ hc e _=>hk b o hc e) (fun b o _ _ hc e _=>⟨o.slots,hk b o hc e⟩) (fun b o hc e n=>n) (fun b o hc e=>⟨o,hk b o hc e⟩) (fun b xs e=>e) (fun b o w e=>e) (fun b ps e=>⟨#[],by rw[e];simp⟩) (fun m hm=> ?_) (fun b w e=> ?_) I.bare
  ·obtain⟨f0,f1,f2,f3,f4,f5⟩:=hf' b hb
   exact⟨f3,f1,f4,f5⟩
  ·obtain⟨o,es,ep,ho,r⟩:=hm
   exact⟨o,es,ep,hk _ o (fun z=>(hf' _ z).2.1 rfl) ho,r⟩
  ·refine(I.hok b w e).stay (fun c z hc q=>hk c z ?_ q) (fun _ q=>q) fun _ _ q=>q
   rcases hc with rfl|hc
   ·exact tr _ _ e
   ·exact tr _ _ hc
 self:=fun A i s Q E st q=>wpAny_pyIter_zip st.1 q
section
variable {X:Cx}
theorem zl{a b c:Expr}{ta:TA}{p pos tpos:Pos}{elts:List Expr}{kk:Nat}{K:ah}(hK:X.K=K)(hg:Gl X "zip")(hm:X.mg "zip"=none)(ha:PA X [a,b,c] ta)(hs:starEach [a,b,c] X.env=[(false,eval a X.env),(false,eval b X.env),(false,eval c X.env)]:=by rfl)(hs2:starEach [b,c] X.env=[(false,eval b X.env),(false,eval c X.env)]:=by rfl):
  PI X (.Tuple elts kk tpos) (.Call (.Name "zip" p) [a,b,c] [] pos) (Bs K ta):=by
 subst hK;intro pins s σ H R I h;refine Call_ (oH I hg hm boot_zip (cO (thn (ha pos pins s σ H _ I h) fun us s1 z=> ?_) (by rw[hs,hs2]) (by rw[hs2];rfl)));obtain⟨vs,H1,I1,r1,l1,l2,l3,rfl,⟨xs,q1⟩,⟨ys,q2⟩,⟨zs,q3⟩,q⟩:=z
 obtain⟨u,v,w,rfl,ru,rv,rw'⟩:∃u v w,us=[u,v,w] /\ RelV (.ref l1) u /\ RelV (.ref l2) v /\ RelV (.ref l3) w:=by
  cases r1 with
  |cons a1 t1=>cases t1 with
   |cons a2 t2=>cases t2 with
    |cons a3 t3=>cases t3;exact⟨_,_,_,rfl,a1,a2,a3⟩
 obtain rfl:u=Value.ref l1:=ru
 obtain rfl:v=Value.ref l2:=rv
 obtain rfl:w=Value.ref l3:=rw'
 obtain⟨is1,s1',p1,_⟩:=I1.list q1
 obtain⟨is2,s2',p2,_⟩:=I1.list q2
 obtain⟨is3,s3',p3,_⟩:=I1.list q3
 have bl:∀{l:Addr} {is:List Value},PlainL s1.heap l is.toArray ->l<s1.heap.objs.size:=fun {l is} p=>by
  obtain⟨o,e,_⟩:=p.isList
  exact Heap.lt_size e
 refine uH p1.isList p2.isList p3.isList fun h' hz hTI hTO hi1 hi2 hi3 hsz hk=> ?_
 refine wpAny_pyIter_zip hz ?_;refine⟨_,_,_,_,H1,rfl,I1.kept (t':=s1.toks) hk,uM s1.heap.objs.size l1 l2 l3 (bl p1) (bl p2) (bl p3),⟨hz,hTI,⟨_,_,_,hTO⟩,hi1,hi2,hi3⟩,fun b hb=> ?_,q⟩;simp only[ao,ay,or_false] at hb;have hle:s1.heap.objs.size<=b:=by
  rcases hb with rfl|rfl|rfl|rfl|rfl|rfl<;>omega
 exact I1.fpOk hle (I1.hok.fresh hle)
end
section
variable {K:ah} {ta:TA} {g:TG} {tb:TS} {Dn:Ends} {σ:St} {H:Hp}
theorem uR(Ra:Addr ->Addr ->Addr ->Hp ->Prop)(ha:∀R:List V ->Hp ->Prop,(∀a b c H1,Ra a b c H1 ->R [.ref a,.ref b,.ref c] H1) ->ta σ H R)
  (hb:∀a b c H1,Ra a b c H1 -> ∃xs ys zs,∃Pv:Nat ->St ->Hp ->Prop,ys.length=xs.length /\ zs.length=xs.length /\ Pv 0 σ H1 /\ (∀i σ H,i<=xs.length ->Pv i σ H ->SqL K H a xs /\ SqL K H b ys /\ SqL K H c zs) /\
   (∀i x y z t σ H,xs[i]? =some x ->ys[i]? =some y ->zs[i]? =some z ->Pv i σ H ->H t=none ->g (.ref t) σ (upd H t (.tup [x,y,z])) fun σ2 H2=>tb {Dn with nx:=Pv (i+1),ct:=Pv (i+1),bk:=Dn.nx} σ2 H2) /\ ∀σ H,Pv xs.length σ H ->Dn.nx σ H):
  Am (Bs K ta) g tb Dn σ H:=by
 refine ha _ fun a b c H1 q=> ?_
 obtain⟨xs,ys,zs,Pv,l2,l3,h0,hq,hs,hd⟩:=hb a b c H1 q
 obtain⟨s1,s2,s3⟩:=hq 0 σ H1 (bp _) h0
 refine⟨a,b,c,rfl,⟨xs,s1⟩,⟨ys,s2⟩,⟨zs,s3⟩,fun i m σ H=>Pv i σ H /\ i<=xs.length /\ m=xs.length-i,⟨_,h0,bp _,rfl⟩,?_⟩;rintro i m σ H ⟨p,hi,rfl⟩;obtain⟨s1,s2,s3⟩:=hq i σ H hi p
 rcases ft hi with hi|hi
 ·right
  refine⟨⟨xs,ys,zs,s1,s2,s3,l2,l3,by omega⟩,fun σ' H'=>Pv (i+1) σ' H',fun σ' H' p'=>⟨xs.length-(i+1),by omega,p',by omega,rfl⟩,?_⟩;rintro v H' ⟨t,rfl,hn,e⟩;obtain⟨x,hx⟩:∃x,xs[i]? =some x:=⟨_,af hi⟩
  obtain⟨y,hy⟩:∃y,ys[i]? =some y:=⟨_,af (by omega)⟩
  obtain⟨z,hz⟩:∃z,zs[i]? =some z:=⟨_,af (by omega)⟩
  rw[e xs ys zs x y z s1 s2 s3 hx hy hz];exact hs i x y z t σ H hx hy hz p hn
 ·left
  exact⟨⟨xs,ys,zs,s1,s2,s3,l2,l3,by omega⟩,hd σ H (hi▸p)⟩
end
end L2
namespace SR
open PySem PySem.W PyProof.Rows
noncomputable def evT(lt:Nat ->Nat ->Bool){α:Type}:KasT α ->α
 | .ret a=>a
 | .ask i j k=>evT lt (k (lt i j))
theorem lI(lt:Nat ->Nat ->Bool){α β:Type}(f:α ->KasT β):∀t:KasT α,evT lt (t.bind f)=evT lt (f (evT lt t))
 | .ret _=>rfl
 | .ask i j k=>lI lt f (k (lt i j))
noncomputable abbrev g(p:Array Nat)(i:Nat):Nat:=p.getD i 0
theorem Bv{p q:Array Nat}{i j:Nat}(h:p[i]? =q[j]?):g p i=g q j:=by
 unfold g;rw[dj,dj,h]
structure Ord(lt:Nat ->Nat ->Bool):Prop where
 as:∀a b,lt a b=true ->lt b a=false
 tr:∀a b c,lt b a=false ->lt c b=false ->lt c a=false
noncomputable def sl(lt:Nat ->Nat ->Bool)(a b:Nat):Prop:=lt a b=true∨(lt b a=false /\ a<b)
section
variable {lt:Nat ->Nat ->Bool} (O:Ord lt)
include O
theorem y9{a b:Nat}(h:sl lt a b):lt b a=false:=h.elim (O.as a b) fun q=>q.1
theorem vQ{a b c:Nat}(h1:lt a b=true)(h2:lt c b=false):lt a c=true:=by
 cases e:lt a c with
 |true=>rfl
 |false=>
  have:=O.tr _ _ _ h2 e
  rw[h1] at this;cases this
theorem le_lt{a b c:Nat}(h1:lt b a=false)(h2:lt b c=true):lt a c=true:=by
 cases e:lt a c with
 |true=>rfl
 |false=>
  have:=O.tr _ _ _ e h1
  rw[h2] at this;cases this
theorem w9{a b c:Nat}(h1:sl lt a b)(h2:sl lt b c):sl lt a c:=by
 rcases h1 with q|⟨q1,q2⟩
 ·exact .inl (vQ O q (y9 O h2))
 ·rcases h2 with r|⟨r1,r2⟩
  ·exact .inl (le_lt O q1 r)
  ·exact .inr ⟨O.tr _ _ _ q1 r1,by omega⟩
end
noncomputable def Asc(lt:Nat ->Nat ->Bool)(p:Array Nat)(m:Nat):Prop:=∀i j,i<j ->j<m ->sl lt (g p i) (g p j)
noncomputable def Dsc(lt:Nat ->Nat ->Bool)(p:Array Nat)(m:Nat):Prop:=∀i j,i<j ->j<m ->sl lt (g p j) (g p i)
structure Pre(N:Nat)(p:Array Nat)(n:Nat):Prop where
 sz:p.size=N
 pm:p.Perm (bP (bg N))
 hi:∀k,n<=k ->k<N ->g p k=k
 lo:∀k,k<n ->g p k<n
 le:n<=N
theorem ox{p:Array Nat}{i j:Nat}(hj:j<=p.size)(k:Nat):g (kas_rev p i j) k=if i<=k /\ k<j then g p (i+j-1-k) else g p k:=by
 have e:=getElem?_mirror_all (i:=i) hj k
 by_cases h:i<=k /\ k<j
 ·rw[if_pos h] at e⊢;exact Bv e
 ·rw[if_neg h] at e⊢;exact Bv e
theorem Pre.rev{N n:Nat}{p:Array Nat}(h:Pre N p n){i j:Nat}(hj:j<=n):Pre N (kas_rev p i j) n:=by
 have z:=h.sz
 have l:=h.le
 refine⟨(mirror_size _ _ _ _).trans h.sz,(mirror_perm _ _ _ _).trans h.pm,fun k h1 h2=> ?_,fun k hk=> ?_,h.le⟩
 ·rw[ox (by omega),if_neg (by omega)];exact h.hi k h1 h2
 ·rw[ox (by omega)];split
  ·exact h.lo _ (by omega)
  ·exact h.lo k hk
theorem Pre.succ{N n:Nat}{p:Array Nat}(h:Pre N p n)(hn:n<N):Pre N p (n+1):=by
 refine⟨h.sz,h.pm,fun k h1 h2=>h.hi k (by omega) h2,fun k hk=> ?_,hn⟩
 by_cases e:k=n
 ·rw[e,h.hi n (av _) hn];omega
 ·have:=h.lo k (by omega)
  omega
section
variable {lt:Nat ->Nat ->Bool} (O:Ord lt) {N:Nat}
include O
theorem yw{p:Array Nat}{n:Nat}(h:Asc lt p n)(hP:Pre N p n)(hn:n<N)(h1:1<=n)(c:lt (g p n) (g p (n-1))=false):Asc lt p (n+1):=fun i j hij hj=>by
 by_cases e:j=n
 ·subst e;have last:sl lt (g p (j-1)) (g p j):= .inr ⟨c,by rw[hP.hi j (av _) hn];exact hP.lo _ (by omega)⟩
  by_cases e2:i=j-1
  ·rw[e2];exact last
  ·exact w9 O (h i (j-1) (by omega) (by omega)) last
 ·exact h i j hij (by omega)
theorem wB{p:Array Nat}:∀(f n:Nat),Asc lt p n ->Pre N p n ->1<=n ->n+f=N -> ∃m,evT lt (kas_asc p f n)=m /\ n<=m /\ m<=N /\ Asc lt p m /\ Pre N p m /\ (m<N ->lt (g p m) (g p (m-1))=true)
 |0,n,h,hP,h1,e=>⟨n,rfl,av _,by omega,h,hP,fun q=>by omega⟩
 |f+1,n,h,hP,h1,e=>by
  show∃m,evT lt (if lt (g p n) (g p (n-1))=true then KasT.ret n else kas_asc p f (n+1))=m /\ _
  by_cases c:lt (g p n) (g p (n-1))=true
  ·rw[if_pos c];exact⟨n,rfl,av _,by omega,h,hP,fun _=>c⟩
  ·rw[if_neg c];have c':lt (g p n) (g p (n-1))=false:=by simpa using c
   obtain⟨m,e1,e2,e3,e4,e5,e6⟩:=wB f (n+1) (yw O h hP (by omega) h1 c') (hP.succ (by omega)) (by omega) (by omega)
   exact⟨m,e1,by omega,e3,e4,e5,e6⟩
end
structure Dn(lt:Nat ->Nat ->Bool)(p:Array Nat)(n q:Nat):Prop where
 qn:q+1<=n
 d1:∀i j,i<j ->j<n-(q+1) ->sl lt (g p j) (g p i)
 d2:∀i j,i<n-(q+1) ->n-(q+1)<=j ->j<n ->lt (g p j) (g p i)=true
 d3:∀i j,n-(q+1)<=i ->i<j ->j<n ->lt (g p j) (g p i)=false /\ lt (g p i) (g p j)=false /\ g p i<g p j
section
variable {lt:Nat ->Nat ->Bool} (O:Ord lt) {N:Nat}
include O
theorem Dn.close{p:Array Nat}{n q:Nat}(h:Dn lt p n q)(hn:n<=p.size):Dsc lt (if q>0 then kas_rev p (n-(q+1)) n else p) n:=fun i j hij hj=>by
 have qn:=h.qn
 have val:∀k,k<n ->g (if q>0 then kas_rev p (n-(q+1)) n else p) k=if n-(q+1)<=k then g p (n-(q+1)+n-1-k) else g p k:=fun k hk=>by
  by_cases c:q>0
  ·rw[if_pos c,ox hn]
   by_cases c2:n-(q+1)<=k
   ·rw[if_pos ⟨c2,hk⟩,if_pos c2]
   ·rw[if_neg (fun z=>c2 z.1),if_neg c2]
  ·rw[if_neg c];split
   ·congr 1
    omega
   ·rfl
 rw[val i (by omega),val j hj]
 by_cases c:n-(q+1)<=i
 ·rw[if_pos c,if_pos (by omega)];obtain⟨a,b,e⟩:=h.d3 (n-(q+1)+n-1-j) (n-(q+1)+n-1-i) (by omega) (by omega) (by omega)
  exact .inr ⟨a,e⟩
 ·rw[if_neg c]
  by_cases c2:n-(q+1)<=j
  ·rw[if_pos c2];exact .inl (h.d2 i _ (by omega) (by omega) (by omega))
  ·rw[if_neg c2];exact h.d1 i j hij (by omega)
theorem Dn.eqs{p:Array Nat}{n q:Nat}(h:Dn lt p n q){i:Nat}(h1:n-(q+1)<=i)(h2:i<n):lt (g p i) (g p (n-1))=false /\ lt (g p (n-1)) (g p i)=false:=by
 by_cases e:i=n-1
 ·subst e;have:∀a,lt a a=false:=fun a=>by
   cases q:lt a a with
   |false=>rfl
   |true=>rw[O.as a a q] at q;cases q
  exact⟨this _,this _⟩
 ·obtain⟨a,b,_⟩:=h.d3 i (n-1) h1 (by omega) (by omega)
  exact⟨b,a⟩
theorem sy:∀(f:Nat) (p:Array Nat) (n q:Nat),Dn lt p n q ->Pre N p n ->n+f=N -> ∃p' n' q',evT lt (kas_desc f p n q)=(p',n',q') /\ Dn lt p' n' q' /\ Pre N p' n' /\ n<=n'
 |0,p,n,q,h,hP,e=>⟨p,n,q,rfl,h,hP,av _⟩
 |f+1,p,n,q,h,hP,e=>by
  have qn:=h.qn
  have z:=hP.sz
  show∃p' n' q',evT lt (if lt (g p n) (g p (n-1))=true then(if q>0 then kas_desc f (kas_rev p (n-(q+1)) n) (n+1) 0 else kas_desc f p (n+1) 0) else .ask (p.getD (n-1) 0) (p.getD n 0) fun d=>if d=true then .ret (p,n,q) else kas_desc f p (n+1) (q+1))=(p',n',q') /\ _
  by_cases c:lt (g p n) (g p (n-1))=true
  ·rw[if_pos c];have ds:=Dn.close O h (by omega)
   have eq2:(if q>0 then kas_desc f (kas_rev p (n-(q+1)) n) (n+1) 0 else kas_desc f p (n+1) 0)=kas_desc f (if q>0 then kas_rev p (n-(q+1)) n else p) (n+1) 0:=by split<;>rfl
   rw[eq2];have hP':Pre N (if q>0 then kas_rev p (n-(q+1)) n else p) n:=by
    split
    ·exact hP.rev (av _)
    ·exact hP
   have low:∀i,i<n ->lt (g p n) (g (if q>0 then kas_rev p (n-(q+1)) n else p) i)=true:=fun i hi=>by
    have key:∀k,k<n ->lt (g p n) (g p k)=true:=fun k hk=>by
     by_cases c2:n-(q+1)<=k
     ·exact vQ O c (Dn.eqs O h c2 hk).1
     ·exact vQ O c (O.as _ _ (h.d2 k (n-1) (by omega) (by omega) (by omega)))
    split
    ·rw[ox (by omega)];split
     ·exact key _ (by omega)
     ·exact key i hi
    ·exact key i hi
   have gn:g (if q>0 then kas_rev p (n-(q+1)) n else p) n=g p n:=by
    rw[hP'.hi n (av _) (by omega),hP.hi n (av _) (by omega)]
   generalize(if q>0 then kas_rev p (n-(q+1)) n else p)=p2 at ds hP' low gn;obtain⟨p',n',q',e1,e2,e3,e4⟩:=sy f p2 (n+1) 0 ⟨by omega,fun i j h1 h2=>ds i j h1 (by omega),fun i j h1 h2 h3=>by
    have:j=n:=by omega
    rw[this,gn];exact low i (by omega),fun i j h1 h2 h3=>by omega⟩ (hP'.succ (by omega)) (by omega)
   exact⟨p',n',q',e1,e2,e3,by omega⟩
  ·rw[if_neg c];have c':lt (g p n) (g p (n-1))=false:=by simpa using c
   show∃p' n' q',evT lt (if lt (g p (n-1)) (g p n)=true then KasT.ret (p,n,q) else kas_desc f p (n+1) (q+1))=(p',n',q') /\ _
   by_cases d:lt (g p (n-1)) (g p n)=true
   ·rw[if_pos d];exact⟨p,n,q,rfl,h,hP,av _⟩
   ·rw[if_neg d];have d':lt (g p (n-1)) (g p n)=false:=by simpa using d
    have gn:=hP.hi n (av _) (by omega)
    obtain⟨p',n',q',e1,e2,e3,e4⟩:=sy f p (n+1) (q+1) ⟨by omega,fun i j h1 h2=>h.d1 i j h1 (by omega),fun i j h1 h2 h3=>by
     by_cases ej:j=n
     ·rw[ej];exact le_lt O d' (h.d2 i (n-1) (by omega) (by omega) (by omega))
     ·exact h.d2 i j (by omega) (by omega) (by omega),fun i j h1 h2 h3=>by
     by_cases ej:j=n
     ·subst ej;have E:=Dn.eqs O h (i:=i) (by omega) h2
      refine⟨O.tr _ _ _ E.2 c',O.tr _ _ _ d' E.1,?_⟩;rw[gn];exact hP.lo i h2
     ·exact h.d3 i j (by omega) h2 (by omega)⟩ (hP.succ (by omega)) (by omega)
    exact⟨p',n',q',e1,e2,e3,by omega⟩
theorem z7{p:Array Nat}{n:Nat}(h:Dsc lt p n)(hn:n<=p.size):Asc lt (kas_rev p 0 n) n:=fun i j hij hj=>by
 rw[ox hn,ox hn,if_pos ⟨bp _,by omega⟩,if_pos ⟨bp _,hj⟩];exact h _ _ (by omega) (by omega)
theorem yY{p:Array Nat}{n:Nat}(h:Dsc lt p n)(hP:Pre N p n)(h1:1<=n):∃m p',evT lt (kas_tail3 n N p)=(m,p') /\ Asc lt p' m /\ Pre N p' m /\ 1<=m:=by
 unfold kas_tail3;rw[lI];have l:=hP.le
 have z:=hP.sz
 obtain⟨m,e1,e2,e3,e4,e5,e6⟩:=wB O (N-n) n (z7 O h (by omega)) (hP.rev (av _)) h1 (by omega)
 rw[e1];exact⟨m,_,rfl,e4,e5,by omega⟩
theorem nZ{p:Array Nat}{n:Nat}(h:Dsc lt p n)(hP:Pre N p n)(h1:1<=n)(hn:n<N)(low:∀i,i<n ->lt (g p n) (g p i)=true):∃m p',evT lt (kas_descPart n N p)=(m,p') /\ Asc lt p' m /\ Pre N p' m /\ 1<=m:=by
 unfold kas_descPart;rw[lI];obtain⟨p',n',q',e1,e2,e3,e4⟩:=sy O (N-(n+1)) p (n+1) 0 ⟨by omega,fun i j a b=>h i j a (by omega),fun i j a b c=>by
  have:j=n:=by omega
  rw[this];exact low i (by omega),fun i j a b c=>by omega⟩ (hP.succ hn) (by omega)
 rw[e1];have z:=e3.sz
 have l:=e3.le
 have ds:=Dn.close O e2 (by omega)
 have hP':Pre N (if q'>0 then kas_rev p' (n'-(q'+1)) n' else p') n':=by
  split
  ·exact e3.rev (av _)
  ·exact e3
 have:=yY O ds hP' (by omega)
 dsimp only;split
 ·rename_i c
  rw[if_pos c] at this;exact this
 ·rename_i c
  rw[if_neg c] at this;exact this
theorem yo(h2:2<=N):∃m p',evT lt (kas_count N (bP (bg N)))=(m,p') /\ Asc lt p' m /\ Pre N p' m /\ 1<=m:=by
 have gr:∀k,k<N ->g (bP (bg N)) k=k:=fun k hk=>by
  unfold g;rw[dj];simp[hk]
 have hP:∀n,n<=N ->Pre N (bP (bg N)) n:=fun n hn=>⟨by simp,.refl _,fun k _ h=>gr k h,fun k hk=>by rw[gr k (by omega)];exact hk,hn⟩
 unfold kas_count;rw[lI];obtain⟨n,e1,e2,e3,e4,e5,e6⟩:=wB O (p:=bP (bg N)) (N-1) 1 (fun i j a b=>by omega) (hP 1 (by omega)) (av _) (by omega)
 rw[e1]
 by_cases c:(n==N)=true
 ·rw[if_pos c];exact⟨n,_,rfl,e4,e5,e2⟩
 ·rw[if_neg c];have hn:n<N:=by
   have:n≠N:=by simpa using c
   omega
  have st:=e6 hn
  by_cases c1:n>1
  ·rw[if_pos c1];show∃m p',evT lt (if lt (g _ 0) (g _ (n-1))=true then KasT.ret (n,_) else kas_descPart n N (kas_rev _ 0 n))=(m,p') /\ _
   by_cases c2:lt (g (bP (bg N)) 0) (g (bP (bg N)) (n-1))=true
   ·rw[if_pos c2];exact⟨n,_,rfl,e4,e5,e2⟩
   ·rw[if_neg c2];have c2':lt (g (bP (bg N)) 0) (g (bP (bg N)) (n-1))=false:=by simpa using c2
    have z:=(hP n e3).sz
    have irr:∀a,lt a a=false:=fun a=>by
     cases q:lt a a with
     |false=>rfl
     |true=>rw[O.as a a q] at q;cases q
    have up:∀i j,i<=j ->j<n ->lt (g (bP (bg N)) j) (g (bP (bg N)) i)=false:=fun i j h1 h2=>by
     by_cases e:i=j
     ·rw[e];exact irr _
     ·exact y9 O (e4 i j (by omega) h2)
    have all:∀i j,i<n ->j<n ->lt (g (bP (bg N)) i) (g (bP (bg N)) j)=false:=fun i j h1 h2=>
     O.tr _ _ _ (O.tr _ _ _ (up j (n-1) (by omega) (by omega)) c2') (up 0 i (bp _) h1)
    refine nZ O (fun i j h1 h2=> ?_) ((hP n e3).rev (av _)) e2 hn fun i hi=> ?_
    ·rw[ox (by omega),ox (by omega),if_pos ⟨bp _,h2⟩,if_pos ⟨bp _,by omega⟩];refine .inr ⟨all _ _ (by omega) (by omega),?_⟩;rw[gr _ (by omega),gr _ (by omega)];omega
    ·rw[ox (by omega),ox (by omega),if_neg (by omega),if_pos ⟨bp _,hi⟩];exact vQ O st (all _ _ (by omega) (by omega))
  ·rw[if_neg c1];have:n=1:=by omega
   subst this;exact nZ O (fun i j h1 h2=>by omega) (hP 1 e3) (av _) hn fun i hi=>by
    have:i=0:=by omega
    rw[this];exact st
theorem pP{p:Array Nat}{k:Nat}(h:Asc lt p k):∀(f l r:Nat),l<=r ->r<=k ->r-l<=f ->(∀i,i<l ->lt (g p k) (g p i)=false) ->(∀i,r<=i ->i<k ->lt (g p k) (g p i)=true) ->
  ∃x,evT lt (kas_place p k f l r)=x /\ x<=k /\ (∀i,i<x ->lt (g p k) (g p i)=false) /\ ∀i,x<=i ->i<k ->lt (g p k) (g p i)=true
 |0,l,r,h1,h2,h3,h4,h5=>⟨l,rfl,by omega,h4,fun i a b=>h5 i (by omega) b⟩
 |f+1,l,r,h1,h2,h3,h4,h5=>by
  have irr:∀a,lt a a=false:=fun a=>by
   cases q:lt a a with
   |false=>rfl
   |true=>rw[O.as a a q] at q;cases q
  have up:∀i j,i<=j ->j<k ->lt (g p j) (g p i)=false:=fun i j h1 h2=>by
   by_cases e:i=j
   ·rw[e];exact irr _
   ·exact y9 O (h i j (by omega) h2)
  show∃x,evT lt (if l≥r then KasT.ret l else .ask (p.getD k 0) (p.getD ((l+r) /2) 0) fun c=>if c=true then kas_place p k f l ((l+r) /2) else kas_place p k f ((l+r) /2+1) r)=x /\ _
  by_cases c:l≥r
  ·rw[if_pos c];exact⟨l,rfl,by omega,h4,fun i a b=>h5 i (by omega) b⟩
  ·rw[if_neg c];show∃x,evT lt (if lt (g p k) (g p ((l+r) /2))=true then kas_place p k f l ((l+r) /2) else kas_place p k f ((l+r) /2+1) r)=x /\ _
   by_cases d:lt (g p k) (g p ((l+r) /2))=true
   ·rw[if_pos d];exact pP h f l ((l+r) /2) (by omega) (by omega) (by omega) h4 fun i a b=>vQ O d (up _ _ a b)
   ·rw[if_neg d];have d':lt (g p k) (g p ((l+r) /2))=false:=by simpa using d
    exact pP h f ((l+r) /2+1) r (by omega) h2 (by omega) (fun i a=>O.tr _ _ _ (up i ((l+r) /2) (by omega) (by omega)) d') h5
theorem yS:∀(f:Nat) (p:Array Nat) (k:Nat),Asc lt p k ->Pre N p k ->k+f=N -> ∃p',evT lt (kas_bin f p k)=p' /\ Asc lt p' N /\ Pre N p' N
 |0,p,k,h,hP,e=>by
  have e':k=N:=e
  subst e';exact⟨p,rfl,h,hP⟩
 |f+1,p,k,h,hP,e=>by
  show∃p',evT lt ((kas_place p k k 0 k).bind fun l=>kas_bin f (bubble p k (k-l)) (k+1))=p' /\ _
  rw[lI];obtain⟨x,e1,xk,q1,q2⟩:=pP O h k 0 k (bp _) (av _) (by omega) (fun i a=>absurd a (iA _)) fun i a b=>by omega
  rw[e1];have z:=hP.sz
  have gb:∀i,g (bubble p k (k-x)) i=if i=x then g p k else if x<i /\ i<=k then g p (i-1) else g p i:=fun i=>by
   have e:=getElem?_bubble (xs:=p) (src:=k) (by omega) (k-x) (by omega) i
   rw[show k-(k-x)=x by omega] at e
   by_cases c1:i=x
   ·rw[if_pos c1] at e⊢;exact Bv e
   ·rw[if_neg c1] at e⊢
    by_cases c2:x<i /\ i<=k
    ·rw[if_pos c2] at e⊢;exact Bv e
    ·rw[if_neg c2] at e⊢;exact Bv e
  have hk:=hP.hi k (av _) (by omega)
  refine yS f (bubble p k (k-x)) (k+1) (fun i j hij hj=> ?_) ⟨(bubble_size _ _ _).trans z,(bubble_perm _ _ _).trans hP.pm,fun i h1 h2=> ?_,fun i hi=> ?_,by omega⟩ (by omega)
  ·rw[gb,gb]
   by_cases c1:i=x
   ·rw[if_pos c1,if_neg (by omega),if_pos (by omega)];exact .inl (q2 _ (by omega) (by omega))
   ·rw[if_neg c1]
    by_cases c2:j=x
    ·rw[if_pos c2,if_neg (by omega)];refine .inr ⟨q1 i (by omega),?_⟩;rw[hk];exact hP.lo i (by omega)
    ·rw[if_neg c2]
     by_cases c3:x<i /\ i<=k
     ·rw[if_pos c3,if_pos (by omega)];exact h _ _ (by omega) (by omega)
     ·rw[if_neg c3]
      by_cases c4:x<j /\ j<=k
      ·rw[if_pos c4];exact h _ _ (by omega) (by omega)
      ·rw[if_neg c4];exact h _ _ hij (by omega)
  ·rw[gb,if_neg (by omega),if_neg (by omega)];exact hP.hi i (by omega) h2
  ·rw[gb];split
   ·omega
   ·split
    ·have:=hP.lo (i-1) (by omega)
     omega
    ·have:=hP.lo i (by omega)
     omega
theorem y8(h2:2<=N):∃p,evT lt (kas_sort N)=p /\ p.size=N /\ p.Perm (bP (bg N)) /\ Asc lt p N:=by
 unfold kas_sort;rw[lI];obtain⟨m,p',e,h,hP,m1⟩:=yo O h2
 rw[e];dsimp only;have l:=hP.le
 by_cases c:m<N
 ·rw[if_pos c,Nat.max_eq_left m1];obtain⟨p2,e2,h3,hP2⟩:=yS O (N-m) p' m h hP (by omega)
  exact⟨p2,e2,hP2.sz,hP2.pm,h3⟩
 ·rw[if_neg c];have:m=N:=by omega
  subst this;exact⟨p',rfl,hP.sz,hP.pm,h⟩
end
end SR
namespace L2
open PySem PySem.Spec PyProof.Rows PySem.W
noncomputable def sD(X:Cx)(A:Around)(qual:Str)(scope:Scope)(cl:List (Str×Addr))(N:List Str)(L f c:Addr)(s:Shared)(H:Hp)(pn:List (Addr×Obj)):Cx where
 prog:=X.prog
 w:=X.w
 K:=X.K
 mg:=X.mg
 base:=X.base
 A:=A.deeper (envX qual scope L f (.ref c) cl)
 N:=N
 s₀:=s
 H₀:=H
 env:=envX qual scope L f (.ref c) cl
 outer:=X.stack
 stack:=envX qual scope L f (.ref c) cl::X.stack
 ex:=[]
 fn:=fun _=>false
 calm:=X.calm
 pn:=pn
 xe:=fun _ _=>False
noncomputable def mB(σ:St)(js:List Nat)(v:V):St:=some v::frV σ js
section
variable {X:Cx} {pins:List (Addr×Obj)} {σ:St} {H:Hp} {s:Shared} {scope:Scope} {N:List Str} {js:List Nat} {cl:List (Str×Addr)} {A:Around} {qual x:Str}
theorem Inv.lam{h1:Heap}{tk:Nat}{f c:Addr}{v:V}{u:Value}(I:Inv X pins σ H s)(S:CScope X scope N 1 js)(hx:N[0]? =some x)(hl:scope.names.lookup x=some .local)
  (hcl1:∀x c,cl.lookup x=some c ->X.env.cells.lookup x=some c) (hcl2:∀y∈scope.names,y.2= .free -> ∃c,cl.lookup y.1=some c)
  (hA:A.frames=some X.stack) (hd:A.handled=X.A.handled) (r:RelV v u)
  (hns:h1.Ns s.heap.objs.size (fun y=>[(x,u)].reverse.lookup y)) (hk:∀b o,s.heap.get? b=some o ->h1.get? b=some o):
  Inv (sD X A qual scope cl N s.heap.objs.size f c s H (X.pn++pins)) [] (mB σ js v) H {s with heap:=h1,toks:=tk}:=by
 have hxc:∀x c,cl.lookup x=some c ->c<s.heap.objs.size:=fun x c h=>by
  obtain⟨v,q⟩:=I.cell x c (hcl1 x c h)
  exact q.lt
 have noA:∀b:Addr,b∉(sD X A qual scope cl N s.heap.objs.size f c s H (X.pn++pins)).ex:=fun b z=>absurd (show b∈([]:List Addr) from z) (by simp)
 refine⟨⟨I.ok.mod,S.kind,rfl,rfl,av _,fun x y c h1 h2=>I.ok.inj x y c (hcl1 x c h1) (hcl1 y c h2),fun y hy=> ?_,fun x c h _=>absurd (show false=true from h) (by decide),fun h=> ?_,Around.frames_deeper hA,.inr ⟨rfl,rfl⟩,fun b hb=>absurd hb (noA b),I.bs,
  bW I.ok.bsz I.sz,fun b o e=>noA b,fun b hb=>absurd hb (noA b),I.stack,I.stkFree⟩,rfl,I.bare,Un.kept hk,⟨_,hns,fun i y w e1 e2 e3=> ?_⟩,fun x c h=> ?_,I.hok.fresh (av _),fun x c h=>I.freeC x c (hcl1 x c h),fun p hp=> ?_,I.hok.kept hk,?_⟩
 ·have hy:scope.names.lookup y=some .cell∨scope.names.lookup y=some .free:=hy
  rcases hy with hy|hy
  ·exact absurd rfl (S.nocell _ (lookup_mem hy))
  ·exact hcl2 _ (lookup_mem hy) rfl
 ·exact hd.trans (I.ok.hd h)
 ·cases i with
  |zero=>
   have e1':N[0]? =some y:=e1
   rw[hx] at e1';cases e1';cases e2;exact⟨u,r,.inl ⟨hl,by simp⟩⟩
  |succ d=>
   have e2':(frV σ js)[d]? =some (some w):=by simpa[mB] using e2
   unfold frV at e2';rw[aC] at e2';cases ej:js[d]? with
   |none=>rw[ej] at e2';cases e2'
   |some j=>
    rw[ej] at e2';have ev:(σ[j]?).join=some w:=aZ.inj e2'
    have ev':σ[j]? =some (some w):=by
     cases q:σ[j]? with
     |none=>rw[q] at ev;cases ev
     |some z=>rw[q] at ev;rw[show z=some w from ev]
    obtain⟨x',n1,n2,n3⟩:=S.look d j ej
    have:x'=y:=by
     have e1':N[d+1]? =some y:=e1
     rw[gS 1 d,e1'] at n1;exact(aZ.inj n1).symm
    subst this;obtain⟨m,hn,hl⟩:=I.loc
    have hkx:=S.frees _ (lookup_mem n3) rfl
    have hvis:Vis X.env.scope x':=by
     rcases hkx with q|q
     ·exact .inr (.inl q)
     ·exact .inr (.inr q)
    obtain⟨u,r,l⟩:=hl j x' w n2 ev' hvis
    refine⟨u,r,?_⟩;obtain⟨c,hc⟩:=hcl2 _ (lookup_mem n3) rfl
    rcases l with⟨l1,_⟩|⟨l1,c',l2,l3⟩
    ·rcases hkx with q|q
     ·exact absurd (l1.symm.trans q) (by decide)
     ·exact absurd (l1.symm.trans q) (by decide)
    ·have:c'=c:=aZ.inj (l2.symm.trans (hcl1 _ c hc))
     subst this;obtain⟨o,ho,hd⟩:=l3
     exact .inr ⟨.inr n3,c',hc,o,hk _ o ho,hd⟩
 ·obtain⟨v,o,ho,hd⟩:=I.cell x c (hcl1 x c h)
  exact⟨v,o,hk _ o ho,hd⟩
 ·have hp':p∈X.pn++pins:=by simpa[sD] using hp
  obtain⟨e,n,ne,nf,d⟩:=I.pin p hp'
  refine⟨hk _ _ e,n,aW (Heap.lt_size e),fun z=> ?_,d⟩;exact(ao.mp (I.stkSub _ z)).elim ne nf
 ·show(mB σ js v).length=N.length
  unfold mB frV;rw[S.len];simp;omega
noncomputable abbrev B5(name qual:Str)(params:Arguments)(body:Expr)(scope:Scope)(cl:List (Str×Addr))(pm:Value)(c:Addr)(ct:Value):Obj:=kla_obj name qual params body scope cl pm c ct
theorem xW{f c:Addr}{v:V}{u:Value}{name:Str}{params:Arguments}{body:Expr}{pm ct:Value}{te:TE}{Q:VK}(I:Inv X pins σ H s)(S:CScope X scope N 1 js)(hx:N[0]? =some x)(hl:scope.names.lookup x=some .local)
  (hcl1:∀x c,cl.lookup x=some c ->X.env.cells.lookup x=some c) (hcl2:∀y∈scope.names,y.2= .free -> ∃c,cl.lookup y.1=some c)
  (hA:A.frames=some X.stack) (hd:A.handled=X.A.handled) (hroom:A.depth<recursionLimit) (hco:scope.isCoroutine=false) (hgen:scope.isGenerator=false)
  (hbind:∀u,bindArgs (kla_fn name qual params body scope cl pm (.ref c) ct) ⟨[u],[]⟩=pure [(x,u)])
  (hf:s.heap.get? f=some (B5 name qual params body scope cl pm c ct)) (hc:s.heap.CodeRec (.ref c) qual) (r:RelV v u)
  (he:∀L s H pn,PE (sD X A qual scope cl N L f c s H pn) body te) (h:te (mB σ js v) H Q):
  wpAny (model X.prog X.w) A (call (.ref f) [u]) (EP X pins σ Q) (fun _ _=>False) s:=by
 refine wpAny_call (codeAny_mono (R:=fun r s'=>match r with| .ok (.ret u)=>EP X pins σ Q u s'|_=>False) (kla_callFunE hroom hf rfl hco hgen rfl hc ?_) fun r s' hq=> ?_)
 ·rw[hbind u];refine wpAny_pure (wpAny_newFunctionEnv S.nocell (by
   intro y hy;have:y=(x,u):=by simpa using hy
   rw[this];exact hl) (fun h₁ hns hsb=>⟨I.nolimit.fresh _ hsb,?_⟩) S.kind)
  have hk₁:∀b o,s.heap.get? b=some o ->h₁.get? b=some o:=fun b o e=>hsb.extBut b o (aW (Heap.lt_size e)) (Heap.get?_push_of_some _ e)
  have J:=Inv.lam (qual:=qual) (tk:=s.toks+([(x,u)]:List (Str×Value)).length) (f:=f) (c:=c) I S hx hl hcl1 hcl2 hA hd r hns hk₁
  show codeAny _ _ (.expr body (envX qual scope s.heap.objs.size f (.ref c) cl)) _ _
  refine kla_codeExpr (wpAny_mono (he _ _ _ _ [] _ _ _ Q J h) (fun v' s' hl=> ?_) fun _ _ y=>y.elim);obtain⟨w,H',J',rw',q⟩:=hl
  exact I.after ⟨w,H',J'.os,J'.bare,J'.base,J'.hok,rw',q⟩
 ·match r,hq with
  | .ok (.ret u),hq=>exact hq
end
end L2
namespace L2
open PySem PySem.Spec PyProof.Rows PySem.W
structure LamB(mg:Str ->Option Value)(base:Heap)(c P:Addr):Prop where
 hd:CodeHd base c P
 bm:base.BuiltinsAt mg P
 ne:mainGlobals≠P
 gl:base.Ns mainGlobals mg
noncomputable def tagL(l d:Nat)(q:Str):Array Value:= #[rawInt l,rawInt d,.str q 0]
section
variable {X:Cx} {pins:List (Addr×Obj)} {σ:St} {H:Hp} {s:Shared} {scope:Scope}
theorem Inv.table{h':Heap}{tk:Nat}{P c:Addr}{l d:Nat}{q:Str}{oc:Obj}{vs:Array Value}{u:Tok}(I:Inv X pins σ H s)(hP:H P=some (.tbl (tagL l d q)))
  (hx:Heap.ExtBut P s.heap h') (hc:s.heap.objs.size<=c) (hoc:h'.get? c=some oc) (hd:oc.data= .fields vs) (hv:vs[1]? =some (.str q u))
  (ht:h'.get? P=some (tabObj #[rawInt l,rawInt d,.ref c])):Inv X pins σ (upd H c (.frz oc (.own 0))) {s with heap:=h',toks:=tk}:=by
 have hcn:H c=none:=I.hok.fresh hc
 have neP:∀b,H b=none ->b≠P:=fun b e z=>by rw[z,hP] at e;cases e
 have nec:∀b o,s.heap.get? b=some o ->b≠c:=fun b o e=>aW (aO (Heap.lt_size e) hc)
 have cP:c≠P:=neP c hcn
 have kp:∀b o,s.heap.get? b=some o ->b≠P ->h'.get? b=some o:=fun b o e n=>hx b o n e
 refine I.step (g':=s.gens) (d':=s.drawn) (ch:=[]) (fun _ z=>absurd z (by simp)) (fun b o _ _ _ e n=>kp b o e (neP b n)) (fun b o _ _ _ e n=>⟨o.slots,kp b o e (neP b n)⟩)
  (fun b o _ e n=>by rw[i7 (nec b o e)];exact n) (fun b o _ e=> ?_) (fun b xs e=>by rw[i7 (i4 e hcn)];exact e) (fun b o u e=>by rw[i7 (i4 e hcn)];exact e)
  (fun b ps e=>⟨#[],by rw[i7 (i4 e hcn),e];simp⟩) (fun m hm=> ?_) (fun b w e=> ?_) I.bare
 ·by_cases hb:b=P
  ·exact⟨_,by rw[hb];exact ht⟩
  ·exact⟨o,kp b o e hb⟩
 ·obtain⟨o,es,ep,ho,r⟩:=hm
  exact⟨o,es,ep,kp _ o ho (neP _ I.free),r⟩
 ·by_cases hb:b=c
  ·rw[hb,iX] at e;cases e;rw[hb];exact⟨hoc,oc,hoc⟩
  ·rw[i7 hb] at e
   by_cases hbP:b=P
   ·rw[hbP] at e⊢;rw[hP] at e;cases e;exact⟨_,ht,.inr ⟨c,oc,rawInt l,rawInt d,q,0,u,vs,rfl,rfl,by rw[iX],hd,hv⟩⟩
   ·refine(I.hok b w e).stay (fun y z hy g=>kp y z g ?_) (fun y g=>by rw[i7 (i4 g hcn)];exact g) fun y xs g=>by rw[i7 (i4 g hcn)];exact g
    rcases hy with rfl|hy
    ·exact hbP
    ·intro z;rw[z,hP] at hy;cases hy
theorem xV{params:Arguments}{body:Expr}{P c0:Addr}{pos:Pos}{Q:Value ->Shared ->Prop}(I:Inv X pins σ H s)(B:LamB X.mg X.base c0 P)
  (hP:H P=some (.tbl (tagL pos.line pos.col (X.env.qual++"<lambda>")))) (hcode:X.env.code= .ref c0) (hdef:defaultsOf params X.env=([],[]))
  (hf:∀y∈scope.names,y.2= .free ->X.env.kindOf y.1=some .cell∨X.env.kindOf y.1=some .free)
  (h:∀cl f c pm ct H1 s1,(∀x c,cl.lookup x=some c ->X.env.cells.lookup x=some c) ->(∀y∈scope.names,y.2= .free -> ∃c,cl.lookup y.1=some c) ->
   Inv X ((f,B5 "<lambda>" (X.env.qual++"<lambda>") params body scope cl pm c ct)::pins) σ H1 s1 ->Ext H H1 ->(∃oc vs u,H1 c=some (.frz oc (.own 0)) /\ oc.data= .fields vs /\ vs[1]? =some (.str (X.env.qual++"<lambda>") u)) ->
   Q (.ref f) s1):
  wpAny (model X.prog X.w) X.A (eval (.Lambda params body scope pos) X.env) Q X.xe s:=by
 obtain⟨cl,ecl,h1,h2⟩:=mi (scope:=scope) (env:=X.env) fun y hy e=>I.ok.has y.1 (hf y hy e)
 have hB:=B.bm.keeps I.bk
 have hG:=B.gl.keeps I.bk
 have hC:=B.hd.keeps I.bk
 obtain⟨qs,et,z⟩:=(show ObjOk X.prog X.w H s.heap P (.tbl _) from I.hok P _ hP)
 --the pin of the function's object
 have pin:∀{H1:Hp} {h':Heap} {tk:Nat} {o:Obj},Inv X pins σ H1 {s with heap:=h',toks:=tk} ->o.isFreed=false ->(∀v,o.data≠ .cell v) ->Inv X ((h'.objs.size,o)::pins) σ H1 {s with heap:=h'.push o,toks:=tk}:=fun {H1 h' tk o} J hr hd=>by
  have J2:Inv X pins σ H1 {s with heap:=h'.push o,toks:=tk}:=J.kept (t':=tk) fun b u e=>Heap.get?_push_of_some _ e
  refine J2.pins_of fun p hp=> ?_
  rcases ao.mp hp with rfl|hp
  ·exact⟨Heap.get?_push_size _ hr,J.hok.fresh (av _),cT J.lt,J.nofs (av _),hd⟩
  ·exact J2.pin p (aM _ hp)
 refine kla_eval hdef ?_;rcases z with rfl|⟨c,oc,l,d,q,t,u,vs,e1,rfl,e3,e4,e5⟩
 ·refine kla_makeFunction (mg:=X.mg) ecl I.ok.glob hG hcode hC et trivial rfl B.ne hB fun c' ctv h' tk hx hge hlt hrec htb=> ?_
  obtain⟨c₂,oc,vs,t,e2,hoc,hd,hv⟩:=hrec
  cases e2;have J:=I.table (tk:=tk) hP hx hge hoc hd hv (by simpa using htb)
  refine h cl _ c' _ ctv _ _ h1 h2 (pin J rfl fun v z=>by cases z) (fun b o e=>by rw[i7 (i4 e (I.hok.fresh hge))];exact e) ⟨oc,vs,t,by rw[iX],hd,hv⟩
 ·have e1':tagL pos.line pos.col (X.env.qual++"<lambda>")= #[l,d,.str q t]:=e1
  obtain⟨rfl,rfl,rfl,rfl⟩:l=rawInt pos.line /\ d=rawInt pos.col /\ q=X.env.qual++"<lambda>" /\ t=0:=by
   have:=congrArg iQ e1'
   simp only[tagL,cp.injEq,Value.str.injEq] at this;exact⟨this.1.symm,this.2.1.symm,this.2.2.1.1.symm,this.2.2.1.2.symm⟩
  refine kla_makeFunctionHit (mg:=X.mg) (cv:= .ref c) ecl I.ok.glob hG hcode hC et trivial (by simp[codeAmong,rawInt]) hB fun ctv h' tk hk hsz=> ?_
  have J:=I.kept (t':=tk) hk
  exact h cl _ c _ ctv _ _ h1 h2 (pin J rfl fun v z=>by cases z) (fun b o e=>e) ⟨oc,vs,u,e3,e4,e5⟩
end
end L2
namespace SR
open PySem PySem.W PyProof.Rows
noncomputable def AskIn(N:Nat){α:Type}:KasT α ->(α ->Prop) ->Prop
 | .ret a,R=>R a
 | .ask i j k,R=>i<N /\ j<N /\ ∀b,AskIn N (k b) R
theorem AskIn.mono{N:Nat}{α:Type}{R R':α ->Prop}(h:∀a,R a ->R' a):∀{t:KasT α},AskIn N t R ->AskIn N t R'
 | .ret _,q=>h _ q
 | .ask _ _ _,q=>⟨q.1,q.2.1,fun b=>AskIn.mono h (q.2.2 b)⟩
theorem AskIn.bind{N:Nat}{α β:Type}{f:α ->KasT β}{R:β ->Prop}:∀{t:KasT α},AskIn N t (fun a=>AskIn N (f a) R) ->AskIn N (t.bind f) R
 | .ret _,q=>q
 | .ask _ _ _,q=>⟨q.1,q.2.1,fun b=>AskIn.bind (q.2.2 b)⟩
theorem tN{lt:Nat ->Nat ->Bool}{N:Nat}{cmp:Nat ->Nat ->(Bool ->Shared ->Prop) ->Shared ->Prop}{s:Shared}(hc:∀i j C,i<N ->j<N ->C (lt i j) s ->cmp i j C s){α:Type}{Q:α ->Shared ->Prop}{R:α ->Prop}:
  ∀(t:KasT α),AskIn N t R ->Q (evT lt t) s ->t.kasWp cmp Q s
 | .ret _,_,h=>h
 | .ask i j k,q,h=>hc i j _ q.1 q.2.1 (tN hc (k (lt i j)) (q.2.2 _) h)
noncomputable def Bn(N:Nat)(p:Array Nat):Prop:=∀i,p.getD i 0<N
theorem Bn.pos{N:Nat}{p:Array Nat}(h:Bn N p):0<N:=bJ (bp _) (h 0)
theorem Bn.of{N:Nat}{p:Array Nat}(hN:0<N)(h:∀x∈p,x<N):Bn N p:=fun i=>by
 by_cases hi:i<p.size
 ·have e:p.getD i 0=p[i]:=by simp[gu,hi]
  rw[e];exact h _ (Array.getElem_mem hi)
 ·have e:p.getD i 0=0:=by simp[gu,hi]
  rw[e];exact hN
theorem Bn.mem{N:Nat}{p:Array Nat}(h:Bn N p):∀x∈p,x<N:=fun x hx=>by
 obtain⟨i,hi,rfl⟩:=Array.mem_iff_getElem.mp hx
 have:=h i
 have e:p.getD i 0=p[i]:=by simp[gu,hi]
 rwa [e] at this
theorem Bn.perm{N:Nat}{p q:Array Nat}(h:Bn N p)(e:q.Perm p):Bn N q:= .of h.pos fun x hx=>h.mem x (e.mem_iff.mp hx)
theorem Bn.rev{N:Nat}{p:Array Nat}(h:Bn N p)(i j:Nat):Bn N (kas_rev p i j):=h.perm (mirror_perm _ _ _ _)
section
variable {N:Nat}
theorem sH{p:Array Nat}(h:Bn N p):∀f n:Nat,AskIn N (kas_asc p f n) fun _=>True
 |0,_=>trivial
 |f+1,n=>⟨h _,h _,fun b=>by
  cases b
  ·exact sH h f (n+1)
  ·trivial⟩
theorem ni:∀(f:Nat) (p:Array Nat) (n q:Nat),Bn N p ->AskIn N (kas_desc f p n q) fun r=>Bn N r.1
 |0,p,n,q,h=>h
 |f+1,p,n,q,h=>⟨h _,h _,fun b=>by
  cases b
  ·exact⟨h _,h _,fun d=>by
    cases d
    ·exact ni f p (n+1) (q+1) h
    ·exact h⟩
  ·show AskIn N (if q>0 then _ else _) _
   by_cases c:q>0
   ·rw[if_pos c];exact ni f _ _ _ (h.rev _ _)
   ·rw[if_neg c];exact ni f _ _ _ h⟩
theorem rp{n nrem:Nat}{p:Array Nat}(h:Bn N p):AskIn N (kas_tail3 n nrem p) fun r=>Bn N r.2:=
 AskIn.bind ((sH (h.rev _ _) _ _).mono fun _ _=>h.rev _ _)
theorem mJ{n nrem:Nat}{p:Array Nat}(h:Bn N p):AskIn N (kas_descPart n nrem p) fun r=>Bn N r.2:=
 AskIn.bind ((ni _ _ _ _ h).mono fun r hr=>by
  by_cases c:r.2.2>0
  ·rw[if_pos c];exact rp (hr.rev _ _)
  ·rw[if_neg c];exact rp hr)
theorem wz{nrem:Nat}{p:Array Nat}(h:Bn N p):AskIn N (kas_count nrem p) fun r=>Bn N r.2:=
 AskIn.bind ((sH h _ _).mono fun n _=>by
  by_cases c:(n==nrem)=true
  ·rw[if_pos c];exact h
  ·rw[if_neg c]
   by_cases c2:n>1
   ·rw[if_pos c2];exact⟨h _,h _,fun b=>by
     cases b
     ·exact mJ (h.rev _ _)
     ·exact h⟩
   ·rw[if_neg c2];exact mJ h)
theorem oa{p:Array Nat}(h:Bn N p)(k:Nat):∀f l r:Nat,AskIn N (kas_place p k f l r) fun _=>True
 |0,_,_=>trivial
 |f+1,l,r=>by
  unfold kas_place
  by_cases c:l≥r
  ·rw[if_pos c];trivial
  ·rw[if_neg c];exact⟨h _,h _,fun b=>by
    cases b
    ·exact oa h k f _ _
    ·exact oa h k f _ _⟩
theorem wA:∀(f:Nat) (p:Array Nat) (k:Nat),Bn N p ->AskIn N (kas_bin f p k) fun _=>True
 |0,_,_,_=>trivial
 |f+1,p,k,h=>AskIn.bind ((oa h k _ _ _).mono fun l _=>wA f _ _ (h.perm (bubble_perm _ _ _)))
theorem yu(hN:0<N):AskIn N (kas_sort N) fun _=>True:=by
 have h0:Bn N (bP (bg N)):= .of hN fun x hx=>by simpa using hx
 refine AskIn.bind ((wz h0).mono fun r hr=> ?_)
 by_cases c:r.1<N
 ·rw[if_pos c];exact wA _ _ _ hr
 ·rw[if_neg c];trivial
end
theorem sort_wp{lt:Nat ->Nat ->Bool}(O:Ord lt){N:Nat}(h2:2<=N){cmp:Nat ->Nat ->(Bool ->Shared ->Prop) ->Shared ->Prop}{s:Shared}(hc:∀i j C,i<N ->j<N ->C (lt i j) s ->cmp i j C s)
  {Q:Array Nat ->Shared ->Prop} (h:∀p:Array Nat,p.toList.Perm (bg N) ->p.toList.Pairwise (sl lt) ->Q p s):(kas_sort N).kasWp cmp Q s:=by
 refine tN hc (kas_sort N) (yu (by omega)) ?_;obtain⟨p,e,sz,pm,as⟩:=y8 O h2
 rw[e];refine h p ?_ ?_
 ·have:=Array.perm_iff_toList_perm.mp pm
  simpa using this
 ·rw[cB];intro i j hi hj hij;have hi':i<p.size:=by simpa using hi
  have hj':j<p.size:=by simpa using hj
  have q:=as i j hij (by omega)
  have e1:g p i=p[i]:=by simp[g,gu,hi']
  have e2:g p j=p[j]:=by simp[g,gu,hj']
  rw[e1,e2] at q
  simpa using q
end SR
namespace L2
open PySem PySem.Spec PyProof.Rows PySem.W
section
variable {X:Cx} {pins:List (Addr×Obj)} {σ:St} {H:Hp} {s:Shared}
theorem Inv.fewer{pins':List (Addr×Obj)}(I:Inv X pins σ H s)(h:∀p∈pins',p∈pins):Inv X pins' σ H s:=I.pins_of fun p hp=>I.pin p (aM _ (h p hp))
theorem Inv.more{a:Addr}{o:Obj}(I:Inv X pins σ H s)(e:s.heap.get? a=some o)(n:H a=none)(h1:a≠X.env.locals)(h2:a∉X.fs)(h3:∀v,o.data≠ .cell v):Inv X ((a,o)::pins) σ H s:=
 I.pins_of fun p hp=>by
  rcases ao.mp hp with rfl|hp
  ·exact⟨e,n,h1,h2,h3⟩
  ·exact I.pin p (aM _ hp)
structure Ours(X:Cx)(pins:List (Addr×Obj))(H:Hp)(s:Shared)(a:Addr):Prop where
 n:H a=none
 ge:X.s₀.heap.objs.size<=a
 nl:a≠X.env.locals
 nc:∀x c,X.env.cells.lookup x=some c ->c≠a
 np:∀p∈X.pn++pins,p.1≠a
 nf:a∉X.fs
theorem Inv.fresh_ours(I:Inv X pins σ H s){a:Addr}(h:s.heap.objs.size<=a):Ours X pins H s a:=
 ⟨I.hok.fresh h,bW I.sz h,cT (aO I.lt h),fun x c e z=>by
  obtain⟨v,o,ho,_⟩:=I.cell x c e
  rw[z] at ho;exact absurd (aO (Heap.lt_size ho) h) (ci _),fun p hp z=>by
  obtain⟨e,_⟩:=I.pin p hp
  rw[z] at e;exact absurd (aO (Heap.lt_size e) h) (ci _),I.nofs h⟩
theorem Inv.set_ours{a:Addr}{h':Heap}{tk:Nat}(I:Inv X pins σ H s)(O:Ours X pins H s a)(k:∀b o,b≠a ->s.heap.get? b=some o ->h'.get? b=some o):Inv X pins σ H {s with heap:=h',toks:=tk}:=
 I.turned k O.n O.nl (.inr O.ge) O.nc O.np
theorem Inv.take{a:Addr}{o:HO}(I:Inv X pins σ H s)(O:Ours X pins H s a)(new:ObjOk X.prog X.w (upd H a o) s.heap a o):Inv X pins σ (upd H a o) s:=
 I.track O.n (fun b u e _=>aW (aO (Heap.lt_size e) O.ge)) (Ne.symm O.nl) O.nc O.np new
end
noncomputable def Cv(X:Cx)(s:Shared)(u:Value)(xs:List V):Prop:=∀(A:Around) (E:Value ->Shared ->Prop) (Q:List Value ->Shared ->Prop),A.handled=none ->
 (∀us h' tk,(∀b o,s.heap.get? b=some o ->h'.get? b=some o) ->Vals xs us ->Q us {s with heap:=h',toks:=tk}) ->wpAny (model X.prog X.w) A (collect u) Q E s
section
variable {X:Cx} {pins:List (Addr×Obj)} {σ:St} {H:Hp} {s:Shared}
theorem qZ{l:Addr}{xs:List V}(I:Inv X pins σ H s)(hl:SqL X.K H l xs)(h64:xs.length<64):Cv X s (.ref l) xs:=by
 intro A E Q _ h;obtain⟨its,r,pl,hz⟩:=I.list hl
 have hlen:=r.length
 refine collect_list pl.isList (h _ _ _ (fun b o e=> ?_) r) (by rw[sizeLine_eq];omega);have hlt:=Heap.lt_size e
 rw[Heap.get?_update_ne _ _ _ _ (aW hlt)];exact Heap.get?_push_of_some _ e
theorem uB{r:Addr}{n:Nat}(I:Inv X pins σ H s)(hr:H r=some (.rng 0 (n:Int)))(hn:n<64):Cv X s (.ref r) ((bg n).map fun j:Nat=>V.int (j:Int)):=by
 intro A E Q hh h;obtain⟨t,u,v,e⟩:=(show ObjOk X.prog X.w H s.heap r (.rng 0 (n:Int)) from I.hok r _ hr)
 have hsz:Builtin.Range.rangeSize 0 (n:Int) 1=n:=by rw[rangeSize_one];split<;>omega
 unfold collect;refine wpAny_bind (wpAny_runValue (codeAny_builtin F.entry_proto_collect ?_));rw[Around.under_plainId F.plain_proto_collect _];show wpAny _ A.in1 (newList []>>=fun l=>again (.builtin "list.__iadd__" ⟨[l,.ref r],[]⟩)) _ _ s
 refine wpAny_bind (wpAny_newObj_type ?_);refine wpAny_pure ⟨plainId_quiet F.plain_list_iadd _,codeAny_builtin F.entry_list_iadd ?_⟩;rw[Around.under_plainId F.plain_list_iadd _];have hS:(s.heap.push {cls:= .type "list",data:= .seq ([]:List Value).toArray}).get? s.heap.objs.size=some {cls:= .type "list",data:= .seq #[]}:=Heap.get?_push_size _ rfl
 show wpAny _ A.in1 (Builtin.List.listExtendWith (.ref s.heap.objs.size) (.ref r) (.ref s.heap.objs.size)) _ _ _
 refine wpAny_extend_range (s:={s with heap:=s.heap.push {cls:= .type "list",data:= .seq ([]:List Value).toArray}}) (n:=n) (a:=0) (b:=(n:Int)) (c:=1) (t:=t) (u:=u) (v:=v) (R:=fun r s'=>match r with
  | .ok (.ret v)=>wpAny (model X.prog X.w) A (match v with
   | .ref a=>do
    let o<-load a
    match o.data with
    | .seq xs _=>pure xs.toList
    |_=>unsupported "internal:collect"
   |_=>unsupported "internal:collect") Q E s'
  | .ok _=>False
  | .error e=>E e s') hh (Heap.get?_push_of_some _ e) (small_one (by omega) (by omega) (by omega) (by omega)) hsz (by omega) s.heap.objs.size (.ref s.heap.objs.size) 0 hS fun h' tk acc' c' kp hl hit=> ?_
 show wpAny (model X.prog X.w) A (do
   let o<-load s.heap.objs.size
   match o.data with
   | .seq xs _=>pure xs.toList
   |_=>unsupported "internal:collect") Q E {s with heap:=h',toks:=tk}
 refine wpAny_bind (wpAny_load hl (wpAny_pure (h _ _ _ (fun b o e=>kp b o (aW (Heap.lt_size e)) (Heap.get?_push_of_some _ e)) ?_)));have key:∀(k:Nat),k<=n ->Vals ((bg k).map fun j:Nat=>V.int (j:Int)) (acc'.toList.take k):=by
  intro k
  induction k with
  |zero=>intro _;exact .nil
  |succ k ih=>
   intro hk;have hlt:k<acc'.size:=by rw[hit.1];omega
   obtain⟨t,et⟩:=hit.2 k acc'[k] (bL hlt)
   rw[iB,au,bV];have e3:acc'.toList[k]? =some acc'[k]:=by rw[gg,bL hlt]
   rw[e3];refine(ih (by omega)).append (.cons ?_ .nil);refine⟨t,?_⟩;rw[et]
   congr 1
   omega
 have:=key n (av _)
 rwa [cc (by rw[dI,hit.1];exact av _)] at this
end
end L2
set_option maxHeartbeats 4000000
namespace L2
open PySem PySem.Spec PyProof.Rows PySem.W
noncomputable abbrev qU(us:List Value)(n:Nat):Obj:=seqObj "list" us.toArray n
section
variable {X:Cx} {pins:List (Addr×Obj)} {σ:St} {H:Hp} {s:Shared} {A:Around}
theorem Ours.pin{a:Addr}{o:Obj}{own:List (Addr×Obj)}{H1:Hp}{s1:Shared}(O:Ours X pins H s a)(I:Inv X ((a,o)::pins) σ H1 s1):Ours X pins H1 s1 a:=by
 obtain⟨e,n,_⟩:=I.pin (a,o) (aM _ aY)
 exact⟨n,O.ge,O.nl,O.nc,O.np,O.nf⟩
structure KeyOf(X:Cx)(A:Around)(f:Value)(Rk:V ->V ->Hp ->Prop)(xs:List V)(pins:List (Addr×Obj))(σ:St)(H:Hp):Prop where
 mono:∀x k H1 H2,Ext H1 H2 ->Rk x k H1 ->Rk x k H2
 turn:∀own s1 H1 x u,x∈xs ->RelV x u ->Ext H H1 ->Inv X (own++pins) σ H1 s1 ->wpAny (model X.prog X.w) A (call f [u]) (EP X (own++pins) σ fun k H2=>Ext H1 H2 /\ Rk x k H2) (fun _ _=>False) s1
structure KeyLt(X:Cx)(A:Around)(Rk:V ->V ->Hp ->Prop)(xs:List V)(lt:Nat ->Nat ->Bool)(pins:List (Addr×Obj))(σ:St)(H:Hp):Prop where
 ord:SR.Ord lt
 ask:∀own s1 H1 kvs ks,Ext H H1 ->Inv X (own++pins) σ H1 s1 ->Paired (fun x k=>Rk x k H1) xs kvs ->Vals kvs ks ->2<=xs.length ->
  ∃κ,(∀(Q:SortKind ->Shared ->Prop) E,Q κ s1 ->wpAny (model X.prog X.w) A (keyKind' ks.toArray) Q E s1) /\ ∀i j C,i<xs.length ->j<xs.length ->C (lt i j) s1 ->kas_ask X.prog X.w A κ ks i j C s1
noncomputable def jF(lt:Nat ->Nat ->Bool)(n:Nat)(q:List Nat):Prop:=q.Perm (bg n) /\ q.Pairwise (SR.sl lt)
noncomputable def atV(xs:List V)(i:Nat):V:=xs.getD i .non
theorem nj{xs:List V}{us:List Value}(r:Vals xs us):∀{q:List Nat},(∀i∈q,i<xs.length) ->Vals (q.map (atV xs)) (q.map fun i=>us.getD i Value.none)
 |[],_=> .nil
 |i::q,h=>by
  have hi:=h i aY
  refine .cons ?_ (nj r fun j hj=>h j (aB _ hj));obtain⟨u,hu,ru⟩:=r.get (af hi)
  have e1:atV xs i=xs[i]:=by simp[atV,hi]
  have e2:us.getD i Value.none=u:=by rw[aR,hu];rfl
  rw[e1];show RelV _ (us.getD i Value.none)
  rw[e2];exact ru
theorem nO{α β:Type}{F:α ->β ->Prop}:∀{as:List α} {bs:List β} {a:α} {b:β},Paired F as bs ->F a b ->Paired F (as++[a]) (bs++[b])
 |_,_,_,_,.nil,h=> .cons h .nil
 |_,_,_,_,.cons r t,h=> .cons r (nO t h)
theorem zL{f:Value}{a:Addr}{n:Nat}{us:List Value}{xs:List V}{Rk:V ->V ->Hp ->Prop}{lt:Nat ->Nat ->Bool}{P:PySem.Fin ->Shared ->Prop}{E:Value ->Shared ->Prop}(I:Inv X pins σ H s)(O:Ours X pins H s a)(ha:s.heap.get? a=some (qU us n))
  (r:Vals xs us) (h64:us.length<64) (Kf:KeyOf X A f Rk xs pins σ H) (Kl:KeyLt X A Rk xs lt pins σ H)
  (h:∀q H1 s1 c,jF lt xs.length q ->Ext H H1 ->Inv X pins σ H1 s1 ->Ours X pins H1 s1 a ->s1.heap.get? a=some (qU (q.map fun i=>us.getD i Value.none) c) ->P (.done (.ret .none)) s1):
  wpAny (model X.prog X.w) A (ksk_tree a f false) P E s:=by
 have hlen:=r.length
 have sz64:∀k,k<64 ->k<=sizeLine:=fun k hk=>by rw[sizeLine_eq];omega
 have s1:=Heap.SameBut.update s.heap a (Obj.mapSeq fun _=>(#[]:Array Value))
 obtain⟨e1,ho1⟩:∃e1,(s.heap.update a (Obj.mapSeq fun _=>(#[]:Array Value))).get? a=some (seqObj "list" #[] e1):=⟨_,get?_update_seq ha fun _=> #[]⟩
 have I1:Inv X pins σ H {s with heap:=s.heap.update a (Obj.mapSeq fun _=>(#[]:Array Value))}:=I.set_ours (tk:=s.toks) O fun b o hb e=>(s1.2 b hb).trans e
 unfold ksk_tree;refine wpAny_bind (listItems_at ha rfl ?_);refine wpAny_bind (listUpdate_at ha rfl ?_ (by rw[ax];exact sz64 _ h64) (bp _));refine wpAny_bind (seqEpoch_at ho1 rfl ?_);refine wpAny_bind (wpAny_newTuple ?_ (by show us.length<=_;exact sz64 _ h64));refine wpAny_bind (wpAny_newList ?_ (bp _));refine wpAny_holding ?_;generalize hh1:s.heap.update a (Obj.mapSeq fun _=>(#[]:Array Value))=h1 at*;have I2:Inv X pins σ H {s with heap:=h1.push (seqObj "tuple" us.toArray 0)}:=I1.kept (t':=s.toks) fun b o e=>Heap.get?_push_of_some _ e
 have I3:Inv X pins σ H {s with heap:=(h1.push (seqObj "tuple" us.toArray 0)).push (seqObj "list" #[] 0)}:=I2.kept (t':=s.toks) fun b o e=>Heap.get?_push_of_some _ e
 have Ok:=I2.fresh_ours (a:=(h1.push (seqObj "tuple" us.toArray 0)).objs.size) (av _)
 have ek0:((h1.push (seqObj "tuple" us.toArray 0)).push (seqObj "list" #[] 0)).get? (h1.push (seqObj "tuple" us.toArray 0)).objs.size=some (seqObj "list" #[] 0):=Heap.get?_push_size _ rfl
 have hka:(h1.push (seqObj "tuple" us.toArray 0)).objs.size≠a:=by
  have l1:=Heap.lt_size ho1
  rw[size_push'];exact cT (du l1)
 have ea3:((h1.push (seqObj "tuple" us.toArray 0)).push (seqObj "list" #[] 0)).get? a=some (seqObj "list" #[] e1):=Heap.get?_push_of_some _ (Heap.get?_push_of_some _ ho1)
 show wpAny _ A (ksk_rest a f false us.toArray e1 (.ref (h1.push (seqObj "tuple" us.toArray 0)).objs.size)) P E {s with heap:=(h1.push (seqObj "tuple" us.toArray 0)).push (seqObj "list" #[] 0)}
 generalize(h1.push (seqObj "tuple" us.toArray 0)).objs.size=kS at*;generalize hs3:({s with heap:=(h1.push (seqObj "tuple" us.toArray 0)).push (seqObj "list" #[] 0)}:Shared)=s3 at*;have ek3:s3.heap.get? kS=some (seqObj "list" #[] 0):=by rw[<-hs3];exact ek0
 have ea3':s3.heap.get? a=some (seqObj "list" #[] e1):=by rw[<-hs3];exact ea3
 have OkH:Ours X pins H s3 kS:=⟨Ok.n,Ok.ge,Ok.nl,Ok.nc,Ok.np,Ok.nf⟩
 have OaH:Ours X pins H s3 a:=⟨O.n,O.ge,O.nl,O.nc,O.np,O.nf⟩
 --both lists as pins
 have pin2:∀{H1:Hp} {s1:Shared} {ks:List Value} {e:Nat},Inv X pins σ H1 s1 ->H1 a=none ->H1 kS=none ->s1.heap.get? a=some (seqObj "list" #[] e1) ->s1.heap.get? kS=some (qU ks e) ->Inv X ([(kS,qU ks e),(a,seqObj "list" #[] e1)]++pins) σ H1 s1:=
  fun {H1 s1 ks e} J n1 n2 g1 g2=>(J.more g1 n1 O.nl O.nf fun v z=>by cases z).more g2 n2 Ok.nl Ok.nf fun v z=>by cases z
 unfold ksk_rest;refine wpAny_bind (wpAny_rule ?_);rw[<-Array.forIn_toList];simp only[List.toList_toArray];refine wpAny_bind (ksk_fold (fun i s'=>∃H1 kvs ks e,Ext H H1 /\ Inv X ([(kS,qU ks e),(a,seqObj "list" #[] e1)]++pins) σ H1 s' /\ Paired (fun x k=>Rk x k H1) (xs.take i) kvs /\ Vals kvs ks) us 0 s3
  ⟨H,[],[],0,fun _ _ z=>z,pin2 (ks:=[]) I3 OaH.n OkH.n ea3' ek3,(by rw[gz];exact .nil),.nil⟩ ?step ?done)
 case step=>
  rintro j u s' hu ⟨H1,kvs,ks,e,x1,J,pr,vk⟩;simp only[eJ] at pr⊢;have hj:j<us.length:=(aa.mp hu).1
  have hjx:j<xs.length:=by omega
  have ruv:RelV xs[j] u:=by
   obtain⟨u',hu',ru⟩:=r.get (af hjx)
   rw[hu] at hu';cases hu';exact ru
  have lk:ks.length=j:=by
   have h1:=pr.length
   have h2:=vk.length
   rw[az] at h1;omega
  refine wpAny_bind (wpAny_attempt (wpAny_mono (Kf.turn _ s' H1 xs[j] u (cL hjx) ruv x1 J) (fun k s'' he=> ?_) fun _ _ hF=>hF.elim));obtain⟨kv,H2,J2,rk,x2,rkk⟩:=he
  obtain⟨gk,nk,_⟩:=J2.pin (kS,qU ks e) (aM _ (bf _ aY))
  obtain⟨ga,na,_⟩:=J2.pin (a,seqObj "list" #[] e1) (aM _ (bf _ (aB _ aY)))
  try dsimp only
  obtain⟨c2,hc2⟩:∃c2,(s''.heap.update kS (Obj.mapSeq (·.push k))).get? kS=some (seqObj "list" (ks.toArray.push k) c2):=⟨_,get?_update_seq gk (·.push k)⟩
  rw[List.push_toArray] at hc2;have sk:=Heap.SameBut.update s''.heap kS (Obj.mapSeq (·.push k))
  refine wpAny_bind (listUpdate_at gk rfl ?_ (by rw[ax];exact sz64 _ (by omega)) (bW (Nat.le_of_eq (Array.size_push ..)) (by rw[ax,sizeLine_eq];omega)));refine wpAny_pure ⟨rfl,H2,kvs++[kv],ks++[k],c2,fun b o z=>x2 b o (x1 b o z),?_,?_,vk.append (.cons rk .nil)⟩
  ·have J3:Inv X pins σ H2 {s'' with heap:=s''.heap.update kS (Obj.mapSeq (·.push k))}:=
    (J2.fewer fun p hp=>aM _ hp).set_ours (tk:=s''.toks) (a:=kS) ⟨nk,Ok.ge,Ok.nl,Ok.nc,Ok.np,Ok.nf⟩ fun b o hb g=>(sk.2 b hb).trans g
   exact pin2 J3 na nk ((sk.2 a (Ne.symm hka)).trans ga) hc2
  ·rw[dA,af hjx];exact nO (Paired.mapP pr fun x k q=>Kf.mono x k _ _ x2 q) rkk
 case done=>
  rintro s' ⟨H1,kvs,ks,e,x1,J,pr,vk⟩;rw[cc (by omega)] at pr;obtain⟨gk,nk,_⟩:=J.pin (kS,qU ks e) (aM _ (bf _ aY))
  obtain⟨ga,na,_⟩:=J.pin (a,seqObj "list" #[] e1) (aM _ (bf _ (aB _ aY)))
  have lk:ks.length=us.length:=by
   have h1:=pr.length
   have h2:=vk.length
   omega
  have hzl:(ks.toArray.zip us.toArray).size=us.length:=by simp[lk]
  have J0:=J.fewer (pins':=pins) fun p hp=>aM _ hp
  --the end
  have tail:∀(st:SortSt) (q:List Nat),jF lt xs.length q ->failedOf st=none ->(arrOf st).map (·.2)=bP (q.map fun i=>us.getD i Value.none) ->wpAny (model X.prog X.w) A (ksk_tail a false e1 (.ref kS) st) P E s':=fun st q hq hfl hout=>by
   have ql:q.length=us.length:=by
    have:=hq.1.length_eq
    rw[bC] at this;omega
   have t1:=Heap.SameBut.update s'.heap kS (Obj.mapSeq fun _=>(#[]:Array Value))
   have ga1:(s'.heap.update kS (Obj.mapSeq fun _=>(#[]:Array Value))).get? a=some (seqObj "list" #[] e1):=(t1.2 a (Ne.symm hka)).trans ga
   have t2:=Heap.SameBut.update (s'.heap.update kS (Obj.mapSeq fun _=>(#[]:Array Value))) a (Obj.mapSeq fun _=>(arrOf st).map (·.2))
   obtain⟨c2,hc2⟩:∃c2,((s'.heap.update kS (Obj.mapSeq fun _=>(#[]:Array Value))).update a (Obj.mapSeq fun _=>(arrOf st).map (·.2))).get? a=some (seqObj "list" ((arrOf st).map (·.2)) c2):=⟨_,get?_update_seq ga1 fun _=>(arrOf st).map (·.2)⟩
   unfold ksk_tail
   try dsimp only
   refine wpAny_bind (listUpdate_at gk rfl ?_ (by rw[ax];exact sz64 _ (by omega)) (bp _));refine wpAny_bind (wpAny_letGo ?_);refine wpAny_bind (seqEpoch_at ga1 rfl ?_);refine wpAny_bind (listUpdate_at ga1 rfl ?_ (bp _) (by
    show((arrOf st).map (·.2)).size<=_
    rw[hout,ax,ae,sizeLine_eq];omega))
   rw[hfl];simp only[bne_self_eq_false,bR,if_false];have J1:Inv X pins σ H1 {s' with heap:=s'.heap.update kS (Obj.mapSeq fun _=>(#[]:Array Value))}:=J0.set_ours (tk:=s'.toks) (a:=kS) ⟨nk,Ok.ge,Ok.nl,Ok.nc,Ok.np,Ok.nf⟩ fun b o hb g=>(t1.2 b hb).trans g
   have J2:Inv X pins σ H1 {s' with heap:=(s'.heap.update kS (Obj.mapSeq fun _=>(#[]:Array Value))).update a (Obj.mapSeq fun _=>(arrOf st).map (·.2))}:=J1.set_ours (tk:=s'.toks) (a:=a) ⟨na,O.ge,O.nl,O.nc,O.np,O.nf⟩ fun b o hb g=>(t2.2 b hb).trans g
   refine wpAny_pure (h q H1 _ c2 hq x1 J2 ⟨na,O.ge,O.nl,O.nc,O.np,O.nf⟩ ?_);rw[hout] at hc2⊢;exact hc2
  refine wpAny_bind (listItems_at gk rfl ?_);unfold ksk_end
  try dsimp only
  simp only[bR,if_false]
  by_cases h2:us.toArray.size<2
  ·rw[if_pos h2,if_pos h2];rw[ax] at h2;refine wpAny_bind (wpAny_pure ?_);rw[StateT.run_pure];refine wpAny_bind (wpAny_pure ?_)
   try dsimp only
   refine tail _ (bg xs.length) ⟨gB _,?_⟩ rfl ?_
   ·rw[cB];intro i j hi hj hij;rw[bC] at hi hj;omega
   ·show((ks.toArray.zip us.toArray).map (·.2))=_
    apply hJ.mp;rw[hU,ksk_zip];rw[hV (by simp[lk])];rw[hlen];apply hZ
    ·simp
    ·intro i h1 h3;simp at h1 h3;simp[h1]
  ·rw[if_neg h2,if_neg h2];rw[ax] at h2;obtain⟨κ,kk,ka⟩:=Kl.ask _ s' H1 kvs ks x1 J pr vk (by omega)
   refine wpAny_bind (kk _ _ ?_);refine wpAny_bind (wpAny_mono (kat_run (κ:=κ) (vs:=us) (ks:=ks) (Q:=fun st' s2=>s2=s' /\ ∃q,jF lt xs.length q /\ failedOf st'=none /\ (arrOf st').map (·.2)=bP (q.map fun i=>us.getD i Value.none))
    (G:=fun p s2=>s2=s' /\ jF lt xs.length p.toList) lk (by omega) h64 (fun p st' s2 a1 a2 a3 a4=>⟨a4.1,p.toList,a4.2,a3,kat_snds lk a2⟩) ?_) ?_ fun _ _ e=>e)
   ·have:=SR.sort_wp (N:=us.length) (cmp:=kas_ask X.prog X.w A κ ks) (s:=s') (Q:=fun p s2=>s2=s' /\ jF lt xs.length p.toList) Kl.ord (by omega) (fun i j C hi hj hC=>ka i j C (by omega) (by omega) hC) fun p hp hs=>⟨rfl,by rw[hlen];exact hp,hs⟩
    exact this
   ·rintro⟨⟨⟩,st'⟩ s2 ⟨rfl,q,hq,hf,ho⟩;exact tail st' q hq hf ho
end
end L2
set_option maxHeartbeats 4000000
namespace L2
open PySem PySem.Spec PyProof.Rows PySem.W
theorem tL:∀a b:List Int,HT.lexLt a b=true ->HT.lexLt b a=false
 |[],[],h=>by cases h
 |[],_::_,_=>rfl
 |_::_,[],h=>by cases h
 |x::a,y::b,h=>by
  rw[HT.lexLt_cons] at h⊢
  by_cases e:x=y
  ·rw[if_pos e] at h;rw[if_pos e.symm];exact tL a b h
  ·rw[if_neg e] at h;rw[if_neg (Ne.symm e)];simp only[decide_eq_true_eq,decide_eq_false_iff_not] at h⊢;omega
theorem yI:∀a b c:List Int,HT.lexLt b a=false ->HT.lexLt c b=false ->HT.lexLt c a=false
 |[],_,c,_,_=>by cases c<;>rfl
 |_::_,[],_,h,_=>by cases h
 |_::_,_::_,[],_,h=>by cases h
 |x::a,y::b,z::c,h1,h2=>by
  rw[HT.lexLt_cons] at h1 h2⊢
  by_cases e1:y=x
  ·rw[if_pos e1] at h1
   by_cases e2:z=y
   ·rw[if_pos e2] at h2;rw[if_pos (e2.trans e1)];exact yI a b c h1 h2
   ·rw[if_neg e2] at h2;rw[if_neg (fun q=>e2 (q.trans e1.symm))];rw[<-e1];exact h2
  ·rw[if_neg e1] at h1
   by_cases e2:z=y
   ·rw[if_neg (fun q=>e1 (e2.symm.trans q)),e2];exact h1
   ·rw[if_neg e2] at h2;simp only[decide_eq_false_iff_not] at h1 h2;rw[if_neg (by omega)];simp only[decide_eq_false_iff_not];omega
noncomputable def ltI(g:V ->Int)(xs:List V)(i j:Nat):Bool:=decide (g (atV xs i)<g (atV xs j))
noncomputable def ltT(g:V ->List Int)(xs:List V)(i j:Nat):Bool:=HT.lexLt (g (atV xs i)) (g (atV xs j))
theorem Ba(g:V ->List Int)(xs:List V):SR.Ord (ltT g xs):=⟨fun a b h=>tL _ _ h,fun a b c h1 h2=>yI _ _ _ h1 h2⟩
noncomputable def BY(g:V ->List Int):V ->V ->Hp ->Prop:=fun x k H=>∃t,k= .ref t /\ H t=some (.tup ((g x).map V.int))
theorem nQ{α β:Type}{F:α ->β ->Prop}:∀{as:List α} {bs:List β},Paired F as bs -> ∀{i:Nat} {a:α},as[i]? =some a -> ∃b,bs[i]? =some b /\ F a b
 |_,_,.cons r t,0,a,h=>by cases h;exact⟨_,rfl,r⟩
 |_,_,.cons r t,i+1,a,h=>nQ t (i:=i) (by simpa using h)
theorem n9{xs:List V}{i:Nat}(h:i<xs.length):xs[i]? =some (atV xs i):=by
 rw[af h];simp[atV,h]
section
variable {X:Cx} {A:Around} {xs:List V} {pins:List (Addr×Obj)} {σ:St} {H:Hp}
theorem p0{s:Shared}{b:Bool}{C:Bool ->Shared ->Prop}:∀{us vs:List Value} {ns ms:List Int} {i:Nat},IntsAre us ns ->IntsAre vs ms ->ns.length=ms.length ->C (HT.lexLt ns ms) s ->
  KatLex X.prog X.w A b false C (us.zip vs) i s
 |_,_,_,_,_,.nil,.nil,_,h=>h
 |_,_,_,_,i,.cons x t hu,.cons y t' hv,hl,h=>by
  have hl':=hl
  simp only[aX,Nat.add_right_cancel_iff] at hl';rw[cH];refine kat_cons (wpAny_eqBool_int ?_);rw[HT.lexLt_cons] at h
  by_cases e:x=y
  ·rw[if_pos e] at h;have:(x==y)=true:=by simpa using e
   rw[this];exact kat_yes (p0 hu hv hl' h)
  ·rw[if_neg e] at h;have:(x==y)=false:=by simpa using e
   rw[this];refine kat_no ?_
   by_cases c:(b&&i==0)=true
   ·rw[c];exact oneLt_int h
   ·have c':(b&&i==0)=false:=by simpa using c
    rw[c'];exact kat_one _ _ (lt_int h)
theorem v5{f:Value}{r:List Value}:∀{ns:List Int},IntsAre (f::r) ns -> ∃n t,f= .int n t
 |_,.cons n t _=>⟨n,t,rfl⟩
theorem zM(g:V ->List Int)(m:Nat)(hg:∀x∈xs,(g x).length=m+1):KeyLt X A (BY g) xs (ltT g xs) pins σ H:=⟨Ba g xs,fun own s1 H1 kvs ks x1 J pr vk h2=>by
 have lk:ks.length=xs.length:=by
  have h1:=pr.length
  have h2:=vk.length
  omega
 have tup:∀{x k:V} {u:Value},BY g x k H1 ->RelV k u -> ∃t o its n,u= .ref t /\ s1.heap.get? t=some o /\ o.cls= .type "tuple" /\ o.data= .seq its n /\ IntsAre its.toList (g x):=by
  intro x k u rk ru;obtain⟨t,rfl,et⟩:=rk
  cases ru;obtain⟨its,r,ht,hz⟩:=J.tuple (SqT.of et)
  obtain⟨o,e1,e2,n,e3⟩:=ht
  exact⟨t,o,_,n,rfl,e1,e2,e3,by simpa using intsAre_of r⟩
 have at':∀i,i<xs.length -> ∃t o its n,ks.getD i Value.none= .ref t /\ s1.heap.get? t=some o /\ o.cls= .type "tuple" /\ o.data= .seq its n /\ IntsAre its.toList (g (atV xs i)):=fun i hi=>by
  obtain⟨k,ek,rk⟩:=nQ pr (n9 hi)
  obtain⟨u,eu,ru⟩:=vk.get ek
  obtain⟨t,o,its,n,rfl,q⟩:=tup rk ru
  exact⟨t,o,its,n,by rw[aR,eu];rfl,q⟩
 have firsts:∀{xs' kvs':List V} {ks':List Value},(∀x∈xs',(g x).length=m+1) ->Paired (fun x k=>BY g x k H1) xs' kvs' ->Vals kvs' ks' -> ∃fs,KatTups s1.heap ks' fs /\ fs.length=xs'.length /\ ∀v∈fs,Looks (model X.prog X.w) s1.heap (typeOf v) (.type "int"):=by
  intro xs' kvs' ks' hg' p
  induction p generalizing ks' with
  |nil=>intro v;cases v;exact⟨[],.nil,rfl,fun v hv=>absurd hv (by simp)⟩
  |cons r t ih=>
   intro v;cases v with
   |cons a b=>
    obtain⟨fs,k1,k2,k3⟩:=ih (fun x hx=>hg' x (aB _ hx)) b
    obtain⟨t,o,its,n,rfl,e1,e2,e3,hi⟩:=tup r a
    have hl:=hg' _ aY
    cases hits:its.toList with
    |nil=>
     have:=hi.length
     rw[hits] at this;simp at this;omega
    |cons f r'=>
     have hf:its[0]? =some f:=by
      rw[<-gg,hits];rfl
     rw[hits] at hi;refine⟨f::fs,KatTups.cons e1 e2 e3 hf k1,by simp[k2],fun v hv=> ?_⟩;rcases ao.mp hv with rfl|hv
     ·obtain⟨n,t,rfl⟩:=v5 hi
      exact Looks.of_pure rfl
     ·exact k3 v hv
 obtain⟨fs,k1,k2,k3⟩:=firsts hg pr vk
 refine⟨tuples' (Value.type "int"!=Value.type "tuple"),fun Q E h=>kat_kind k1 (by omega) k3 (by decide) h,fun i j C hi' hj' hC=> ?_⟩;obtain⟨t,o,its,n,e0,e1,e2,e3,hi⟩:=at' i hi'
 obtain⟨t',o',its',n',f0,f1,f2,f3,hi2⟩:=at' j hj'
 have l1:=hg (atV xs i) (ar (n9 hi'))
 have l2:=hg (atV xs j) (ar (n9 hj'))
 show wpAny _ _ (keyLt' (tuples' _) (ks.getD i Value.none) (ks.getD j Value.none)) C _ s1
 rw[e0,f0];refine kat_lt e1 e3 f1 f3 ?_;have hs:decide (its.size<its'.size)=false:=by
  have q1:=hi.length
  have q2:=hi2.length
  rw[dI] at q1 q2;simp only[decide_eq_false_iff_not];omega
 rw[hs];exact p0 hi hi2 (by omega) hC⟩
end
end L2
set_option maxHeartbeats 4000000
namespace L2
open PySem PySem.Spec PyProof.Rows PySem.W
noncomputable def Ay(K:ah)(H:Hp)(a:Addr)(xs:List V):Prop:=SqL K H a xs∨∃n:Nat,H a=some (.rng 0 (n:Int)) /\ xs=(bg n).map fun j:Nat=>V.int (j:Int)
noncomputable def pf(K:ah)(P:Addr)(tag:Array Value)(js:List Nat)(te tk:TE):TE:=fun σ H Q=>te σ H fun v H1=>∃a xs,∃g:V ->Int,v= .ref a /\ Ay K H1 a xs /\ xs.length<64 /\ H1 P=some (.tbl tag) /\
 (∀H2 x,Ext H1 H2 ->x∈xs ->tk (mB σ js x) H2 fun k H3=>Ext H2 H3 /\ k= .int (g x)) /\ ∀D H2 q,Ext H1 H2 ->H1 D=none ->jF (ltI g xs) xs.length q ->H2 D=some (.lst (q.map (atV xs))) ->Q (.ref D) H2
noncomputable def nu(K:ah)(P:Addr)(tag:Array Value)(js:List Nat)(te tk:TE):TE:=fun σ H Q=>te σ H fun v H1=>∃a xs,∃(g:V ->List Int) (m:Nat),v= .ref a /\ Ay K H1 a xs /\ xs.length<64 /\ (∀x∈xs,(g x).length=m+1) /\ H1 P=some (.tbl tag) /\
 (∀H2 x,Ext H1 H2 ->x∈xs ->tk (mB σ js x) H2 fun k H3=>Ext H2 H3 /\ ∃t,k= .ref t /\ H3 t=some (.tup ((g x).map V.int))) /\ ∀D H2 q,Ext H1 H2 ->H1 D=none ->jF (ltT g xs) xs.length q ->H2 D=some (.lst (q.map (atV xs))) ->Q (.ref D) H2
section
variable {X:Cx} {K:ah} {k:Nat} {e body:Expr} {te tk:TE} {p pos lpos kpos:Pos} {scope:Scope} {params:Arguments} {N:List Str} {js:List Nat} {x:Str} {c0 P:Addr} {tag:Array Value}
theorem uX{pins:List (Addr×Obj)}{σ:St}{H:Hp}{s:Shared}{a:Addr}{xs:List V}(I:Inv X pins σ H s)(h:Ay X.K H a xs)(h64:xs.length<64):Cv X s (.ref a) xs:=by
 rcases h with h|⟨n,h,rfl⟩
 ·exact qZ I h h64
 ·exact uB I h (by simpa using h64)
theorem um{pins:List (Addr×Obj)}{σ:St}{H:Hp}{s:Shared}{f a:Addr}{xs:List V}{Rk:V ->V ->Hp ->Prop}{lt:Nat ->Nat ->Bool}{Q:Value ->Shared ->Prop}{E:Value ->Shared ->Prop}(hc:X.calm=true)(I:Inv X pins σ H s)(hs:Ay X.K H a xs)(h64:xs.length<64)
  (Kf:KeyOf X X.A.in1.in1 (.ref f) Rk xs pins σ H) (Kl:KeyLt X X.A.in1.in1 Rk xs lt pins σ H)
  (h:∀D q H1 s1,jF lt xs.length q ->Ext H H1 ->H D=none ->Inv X pins σ (upd H1 D (.lst (q.map (atV xs)))) s1 ->Q (.ref D) s1):
  wpAny (model X.prog X.w) X.A (call (.builtin "sorted") [.ref a] [(Str.ofString "key",.ref f)]) Q E s:=by
 refine call_function_entry_kw kind_sorted plain_sorted entry_sorted (ksk_s1 _ _) ?_;unfold Builtin.«sorted»;refine wpAny_bind (m:=checkCount "sorted" 1 1 _) (wpAny_pure ?_);refine wpAny_bind (uX I hs h64 _ _ _ (I.ok.hd hc) fun us h' tk kp r=> ?_);have hlen:=r.length
 refine wpAny_bind (wpAny_newList ?_ (by rw[sizeLine_eq];omega));have I1:Inv X pins σ H {s with heap:=h',toks:=tk}:=I.kept kp
 have I2:Inv X pins σ H {s with heap:=h'.push (qU us 0),toks:=tk}:=I1.kept (t':=tk) fun b o e=>Heap.get?_push_of_some _ e
 have OD:=I1.fresh_ours (a:=h'.objs.size) (av _)
 have eD:(h'.push (qU us 0)).get? h'.objs.size=some (qU us 0):=Heap.get?_push_size _ rfl
 have OD2:Ours X pins H {s with heap:=h'.push (qU us 0),toks:=tk} h'.objs.size:=⟨OD.n,OD.ge,OD.nl,OD.nc,OD.np,OD.nf⟩
 refine wpAny_bind (wpAny_holding (wpAny_call_entry_kw slot_list_sort ⟨_,eD,rfl⟩ entry_list_sort ?body (ksk_l1 _ _)))
 case body=>
  rw[ksk_t1];refine zL I2 OD2 eD r (by omega) Kf Kl fun q H1 s1 c hq x1 J O ga=>⟨_,rfl,?_⟩
  refine wpAny_pure ⟨_,rfl,h _ q H1 s1 hq x1 OD.n (J.take O ?_)⟩;have hb:∀i∈q,i<xs.length:=fun i hi=>by
   have:=hq.1.mem_iff.mp hi
   simpa using this
  refine⟨?_,_,c,nj r hb,ga⟩;rw[ae,hq.1.length_eq,bC,sizeLine_eq];omega
theorem zJ{Rk:V ->V ->Hp ->Prop}{xs:List V}{pins:List (Addr×Obj)}{σ:St}{H1:Hp}{f c:Addr}{cl:List (Str×Addr)}{pm ct:Value}{qual:Str}(hr:Room (k+1) X.A)(S:CScope X scope N 1 js)(hx:N[0]? =some x)(hl:scope.names.lookup x=some .local)
  (hco:scope.isCoroutine=false) (hgen:scope.isGenerator=false) (hbind:∀u,bindArgs (kla_fn "<lambda>" qual params body scope cl pm (.ref c) ct) ⟨[u],[]⟩=pure [(x,u)])
  (hb:∀L s H pn,PE (sD X X.A.in1.in1 qual scope cl N L f c s H pn) body tk) (h1:∀x c,cl.lookup x=some c ->X.env.cells.lookup x=some c) (h2:∀y∈scope.names,y.2= .free -> ∃c,cl.lookup y.1=some c)
  (hc:∃oc vs u,H1 c=some (.frz oc (.own 0)) /\ oc.data= .fields vs /\ vs[1]? =some (.str qual u)) (mono:∀x k H1 H2,Ext H1 H2 ->Rk x k H1 ->Rk x k H2)
  (h:∀H2 x,Ext H1 H2 ->x∈xs ->tk (mB σ js x) H2 fun k H3=>Ext H2 H3 /\ Rk x k H3):KeyOf X X.A.in1.in1 (.ref f) Rk xs ((f,B5 "<lambda>" qual params body scope cl pm c ct)::pins) σ H1:=
 ⟨mono,fun own s1 H2 v u hv ru x1 J=>by
  obtain⟨oc,vs,t,e1,e2,e3⟩:=hc
  obtain⟨gf,_⟩:=J.pin (f,B5 "<lambda>" qual params body scope cl pm c ct) (aM _ (aM _ aY))
  have hoc:=(show ObjOk X.prog X.w H2 s1.heap c (.frz oc (.own 0)) from J.hok c _ (x1 c _ e1)).1
  exact xW J S hx hl h1 h2 J.ok.frames rfl (by have:=hr.dp;show X.A.depth<_;omega) hco hgen hbind gf ⟨c,oc,vs,t,rfl,hoc,e2,e3⟩ ru hb (h H2 v x1 hv)⟩
theorem uo{Rk:V ->V ->Hp ->Prop}{lt:Nat ->Nat ->Bool}{pins:List (Addr×Obj)}{σ:St}{H1:Hp}{s1:Shared}{a:Addr}{xs:List V}{Q:VK}(hc:X.calm=true)(hr:Room (k+1) X.A)
  (B:LamB X.mg X.base c0 P) (hcode:X.env.code= .ref c0) (hdef:defaultsOf params X.env=([],[])) (S:CScope X scope N 1 js) (hx:N[0]? =some x) (hl:scope.names.lookup x=some .local) (hco:scope.isCoroutine=false) (hgen:scope.isGenerator=false)
  (hbind:∀cl pm c ct u,bindArgs (kla_fn "<lambda>" (X.env.qual++"<lambda>") params body scope cl pm (.ref c) ct) ⟨[u],[]⟩=pure [(x,u)]) (htag:tag=tagL lpos.line lpos.col (X.env.qual++"<lambda>"))
  (hb:∀cl L f c s H pn,PE (sD X X.A.in1.in1 (X.env.qual++"<lambda>") scope cl N L f c s H pn) body tk)
  (I1:Inv X pins σ H1 s1) (hs:Ay X.K H1 a xs) (h64:xs.length<64) (hP:H1 P=some (.tbl tag)) (mono:∀x k H1 H2,Ext H1 H2 ->Rk x k H1 ->Rk x k H2) (kl:∀A pins σ H,KeyLt X A Rk xs lt pins σ H)
  (hk:∀H2 x,Ext H1 H2 ->x∈xs ->tk (mB σ js x) H2 fun k H3=>Ext H2 H3 /\ Rk x k H3) (fin:∀D H2 q,Ext H1 H2 ->H1 D=none ->jF lt xs.length q ->H2 D=some (.lst (q.map (atV xs))) ->Q (.ref D) H2):
  wpAny (model X.prog X.w) X.A (evalAll [do let v<-eval (.Lambda params body scope lpos) X.env;standAt pos;pure v]) (fun ks s2=>wpAny (model X.prog X.w) X.A (call (.builtin "sorted") [.ref a] ([Str.ofString "key"].zip ks)) (EP X pins σ Q) X.xe s2) X.xe s1:=by
 refine wpAny_evalAll_cons (wpAny_bind (xV I1 B (by rw[hP,htag]) hcode hdef S.frees fun cl f c pm ct H2 s2 h1 h2 I2 x2 hcr=> ?_));refine wpAny_bind (wpAny_standAt (wpAny_pure (wpAny_evalAll_nil ?_)));show wpAny _ _ (call (.builtin "sorted") [.ref a] [(Str.ofString "key",.ref f)]) _ _ s2
 have hs2:Ay X.K H2 a xs:=by
  rcases hs with hs|⟨n,hs,e⟩
  ·refine .inl ?_;rcases hs with(z|⟨o,z⟩)|z
   ·exact .inl (.inl (x2 _ _ z))
   ·exact .inl (.inr ⟨o,x2 _ _ z⟩)
   ·exact .inr z
  ·exact .inr ⟨n,x2 _ _ hs,e⟩
 refine um hc I2 hs2 h64 (zJ hr S hx hl hco hgen (hbind cl pm c ct) (fun L s H pn=>hb cl L f c s H pn) h1 h2 hcr mono fun H3 x x3 hx=>hk H3 x (fun b o g=>x3 b o (x2 b o g)) hx) (kl _ _ _ _) fun D q H3 s3 hq x3 hD J=> ?_
 refine⟨.ref D,_,J.fewer fun p hp=>aB _ hp,rfl,fin D _ q ?_ ?_ hq (iX ..)⟩
 ·intro b o g;have g2:=x2 b o g
  rw[i7 (i4 g2 hD)];exact x3 b o g2
 ·cases z:H1 D with
  |none=>rfl
  |some o=>
   rw[x2 D o z] at hD;cases hD
variable (hK:X.K=K) (hc:X.calm=true) (hg:Gl X "sorted") (hm:X.mg "sorted"=none) (hv:bootBuiltins "sorted"=some (.builtin "sorted")) (hr:Room (k+1) X.A)
  (B:LamB X.mg X.base c0 P) (hcode:X.env.code= .ref c0) (hdef:defaultsOf params X.env=([],[])) (S:CScope X scope N 1 js) (hx:N[0]? =some x) (hl:scope.names.lookup x=some .local) (hco:scope.isCoroutine=false) (hgen:scope.isGenerator=false)
  (hbind:∀cl pm c ct u,bindArgs (kla_fn "<lambda>" (X.env.qual++"<lambda>") params body scope cl pm (.ref c) ct) ⟨[u],[]⟩=pure [(x,u)]) (htag:tag=tagL lpos.line lpos.col (X.env.qual++"<lambda>"))
  (he:PE X e te) (hb:∀cl L f c s H pn,PE (sD X X.A.in1.in1 (X.env.qual++"<lambda>") scope cl N L f c s H pn) body tk)
  (hst:starEach [e] X.env=[(false,eval e X.env)]) (hkw:keywordEach [⟨some (Str.ofString "key"),.Lambda params body scope lpos,kpos⟩] X.env=[(some (Str.ofString "key"),eval (.Lambda params body scope lpos) X.env)])
include hK hc hg hm hv hr B hcode hdef S hx hl hco hgen hbind htag he hb hst hkw
theorem vD:PE X (.Call (.Name "sorted" p) [e] [⟨some (Str.ofString "key"),.Lambda params body scope lpos,kpos⟩] pos) (nu K P tag js te tk):=by
 subst hK;intro pins s σ H Q I h;refine wpAny_Call_Name_kw (oH I hg hm hv ?_);refine callWith_kw (e:=e) (rest:=[]) ?_ (by rw[hst];rfl) (by rw[hst];rfl) (by rw[hkw];rfl) (by rw[hkw];rfl);rw[hst];show wpAny _ _ (spliced ((false,eval e X.env)::[])) _ _ s
 refine Calls.spliced_cons (thn (he pins s σ H _ I h) fun u s1 z=> ?_);obtain⟨v,H1,I1,r1,a,xs,g,m,rfl,hs,h64,hg',hP,hk,fin⟩:=z
 cases r1;refine Calls.spliced_nil ?_;rw[hkw];exact uo (Rk:=BY g) hc hr B hcode hdef S hx hl hco hgen hbind htag hb I1 hs h64 hP (fun x k H1 H2 x2 ⟨t,e,q⟩=>⟨t,e,x2 _ _ q⟩) (fun _ _ _ _=>zM g m hg') hk fin
end
end L2
set_option maxHeartbeats 4000000
namespace L2
open PySem PySem.Spec PyProof.Rows PySem.W
section
variable {X:Cx} {pins:List (Addr×Obj)} {σ:St} {H:Hp} {s:Shared} {A:Around}
theorem nP{α:Type}{F:α ->α ->Prop}:∀{as:List α},(∀a∈as,F a a) ->Paired F as as
 |[],_=> .nil
 |a::as,h=> .cons (h a aY) (nP fun b hb=>h b (aB _ hb))
theorem w8{a:Addr}{n:Nat}{us:List Value}{xs:List V}{lt:Nat ->Nat ->Bool}{Rk:V ->V ->Hp ->Prop}{P:PySem.Fin ->Shared ->Prop}{E:Value ->Shared ->Prop}(I:Inv X pins σ H s)(O:Ours X pins H s a)(ha:s.heap.get? a=some (qU us n))
  (r:Vals xs us) (h64:us.length<64) (hp:∀x∈xs,Rk x x H) (Kl:KeyLt X A Rk xs lt pins σ H)
  (h:∀q s1 c,jF lt xs.length q ->Inv X pins σ H s1 ->Ours X pins H s1 a ->s1.heap.get? a=some (qU (q.map fun i=>us.getD i Value.none) c) ->P (.done (.ret .none)) s1):
  wpAny (model X.prog X.w) A (Builtin.«list.sort» ⟨[.ref a],[]⟩) P E s:=by
 have hlen:=r.length
 have sz64:∀k,k<64 ->k<=sizeLine:=fun k hk=>by rw[sizeLine_eq];omega
 have s1:=Heap.SameBut.update s.heap a (Obj.mapSeq fun _=>(#[]:Array Value))
 obtain⟨e1,ho1⟩:∃e1,(s.heap.update a (Obj.mapSeq fun _=>(#[]:Array Value))).get? a=some (seqObj "list" #[] e1):=⟨_,get?_update_seq ha fun _=> #[]⟩
 have I1:Inv X pins σ H {s with heap:=s.heap.update a (Obj.mapSeq fun _=>(#[]:Array Value))}:=I.set_ours (tk:=s.toks) O fun b o hb e=>(s1.2 b hb).trans e
 rw[list_sort_plain];refine wpAny_bind (listItems_at ha rfl (wpAny_bind (listUpdate_at ha rfl ?_ (by rw[ax];exact sz64 _ h64) (bp _))));refine wpAny_bind (seqEpoch_at ho1 rfl (wpAny_bind (wpAny_newTuple (wpAny_bind (wpAny_newList (wpAny_holding ?_) (bp _))) (by show us.length<=_;exact sz64 _ h64))));generalize hh1:s.heap.update a (Obj.mapSeq fun _=>(#[]:Array Value))=h1 at*;have I2:Inv X pins σ H {s with heap:=h1.push (seqObj "tuple" us.toArray 0)}:=I1.kept (t':=s.toks) fun b o e=>Heap.get?_push_of_some _ e
 have I3:Inv X pins σ H {s with heap:=(h1.push (seqObj "tuple" us.toArray 0)).push (seqObj "list" #[] 0)}:=I2.kept (t':=s.toks) fun b o e=>Heap.get?_push_of_some _ e
 have ea3:((h1.push (seqObj "tuple" us.toArray 0)).push (seqObj "list" #[] 0)).get? a=some (seqObj "list" #[] e1):=Heap.get?_push_of_some _ (Heap.get?_push_of_some _ ho1)
 show wpAny _ A _ P E {s with heap:=(h1.push (seqObj "tuple" us.toArray 0)).push (seqObj "list" #[] 0)}
 generalize hs3:({s with heap:=(h1.push (seqObj "tuple" us.toArray 0)).push (seqObj "list" #[] 0)}:Shared)=s3 at*;have ga:s3.heap.get? a=some (seqObj "list" #[] e1):=by rw[<-hs3];exact ea3
 dsimp only
 --the end
 have tail:∀(st:SortSt) (q:List Nat),jF lt xs.length q ->failedOf st=none ->(arrOf st).map (·.2)=bP (q.map fun i=>us.getD i Value.none) ->wpAny (model X.prog X.w) A (do
   let touched:=(<-seqEpoch a)!=e1
   Builtin.List.listUpdate (.ref a) fun _=>(arrOf st).map (·.2)
   if let some e:=failedOf st then rule "list.sort.comparison-raised";throw e
   if touched then rule "list.sort.modified";raiseError "ValueError" "list modified during sort"
   ret .none) P E s3:=fun st q hq hfl hout=>by
  have ql:q.length=us.length:=by
   have:=hq.1.length_eq
   rw[bC] at this;omega
  have t2:=Heap.SameBut.update s3.heap a (Obj.mapSeq fun _=>(arrOf st).map (·.2))
  obtain⟨c2,hc2⟩:∃c2,(s3.heap.update a (Obj.mapSeq fun _=>(arrOf st).map (·.2))).get? a=some (seqObj "list" ((arrOf st).map (·.2)) c2):=⟨_,get?_update_seq ga fun _=>(arrOf st).map (·.2)⟩
  refine wpAny_bind (seqEpoch_at ga rfl (wpAny_bind (listUpdate_at ga rfl ?_ (bp _) (by
   show((arrOf st).map (·.2)).size<=_
   rw[hout,ax,ae,sizeLine_eq];omega))))
  rw[hfl];simp only[bne_self_eq_false,bR,if_false];have J2:Inv X pins σ H {s3 with heap:=s3.heap.update a (Obj.mapSeq fun _=>(arrOf st).map (·.2))}:=I3.set_ours (tk:=s3.toks) (a:=a) ⟨O.n,O.ge,O.nl,O.nc,O.np,O.nf⟩ fun b o hb g=>(t2.2 b hb).trans g
  refine wpAny_pure (h q _ c2 hq J2 ⟨O.n,O.ge,O.nl,O.nc,O.np,O.nf⟩ ?_);rw[hout] at hc2⊢;exact hc2
 by_cases h2:us.toArray.size<2
 ·rw[if_pos h2,if_pos h2];rw[ax] at h2;refine wpAny_bind (wpAny_pure ?_);rw[StateT.run_pure];refine wpAny_bind (wpAny_pure ?_)
  try dsimp only
  refine tail (SortSt.mk' general' (us.toArray.zip us.toArray) #[] 7 none) (bg xs.length) ⟨gB _,?_⟩ rfl ?_
  ·rw[cB];intro i j hi hj hij;rw[bC] at hi hj;omega
  ·show((us.toArray.zip us.toArray).map (·.2))=_
   apply hJ.mp;rw[hU,ksk_zip];rw[hV (by simp)];rw[hlen];apply hZ
   ·simp
   ·intro i h1 h3;simp at h1 h3;simp[h1]
 ·rw[if_neg h2,if_neg h2];rw[ax] at h2;obtain⟨κ,kk,ka⟩:=Kl.ask [] s3 H xs us (fun _ _ z=>z) I3 (nP hp) r (by omega)
  refine wpAny_bind (kk _ _ ?_);refine wpAny_bind (wpAny_mono (kat_run (κ:=κ) (vs:=us) (ks:=us) (Q:=fun st' s2=>s2=s3 /\ ∃q,jF lt xs.length q /\ failedOf st'=none /\ (arrOf st').map (·.2)=bP (q.map fun i=>us.getD i Value.none))
   (G:=fun p s2=>s2=s3 /\ jF lt xs.length p.toList) rfl (by omega) h64 (fun p st' s2 a1 a2 a3 a4=>⟨a4.1,p.toList,a4.2,a3,kat_snds rfl a2⟩) ?_) ?_ fun _ _ e=>e)
  ·exact SR.sort_wp (N:=us.length) (cmp:=kas_ask X.prog X.w A κ us) (s:=s3) (Q:=fun p s2=>s2=s3 /\ jF lt xs.length p.toList) Kl.ord (by omega) (fun i j C hi hj hC=>ka i j C (by omega) (by omega) hC) fun p hp hs=>⟨rfl,by rw[hlen];exact hp,hs⟩
  ·rintro⟨⟨⟩,st'⟩ s2 ⟨rfl,q,hq,hf,ho⟩;exact tail st' q hq hf ho
end
end L2
namespace L2
open PySem PySem.Spec PyProof.Rows PySem.W
noncomputable def Cb(K:ah)(f c:Addr):Prop:=∃oc od fd osl,K.lookup f=some ⟨oc,od,.func fd,osl⟩ /\ fd.code= .ref c
theorem Room.lam{k:Nat}{A:Around}(r:Room (k+1) A)(env:Env):Room k (A.in1.in1.deeper env):=
 ⟨r.hd,by have:=r.dp;show A.depth+1+3*k+5<_;omega,by have:=r.un;show A.units+1+1+3+16*k+200<_;omega⟩
section
variable {P:Program} {w:World} {K:ah} {mg:Str ->Option Value} {base:Heap}
theorem CV{x qual:Str}{st:Stmt}{f c:Addr}{fd:FuncData}{N ps:List Str}{k:Nat}{sp:Sp}(F:Fun K x qual st f fd)(L:Cb K f c)(S:FnScope N ps (iW st))(len:∀vs H Q E,sp vs H Q E ->vs.length=ps.length)
  (hb:∀(A:Around) (outer:List Env) (s:Shared) (H:Hp) (vs:List V) (Q:VK) (E:XK),Room k (A.deeper (envOfC qual (iW st) s.heap.objs.size f (.ref c))) ->sp vs H Q E ->
   ∃t,PSs (wH (CXE P w) P w K mg base N qual (iW st) f (.ref c) A outer s H E) (jb st) t /\ t {nx:=fun _ H'=>Q .non H',rt:=Q} (start N vs) H):FnOk P w K mg base (CXE P w) (k+1) f fd ps sp:=by
 obtain⟨oc,od,kV,doc,pm,an,cdv,ct,osl,e,lk,hcd⟩:=F.ex
 obtain⟨_,_,_,_,l2,e2⟩:=L
 subst e;rw[lk] at l2;cases l2;have e2':cdv= .ref c:=e2
 subst e2';exact zS lk hcd S len hb
theorem CU{x qual:Str}{st:Stmt}{f c:Addr}{fd:FuncData}{N ps:List Str}{k:Nat}{sp:Sp}(F:Fun K x qual st f fd)(L:Cb K f c)(S:FnScope N ps (iW st))(len:∀vs H Q E,sp vs H Q E ->vs.length=ps.length)
  (hb:∀(A:Around) (outer:List Env) (s:Shared) (H:Hp) (vs:List V) (Q:VK) (E:XK),Room k (A.deeper (envOfC qual (iW st) s.heap.objs.size f (.ref c))) ->sp vs H Q E ->
   ∃t,PSs (wH (CXE P w) P w K mg base N qual (iW st) f (.ref c) A outer s H E).nox (jb st) t /\ t {nx:=fun _ H'=>Q .non H',rt:=Q} (start N vs) H):FnOk P w K mg base (CXE P w) (k+1) f fd ps sp:=
 CV F L S len fun A outer s H vs Q E hr h=>by
  obtain⟨t,h1,h2⟩:=hb A outer s H vs Q E hr h
  exact⟨t,h1.nox,h2⟩
structure BaseT(mg:Str ->Option Value)(base:Heap)(Ts:List (Addr×Array Value)):Prop where
 bm:∃bm o,mg "__builtins__"=some (.ref bm) /\ bm≠builtinsNs /\ base.get? bm=some o /\ o.cls= .type "module" /\ o.dict=some builtinsNs /\ o.data= .plain
 hid:∀z∈Ts,base.get? z.1=none
structure TabK(K:ah)(x:Str)(f c P:Addr):Prop where
 fn:aF K mainGlobals x=some (some (.ref f))
 lf:Cb K f c
 hd:∃o vs file tf flags tg inF text tt,K.lookup c=some o /\ o.cls= .type "code" /\ o.data= .fields vs /\ vs[11]? =some (.ref P) /\ vs.getD 11 .none= .ref P /\ vs.getD 18 .none= .str file tf /\
  vs.getD 7 .none= .int flags tg /\ vs.getD 9 .none= .bool inF /\ vs.getD 10 .none= .int text tt
 ne:c≠P
 no:K.lookup P=none
theorem zK{Ts:List (Addr×Array Value)}{x:Str}{f c P:Addr}{tag:Array Value}(T:TabK K x f c P)(X:K.In base)(G:base.Ns mainGlobals mg)(B:BaseT mg base Ts)(hm:(P,tag)∈Ts):LamB mg base c P:=by
 obtain⟨o,vs,file,tf,flags,tg,inF,text,tt,e1,e2⟩:=T.hd
 have hP:base.get? P=none:=B.hid _ hm
 obtain⟨bm,ob,b1,b2,b3,b4,b5,b6⟩:=B.bm
 obtain⟨og,es,ep,g1,g2,_⟩:=id G
 refine⟨⟨o,vs,file,tf,flags,tg,inF,text,tt,X _ _ e1,e2.1,e2.2.1,e2.2.2.1,e2.2.2.2.1,e2.2.2.2.2.1,e2.2.2.2.2.2.1,e2.2.2.2.2.2.2.1,e2.2.2.2.2.2.2.2,T.ne⟩,⟨bm,ob,b1,b2,fun z=> ?_,fun z=> ?_,b3,b4,b5,b6⟩,fun z=> ?_,G⟩
 ·rw[z,g1] at b3;cases b3;rw[g2] at b6;cases b6
 ·rw[z,hP] at b3;cases b3
 ·rw[z,hP] at g1;cases g1
theorem table_at{q:Program}{loose:List Str}{mean:ExcName ->Option Value}{mb:Str ->Option Value}{h:Heap}{x:Str}{f c P:Addr}(T:Top q loose mean mg mb h)(X:K.In h)(hq:x∈(recsOf q).map (·.name))(k:TabK K x f c P):h.TableAt c P #[]:=by
 obtain⟨d,hd,rfl⟩:=aw.mp hq
 obtain⟨a,o,fd,c',P',h1,h2,h3,h4,h5,h6⟩:=T.tab d hd
 have e:=h1.symm.trans (mg_of X T.g k.fn)
 cases e;obtain⟨oc,od,fd',osl,l1,l2⟩:=k.lf
 have e2:=h2.symm.trans (X _ _ l1)
 cases e2;cases h3;have e3:=h4.symm.trans l2
 cases e3;obtain⟨o,vs,file,tf,flags,tg,inF,text,tt,e1,e4,e5,e6,_⟩:=k.hd
 obtain⟨⟨o',vs',g1,g2,g3,g4⟩,g5⟩:=h6
 have e7:=g1.symm.trans (X _ _ e1)
 cases e7;rw[e5] at g3;cases g3;rw[e6] at g4;cases g4;exact⟨⟨o,vs,g1,g2,e5,e6⟩,g5⟩
end
noncomputable def mL(Ts:List (Addr×Array Value))(H:Hp):Hp:=fun b=>match Ts.lookup b with
 |some tag=>some (.tbl tag)
 |none=>H b
theorem j1:∀{Ts:List (Addr×Array Value)} {b:Addr} {tag:Array Value},Ts.lookup b=some tag ->(b,tag)∈Ts
 |[],_,_,h=>by cases h
 |(c,u)::r,b,tag,h=>by
  rw[cz] at h;cases e:(b==c) with
  |true=>
   rw[e] at h;cases h;rw[eq_of_beq e];exact aY
  |false=>
   rw[e] at h;exact aB _ (j1 h)
theorem vV{P:Program}{w:World}{K:ah}{mg mb:Str ->Option Value}{CX:CXT}{k:Nat}{fa a:Addr}{fd:FuncData}{x:Str}{sp:Sp}{s₁:Shared}{vs:List Value}{ns:List Int}{Ts:List (Addr×Array Value)}
  (KX:K.In s₁.heap) (hns:s₁.heap.Ns mainGlobals mg) (hb:s₁.heap.Ns builtinsNs mb) (hbb:∀x:Str,x≠"__name__" ->mb x=bootBuiltins x) (hlim:s₁.heap.NoLimit) (hg:s₁.gens= #[])
  (ha:s₁.heap.get? a=some {cls:= .type "list",data:= .seq vs.toArray}) (hi:IntsAre vs ns) (hl:ns.length<=sizeLine) (hr:Room k callerA)
  (hT:∀z∈Ts,(∃c,s₁.heap.TableAt c z.1 #[]) /\ K.lookup z.1=none) (hTs:∀z∈Ts,Ts.lookup z.1=some z.2)
  (hbm:∃bm o,mg "__builtins__"=some (.ref bm) /\ bm≠builtinsNs /\ s₁.heap.get? bm=some o /\ o.cls= .type "module" /\ o.dict=some builtinsNs /\ o.data= .plain)
  (F:∀base:Heap,K.In base ->base.Ns mainGlobals mg ->BaseT mg base Ts ->FnOk P w K mg base CX k fa fd [x] sp) (hbind:∀(s:Shared) (u:Value),BindsTo s fd ⟨[u],[]⟩ [(x,u)])
  (hsp:∀H:Hp,(∀z∈Ts,H z.1=some (.tbl z.2)) ->SqL K H a (ns.map V.int) ->sp [.ref a] H (fun v _=>v= .bl true) fun _ _ _=>False)
  (hCX:∀H e s',CX [] H s₁ (fun _ _ _=>False) e s' ->False):
  codeAny (model P w) callerA (.call (.ref fa) ⟨[.ref a],[]⟩) (fun r s'=>r= .ok (.ret (.bool true)) /\ OldK s₁.heap s'.heap /\ s'.os=s₁.os /\ AllBare s'.gens) s₁:=by
 have rv:=qx hi
 have lenV:=hi.length
 have aT:Ts.lookup a=none:=by
  cases e:Ts.lookup a with
  |none=>rfl
  |some tag=>
   obtain⟨c,z⟩:=(hT _ (j1 e)).1
   have z2:=z.2
   rw[ha] at z2;cases z2
 have core:∀H0:Hp,SqL K (mL Ts H0) a (ns.map V.int) ->(∀b u,H0 b=some u ->b=a /\ u= .frz {cls:= .type "list",data:= .seq vs.toArray} (.lst (ns.map V.int)) /\ K.lookup a=none) ->
   codeAny (model P w) callerA (.call (.ref fa) ⟨[.ref a],[]⟩) (fun r s'=>r= .ok (.ret (.bool true)) /\ OldK s₁.heap s'.heap /\ s'.os=s₁.os /\ AllBare s'.gens) s₁:=by
  intro H0 hS hA;have look:∀b u,mL Ts H0 b=some u ->(∃tag c,(b,tag)∈Ts /\ u= .tbl tag /\ s₁.heap.TableAt c b #[])∨(b=a /\ u= .frz {cls:= .type "list",data:= .seq vs.toArray} (.lst (ns.map V.int)) /\ K.lookup a=none):=fun b u e=>by
   unfold mL at e;cases q:Ts.lookup b with
   |some tag=>
    rw[q] at e;cases e;obtain⟨c,z⟩:=(hT _ (j1 q)).1
    exact .inl ⟨tag,c,j1 q,rfl,z⟩
   |none=>
    rw[q] at e;exact .inr (hA b u e)
  have hok:HOk P w (mL Ts H0) s₁.heap:=fun b u e=>by
   rcases look b u e with⟨tag,c,_,rfl,z⟩|⟨rfl,rfl,_⟩
   ·exact⟨#[],z.2,.inl rfl⟩
   ·exact⟨ha,by rw[ae];exact hl,vs,_,rv,ha⟩
  have base_of:∀{b:Addr} {o:Obj},s₁.heap.get? b=some o ->mL Ts H0 b=none ->(v7 s₁.heap (mL Ts H0)).get? b=some o:=fun e n=>yb e n
  have dict_no:∀{b:Addr} {o:Obj},s₁.heap.get? b=some o ->o.cls≠ .none ->o.cls≠ .type "list" ->mL Ts H0 b=none:=fun {b o} e d1 d2=>by
   cases q:mL Ts H0 b with
   |none=>rfl
   |some u=>
    rcases look b u q with⟨tag,c,_,_,z⟩|⟨rfl,_⟩
    ·have z2:=z.2
     rw[e] at z2;cases z2;exact absurd rfl d1
    ·rw[ha] at e;cases e;exact absurd rfl d2
  have noA:∀{b:Addr} {o:Obj} {es:Array DictEntry} {ep:Nat},s₁.heap.get? b=some o ->o.data= .dict es ep ->mL Ts H0 b=none:=fun {b o es ep} e d=>by
   cases q:mL Ts H0 b with
   |none=>rfl
   |some u=>
    rcases look b u q with⟨tag,c,_,_,z⟩|⟨rfl,_⟩
    ·have z2:=z.2
     rw[e] at z2;cases z2;cases d
    ·rw[ha] at e;cases e;cases d
  have nsK:∀{b:Addr} {m:Str ->Option Value},s₁.heap.Ns b m ->(v7 s₁.heap (mL Ts H0)).Ns b m:=fun {b m} ⟨o,es,ep,e,d,r⟩=>⟨o,es,ep,base_of e (noA e d),d,r⟩
  have hKb:K.In (v7 s₁.heap (mL Ts H0)):=fun b o e=>base_of (KX b o e) (by
   cases q:mL Ts H0 b with
   |none=>rfl
   |some u=>
    rcases look b u q with⟨tag,c,hm,_,z⟩|⟨rfl,_,hK⟩
    ·have:=(hT _ hm).2
     rw[e] at this;cases this
    ·rw[hK] at e;cases e)
  have hM:Mod K mg (v7 s₁.heap (mL Ts H0)):=⟨hKb,nsK hns,⟨mb,nsK hb,hbb⟩,let⟨mc,h1,h2⟩:=hlim;⟨mc,nsK h1,h2⟩⟩
  have hB:BaseT mg (v7 s₁.heap (mL Ts H0)) Ts:=by
   obtain⟨bm,o,b1,b2,b3,b4,b5,b6⟩:=hbm
   refine⟨⟨bm,o,b1,b2,base_of b3 (dict_no b3 (by rw[b4];simp) (by rw[b4];decide)),b4,b5,b6⟩,fun z hz=> ?_⟩
   cases q:(v7 s₁.heap (mL Ts H0)).get? z.1 with
   |none=>rfl
   |some o=>
    have n:=(vN q).2
    unfold mL at n;rw[hTs z hz] at n;cases n
  have e0:Env0 P w K mg (v7 s₁.heap (mL Ts H0)) callerA [] s₁ (mL Ts H0):=⟨rfl,hM,fun b o e=>vN e,Nat.le_of_eq (v6 _ _),trivial,fun b hb=>absurd (show b∈([]:List Addr) from hb) (by simp),hok,.of_eq hg⟩
  refine codeAny_mono ((F _ hKb (nsK hns) hB).run callerA [] s₁ (mL Ts H0) ⟨[.ref a],[]⟩ [.ref a] [.ref a] _ _ hr e0 (hbind s₁ (.ref a)) (.cons rfl .nil) (hsp _ (fun z hz=>by unfold mL;rw[hTs z hz]) hS)) fun r s' h=> ?_
  match r,h with
  | .error e,h=>exact(hCX _ e s' h).elim
  | .ok (.ret u),h=>
   obtain⟨v,H',os,bare,un,hok',r',q⟩:=h
   have q':v= .bl true:=q
   subst q';obtain rfl:u=Value.bool true:=r'
   have nof:∀b:Addr,b∉frs ([]:List Env):=fun b z=>absurd (show b∈([]:List Addr) from z) (by simp)
   have tb:∀b tag,mL Ts H0 b=some (.tbl tag) -> ∃qs:Array Value,s'.heap.get? b=some {cls:= .none,data:= .fields qs}:=fun b tag e=>by
    obtain⟨more,e2⟩:=un.tbls b tag e
    obtain⟨qs,e3,_⟩:=(show ObjOk P w H' s'.heap b (.tbl _) from hok' b _ e2)
    exact⟨qs,e3⟩
   have fz:∀b o u,mL Ts H0 b=some (.frz o u) ->s'.heap.get? b=some o:=fun b o u e=>(show ObjOk P w H' s'.heap b (.frz o u) from hok' b _ (un.frzs b o u e)).1
   refine⟨rfl,⟨fun b o e=> ?_,fun b o e=> ?_⟩,os,bare⟩
   ·cases q:mL Ts H0 b with
    |none=>exact .inl (un.keep b o e q (nof b) (by simp))
    |some u=>
     rcases look b u q with⟨tag,c,_,rfl,z⟩|⟨rfl,rfl,_⟩
     ·obtain⟨qs,e2⟩:=tb b tag q
      have z2:=z.2
      rw[e] at z2;cases z2;exact .inr (.inl ⟨z.isCodeTable,rfl,#[],qs,rfl,by rw[e2];simp⟩)
     ·have e2:=fz b _ _ q
      rw[ha] at e;cases e;exact .inl e2
   ·cases q:mL Ts H0 b with
    |none=>exact⟨o,un.keep b o e q (nof b) (by simp)⟩
    |some u=>
     rcases look b u q with⟨tag,c,_,rfl,z⟩|⟨rfl,rfl,_⟩
     ·obtain⟨qs,e2⟩:=tb b tag q
      exact⟨_,e2⟩
     ·exact⟨_,fz b _ _ q⟩
  | .ok .next,h=>exact False.elim h
  | .ok .brk,h=>exact False.elim h
  | .ok .cont,h=>exact False.elim h
 cases hk:K.lookup a with
 |some o=>
  have e:=KX a o hk
  rw[ha] at e;cases e;refine core (fun _=>none) (.inr ⟨_,vs.toArray,_,hk,rfl,rfl,rfl,by rw[ax,lenV];exact hl,by simpa using rv⟩) (fun b u e=>by cases e)
 |none=>
  refine core (fun b=>if b=a then some (.frz {cls:= .type "list",data:= .seq vs.toArray} (.lst (ns.map V.int))) else none) (.inl (.inr ⟨{cls:= .type "list",data:= .seq vs.toArray},?_⟩)) (fun b u e=> ?_)
  ·unfold mL;rw[aT];exact if_pos rfl
  ·by_cases hb:b=a
   ·have e':=(if_pos hb).symm.trans e
    cases e';exact⟨hb,rfl,hk⟩
   ·have e':=(if_neg hb).symm.trans e
    cases e'
theorem walk_ofT{l:gh}{n k:Nat}{q:Program}{loose:List Str}{XP:(Str ->Option Value) ->Heap ->Prop}{YP:World ->Heap ->Prop}{d:DefRec}{K:Params ->ah}{CX:World ->CXT}{sp:World ->Sp}{x:Str}(Ts:List (Addr×Array Value))(nm:List Str)
  (hn:l.most=some n) (hn2:n<=sizeLine) (hdf:d.params.defaults=[]) (hr:Room k callerA) (hTs:∀z∈Ts,Ts.lookup z.1=some z.2) (hq:∀y∈nm,y∈(recsOf q).map (·.name))
  (hY:∀(w:World) (h:Heap),YP w h ->(K w.params).In h)
  (F:∀(w:World) (mg:Str ->Option Value) (fa:Addr) (h:Heap),(K w.params).In h ->h.Ns mainGlobals mg ->mg d.name=some (.ref fa) ->
   (∀z∈Ts,∃y f c,y∈nm /\ TabK (K w.params) y f c z.1) /\ ∃fd:FuncData,(∀(s:Shared) (u:Value),BindsTo s fd ⟨[u],[]⟩ [(x,u)]) /\
    ∀base:Heap,(K w.params).In base ->base.Ns mainGlobals mg ->BaseT mg base Ts ->FnOk l.prog w (K w.params) mg base (CX w) k fa fd [x] (sp w))
  (hsp:∀(w:World) (H:Hp) (a:Addr) (ns:List Int),ns.length<=n ->(∀z∈Ts,H z.1=some (.tbl z.2)) ->SqL (K w.params) H a (ns.map V.int) ->sp w [.ref a] H (fun v _=>v= .bl true) fun _ _ _=>False)
  (hCX:∀(w:World) (H:Hp) (s:Shared) (e:Value) (s':Shared),CX w [] H s (fun _ _ _=>False) e s' ->False):
  iM q loose XP YP l.row.toRowW d [] (fun f vs=>iI f vs):=by
 refine Att.attach_call hn hdf fun w s₀ s₁ mg mb fa o pm cd doc a vs ns G Y ho hd hcd hmg hobj hints hlen hg=> ?_
 have KX:=hY w _ Y
 obtain⟨hT,fd,hb,hF⟩:=F w mg fa _ KX G.T.g hmg
 obtain⟨bm,ob,b1,b2,b3⟩:=G.T.bmain
 refine vV (Ts:=Ts) KX G.T.g G.T.b G.T.builtins G.T.nolimit hg hobj hints (bW hlen hn2) hr (fun z hz=> ?_) hTs ⟨bm,ob,b1,b2,b3⟩ hF hb (fun H hO hS=>hsp w H a ns hlen hO hS) fun H e s'=>hCX w H s₁ e s'
 obtain⟨y,f,c,hy,tk⟩:=hT z hz
 exact⟨⟨c,table_at G.T KX (hq y hy) tk⟩,tk.no⟩
end L2
set_option maxHeartbeats 4000000
namespace L2
open PySem PySem.Spec PyProof.Rows PySem.W
noncomputable abbrev Rw4:=(Int×Int×Int)×(Int×Int×Int)×Int×Int
noncomputable def l3(p:Int×Int×Int):List Int:=[p.1,p.2.1,p.2.2]
noncomputable def flR(r:Rw4):List Int:=l3 r.1++(l3 r.2.1++[r.2.2.1,r.2.2.2])
noncomputable def Ao(g:V ->Rw4):V ->V ->Hp ->Prop:=fun x k H=>∃t p q,k= .ref t /\ H t=some (.tup [.ref p,.ref q,.int (g x).2.2.1,.int (g x).2.2.2]) /\ H p=some (.tup ((l3 (g x).1).map V.int)) /\ H q=some (.tup ((l3 (g x).2.1).map V.int))
noncomputable def AW(K:ah):List V ->Hp ->VK ->Prop:=fun vs H Q=>∃(l:Addr) (xs:List V) (g:V ->Rw4),vs=[.ref l] /\ SqL K H l xs /\ xs.length<64 /\ (∀x∈xs,Ao g x x H) /\
 ∀D q,H D=none ->jF (ltT (fun v=>flR (g v)) xs) xs.length q ->Q (.ref D) (upd H D (.lst (q.map (atV xs))))
theorem nT:∀(a b r s:List Int),a.length=b.length ->HT.lexLt (a++r) (b++s)=if a=b then HT.lexLt r s else HT.lexLt a b
 |[],[],r,s,_=>by simp
 |[],_::_,_,_,h=>by simp at h
 |_::_,[],_,_,h=>by simp at h
 |x::a,y::b,r,s,h=>by
  rw[ak,ak,HT.lexLt_cons,HT.lexLt_cons]
  by_cases e:x=y
  ·subst e;rw[if_pos rfl,if_pos rfl,nT a b r s (by simpa using h)]
   by_cases e2:a=b
   ·subst e2;rw[if_pos rfl,if_pos rfl]
   ·rw[if_neg e2,if_neg (fun q=>e2 (by simpa using q))]
  ·rw[if_neg e,if_neg (fun q=>e (cp.inj q).1),if_neg e]
section
variable {X:Cx} {A:Around} {xs:List V} {pins:List (Addr×Obj)} {σ:St} {H:Hp}
theorem items_int:∀{k:List Int} {us:List Value},Vals (k.map V.int) us ->ItemsAre (intKind X.prog X.w) k us
 |[],_,.nil=> .nil
 |n::k,_,.cons r t=>by
  obtain⟨t',rfl⟩:=r
  exact .cons (intKind_is _ _ _ _) (items_int t)
theorem zN(g:V ->Rw4)(hu:A.units<cLine):KeyLt X A (Ao g) xs (ltT (fun v=>flR (g v)) xs) pins σ H:=⟨Ba _ xs,fun own s1 H1 kvs ks x1 J pr vk h2=>by
 have pt:∀{p:Addr} {z:Int×Int×Int},H1 p=some (.tup ((l3 z).map V.int)) ->IsTupleKey (intKind X.prog X.w) s1.heap (l3 z) p /\ ∃its:List Value,IsTup s1.heap p its.toArray /\ IntsAre its (l3 z):=by
  intro p z e;obtain⟨its,r,ht,hz⟩:=J.tuple (SqT.of e)
  obtain⟨o,e1,e2,n,e3⟩:=ht
  exact⟨⟨o,its.toArray,n,e1,e2,e3,by simpa using items_int (X:=X) r⟩,its,⟨o,e1,e2,n,e3⟩,intsAre_of r⟩
 have tup:∀{x k:V} {u:Value},Ao g x k H1 ->RelV k u -> ∃t o p q n tm tn,u= .ref t /\ s1.heap.get? t=some o /\ o.cls= .type "tuple" /\ o.data= .seq #[.ref p,.ref q,.int (g x).2.2.1 tm,.int (g x).2.2.2 tn] n /\ H1 p=some (.tup ((l3 (g x).1).map V.int)) /\ H1 q=some (.tup ((l3 (g x).2.1).map V.int)):=by
  intro x k u rk ru;obtain⟨t,p,q,rfl,et,ep,eq⟩:=rk
  cases ru;obtain⟨its,r,ht,hz⟩:=J.tuple (SqT.of et)
  obtain⟨o,e1,e2,n,e3⟩:=ht
  cases r with
  |cons a r=>
   cases r with
   |cons b r=>
    cases r with
    |cons c r=>
     cases r with
     |cons d r=>
      cases r;cases a;cases b;obtain⟨tm,rfl⟩:=c
      obtain⟨tn,rfl⟩:=d
      exact⟨t,o,p,q,n,tm,tn,rfl,e1,e2,e3,ep,eq⟩
 have at':∀i,i<xs.length -> ∃t o p q n tm tn,ks.getD i Value.none= .ref t /\ s1.heap.get? t=some o /\ o.cls= .type "tuple" /\ o.data= .seq #[.ref p,.ref q,.int (g (atV xs i)).2.2.1 tm,.int (g (atV xs i)).2.2.2 tn] n /\ H1 p=some (.tup ((l3 (g (atV xs i)).1).map V.int)) /\ H1 q=some (.tup ((l3 (g (atV xs i)).2.1).map V.int)):=fun i hi=>by
  obtain⟨k,ek,rk⟩:=nQ pr (n9 hi)
  obtain⟨u,eu,ru⟩:=vk.get ek
  obtain⟨t,o,p,q,n,tm,tn,rfl,z⟩:=tup rk ru
  exact⟨t,o,p,q,n,tm,tn,by rw[aR,eu];rfl,z⟩
 have firsts:∀{xs' kvs':List V} {ks':List Value},Paired (fun x k=>Ao g x k H1) xs' kvs' ->Vals kvs' ks' -> ∃fs,KatTups s1.heap ks' fs /\ fs.length=xs'.length /\ ∀v∈fs,Looks (model X.prog X.w) s1.heap (typeOf v) (.type "tuple"):=by
  intro xs' kvs' ks' p
  induction p generalizing ks' with
  |nil=>intro v;cases v;exact⟨[],.nil,rfl,fun v hv=>absurd hv (by simp)⟩
  |cons r t ih=>
   intro v;cases v with
   |cons a b=>
    obtain⟨fs,k1,k2,k3⟩:=ih b
    obtain⟨t,o,p,q,n,tm,tn,rfl,e1,e2,e3,ep,eq⟩:=tup r a
    refine⟨.ref p::fs,KatTups.cons e1 e2 e3 rfl k1,by simp[k2],fun v hv=> ?_⟩;rcases ao.mp hv with rfl|hv
    ·obtain⟨⟨o',items,n',f1,f2,f3,f4⟩,_⟩:=pt ep
     intro A Q E s kp hQ;have hT:IsTupleKey (intKind X.prog X.w) s.heap _ p:=⟨o',items,n',kp _ _ f1,f2,f3,f4⟩
     exact wpAny_typeOf hT.typeIs hQ
    ·exact k3 v hv
 have lk:ks.length=xs.length:=by
  have h1:=pr.length
  have h2:=vk.length
  omega
 obtain⟨fs,k1,k2,k3⟩:=firsts pr vk
 refine⟨tuples' (Value.type "tuple"!=Value.type "tuple"),fun Q E h=>kat_kind k1 (by omega) k3 (by decide) h,fun i j C hi' hj' hC=> ?_⟩;obtain⟨t,o,p,q,n,tm,tn,e0,e1,e2,e3,ep,eq⟩:=at' i hi'
 obtain⟨t',o',p',q',n',tm',tn',f0,f1,f2,f3,fp,fq⟩:=at' j hj'
 show wpAny _ _ (keyLt' (tuples' _) (ks.getD i Value.none) (ks.getD j Value.none)) C _ s1
 rw[e0,f0];refine kat_lt e1 e3 f1 f3 ?_;rw[show decide ((#[Value.ref p,.ref q,.int (g (atV xs i)).2.2.1 tm,.int (g (atV xs i)).2.2.2 tn]:Array Value).size<(#[Value.ref p',.ref q',.int (g (atV xs j)).2.2.1 tm',.int (g (atV xs j)).2.2.2 tn']:Array Value).size)=false from rfl];have hC':C (HT.lexLt (flR (g (atV xs i))) (flR (g (atV xs j)))) s1:=hC
 unfold flR at hC';rw[nT (l3 (g (atV xs i)).1) (l3 (g (atV xs j)).1) _ _ rfl] at hC';obtain⟨tp,ip,jp,kp⟩:=pt ep
 obtain⟨tp',ip',jp',kp'⟩:=pt fp
 obtain⟨tq,iq,jq,kq⟩:=pt eq
 obtain⟨tq',iq',jq',kq'⟩:=pt fq
 show KatLex X.prog X.w A (Value.type "tuple"!=Value.type "tuple") false C [(.ref p,.ref p'),(.ref q,.ref q'),(.int _ tm,.int _ tm'),(.int _ tn,.int _ tn')] 0 s1
 rw[show(Value.type "tuple"!=Value.type "tuple")=false from rfl];refine kat_cons (wpAny_eqBool_tuple hu tp tp' ?_)
 by_cases c1:l3 (g (atV xs i)).1=l3 (g (atV xs j)).1
 ·rw[if_pos c1,nT (l3 (g (atV xs i)).2.1) (l3 (g (atV xs j)).2.1) _ _ rfl] at hC';rw[decide_eq_true c1];refine kat_yes (kat_cons (wpAny_eqBool_tuple hu tq tq' ?_))
  by_cases c2:l3 (g (atV xs i)).2.1=l3 (g (atV xs j)).2.1
  ·rw[if_pos c2] at hC';rw[decide_eq_true c2];exact kat_yes (p0 (.cons _ _ (.cons _ _ .nil)) (.cons _ _ (.cons _ _ .nil)) rfl hC')
  ·rw[if_neg c2] at hC';rw[decide_eq_false c2];exact kat_no (kat_one _ _ (HT.lt_tupInts jq jq' kq kq' hu hC'))
 ·rw[if_neg c1] at hC';rw[decide_eq_false c1];exact kat_no (kat_one _ _ (HT.lt_tupInts jp jp' kp kp' hu hC'))⟩
theorem oQ{K:ah}(hK:X.K=K)(hc:X.calm=true)(hu:X.A.units+64<cLine):CallR X (.builtin "sorted") (AW K):=by
 subst hK;intro pins s σ H vs us0 Q I r0 h;obtain⟨l,xs,g,rfl,hl,h64,hg,fin⟩:=h
 obtain⟨u,rfl,rx⟩:=vals1 r0
 cases rx;refine Calls.call_function_entry kind_sorted plain_sorted entry_sorted (args_sorted1 _) ?_;unfold Builtin.«sorted»;refine wpAny_bind (m:=checkCount "sorted" 1 1 _) (wpAny_pure ?_);refine wpAny_bind (qZ I hl h64 _ _ _ (I.ok.hd hc) fun us h' tk kp r=> ?_);have hlen:=r.length
 refine wpAny_bind (wpAny_newList ?_ (by rw[sizeLine_eq];omega));have I1:Inv X pins σ H {s with heap:=h',toks:=tk}:=I.kept kp
 have I2:Inv X pins σ H {s with heap:=h'.push (qU us 0),toks:=tk}:=I1.kept (t':=tk) fun b o e=>Heap.get?_push_of_some _ e
 have OD:=I1.fresh_ours (a:=h'.objs.size) (av _)
 have eD:(h'.push (qU us 0)).get? h'.objs.size=some (qU us 0):=Heap.get?_push_size _ rfl
 have OD2:Ours X pins H {s with heap:=h'.push (qU us 0),toks:=tk} h'.objs.size:=⟨OD.n,OD.ge,OD.nl,OD.nc,OD.np,OD.nf⟩
 refine wpAny_bind (wpAny_holding (wpAny_call_entry slot_list_sort ⟨_,eD,rfl⟩ entry_list_sort ?body (args_list_sort _)))
 case body=>
  refine w8 (Rk:=Ao g) (lt:=ltT (fun v=>flR (g v)) xs) I2 OD2 eD r (by omega) (fun x hx=>hg x hx) (zN g (by show X.A.units+1+1<_;omega)) fun q s1 c hq J O ga=>⟨_,rfl,?_⟩
  refine wpAny_pure ⟨_,rfl,?_⟩;have hb:∀i∈q,i<xs.length:=fun i hi=>by
   have:=hq.1.mem_iff.mp hi
   simpa using this
  refine⟨.ref _,_,J.take O ?_,rfl,fin _ q OD.n hq⟩;refine⟨?_,_,c,nj r hb,ga⟩;rw[ae,hq.1.length_eq,bC,sizeLine_eq];omega
end
end L2
namespace LW
open PySem L2 PyProof.Rows
noncomputable def top(i:Nat):Stmt:=PySem.Challenge.pw_nearlands_k44_whole_seam_never_goes_down.main.body.getD i (.Pass ⟨0,0,0,0⟩)
noncomputable abbrev s_divisor:Stmt:=top 9
noncomputable abbrev s_sign:Stmt:=top 10
noncomputable abbrev s_point_of:Stmt:=top 12
noncomputable abbrev s_spot_point:Stmt:=top 13
noncomputable abbrev s_ahead:Stmt:=top 14
noncomputable abbrev s_line_of:Stmt:=top 16
noncomputable abbrev s_between:Stmt:=top 17
noncomputable abbrev s_excess:Stmt:=top 18
noncomputable abbrev s_check_box:Stmt:=top 21
noncomputable abbrev s_has_point:Stmt:=top 22
noncomputable abbrev s_in_box:Stmt:=top 23
noncomputable abbrev s_check_count:Stmt:=top 24
noncomputable abbrev s_check_spots:Stmt:=top 25
noncomputable abbrev s_check_box_and_spots:Stmt:=top 26
noncomputable abbrev s_others_of:Stmt:=top 27
noncomputable abbrev s_are_unlike:Stmt:=top 28
noncomputable abbrev s_by_place:Stmt:=top 29
noncomputable abbrev s_box_field:Stmt:=top 31
noncomputable abbrev s_crossing:Stmt:=top 35
noncomputable abbrev s_rest:Stmt:=top 34
noncomputable abbrev s_from_first:Stmt:=top 36
noncomputable abbrev s_cut:Stmt:=top 32
noncomputable abbrev s_cut_each:Stmt:=top 33
noncomputable abbrev s_cut_off:Stmt:=top 39
noncomputable abbrev s_land_within:Stmt:=top 38
noncomputable abbrev s_check_lot:Stmt:=top 43
noncomputable abbrev s_edge_before:Stmt:=top 45
noncomputable abbrev s_ordered:Stmt:=top 41
noncomputable abbrev s_seam:Stmt:=top 44
noncomputable abbrev s_halves:Stmt:=top 46
noncomputable abbrev s__law_feed:Stmt:=top 48
noncomputable abbrev s__law_draw:Stmt:=top 49
noncomputable abbrev s__law_great:Stmt:=top 50
noncomputable abbrev s__law_scale:Stmt:=top 51
noncomputable abbrev s__law_spot:Stmt:=top 52
noncomputable abbrev s__law_dozen:Stmt:=top 53
noncomputable abbrev s__law_spots:Stmt:=top 54
noncomputable abbrev s__law_world:Stmt:=top 55
noncomputable abbrev s__law_rises:Stmt:=top 56
noncomputable abbrev s_law:Stmt:=top 57
noncomputable def tg_by_place:Array Value:=L2.tagL 92 41 "by_place.<locals>.<lambda>"
noncomputable def sV(K:ah)(tp:Addr):Sp:=fun vs H Q _=>∃(a:Addr) (ns:List Int),vs=[.ref a] /\ SqL K H a (ns.map V.int) /\ ns.length<=63 /\ H tp=some (.tbl tg_by_place) /\ ∀H',Q (.bl true) H'
abbrev AllMk:Prop:=∀{l:gh} {w:World} {K:ah} {h:Heap} {mg:Str ->Option Value} {fa:Addr} (X:K.In h) (G:h.Ns mainGlobals mg) (hfa:mg "law"=some (.ref fa))
  {f_divisor:Addr} {od_divisor an_divisor:Option Addr} {sl_divisor:Array (Option Value)} {oc_divisor kV_divisor dc_divisor pm_divisor cd_divisor ct_divisor:Value} {f_sign:Addr} {od_sign an_sign:Option Addr} {sl_sign:Array (Option Value)} {oc_sign kV_sign dc_sign pm_sign cd_sign ct_sign:Value} {f_point_of:Addr} {od_point_of an_point_of:Option Addr} {sl_point_of:Array (Option Value)} {oc_point_of kV_point_of dc_point_of pm_point_of cd_point_of ct_point_of:Value} {f_spot_point:Addr} {od_spot_point an_spot_point:Option Addr} {sl_spot_point:Array (Option Value)} {oc_spot_point kV_spot_point dc_spot_point pm_spot_point cd_spot_point ct_spot_point:Value} {f_ahead:Addr} {od_ahead an_ahead:Option Addr} {sl_ahead:Array (Option Value)} {oc_ahead kV_ahead dc_ahead pm_ahead cd_ahead ct_ahead:Value} {f_line_of:Addr} {od_line_of an_line_of:Option Addr} {sl_line_of:Array (Option Value)} {oc_line_of kV_line_of dc_line_of pm_line_of cd_line_of ct_line_of:Value} {f_between:Addr} {od_between an_between:Option Addr} {sl_between:Array (Option Value)} {oc_between kV_between dc_between pm_between cd_between ct_between:Value} {f_excess:Addr} {od_excess an_excess:Option Addr} {sl_excess:Array (Option Value)} {oc_excess kV_excess dc_excess pm_excess cd_excess ct_excess:Value} {f_check_box:Addr} {od_check_box an_check_box:Option Addr} {sl_check_box:Array (Option Value)} {oc_check_box kV_check_box dc_check_box pm_check_box cd_check_box ct_check_box:Value} {f_has_point:Addr} {od_has_point an_has_point:Option Addr} {sl_has_point:Array (Option Value)} {oc_has_point kV_has_point dc_has_point pm_has_point cd_has_point ct_has_point:Value} {f_in_box:Addr} {od_in_box an_in_box:Option Addr} {sl_in_box:Array (Option Value)} {oc_in_box kV_in_box dc_in_box pm_in_box cd_in_box ct_in_box:Value} {f_check_count:Addr} {od_check_count an_check_count:Option Addr} {sl_check_count:Array (Option Value)} {oc_check_count kV_check_count dc_check_count pm_check_count cd_check_count ct_check_count:Value} {f_check_spots:Addr} {od_check_spots an_check_spots:Option Addr} {sl_check_spots:Array (Option Value)} {oc_check_spots kV_check_spots dc_check_spots pm_check_spots cd_check_spots ct_check_spots:Value} {f_check_box_and_spots:Addr} {od_check_box_and_spots an_check_box_and_spots:Option Addr} {sl_check_box_and_spots:Array (Option Value)} {oc_check_box_and_spots kV_check_box_and_spots dc_check_box_and_spots pm_check_box_and_spots cd_check_box_and_spots ct_check_box_and_spots:Value} {f_others_of:Addr} {od_others_of an_others_of:Option Addr} {sl_others_of:Array (Option Value)} {oc_others_of kV_others_of dc_others_of pm_others_of cd_others_of ct_others_of:Value} {f_are_unlike:Addr} {od_are_unlike an_are_unlike:Option Addr} {sl_are_unlike:Array (Option Value)} {oc_are_unlike kV_are_unlike dc_are_unlike pm_are_unlike cd_are_unlike ct_are_unlike:Value} {f_by_place:Addr} {od_by_place an_by_place:Option Addr} {sl_by_place:Array (Option Value)} {oc_by_place kV_by_place dc_by_place pm_by_place cd_by_place ct_by_place:Value} {f_box_field:Addr} {od_box_field an_box_field:Option Addr} {sl_box_field:Array (Option Value)} {oc_box_field kV_box_field dc_box_field pm_box_field cd_box_field ct_box_field:Value} {f_crossing:Addr} {od_crossing an_crossing:Option Addr} {sl_crossing:Array (Option Value)} {oc_crossing kV_crossing dc_crossing pm_crossing cd_crossing ct_crossing:Value} {f_rest:Addr} {od_rest an_rest:Option Addr} {sl_rest:Array (Option Value)} {oc_rest kV_rest dc_rest pm_rest cd_rest ct_rest:Value} {f_from_first:Addr} {od_from_first an_from_first:Option Addr} {sl_from_first:Array (Option Value)} {oc_from_first kV_from_first dc_from_first pm_from_first cd_from_first ct_from_first:Value} {f_cut:Addr} {od_cut an_cut:Option Addr} {sl_cut:Array (Option Value)} {oc_cut kV_cut dc_cut pm_cut cd_cut ct_cut:Value} {f_cut_each:Addr} {od_cut_each an_cut_each:Option Addr} {sl_cut_each:Array (Option Value)} {oc_cut_each kV_cut_each dc_cut_each pm_cut_each cd_cut_each ct_cut_each:Value} {f_cut_off:Addr} {od_cut_off an_cut_off:Option Addr} {sl_cut_off:Array (Option Value)} {oc_cut_off kV_cut_off dc_cut_off pm_cut_off cd_cut_off ct_cut_off:Value} {f_land_within:Addr} {od_land_within an_land_within:Option Addr} {sl_land_within:Array (Option Value)} {oc_land_within kV_land_within dc_land_within pm_land_within cd_land_within ct_land_within:Value} {f_check_lot:Addr} {od_check_lot an_check_lot:Option Addr} {sl_check_lot:Array (Option Value)} {oc_check_lot kV_check_lot dc_check_lot pm_check_lot cd_check_lot ct_check_lot:Value} {f_edge_before:Addr} {od_edge_before an_edge_before:Option Addr} {sl_edge_before:Array (Option Value)} {oc_edge_before kV_edge_before dc_edge_before pm_edge_before cd_edge_before ct_edge_before:Value} {f_ordered:Addr} {od_ordered an_ordered:Option Addr} {sl_ordered:Array (Option Value)} {oc_ordered kV_ordered dc_ordered pm_ordered cd_ordered ct_ordered:Value} {f_seam:Addr} {od_seam an_seam:Option Addr} {sl_seam:Array (Option Value)} {oc_seam kV_seam dc_seam pm_seam cd_seam ct_seam:Value} {f_halves:Addr} {od_halves an_halves:Option Addr} {sl_halves:Array (Option Value)} {oc_halves kV_halves dc_halves pm_halves cd_halves ct_halves:Value} {f__law_feed:Addr} {od__law_feed an__law_feed:Option Addr} {sl__law_feed:Array (Option Value)} {oc__law_feed kV__law_feed dc__law_feed pm__law_feed cd__law_feed ct__law_feed:Value} {f__law_draw:Addr} {od__law_draw an__law_draw:Option Addr} {sl__law_draw:Array (Option Value)} {oc__law_draw kV__law_draw dc__law_draw pm__law_draw cd__law_draw ct__law_draw:Value} {f__law_great:Addr} {od__law_great an__law_great:Option Addr} {sl__law_great:Array (Option Value)} {oc__law_great kV__law_great dc__law_great pm__law_great cd__law_great ct__law_great:Value} {f__law_scale:Addr} {od__law_scale an__law_scale:Option Addr} {sl__law_scale:Array (Option Value)} {oc__law_scale kV__law_scale dc__law_scale pm__law_scale cd__law_scale ct__law_scale:Value} {f__law_spot:Addr} {od__law_spot an__law_spot:Option Addr} {sl__law_spot:Array (Option Value)} {oc__law_spot kV__law_spot dc__law_spot pm__law_spot cd__law_spot ct__law_spot:Value} {f__law_dozen:Addr} {od__law_dozen an__law_dozen:Option Addr} {sl__law_dozen:Array (Option Value)} {oc__law_dozen kV__law_dozen dc__law_dozen pm__law_dozen cd__law_dozen ct__law_dozen:Value} {f__law_spots:Addr} {od__law_spots an__law_spots:Option Addr} {sl__law_spots:Array (Option Value)} {oc__law_spots kV__law_spots dc__law_spots pm__law_spots cd__law_spots ct__law_spots:Value} {f__law_world:Addr} {od__law_world an__law_world:Option Addr} {sl__law_world:Array (Option Value)} {oc__law_world kV__law_world dc__law_world pm__law_world cd__law_world ct__law_world:Value} {f__law_rises:Addr} {od__law_rises an__law_rises:Option Addr} {sl__law_rises:Array (Option Value)} {oc__law_rises kV__law_rises dc__law_rises pm__law_rises cd__law_rises ct__law_rises:Value} {f_law:Addr} {od_law an_law:Option Addr} {sl_law:Array (Option Value)} {oc_law kV_law dc_law pm_law cd_law ct_law:Value} {tk_MOST_SPOTS:Tok} {cda_by_place tp_by_place:Addr} {cod_by_place:Option Addr} {cvs_by_place:Array Value} {csl_by_place:Array (Option Value)} {cfi_by_place:Str} {cft_by_place cfg_by_place ctt_by_place:Tok} {cfl_by_place ctx_by_place:Int} {cif_by_place:Bool}
  (a_divisor:aF K mainGlobals "divisor"=some (some (.ref f_divisor)))
  (l_divisor:K.lookup f_divisor=some ⟨oc_divisor,od_divisor,.func (aK "divisor" "divisor" (jd s_divisor) (jb s_divisor) (iW s_divisor) .none kV_divisor dc_divisor pm_divisor an_divisor cd_divisor ct_divisor),sl_divisor⟩)
  (c_divisor:aG K cd_divisor "divisor"=true)
  (k_divisor:aE K (.ref f_divisor)=true)
  (a_sign:aF K mainGlobals "sign"=some (some (.ref f_sign)))
  (l_sign:K.lookup f_sign=some ⟨oc_sign,od_sign,.func (aK "sign" "sign" (jd s_sign) (jb s_sign) (iW s_sign) .none kV_sign dc_sign pm_sign an_sign cd_sign ct_sign),sl_sign⟩)
  (c_sign:aG K cd_sign "sign"=true)
  (k_sign:aE K (.ref f_sign)=true)
  (a_point_of:aF K mainGlobals "point_of"=some (some (.ref f_point_of)))
  (l_point_of:K.lookup f_point_of=some ⟨oc_point_of,od_point_of,.func (aK "point_of" "point_of" (jd s_point_of) (jb s_point_of) (iW s_point_of) .none kV_point_of dc_point_of pm_point_of an_point_of cd_point_of ct_point_of),sl_point_of⟩)
  (c_point_of:aG K cd_point_of "point_of"=true)
  (k_point_of:aE K (.ref f_point_of)=true)
  (a_spot_point:aF K mainGlobals "spot_point"=some (some (.ref f_spot_point)))
  (l_spot_point:K.lookup f_spot_point=some ⟨oc_spot_point,od_spot_point,.func (aK "spot_point" "spot_point" (jd s_spot_point) (jb s_spot_point) (iW s_spot_point) .none kV_spot_point dc_spot_point pm_spot_point an_spot_point cd_spot_point ct_spot_point),sl_spot_point⟩)
  (c_spot_point:aG K cd_spot_point "spot_point"=true)
  (k_spot_point:aE K (.ref f_spot_point)=true)
  (a_ahead:aF K mainGlobals "ahead"=some (some (.ref f_ahead)))
  (l_ahead:K.lookup f_ahead=some ⟨oc_ahead,od_ahead,.func (aK "ahead" "ahead" (jd s_ahead) (jb s_ahead) (iW s_ahead) .none kV_ahead dc_ahead pm_ahead an_ahead cd_ahead ct_ahead),sl_ahead⟩)
  (c_ahead:aG K cd_ahead "ahead"=true)
  (k_ahead:aE K (.ref f_ahead)=true)
  (a_line_of:aF K mainGlobals "line_of"=some (some (.ref f_line_of)))
  (l_line_of:K.lookup f_line_of=some ⟨oc_line_of,od_line_of,.func (aK "line_of" "line_of" (jd s_line_of) (jb s_line_of) (iW s_line_of) .none kV_line_of dc_line_of pm_line_of an_line_of cd_line_of ct_line_of),sl_line_of⟩)
  (c_line_of:aG K cd_line_of "line_of"=true)
  (k_line_of:aE K (.ref f_line_of)=true)
  (a_between:aF K mainGlobals "between"=some (some (.ref f_between)))
  (l_between:K.lookup f_between=some ⟨oc_between,od_between,.func (aK "between" "between" (jd s_between) (jb s_between) (iW s_between) .none kV_between dc_between pm_between an_between cd_between ct_between),sl_between⟩)
  (c_between:aG K cd_between "between"=true)
  (k_between:aE K (.ref f_between)=true)
  (a_excess:aF K mainGlobals "excess"=some (some (.ref f_excess)))
  (l_excess:K.lookup f_excess=some ⟨oc_excess,od_excess,.func (aK "excess" "excess" (jd s_excess) (jb s_excess) (iW s_excess) .none kV_excess dc_excess pm_excess an_excess cd_excess ct_excess),sl_excess⟩)
  (c_excess:aG K cd_excess "excess"=true)
  (k_excess:aE K (.ref f_excess)=true)
  (a_check_box:aF K mainGlobals "check_box"=some (some (.ref f_check_box)))
  (l_check_box:K.lookup f_check_box=some ⟨oc_check_box,od_check_box,.func (aK "check_box" "check_box" (jd s_check_box) (jb s_check_box) (iW s_check_box) .none kV_check_box dc_check_box pm_check_box an_check_box cd_check_box ct_check_box),sl_check_box⟩)
  (c_check_box:aG K cd_check_box "check_box"=true)
  (k_check_box:aE K (.ref f_check_box)=true)
  (a_has_point:aF K mainGlobals "has_point"=some (some (.ref f_has_point)))
  (l_has_point:K.lookup f_has_point=some ⟨oc_has_point,od_has_point,.func (aK "has_point" "has_point" (jd s_has_point) (jb s_has_point) (iW s_has_point) .none kV_has_point dc_has_point pm_has_point an_has_point cd_has_point ct_has_point),sl_has_point⟩)
  (c_has_point:aG K cd_has_point "has_point"=true)
  (k_has_point:aE K (.ref f_has_point)=true)
  (a_in_box:aF K mainGlobals "in_box"=some (some (.ref f_in_box)))
  (l_in_box:K.lookup f_in_box=some ⟨oc_in_box,od_in_box,.func (aK "in_box" "in_box" (jd s_in_box) (jb s_in_box) (iW s_in_box) .none kV_in_box dc_in_box pm_in_box an_in_box cd_in_box ct_in_box),sl_in_box⟩)
  (c_in_box:aG K cd_in_box "in_box"=true)
  (k_in_box:aE K (.ref f_in_box)=true)
  (a_check_count:aF K mainGlobals "check_count"=some (some (.ref f_check_count)))
  (l_check_count:K.lookup f_check_count=some ⟨oc_check_count,od_check_count,.func (aK "check_count" "check_count" (jd s_check_count) (jb s_check_count) (iW s_check_count) .none kV_check_count dc_check_count pm_check_count an_check_count cd_check_count ct_check_count),sl_check_count⟩)
  (c_check_count:aG K cd_check_count "check_count"=true)
  (k_check_count:aE K (.ref f_check_count)=true)
  (a_check_spots:aF K mainGlobals "check_spots"=some (some (.ref f_check_spots)))
  (l_check_spots:K.lookup f_check_spots=some ⟨oc_check_spots,od_check_spots,.func (aK "check_spots" "check_spots" (jd s_check_spots) (jb s_check_spots) (iW s_check_spots) .none kV_check_spots dc_check_spots pm_check_spots an_check_spots cd_check_spots ct_check_spots),sl_check_spots⟩)
  (c_check_spots:aG K cd_check_spots "check_spots"=true)
  (k_check_spots:aE K (.ref f_check_spots)=true)
  (a_check_box_and_spots:aF K mainGlobals "check_box_and_spots"=some (some (.ref f_check_box_and_spots)))
  (l_check_box_and_spots:K.lookup f_check_box_and_spots=some ⟨oc_check_box_and_spots,od_check_box_and_spots,.func (aK "check_box_and_spots" "check_box_and_spots" (jd s_check_box_and_spots) (jb s_check_box_and_spots) (iW s_check_box_and_spots) .none kV_check_box_and_spots dc_check_box_and_spots pm_check_box_and_spots an_check_box_and_spots cd_check_box_and_spots ct_check_box_and_spots),sl_check_box_and_spots⟩)
  (c_check_box_and_spots:aG K cd_check_box_and_spots "check_box_and_spots"=true)
  (k_check_box_and_spots:aE K (.ref f_check_box_and_spots)=true)
  (a_others_of:aF K mainGlobals "others_of"=some (some (.ref f_others_of)))
  (l_others_of:K.lookup f_others_of=some ⟨oc_others_of,od_others_of,.func (aK "others_of" "others_of" (jd s_others_of) (jb s_others_of) (iW s_others_of) .none kV_others_of dc_others_of pm_others_of an_others_of cd_others_of ct_others_of),sl_others_of⟩)
  (c_others_of:aG K cd_others_of "others_of"=true)
  (k_others_of:aE K (.ref f_others_of)=true)
  (a_are_unlike:aF K mainGlobals "are_unlike"=some (some (.ref f_are_unlike)))
  (l_are_unlike:K.lookup f_are_unlike=some ⟨oc_are_unlike,od_are_unlike,.func (aK "are_unlike" "are_unlike" (jd s_are_unlike) (jb s_are_unlike) (iW s_are_unlike) .none kV_are_unlike dc_are_unlike pm_are_unlike an_are_unlike cd_are_unlike ct_are_unlike),sl_are_unlike⟩)
  (c_are_unlike:aG K cd_are_unlike "are_unlike"=true)
  (k_are_unlike:aE K (.ref f_are_unlike)=true)
  (a_by_place:aF K mainGlobals "by_place"=some (some (.ref f_by_place)))
  (l_by_place:K.lookup f_by_place=some ⟨oc_by_place,od_by_place,.func (aK "by_place" "by_place" (jd s_by_place) (jb s_by_place) (iW s_by_place) .none kV_by_place dc_by_place pm_by_place an_by_place cd_by_place ct_by_place),sl_by_place⟩)
  (c_by_place:aG K cd_by_place "by_place"=true)
  (k_by_place:aE K (.ref f_by_place)=true)
  (a_box_field:aF K mainGlobals "box_field"=some (some (.ref f_box_field)))
  (l_box_field:K.lookup f_box_field=some ⟨oc_box_field,od_box_field,.func (aK "box_field" "box_field" (jd s_box_field) (jb s_box_field) (iW s_box_field) .none kV_box_field dc_box_field pm_box_field an_box_field cd_box_field ct_box_field),sl_box_field⟩)
  (c_box_field:aG K cd_box_field "box_field"=true)
  (k_box_field:aE K (.ref f_box_field)=true)
  (a_crossing:aF K mainGlobals "crossing"=some (some (.ref f_crossing)))
  (l_crossing:K.lookup f_crossing=some ⟨oc_crossing,od_crossing,.func (aK "crossing" "crossing" (jd s_crossing) (jb s_crossing) (iW s_crossing) .none kV_crossing dc_crossing pm_crossing an_crossing cd_crossing ct_crossing),sl_crossing⟩)
  (c_crossing:aG K cd_crossing "crossing"=true)
  (k_crossing:aE K (.ref f_crossing)=true)
  (a_rest:aF K mainGlobals "rest"=some (some (.ref f_rest)))
  (l_rest:K.lookup f_rest=some ⟨oc_rest,od_rest,.func (aK "rest" "rest" (jd s_rest) (jb s_rest) (iW s_rest) .none kV_rest dc_rest pm_rest an_rest cd_rest ct_rest),sl_rest⟩)
  (c_rest:aG K cd_rest "rest"=true)
  (k_rest:aE K (.ref f_rest)=true)
  (a_from_first:aF K mainGlobals "from_first"=some (some (.ref f_from_first)))
  (l_from_first:K.lookup f_from_first=some ⟨oc_from_first,od_from_first,.func (aK "from_first" "from_first" (jd s_from_first) (jb s_from_first) (iW s_from_first) .none kV_from_first dc_from_first pm_from_first an_from_first cd_from_first ct_from_first),sl_from_first⟩)
  (c_from_first:aG K cd_from_first "from_first"=true)
  (k_from_first:aE K (.ref f_from_first)=true)
  (a_cut:aF K mainGlobals "cut"=some (some (.ref f_cut)))
  (l_cut:K.lookup f_cut=some ⟨oc_cut,od_cut,.func (aK "cut" "cut" (jd s_cut) (jb s_cut) (iW s_cut) .none kV_cut dc_cut pm_cut an_cut cd_cut ct_cut),sl_cut⟩)
  (c_cut:aG K cd_cut "cut"=true)
  (k_cut:aE K (.ref f_cut)=true)
  (a_cut_each:aF K mainGlobals "cut_each"=some (some (.ref f_cut_each)))
  (l_cut_each:K.lookup f_cut_each=some ⟨oc_cut_each,od_cut_each,.func (aK "cut_each" "cut_each" (jd s_cut_each) (jb s_cut_each) (iW s_cut_each) .none kV_cut_each dc_cut_each pm_cut_each an_cut_each cd_cut_each ct_cut_each),sl_cut_each⟩)
  (c_cut_each:aG K cd_cut_each "cut_each"=true)
  (k_cut_each:aE K (.ref f_cut_each)=true)
  (a_cut_off:aF K mainGlobals "cut_off"=some (some (.ref f_cut_off)))
  (l_cut_off:K.lookup f_cut_off=some ⟨oc_cut_off,od_cut_off,.func (aK "cut_off" "cut_off" (jd s_cut_off) (jb s_cut_off) (iW s_cut_off) .none kV_cut_off dc_cut_off pm_cut_off an_cut_off cd_cut_off ct_cut_off),sl_cut_off⟩)
  (c_cut_off:aG K cd_cut_off "cut_off"=true)
  (k_cut_off:aE K (.ref f_cut_off)=true)
  (a_land_within:aF K mainGlobals "land_within"=some (some (.ref f_land_within)))
  (l_land_within:K.lookup f_land_within=some ⟨oc_land_within,od_land_within,.func (aK "land_within" "land_within" (jd s_land_within) (jb s_land_within) (iW s_land_within) .none kV_land_within dc_land_within pm_land_within an_land_within cd_land_within ct_land_within),sl_land_within⟩)
  (c_land_within:aG K cd_land_within "land_within"=true)
  (k_land_within:aE K (.ref f_land_within)=true)
  (a_check_lot:aF K mainGlobals "check_lot"=some (some (.ref f_check_lot)))
  (l_check_lot:K.lookup f_check_lot=some ⟨oc_check_lot,od_check_lot,.func (aK "check_lot" "check_lot" (jd s_check_lot) (jb s_check_lot) (iW s_check_lot) .none kV_check_lot dc_check_lot pm_check_lot an_check_lot cd_check_lot ct_check_lot),sl_check_lot⟩)
  (c_check_lot:aG K cd_check_lot "check_lot"=true)
  (k_check_lot:aE K (.ref f_check_lot)=true)
  (a_edge_before:aF K mainGlobals "edge_before"=some (some (.ref f_edge_before)))
  (l_edge_before:K.lookup f_edge_before=some ⟨oc_edge_before,od_edge_before,.func (aK "edge_before" "edge_before" (jd s_edge_before) (jb s_edge_before) (iW s_edge_before) .none kV_edge_before dc_edge_before pm_edge_before an_edge_before cd_edge_before ct_edge_before),sl_edge_before⟩)
  (c_edge_before:aG K cd_edge_before "edge_before"=true)
  (k_edge_before:aE K (.ref f_edge_before)=true)
  (a_ordered:aF K mainGlobals "ordered"=some (some (.ref f_ordered)))
  (l_ordered:K.lookup f_ordered=some ⟨oc_ordered,od_ordered,.func (aK "ordered" "ordered" (jd s_ordered) (jb s_ordered) (iW s_ordered) .none kV_ordered dc_ordered pm_ordered an_ordered cd_ordered ct_ordered),sl_ordered⟩)
  (c_ordered:aG K cd_ordered "ordered"=true)
  (k_ordered:aE K (.ref f_ordered)=true)
  (a_seam:aF K mainGlobals "seam"=some (some (.ref f_seam)))
  (l_seam:K.lookup f_seam=some ⟨oc_seam,od_seam,.func (aK "seam" "seam" (jd s_seam) (jb s_seam) (iW s_seam) .none kV_seam dc_seam pm_seam an_seam cd_seam ct_seam),sl_seam⟩)
  (c_seam:aG K cd_seam "seam"=true)
  (k_seam:aE K (.ref f_seam)=true)
  (a_halves:aF K mainGlobals "halves"=some (some (.ref f_halves)))
  (l_halves:K.lookup f_halves=some ⟨oc_halves,od_halves,.func (aK "halves" "halves" (jd s_halves) (jb s_halves) (iW s_halves) .none kV_halves dc_halves pm_halves an_halves cd_halves ct_halves),sl_halves⟩)
  (c_halves:aG K cd_halves "halves"=true)
  (k_halves:aE K (.ref f_halves)=true)
  (a__law_feed:aF K mainGlobals "_law_feed"=some (some (.ref f__law_feed)))
  (l__law_feed:K.lookup f__law_feed=some ⟨oc__law_feed,od__law_feed,.func (aK "_law_feed" "_law_feed" (jd s__law_feed) (jb s__law_feed) (iW s__law_feed) .none kV__law_feed dc__law_feed pm__law_feed an__law_feed cd__law_feed ct__law_feed),sl__law_feed⟩)
  (c__law_feed:aG K cd__law_feed "_law_feed"=true)
  (k__law_feed:aE K (.ref f__law_feed)=true)
  (a__law_draw:aF K mainGlobals "_law_draw"=some (some (.ref f__law_draw)))
  (l__law_draw:K.lookup f__law_draw=some ⟨oc__law_draw,od__law_draw,.func (aK "_law_draw" "_law_draw" (jd s__law_draw) (jb s__law_draw) (iW s__law_draw) .none kV__law_draw dc__law_draw pm__law_draw an__law_draw cd__law_draw ct__law_draw),sl__law_draw⟩)
  (c__law_draw:aG K cd__law_draw "_law_draw"=true)
  (k__law_draw:aE K (.ref f__law_draw)=true)
  (a__law_great:aF K mainGlobals "_law_great"=some (some (.ref f__law_great)))
  (l__law_great:K.lookup f__law_great=some ⟨oc__law_great,od__law_great,.func (aK "_law_great" "_law_great" (jd s__law_great) (jb s__law_great) (iW s__law_great) .none kV__law_great dc__law_great pm__law_great an__law_great cd__law_great ct__law_great),sl__law_great⟩)
  (c__law_great:aG K cd__law_great "_law_great"=true)
  (k__law_great:aE K (.ref f__law_great)=true)
  (a__law_scale:aF K mainGlobals "_law_scale"=some (some (.ref f__law_scale)))
  (l__law_scale:K.lookup f__law_scale=some ⟨oc__law_scale,od__law_scale,.func (aK "_law_scale" "_law_scale" (jd s__law_scale) (jb s__law_scale) (iW s__law_scale) .none kV__law_scale dc__law_scale pm__law_scale an__law_scale cd__law_scale ct__law_scale),sl__law_scale⟩)
  (c__law_scale:aG K cd__law_scale "_law_scale"=true)
  (k__law_scale:aE K (.ref f__law_scale)=true)
  (a__law_spot:aF K mainGlobals "_law_spot"=some (some (.ref f__law_spot)))
  (l__law_spot:K.lookup f__law_spot=some ⟨oc__law_spot,od__law_spot,.func (aK "_law_spot" "_law_spot" (jd s__law_spot) (jb s__law_spot) (iW s__law_spot) .none kV__law_spot dc__law_spot pm__law_spot an__law_spot cd__law_spot ct__law_spot),sl__law_spot⟩)
  (c__law_spot:aG K cd__law_spot "_law_spot"=true)
  (k__law_spot:aE K (.ref f__law_spot)=true)
  (a__law_dozen:aF K mainGlobals "_law_dozen"=some (some (.ref f__law_dozen)))
  (l__law_dozen:K.lookup f__law_dozen=some ⟨oc__law_dozen,od__law_dozen,.func (aK "_law_dozen" "_law_dozen" (jd s__law_dozen) (jb s__law_dozen) (iW s__law_dozen) .none kV__law_dozen dc__law_dozen pm__law_dozen an__law_dozen cd__law_dozen ct__law_dozen),sl__law_dozen⟩)
  (c__law_dozen:aG K cd__law_dozen "_law_dozen"=true)
  (k__law_dozen:aE K (.ref f__law_dozen)=true)
  (a__law_spots:aF K mainGlobals "_law_spots"=some (some (.ref f__law_spots)))
  (l__law_spots:K.lookup f__law_spots=some ⟨oc__law_spots,od__law_spots,.func (aK "_law_spots" "_law_spots" (jd s__law_spots) (jb s__law_spots) (iW s__law_spots) .none kV__law_spots dc__law_spots pm__law_spots an__law_spots cd__law_spots ct__law_spots),sl__law_spots⟩)
  (c__law_spots:aG K cd__law_spots "_law_spots"=true)
  (k__law_spots:aE K (.ref f__law_spots)=true)
  (a__law_world:aF K mainGlobals "_law_world"=some (some (.ref f__law_world)))
  (l__law_world:K.lookup f__law_world=some ⟨oc__law_world,od__law_world,.func (aK "_law_world" "_law_world" (jd s__law_world) (jb s__law_world) (iW s__law_world) .none kV__law_world dc__law_world pm__law_world an__law_world cd__law_world ct__law_world),sl__law_world⟩)
  (c__law_world:aG K cd__law_world "_law_world"=true)
  (k__law_world:aE K (.ref f__law_world)=true)
  (a__law_rises:aF K mainGlobals "_law_rises"=some (some (.ref f__law_rises)))
  (l__law_rises:K.lookup f__law_rises=some ⟨oc__law_rises,od__law_rises,.func (aK "_law_rises" "_law_rises" (jd s__law_rises) (jb s__law_rises) (iW s__law_rises) .none kV__law_rises dc__law_rises pm__law_rises an__law_rises cd__law_rises ct__law_rises),sl__law_rises⟩)
  (c__law_rises:aG K cd__law_rises "_law_rises"=true)
  (k__law_rises:aE K (.ref f__law_rises)=true)
  (a_law:aF K mainGlobals "law"=some (some (.ref f_law)))
  (l_law:K.lookup f_law=some ⟨oc_law,od_law,.func (aK "law" "law" (jd s_law) (jb s_law) (iW s_law) .none kV_law dc_law pm_law an_law cd_law ct_law),sl_law⟩)
  (c_law:aG K cd_law "law"=true)
  (k_law:aE K (.ref f_law)=true)
  (z_abs:aF K mainGlobals "abs"=some none)
  (z_enumerate:aF K mainGlobals "enumerate"=some none)
  (z_int:aF K mainGlobals "int"=some none)
  (z_len:aF K mainGlobals "len"=some none)
  (z_list:aF K mainGlobals "list"=some none)
  (z_max:aF K mainGlobals "max"=some none)
  (z_min:aF K mainGlobals "min"=some none)
  (z_range:aF K mainGlobals "range"=some none)
  (z_set:aF K mainGlobals "set"=some none)
  (z_sorted:aF K mainGlobals "sorted"=some none)
  (z_zip:aF K mainGlobals "zip"=some none)
  (a_MOST_SPOTS:aF K mainGlobals "MOST_SPOTS"=some (some (.int 12 tk_MOST_SPOTS)))
  (t0_by_place:cd_by_place= .ref cda_by_place) (t1_by_place:K.lookup cda_by_place=some ⟨.type "code",cod_by_place,.fields cvs_by_place,csl_by_place⟩) (t2_by_place:cvs_by_place[11]? =some (.ref tp_by_place)) (t3_by_place:cvs_by_place.getD 11 .none= .ref tp_by_place) (t4_by_place:cvs_by_place.getD 18 .none= .str cfi_by_place cft_by_place) (t5_by_place:cvs_by_place.getD 7 .none= .int cfl_by_place cfg_by_place) (t6_by_place:cvs_by_place.getD 9 .none= .bool cif_by_place) (t7_by_place:cvs_by_place.getD 10 .none= .int ctx_by_place ctt_by_place) (t8_by_place:cda_by_place≠tp_by_place) (t9_by_place:K.lookup tp_by_place=none),
  (∀z∈[(tp_by_place,tg_by_place)],∃(y:Str) (f c:Addr),y∈(["by_place"]:List Str) /\ TabK K y f c z.1) /\ ∃fd:FuncData,(∀(s:Shared) (v:Value),BindsTo s fd ⟨[v],[]⟩ [("_law_script",v)]) /\ ∀base:Heap,K.In base ->base.Ns mainGlobals mg ->BaseT mg base [(tp_by_place,tg_by_place)] ->FnOk l.prog w K mg base (CXE l.prog w) 10 fa fd ["_law_script"] (sV K tp_by_place)
theorem walk{l:gh}{q:Program}{loose:List Str}{XP:(Str ->Option Value) ->Heap ->Prop}{YP:World ->Heap ->Prop}{d:DefRec}{K:Params ->ah}(hn:l.most=some 63)(hdf:d.params.defaults=[])(tp_by_place:Addr)
  (hTs:∀z∈[(tp_by_place,tg_by_place)],([(tp_by_place,tg_by_place)]:List (Addr×Array Value)).lookup z.1=some z.2) (hq:((["by_place"]:List Str).all fun y=>((PyProof.Rows.recsOf q).map (·.name)).contains y)=true)
  (hY:∀(w:World) (h:Heap),YP w h ->(K w.params).In h)
  (F:∀(w:World) (mg:Str ->Option Value) (fa:Addr) (h:Heap),(K w.params).In h ->h.Ns mainGlobals mg ->mg d.name=some (.ref fa) ->
   (∀z∈[(tp_by_place,tg_by_place)],∃(y:Str) (f c:Addr),y∈(["by_place"]:List Str) /\ TabK (K w.params) y f c z.1) /\ ∃fd:FuncData,(∀(s:Shared) (u:Value),BindsTo s fd ⟨[u],[]⟩ [("_law_script",u)]) /\ ∀base:Heap,(K w.params).In base ->base.Ns mainGlobals mg ->BaseT mg base [(tp_by_place,tg_by_place)] ->FnOk l.prog w (K w.params) mg base (CXE l.prog w) 10 fa fd ["_law_script"] (sV (K w.params) tp_by_place)):
  iM q loose XP YP l.row.toRowW d [] (fun f vs=>iI f vs):=
 L2.walk_ofT (n:=63) (k:=10) (x:="_law_script") (CX:=fun w=>(CXE l.prog w)) (sp:=fun w=>sV (K w.params) tp_by_place) [(tp_by_place,tg_by_place)] ["by_place"] hn (by decide) hdf ⟨rfl,by decide,by decide⟩ hTs (fun y hy=>List.contains_iff_mem.mp (fR.mp hq y hy)) hY F (fun _ _ a ns hl hT hS=>⟨a,ns,rfl,hS,hl,hT (tp_by_place,tg_by_place) (by simp),fun _=>rfl⟩) fun _ _ _ _ _ z=>(by obtain⟨_,_,_,_,_,_,_,_,_,_,_,_,_,_,_,hE⟩:=z;exact hE)
end LW
namespace LW
open PySem
noncomputable def isN:Stmt ->Bool
 | .Assign [.Name x _] _ _=>x==("__name__":Str)
 |_=>false
noncomputable def qv:Program:={PySem.Challenge.pw_nearlands_k44_whole_seam_never_goes_down with main:={PySem.Challenge.pw_nearlands_k44_whole_seam_never_goes_down.main with body:=PySem.Challenge.pw_nearlands_k44_whole_seam_never_goes_down.main.body.filter fun s=> !isN s}}
end LW
section
open PySem PySem.W PyProof.Rows
local macro_rules| `(tactic|o_head $H)=> `(tactic|(refine holds_open (q:=LW.qv) (loose:=[]) (Xt:=fun s=>xlAt LW.qv [] s&&recOk (RowW.records PySem.Challenge.rw_nearlands_k44_whole_seam_never_goes_down.row.toRowW) s) (XP:=XL LW.qv []) (Yf:=Hook.obs $H) (Ya:=Hook.val $H) (YP:=Hook.says $H) (N:=30000) ?hl (Hook.of $H) (Hook.keeps $H) (fun s e=>xl_of s (gw.mp e).1) XL.keeps (by rfl) (by rfl) (by rfl) (fun s e=>recFacts_of (gw.mp e).2) (by rfl) (by first|assumption|decide+kernel) (by decide+kernel) ⟨rfl,rfl,rfl,rfl,rfl,by decide+kernel⟩ ?hw ?hc))
set_option maxRecDepth 100000 in
set_option maxHeartbeats 0 in
theorem LW.early(M:LW.AllMk):PySem.Challenge.rw_nearlands_k44_whole_seam_never_goes_down.Holds:=by
 w_on;o_law;k_head
 case hl=>
  intro w;unfold openEnds fencedOpening topFrom;rw[Fast.te10274390034422433532,Fast.te14082659384304107361,Fast.te14289696077712309145,Fast.te4187177175401517315,Fast.te1435165496053646825,Fast.te14364793385576792824]
  kernel_rfl
 case hw=>w_witness2
 k_fill
 refine' LW.walk (l:=PySem.Challenge.rw_nearlands_k44_whole_seam_never_goes_down) rfl rfl ?tp_by_place ?hTs ?hq (fun w h Y=>PySem.W.km_in_of Y) ?F
 case F=>
  intro w mg fa h KX G hmg;refine' M KX G hmg ?x0 ?x1 ?x2 ?x3 ?x4 ?x5 ?x6 ?x7 ?x8 ?x9 ?x10 ?x11 ?x12 ?x13 ?x14 ?x15 ?x16 ?x17 ?x18 ?x19 ?x20 ?x21 ?x22 ?x23 ?x24 ?x25 ?x26 ?x27 ?x28 ?x29 ?x30 ?x31 ?x32 ?x33 ?x34 ?x35 ?x36 ?x37 ?x38 ?x39 ?x40 ?x41 ?x42 ?x43 ?x44 ?x45 ?x46 ?x47 ?x48 ?x49 ?x50 ?x51 ?x52 ?x53 ?x54 ?x55 ?x56 ?x57 ?x58 ?x59 ?x60 ?x61 ?x62 ?x63 ?x64 ?x65 ?x66 ?x67 ?x68 ?x69 ?x70 ?x71 ?x72 ?x73 ?x74 ?x75 ?x76 ?x77 ?x78 ?x79 ?x80 ?x81 ?x82 ?x83 ?x84 ?x85 ?x86 ?x87 ?x88 ?x89 ?x90 ?x91 ?x92 ?x93 ?x94 ?x95 ?x96 ?x97 ?x98 ?x99 ?x100 ?x101 ?x102 ?x103 ?x104 ?x105 ?x106 ?x107 ?x108 ?x109 ?x110 ?x111 ?x112 ?x113 ?x114 ?x115 ?x116 ?x117 ?x118 ?x119 ?x120 ?x121 ?x122 ?x123 ?x124 ?x125 ?x126 ?x127 ?x128 ?x129 ?x130 ?x131 ?x132 ?x133 ?x134 ?x135 ?x136 ?x137 ?x138 ?x139 ?x140 ?x141 ?x142 ?x143 ?x144 ?x145 ?x146 ?x147 ?x148 ?x149 ?x150 ?x151 ?x152 ?x153 ?x154 ?x155 ?x156 ?x157 ?x158 ?x159 ?x160 ?x161 ?x162 ?x163 ?x164 ?x165 ?x166 ?x167 ?x168 ?x169 ?x170 ?x171 ?t0_by_place ?t1_by_place ?t2_by_place ?t3_by_place ?t4_by_place ?t5_by_place ?t6_by_place ?t7_by_place ?t8_by_place ?t9_by_place
  (case x0=>k_is)
  (case x1=>k_is)
  (case x2=>k_is)
  (case x3=>k_is)
  (case x4=>k_is)
  (case x5=>k_is)
  (case x6=>k_is)
  (case x7=>k_is)
  (case x8=>k_is)
  (case x9=>k_is)
  (case x10=>k_is)
  (case x11=>k_is)
  (case x12=>k_is)
  (case x13=>k_is)
  (case x14=>k_is)
  (case x15=>k_is)
  (case x16=>k_is)
  (case x17=>k_is)
  (case x18=>k_is)
  (case x19=>k_is)
  (case x20=>k_is)
  (case x21=>k_is)
  (case x22=>k_is)
  (case x23=>k_is)
  (case x24=>k_is)
  (case x25=>k_is)
  (case x26=>k_is)
  (case x27=>k_is)
  (case x28=>k_is)
  (case x29=>k_is)
  (case x30=>k_is)
  (case x31=>k_is)
  (case x32=>k_is)
  (case x33=>k_is)
  (case x34=>k_is)
  (case x35=>k_is)
  (case x36=>k_is)
  (case x37=>k_is)
  (case x38=>k_is)
  (case x39=>k_is)
  (case x40=>k_is)
  (case x41=>k_is)
  (case x42=>k_is)
  (case x43=>k_is)
  (case x44=>k_is)
  (case x45=>k_is)
  (case x46=>k_is)
  (case x47=>k_is)
  (case x48=>k_is)
  (case x49=>k_is)
  (case x50=>k_is)
  (case x51=>k_is)
  (case x52=>k_is)
  (case x53=>k_is)
  (case x54=>k_is)
  (case x55=>k_is)
  (case x56=>k_is)
  (case x57=>k_is)
  (case x58=>k_is)
  (case x59=>k_is)
  (case x60=>k_is)
  (case x61=>k_is)
  (case x62=>k_is)
  (case x63=>k_is)
  (case x64=>k_is)
  (case x65=>k_is)
  (case x66=>k_is)
  (case x67=>k_is)
  (case x68=>k_is)
  (case x69=>k_is)
  (case x70=>k_is)
  (case x71=>k_is)
  (case x72=>k_is)
  (case x73=>k_is)
  (case x74=>k_is)
  (case x75=>k_is)
  (case x76=>k_is)
  (case x77=>k_is)
  (case x78=>k_is)
  (case x79=>k_is)
  (case x80=>k_is)
  (case x81=>k_is)
  (case x82=>k_is)
  (case x83=>k_is)
  (case x84=>k_is)
  (case x85=>k_is)
  (case x86=>k_is)
  (case x87=>k_is)
  (case x88=>k_is)
  (case x89=>k_is)
  (case x90=>k_is)
  (case x91=>k_is)
  (case x92=>k_is)
  (case x93=>k_is)
  (case x94=>k_is)
  (case x95=>k_is)
  (case x96=>k_is)
  (case x97=>k_is)
  (case x98=>k_is)
  (case x99=>k_is)
  (case x100=>k_is)
  (case x101=>k_is)
  (case x102=>k_is)
  (case x103=>k_is)
  (case x104=>k_is)
  (case x105=>k_is)
  (case x106=>k_is)
  (case x107=>k_is)
  (case x108=>k_is)
  (case x109=>k_is)
  (case x110=>k_is)
  (case x111=>k_is)
  (case x112=>k_is)
  (case x113=>k_is)
  (case x114=>k_is)
  (case x115=>k_is)
  (case x116=>k_is)
  (case x117=>k_is)
  (case x118=>k_is)
  (case x119=>k_is)
  (case x120=>k_is)
  (case x121=>k_is)
  (case x122=>k_is)
  (case x123=>k_is)
  (case x124=>k_is)
  (case x125=>k_is)
  (case x126=>k_is)
  (case x127=>k_is)
  (case x128=>k_is)
  (case x129=>k_is)
  (case x130=>k_is)
  (case x131=>k_is)
  (case x132=>k_is)
  (case x133=>k_is)
  (case x134=>k_is)
  (case x135=>k_is)
  (case x136=>k_is)
  (case x137=>k_is)
  (case x138=>k_is)
  (case x139=>k_is)
  (case x140=>k_is)
  (case x141=>k_is)
  (case x142=>k_is)
  (case x143=>k_is)
  (case x144=>k_is)
  (case x145=>k_is)
  (case x146=>k_is)
  (case x147=>k_is)
  (case x148=>k_is)
  (case x149=>k_is)
  (case x150=>k_is)
  (case x151=>k_is)
  (case x152=>k_is)
  (case x153=>k_is)
  (case x154=>k_is)
  (case x155=>k_is)
  (case x156=>k_is)
  (case x157=>k_is)
  (case x158=>k_is)
  (case x159=>k_is)
  (case x160=>k_is)
  (case x161=>k_is)
  (case x162=>k_is)
  (case x163=>k_is)
  (case x164=>k_is)
  (case x165=>k_is)
  (case x166=>k_is)
  (case x167=>k_is)
  (case x168=>k_is)
  (case x169=>k_is)
  (case x170=>k_is)
  (case x171=>k_is)
  (case t0_by_place=>rfl)
  (case t1_by_place=>k_is)
  (case t2_by_place=>rfl)
  (case t3_by_place=>rfl)
  (case t4_by_place=>rfl)
  (case t5_by_place=>rfl)
  (case t6_by_place=>rfl)
  (case t7_by_place=>rfl)
  (case t8_by_place=>decide)
  (case t9_by_place=>kernel_rfl)
 case hTs=>simp
 case hq=>kernel_rfl
end
namespace MA
noncomputable def sgn(n:Int):Int:=if n<0 then -1 else if 0<n then 1 else 0
theorem pI{n:Int}(h:0<n):sgn n=1:=by unfold sgn;rw[if_neg (by omega),if_pos h]
theorem pJ{n:Int}(h:n<0):sgn n= -1:=by unfold sgn;rw[if_pos h]
theorem u4(n:Int):sgn n= -1∨sgn n=0∨sgn n=1:=by unfold sgn;split<;>(try split)<;>simp
noncomputable def ab(i:Int):Int:=if i<0 then -i else i
theorem yy(i:Int):ab i=(i.natAbs:Int):=by unfold ab;split<;>omega
theorem yc{a b:Int}(hb:0<b):aA b (a%b)=aA a b:=by
 rw[Int.gcd_comm a b];have h:aA b (a%b+b*(a /b))=aA b (a%b):=Int.gcd_add_mul_left_right ..
 rw[Int.emod_add_mul_ediv] at h;exact h.symm
theorem qY(a b:Int):aA (a.natAbs:Int) b=aA a b:=by
 rw[bB,bB];simp
theorem qh(a b:Int):aA a (b.natAbs:Int)=aA a b:=by
 rw[bB,bB];simp
theorem gcd_zero{a:Int}(ha:0<=a):(aA a 0:Int)=a:=by simp;omega
noncomputable def com(x y w:Int):Int:=(aA (aA w x) y:Int)*sgn w
structure IsPt(x y w a b c:Int):Prop where
 pos:0<c
 ex:a*w=x*c
 ey:b*w=y*c
 low:aA (aA a b) c=1
 la:a.natAbs<=x.natAbs
 lb:b.natAbs<=y.natAbs
 lc:c.natAbs<=w.natAbs
structure IsFr(x w a c:Int):Prop where
 pos:0<c
 ex:a*w=x*c
 low:aA a c=1
 la:a.natAbs<=x.natAbs
 lc:c.natAbs<=w.natAbs
theorem yR{x y w:Int}(hw:w≠0):com x y w≠0:=by
 unfold com;have h1:aA (aA w x) y≠0:=by
  intro h;have:=dM.mp h
  have h2:aA w x=0:=by have:=this.1;omega
  exact hw (dM.mp h2).1
 intro h;rcases aV.mp h with h|h
 ·omega
 ·rcases dZ hw with z|z
  ·rw[pJ z] at h;omega
  ·rw[pI z] at h;omega
theorem wt(x y w:Int)(hw:w≠0):com x y w∣x /\ com x y w∣y /\ com x y w∣w:=by
 have key:∀z,(aA (aA w x) y:Int)∣z ->com x y w∣z:=by
  intro z hz;unfold com;rcases dZ hw with q|q
  ·rw[pJ q];rw[show(aA (aA w x) y:Int)* -1= -(aA (aA w x) y:Int) by omega];exact Int.neg_dvd.mpr hz
  ·rw[pI q,dJ];exact hz
 have g1:(aA (aA w x) y:Int)∣(aA w x:Int):=eU _ _
 exact⟨key x (dB g1 (eF _ _)),key y (eF _ _),key w (dB g1 (eU _ _))⟩
theorem km{a b:Int}(h:b∣a):a.fdiv b=a /b:=by
 exact Int.fdiv_eq_ediv_of_dvd h
theorem jN(a b:Int)(h:b∣a):(a /b).natAbs<=a.natAbs:=by
 rw[Int.natAbs_ediv_of_dvd h];exact Nat.div_le_self _ _
theorem nU{x y w:Int}(hw:w≠0):IsPt x y w (x.fdiv (com x y w)) (y.fdiv (com x y w)) (w.fdiv (com x y w)):=by
 obtain⟨dx,dy,dw⟩:=wt x y w hw
 have hc:=yR (x:=x) (y:=y) hw
 rw[km dx,km dy,km dw];obtain⟨a,ha⟩:=dx
 obtain⟨b,hb⟩:=dy
 obtain⟨c,hcw⟩:=dw
 have ea:x /com x y w=a:=by
  have:=bZ a hc
  rw[<-ha] at this;exact this
 have eb:y /com x y w=b:=by
  have:=bZ b hc
  rw[<-hb] at this;exact this
 have ec:w /com x y w=c:=by
  have:=bZ c hc
  rw[<-hcw] at this;exact this
 have la:=jN x _ (⟨a,ha⟩:com x y w∣x)
 have lb:=jN y _ (⟨b,hb⟩:com x y w∣y)
 have lc:=jN w _ (⟨c,hcw⟩:com x y w∣w)
 rw[ea] at la⊢;rw[eb] at lb⊢;rw[ec] at lc⊢;generalize hG:com x y w=G at*;have hgg:(aA (aA w x) y:Int)*sgn w=G:=by rw[<-hG];rfl
 have gpos:0<(aA (aA w x) y:Int):=by
  have:(aA (aA w x) y:Int)≠0:=by
   intro z;rw[z,dm] at hgg;exact hc hgg.symm
  omega
 refine⟨?_,by rw[ha,hcw];grind,by rw[hb,hcw];grind,?_,la,lb,lc⟩
 ·--c is above 0
  rcases dZ hw with q|q
  ·rw[pJ q] at hgg;have hGn:G<0:=by omega
   have h1:G*c<0:=by rw[<-hcw];exact q
   exact Int.pos_of_mul_neg_right h1 hGn
  ·rw[pI q,dJ] at hgg;have h1:0<G*c:=by rw[<-hcw];exact q
   exact fJ h1 (by omega)
 ·--lowest terms
  have e1:aA (aA w x) y=G.natAbs:=by
   have:=congrArg Int.natAbs hgg
   rw[fB] at this;have h2:(sgn w).natAbs=1:=by
    rcases dZ hw with q|q
    ·rw[pJ q];rfl
    ·rw[pI q];rfl
   rw[h2,Nat.mul_one] at this
   simpa using this
  have e2:aA (aA w x) y=G.natAbs*aA (aA c a) b:=by
   rw[hcw,ha,hb];rw[ic];have:((G.natAbs*aA c a:Nat):Int).gcd (G*b)=G.natAbs*aA (aA c a) b:=by
    rw[bB,fB];simp only[fu];rw[ie,bB (aA c a:Int) b];simp
   exact this
  have gn:0<G.natAbs:=by omega
  have e3:aA (aA c a) b=1:=by
   rw[e1] at e2;have:G.natAbs*1=G.natAbs*aA (aA c a) b:=by omega
   exact(fC gn this).symm
  have e4:aA (aA a b) c=aA (aA c a) b:=by
   rw[Int.gcd_comm (aA a b:Int) c,Int.gcd_assoc]
  rw[e4,e3]
end MA
namespace MA
theorem isPt_same{x y w a b c x' y' w' a' b' c':Int}(h:IsPt x y w a b c)(k:IsPt x' y' w' a' b' c')(hw:w≠0)(hw':w'≠0)(e1:x*w'=x'*w)(e2:y*w'=y'*w):a=a' /\ b=b' /\ c=c':=by
 have f1:a*c'=a'*c:=by
  have h1:=h.ex
  have h2:=k.ex
  have:(w*w')*(a*c'-a'*c)=0:=by grind
  rcases aV.mp this with z|z
  ·rcases aV.mp z with z|z
   ·exact absurd z hw
   ·exact absurd z hw'
  ·omega
 have f2:b*c'=b'*c:=by
  have h1:=h.ey
  have h2:=k.ey
  have:(w*w')*(b*c'-b'*c)=0:=by grind
  rcases aV.mp this with z|z
  ·rcases aV.mp z with z|z
   ·exact absurd z hw
   ·exact absurd z hw'
  ·omega
 have dv:∀{a b c a' b' c':Int},aA (aA a b) c=1 ->a*c'=a'*c ->b*c'=b'*c ->c∣c':=by
  intro a b c a' b' c' hl e1 e2;have d1:c∣a*c':=⟨a',by rw[e1,gi]⟩
  have d2:c∣b*c':=⟨b',by rw[e2,gi]⟩
  have d3:c∣(aA (a*c') (b*c'):Int):=iC d1 d2
  rw[gP] at d3;have d4:c∣((aA a b:Int)*(c'.natAbs:Int)):=by
   have:=d3
   push_cast at this
   exact this
  have d5:c∣c*(c'.natAbs:Int):=Int.dvd_mul_right _ _
  have d6:c∣(aA ((aA a b:Int)*(c'.natAbs:Int)) (c*(c'.natAbs:Int)):Int):=iC d4 d5
  rw[gP,hl] at d6;simp only[Nat.one_mul,fu] at d6;exact Int.dvd_natAbs.mp d6
 have g1:c∣c':=dv h.low f1 f2
 have g2:c'∣c:=dv k.low f1.symm f2.symm
 have ec:c=c':=Int.dvd_antisymm (by have:=h.pos;omega) (by have:=k.pos;omega) g1 g2
 subst ec;have hc:=h.pos
 exact⟨bA (by omega) f1,bA (by omega) f2,rfl⟩
structure IsLn(a b c x y z:Int):Prop where
 ex:∃g:Int,0<g /\ a=g*x /\ b=g*y /\ c=g*z /\ g=(aA (aA a b) c:Int)
 low:aA (aA x y) z=1
 la:x.natAbs<=a.natAbs
 lb:y.natAbs<=b.natAbs
 lc:z.natAbs<=c.natAbs
theorem rY{a b c:Int}(h:¬(a=0 /\ b=0)):IsLn a b c (a.fdiv (aA (aA a b) c:Int)) (b.fdiv (aA (aA a b) c:Int)) (c.fdiv (aA (aA a b) c:Int)) /\ (aA (aA a b) c:Int)≠0:=by
 have hne:aA (aA a b) c≠0:=by
  intro z;have z1:=(dM.mp z).1
  have z2:aA a b=0:=by omega
  exact h (dM.mp z2)
 have d0:(aA (aA a b) c:Int)∣(aA a b:Int):=eU _ _
 have da:(aA (aA a b) c:Int)∣a:=dB d0 (eU _ _)
 have db:(aA (aA a b) c:Int)∣b:=dB d0 (eF _ _)
 have dc:(aA (aA a b) c:Int)∣c:=eF _ _
 have la:=jN a _ da
 have lb:=jN b _ db
 have lc:=jN c _ dc
 refine⟨?_,by omega⟩;rw[km da,km db,km dc];generalize hG:(aA (aA a b) c:Int)=G at*;have gp:0<G:=by omega
 have hG':aA (aA a b) c=G.natAbs:=by omega
 have ea:a=G*(a /G):=(eZ da).symm
 have eb:b=G*(b /G):=(eZ db).symm
 have ec:c=G*(c /G):=(eZ dc).symm
 refine⟨⟨G,gp,ea,eb,ec,hG.symm⟩,?_,la,lb,lc⟩;generalize a /G=x at*;generalize b /G=y at*;generalize c /G=z at*;subst ea eb ec;rw[ic] at hG';have e2:((G.natAbs*aA x y:Nat):Int).gcd (G*z)=G.natAbs*aA (aA x y) z:=by
  rw[bB,fB];simp only[fu];rw[ie,bB (aA x y:Int) z];simp
 rw[e2] at hG';have:G.natAbs*aA (aA x y) z=G.natAbs*1:=by omega
 exact fC (by omega) this
end MA
namespace MC
open MA
noncomputable abbrev V3:=Int×Int×Int
noncomputable def dt(a b c:V3):Int:=a.1*(b.2.1*c.2.2-b.2.2*c.2.1)-a.2.1*(b.1*c.2.2-b.2.2*c.1)+a.2.2*(b.1*c.2.1-b.2.1*c.1)
noncomputable def ex(m p:V3):Int:=m.1*p.1+m.2.1*p.2.1-m.2.2*p.2.2
noncomputable def cb(s:Int)(a:V3)(t:Int)(b:V3):V3:=(s*a.1+t*b.1,s*a.2.1+t*b.2.1,s*a.2.2+t*b.2.2)
theorem oJ(a b c:V3):dt b c a=dt a b c:=by unfold dt;grind
theorem zY(a b c:V3):dt b a c= -dt a b c:=by unfold dt;grind
theorem qq(a b:V3):dt a b a=0:=by unfold dt;grind
theorem m7(a b:V3):dt a b b=0:=by unfold dt;grind
theorem wc(a b:V3):dt a a b=0:=by unfold dt;grind
theorem su(a b:V3)(s:Int)(c:V3)(t:Int)(d:V3):dt a b (cb s c t d)=s*dt a b c+t*dt a b d:=by unfold dt cb;grind
theorem rc(m:V3)(s:Int)(c:V3)(t:Int)(d:V3):ex m (cb s c t d)=s*ex m c+t*ex m d:=by unfold ex cb;grind
theorem lm(m a b c d:V3):dt a b c*ex m d=dt d b c*ex m a+dt a d c*ex m b+dt a b d*ex m c:=by unfold dt ex;grind
noncomputable def Sim(q v:V3):Prop:=∃s t:Int,0<s /\ 0<t /\ q.1*s=v.1*t /\ q.2.1*s=v.2.1*t /\ q.2.2*s=v.2.2*t
theorem Sim.dt{q v:V3}(h:Sim q v)(a b:V3):∃s t:Int,0<s /\ 0<t /\ dt a b q*s=dt a b v*t:=by
 obtain⟨s,t,hs,ht,e1,e2,e3⟩:=h
 refine⟨s,t,hs,ht,?_⟩;unfold MC.dt
 grind
theorem Sim.ex{q v:V3}(h:Sim q v)(m:V3):∃s t:Int,0<s /\ 0<t /\ ex m q*s=ex m v*t:=by
 obtain⟨s,t,hs,ht,e1,e2,e3⟩:=h
 refine⟨s,t,hs,ht,?_⟩;unfold MC.ex
 grind
theorem lh{x y s t:Int}(hs:0<s)(ht:0<t)(e:x*s=y*t):(0<x↔0<y) /\ (x=0↔y=0) /\ (x<0↔y<0):=by
 rcases dC x 0 with h|h|h
 ·have:=cf h hs
  have hy:y<0:=by
   rcases dC y 0 with q|q|q
   ·exact q
   ·subst q;omega
   ·have:=be q ht;omega
  omega
 ·subst h;have hy:y=0:=by
   rcases dC y 0 with q|q|q
   ·have:=cf q ht;omega
   ·exact q
   ·have:=be q ht;omega
  omega
 ·have:=be h hs
  have hy:0<y:=by
   rcases dC y 0 with q|q|q
   ·have:=cf q ht;omega
   ·subst q;omega
   ·exact q
  omega
theorem Sim.dtp{q v:V3}(h:Sim q v)(a b:V3):(0<MC.dt a b q↔0<MC.dt a b v):=by
 obtain⟨s,t,hs,ht,e⟩:=h.dt a b
 exact(lh hs ht e).1
theorem Sim.exz{q v:V3}(h:Sim q v)(m:V3):(MC.ex m q=0↔MC.ex m v=0):=by
 obtain⟨s,t,hs,ht,e⟩:=h.ex m
 exact(lh hs ht e).2.1
theorem Sim.exn{q v:V3}(h:Sim q v)(m:V3):(MC.ex m q<0↔MC.ex m v<0):=by
 obtain⟨s,t,hs,ht,e⟩:=h.ex m
 exact(lh hs ht e).2.2
theorem AO{x y w a b c:Int}(h:IsPt x y w a b c)(hw:0<w):Sim (a,b,c) (x,y,w):=⟨w,c,hw,h.pos,h.ex,h.ey,by dsimp only;rw[gi]⟩
theorem za{x y w a b c:Int}(h:IsPt x y w a b c)(hw:w<0):Sim (a,b,c) (-x,-y,-w):=by
 refine⟨-w,c,by omega,h.pos,?_,?_,?_⟩
 ·have:=h.ex;dsimp only;grind
 ·have:=h.ey;dsimp only;grind
 ·dsimp only;grind
noncomputable abbrev Vx:=V3×V3×Int
noncomputable def rot{α:Type}(l:List α):List α:=l.drop 1++l.take 1
noncomputable def edges(l:List Vx):List (Vx×Vx):=l.zip (rot l)
structure Edge(l:List Vx)(a b:Vx):Prop where
 ne:a.1≠b.1
 on1:ex a.2.1 a.1=0
 on2:ex a.2.1 b.1=0
 left:∀c∈l,c.1=a.1∨c.1=b.1∨0<dt a.1 b.1 c.1
 back:∀c∈l,c.1=a.1∨c.1=b.1∨ex a.2.1 c.1<0
structure Poly(l:List Vx):Prop where
 three:3<=l.length
 pos:∀v∈l,0<v.1.2.2
 low:∀v∈l,aA (aA v.1.1 v.1.2.1) v.1.2.2=1
 nd:(l.map (·.1)).Nodup
 edge:∀e∈edges l,Edge l e.1 e.2
theorem oI:∀l:List Vx,edges (rot l)=rot (edges l)
 |[]=>rfl
 |[x]=>rfl
 |x::y::t=>by
  show((y::t)++[x]).zip ((t++[x])++[y])=((y::t).zip (t++[x]))++[(x,y)]
  rw[List.zip_append (by simp)];rfl
theorem j6{α:Type}(l:List α)(a:α):a∈rot l↔a∈l:=by
 unfold rot;cases l with
 |nil=>simp
 |cons x r=>simp[or_comm]
noncomputable def rotk{α:Type}(k:Nat)(l:List α):List α:=l.drop k++l.take k
theorem nJ{α:Type}(k:Nat)(l:List α)(h:k<l.length):rotk (k+1) l=rot (rotk k l):=by
 have e:=bU h
 show l.drop (k+1)++l.take (k+1)=rot (l.drop k++l.take k)
 rw[e];show l.drop (k+1)++l.take (k+1)=(l.drop (k+1)++l.take k)++[l[k]]
 rw[bV,af h,bG];rfl
theorem xr{α:Type}(P:List α ->Prop)(l:List α)(h0:P l)(hs:∀m,P m ->P (rot m)):∀k,k<=l.length ->P (rotk k l):=by
 intro k
 induction k with
 |zero=>intro _;unfold rotk;simpa using h0
 |succ k ih=>
  intro hk;rw[nJ k l (by omega)];exact hs _ (ih (by omega))
theorem rot_length{α:Type}(l:List α):(rot l).length=l.length:=by
 unfold rot;cases l with
 |nil=>rfl
 |cons x r=>simp
theorem vq{α β:Type}(f:α ->β)(l:List α):rot (l.map f)=(rot l).map f:=by
 unfold rot;rw[au,cV,cE]
theorem vp{α:Type}(l:List α)(h:l.Nodup):(rot l).Nodup:=by
 unfold rot;cases l with
 |nil=>exact gC
 |cons x r=>
  have:=bb.mp h
  show(r++[x]).Nodup
  rw[ba];refine⟨this.2,by simp,fun a ha b hb e=> ?_⟩;simp only[ao,ay,or_false] at hb;subst hb;subst e;exact this.1 ha
theorem Edge.mem{l m:List Vx}{a b:Vx}(h:Edge l a b)(hm:∀c∈m,c∈l):Edge m a b:=⟨h.ne,h.on1,h.on2,fun c hc=>h.left c (hm c hc),fun c hc=>h.back c (hm c hc)⟩
theorem Poly.rot{l:List Vx}(h:Poly l):Poly (rot l) where
 three:=by rw[rot_length];exact h.three
 pos:=fun v hv=>h.pos v ((j6 l v).mp hv)
 low:=fun v hv=>h.low v ((j6 l v).mp hv)
 nd:=by rw[<-vq];exact vp _ h.nd
 edge:=fun e he=>by
  rw[oI,j6] at he;exact(h.edge e he).mem fun c hc=>(j6 l c).mp hc
theorem Poly.rotk{l:List Vx}(h:Poly l){k:Nat}(hk:k<=l.length):Poly (rotk k l):=xr Poly l h (fun _ q=>q.rot) k hk
theorem kI{p s:List Vx}{a b:Vx}:(a,b)∈edges (p++a::b::s):=by
 cases p with
 |nil=>
  show(a,b)∈(a::b::s).zip ((b::s)++[a])
  simp
 |cons x p=>
  show(a,b)∈(x::(p++a::b::s)).zip ((p++a::b::s)++[x])
  rw[dq];refine⟨p.length+1,?_⟩;rw[cg];constructor
  ·simp
  ·rw[bG,aH (by omega)];simp
theorem kL{m:List Vx}{a b:Vx}:(a,b)∈edges (b::(m++[a])):=by
 show(a,b)∈(b::(m++[a])).zip ((m++[a])++[b])
 rw[dq];refine⟨m.length+1,?_⟩;rw[cg];constructor
 ·simp
 ·rw[aH (by simp)];simp
theorem sr{l:List Vx}{a b:Vx}(h:(a,b)∈edges l)(h2:2<=l.length):(∃p s,l=p++a::b::s)∨∃m,l=b::(m++[a]):=by
 cases l with
 |nil=>simp at h2
 |cons x r=>
  rw[dq] at h;obtain⟨i,hi⟩:=h
  have hi':((x::r).zip (r++[x]))[i]? =some (a,b):=hi
  rw[cg] at hi';obtain⟨h1,h3⟩:=hi'
  dsimp only at h1 h3
  by_cases hr:i<r.length
  ·left
   rw[aQ hr] at h3;refine⟨(x::r).take i,r.drop (i+1),?_⟩;have e1:=bU (l:=x::r) (i:=i) (by simp;omega)
   have e2:=bU (l:=r) (i:=i) hr
   obtain⟨_,q1⟩:=aa.mp h1
   obtain⟨_,q3⟩:=aa.mp h3
   rw[q1] at e1;rw[q3] at e2;have:(x::r).drop (i+1)=r.drop i:=rfl
   rw[this,e2] at e1;rw[<-e1,cq]
  ·right
   have li:=(aa.mp h1).1
   have ei:i=r.length:=by simp at li;omega
   subst ei;rw[aH (by omega),Nat.sub_self] at h3;cases h3;cases r with
   |nil=>simp at h2
   |cons y t=>
    obtain⟨_,q1⟩:=aa.mp h1
    refine⟨(y::t).take t.length,?_⟩
    congr 1
    have e1:=bU (l:=y::t) (i:=t.length) (by simp)
    have e3:(y::t)[t.length]'(by simp)=a:=by
     have:(b::y::t)[(y::t).length]'(by simp)=(y::t)[t.length]'(by simp):=rfl
     rw[<-this];exact q1
    rw[e3] at e1;have e4:(y::t).drop (t.length+1)=[]:=fX (by simp)
    rw[e4] at e1;rw[<-e1,cq]
theorem zx{α:Type}(f:α ->Int):∀t:List α,(∀p x y s,t=p++x::y::s -> ¬(f x<=0 /\ 0<f y)) -> ∃D C,t=D++C /\ (∀d∈D,0<f d) /\ ∀c∈C,f c<=0
 |[],_=>⟨[],[],rfl,by simp,by simp⟩
 |x::r,h=>by
  obtain⟨D,C,e,hD,hC⟩:=zx f r fun p a b s q=>h (x::p) a b s (by rw[q];rfl)
  by_cases hx:0<f x
  ·exact⟨x::D,C,by rw[e];rfl,fun d hd=>by
    rcases ao.mp hd with rfl|hd
    ·exact hx
    ·exact hD d hd,hC⟩
  ·cases D with
   |nil=>
    refine⟨[],x::C,by rw[e];rfl,by simp,fun c hc=> ?_⟩;rcases ao.mp hc with rfl|hc
    ·omega
    ·exact hC c hc
   |cons d D=>
    exact absurd ⟨by omega,hD d (by simp)⟩ (h [] x d (D++C) (by rw[e];rfl))
end MC
namespace MC
open MA
theorem Edge.left_ge{l:List Vx}{a b c:Vx}(E:Edge l a b)(hc:c∈l):0<=dt a.1 b.1 c.1:=by
 rcases E.left c hc with e|e|e
 ·rw[e,qq];exact cM _
 ·rw[e,m7];exact cM _
 ·omega
theorem Edge.back_le{l:List Vx}{a b c:Vx}(E:Edge l a b)(hc:c∈l):ex a.2.1 c.1<=0:=by
 rcases E.back c hc with e|e|e
 ·rw[e,E.on1];exact cM _
 ·rw[e,E.on2];exact cM _
 ·omega
theorem Edge.left_of{l:List Vx}{a b c:Vx}(E:Edge l a b)(hc:c∈l)(h1:c.1≠a.1)(h2:c.1≠b.1):0<dt a.1 b.1 c.1:=(E.left c hc).elim (fun q=>absurd q h1) fun q=>q.elim (fun q=>absurd q h2) id
theorem Edge.back_of{l:List Vx}{a b c:Vx}(E:Edge l a b)(hc:c∈l)(h1:c.1≠a.1)(h2:c.1≠b.1):ex a.2.1 c.1<0:=(E.back c hc).elim (fun q=>absurd q h1) fun q=>q.elim (fun q=>absurd q h2) id
theorem lN{a b:Int}(h1:0<=a)(h2:0<=b):0<=a*b:=cx h1 h2
theorem tI{a b:Int}(h1:0<=a)(h2:b<=0):a*b<=0:=dS h1 h2
theorem Aw{l:List Vx}{a b c d:Vx}(E:Edge l a b)(hc:c∈l)(hd:d∈l){s t:Int}(hs:0<=s)(ht:0<=t)
  (hh:(0<s /\ c.1≠a.1 /\ c.1≠b.1)∨(0<t /\ d.1≠a.1 /\ d.1≠b.1)):0<dt a.1 b.1 (cb s c.1 t d.1) /\ ex a.2.1 (cb s c.1 t d.1)<0:=by
 rw[su,rc];have c1:=lN hs (E.left_ge hc)
 have d1:=lN ht (E.left_ge hd)
 have c2:=tI hs (E.back_le hc)
 have d2:=tI ht (E.back_le hd)
 rcases hh with⟨h,n1,n2⟩|⟨h,n1,n2⟩
 ·have q1:=be h (E.left_of hc n1 n2)
  have q2:=bO h (E.back_of hc n1 n2)
  omega
 ·have q1:=be h (E.left_of hd n1 n2)
  have q2:=bO h (E.back_of hd n1 n2)
  omega
theorem yP(s:Int)(a:V3)(t:Int)(b x:V3):dt (cb s a t b) x b= -(s*dt a b x):=by unfold dt cb;grind
theorem BD(s:Int)(a:V3)(t:Int)(b x:V3):dt x (cb s a t b) b=s*dt a b x:=by unfold dt cb;grind
theorem m5(m a b:V3):ex m (cb (ex m b) a (-(ex m a)) b)=0:=by rw[rc];grind
theorem uL{l:List Vx}(hP:Poly l){m:V3}{a b a' b':Vx}(e1:(a,b)∈edges l)(e2:(a',b')∈edges l)(m1:a∈l)(m2:b∈l)(m3:a'∈l)(m4:b'∈l)
  (h1:ex m a.1<=0) (h2:0<ex m b.1) (h3:ex m a'.1<=0) (h4:0<ex m b'.1):a.1=a'.1:=by
 refine Classical.byContradiction fun ne=> ?_
 have E1:=hP.edge _ e1
 have E2:=hP.edge _ e2
 dsimp only at E1 E2;have nb:a'.1≠b.1:=fun q=>by rw[q] at h3;omega
 have nb':a.1≠b'.1:=fun q=>by rw[q] at h1;omega
 have D1:=(Aw E1 m3 m4 (s:=ex m b'.1) (t:= -(ex m a'.1)) (by omega) (by omega) (.inl ⟨h4,Ne.symm ne,nb⟩)).1
 have D2:=(Aw E2 m1 m2 (s:=ex m b.1) (t:= -(ex m a.1)) (by omega) (by omega) (.inl ⟨h2,ne,nb'⟩)).1
 have P:=lm m (cb (ex m b.1) a.1 (-(ex m a.1)) b.1) (cb (ex m b'.1) a'.1 (-(ex m a'.1)) b'.1) b.1 b'.1
 rw[m5,m5,bX,bX,b8,b8,yP,BD] at P;have q1:=be (be h2 D1) h4
 have q2:=be (be h4 D2) h2
 rw[Int.neg_mul] at P;omega
noncomputable def pe{α:Type}:List α ->List (α×α)
 |[]=>[]
 |[_]=>[]
 |x::y::r=>(x,y)::pe (y::r)
theorem pe_app{α:Type}(a:α)(q:List α):∀p:List α,pe (p++a::q)=pe (p++[a])++pe (a::q)
 |[]=>by simp[pe]
 |[x]=>by simp[pe]
 |x::y::p=>by
  have:=pe_app a q (y::p)
  simp only[ak,pe] at this⊢;rw[this]
theorem yA{α:Type}:∀(r:List α) (x z:α),(x::r).zip (r++[z])=pe (x::r++[z])
 |[],x,z=>rfl
 |y::r,x,z=>by
  have:=yA r y z
  simp only[ak,cH,pe] at this⊢;rw[this]
theorem kE(x:Vx)(r:List Vx):edges (x::r)=pe (x::r++[x]):=yA r x x
theorem xq{α:Type}(u v:List α):rotk u.length (u++v)=v++u:=by
 unfold rotk;rw[List.drop_left,List.take_left]
theorem lB(l:List Vx):(edges l).length=l.length:=by
 unfold edges;rw[fg,rot_length,Nat.min_self]
theorem uF(l:List Vx):∀k,k<=l.length ->edges (rotk k l)=rotk k (edges l):=by
 intro k
 induction k with
 |zero=>intro _;unfold rotk;simp
 |succ k ih=>
  intro hk;rw[nJ k l (by omega),oI,ih (by omega),nJ k (edges l) (by rw[lB];omega)]
noncomputable def Rot{α:Type}(l m:List α):Prop:=∃u v,l=u++v /\ m=v++u
theorem Rot.refl{α:Type}(l:List α):Rot l l:=⟨[],l,rfl,by simp⟩
theorem Rot.symm{α:Type}{l m:List α}(h:Rot l m):Rot m l:=by
 obtain⟨u,v,e1,e2⟩:=h
 exact⟨v,u,e2,e1⟩
theorem Rot.trans{α:Type}{l m n:List α}(h1:Rot l m)(h2:Rot m n):Rot l n:=by
 obtain⟨u,v,rfl,rfl⟩:=h1
 obtain⟨p,q,e,rfl⟩:=h2
 rcases List.append_eq_append_iff.mp e with⟨w,e1,e2⟩|⟨w,e1,e2⟩
 ·exact⟨w,q++v,by rw[e2];simp,by rw[e1];simp⟩
 ·exact⟨u++p,w,by rw[e1];simp,by rw[e2];simp⟩
theorem Rot.of{α:Type}(k:Nat)(l:List α):Rot l (rotk k l):=⟨l.take k,l.drop k,(cq k l).symm,rfl⟩
theorem Rot.at{α:Type}{l m:List α}(h:Rot l m):∃k,k<=l.length /\ m=rotk k l:=by
 obtain⟨u,v,rfl,rfl⟩:=h
 exact⟨u.length,by simp,(xq u v).symm⟩
theorem Rot.poly{l m:List Vx}(h:Rot l m)(hP:Poly l):Poly m:=by
 obtain⟨k,hk,rfl⟩:=h.at
 exact hP.rotk hk
theorem Rot.mem{α:Type}{l m:List α}(h:Rot l m)(a:α):a∈m↔a∈l:=by
 obtain⟨u,v,rfl,rfl⟩:=h
 rw[aU,aU,or_comm]
theorem Rot.edges{l m:List Vx}(h:Rot l m):Rot (edges l) (edges m):=by
 obtain⟨k,hk,rfl⟩:=h.at
 rw[uF l k hk];exact .of k _
theorem Rot.flat{α β:Type}{l m:List α}(h:Rot l m)(f:α ->List β):Rot (l.flatMap f) (m.flatMap f):=by
 obtain⟨u,v,rfl,rfl⟩:=h
 exact⟨u.flatMap f,v.flatMap f,by rw[cj],by rw[cj]⟩
theorem kx{l:List Vx}{a b:Vx}(h:(a,b)∈edges l):a∈l /\ b∈l:=by
 have:=bE h
 exact⟨this.1,(j6 l b).mp this.2⟩
theorem canon{l:List Vx}(hP:Poly l)(m:V3)(hp:∃v∈l,0<ex m v.1)(hn:∃v∈l,ex m v.1<=0):
  ∃C D,Rot l (C++D) /\ C≠[] /\ D≠[] /\ (∀c∈C,ex m c.1<=0) /\ ∀d∈D,0<ex m d.1:=by
 have up:∃a b,(a,b)∈edges l /\ ex m a.1<=0 /\ 0<ex m b.1:=by
  refine Classical.byContradiction fun no=> ?_
  obtain⟨D,C,e,hD,hC⟩:=zx (fun v:Vx=>ex m v.1) l fun p x y s q hxy=>no ⟨x,y,by rw[q];exact kI,hxy⟩
  obtain⟨v,hv,hv0⟩:=hp
  obtain⟨w,hw,hw0⟩:=hn
  cases D with
  |nil=>
   rw[e] at hv;have:=hC v (by simpa using hv)
   omega
  |cons d D=>
   cases hC':C.reverse with
   |nil=>
    have:C=[]:=by simpa using hC'
    subst this;rw[e] at hw;have:=hD w (by simpa using hw)
    omega
   |cons c R=>
    have eC:C=R.reverse++[c]:=by
     have:=congrArg gj hC'
     simpa using this
    refine no ⟨c,d,?_,hC c (by rw[eC];simp),hD d (by simp)⟩;rw[e,eC];have:=kL (m:=D++R.reverse) (a:=c) (b:=d)
    simpa using this
 obtain⟨a,b,hab,ha,hb⟩:=up
 have h2:2<=l.length:=by have:=hP.three;omega
 obtain⟨r,hr⟩:∃r,Rot l (b::(r++[a])):=by
  rcases sr hab h2 with⟨p,s,e⟩|⟨r,e⟩
  ·exact⟨s++p,p++[a],b::s,by rw[e];simp,by simp⟩
  ·exact⟨r,by rw[<-e];exact .refl l⟩
 have hPt:=hr.poly hP
 have memt:=hr.mem
 obtain⟨D,C,e,hD,hC⟩:=zx (fun v:Vx=>ex m v.1) (b::(r++[a])) fun p x y s q hxy=>by
  have exy:(x,y)∈edges (b::(r++[a])):=by rw[q];exact kI
  have eab:(a,b)∈edges (b::(r++[a])):=kL
  have u:=uL hPt (m:=m) eab exy (kx eab).1 (kx eab).2 (kx exy).1 (kx exy).2 ha hb hxy.1 hxy.2
  have nd:=hPt.nd
  rw[q,au,aD,ba] at nd;have hx:=(bb.mp nd.2.1).1
  apply hx;have hlast:a∈y::s:=by
   have e1:(p++x::y::s).getLast?=some a:=by
    rw[<-q,show b::(r++[a])=(b::r)++[a] from rfl];exact List.getLast?_concat
   rw[List.getLast?_append] at e1;have e2:(x::y::s).getLast?=(y::s).getLast?:=rfl
   rw[e2] at e1;cases e3:(y::s).getLast? with
   |none=>simp at e3
   |some z=>
    rw[e3] at e1;have:z=a:=by simpa using e1
    subst this;exact List.mem_of_getLast? e3
  rw[<-u];exact aw.mpr ⟨a,hlast,rfl⟩
 have hRt:Rot (b::(r++[a])) (C++D):=⟨D,C,e,rfl⟩
 refine⟨C,D,hr.trans hRt,fun q=> ?_,fun q=> ?_,hC,hD⟩
 ·subst q;have:a∈D:=by
   have:a∈b::(r++[a]):=by simp
   rw[e] at this
   simpa using this
  have:=hD a this
  omega
 ·subst q;have:b∈C:=by
   have:b∈b::(r++[a]):=by simp
   rw[e] at this
   simpa using this
  have:=hC b this
  omega
end MC
namespace MC
open MA
noncomputable def jk(a b:V3)(h t:Int):V3:=
 ((a.1*t-b.1*h).fdiv (com (a.1*t-b.1*h) (a.2.1*t-b.2.1*h) (a.2.2*t-b.2.2*h)),
  (a.2.1*t-b.2.1*h).fdiv (com (a.1*t-b.1*h) (a.2.1*t-b.2.1*h) (a.2.2*t-b.2.2*h)),
  (a.2.2*t-b.2.2*h).fdiv (com (a.1*t-b.1*h) (a.2.1*t-b.2.1*h) (a.2.2*t-b.2.2*h)))
theorem ub{a b:V3}{h t:Int}(ha:0<a.2.2)(hb:0<b.2.2)(h1:h<0)(h2:0<t):IsPt (a.1*t-b.1*h) (a.2.1*t-b.2.1*h) (a.2.2*t-b.2.2*h) (jk a b h t).1 (jk a b h t).2.1 (jk a b h t).2.2 /\ Sim (jk a b h t) (cb t a (-h) b):=by
 have hw:0<a.2.2*t-b.2.2*h:=by
  have q1:=be ha h2
  have q2:=bO hb h1
  omega
 have k:=nU (x:=a.1*t-b.1*h) (y:=a.2.1*t-b.2.1*h) (w:=a.2.2*t-b.2.2*h) (by omega)
 refine⟨k,?_⟩;have:=AO k hw
 rw[show cb t a (-h) b=(a.1*t-b.1*h,a.2.1*t-b.2.1*h,a.2.2*t-b.2.2*h) by unfold cb;refine b9 ?_ (b9 ?_ ?_)<;>(dsimp only;grind)]
 exact this
theorem oN{a b:V3}{h t:Int}(ha:0<a.2.2)(hb:0<b.2.2)(h1:0<h)(h2:t<0):IsPt (a.1*t-b.1*h) (a.2.1*t-b.2.1*h) (a.2.2*t-b.2.2*h) (jk a b h t).1 (jk a b h t).2.1 (jk a b h t).2.2 /\ Sim (jk a b h t) (cb h b (-t) a):=by
 have hw:a.2.2*t-b.2.2*h<0:=by
  have q1:=bO ha h2
  have q2:=be hb h1
  omega
 have k:=nU (x:=a.1*t-b.1*h) (y:=a.2.1*t-b.2.1*h) (w:=a.2.2*t-b.2.2*h) (by omega)
 refine⟨k,?_⟩;have:=za k hw
 rw[show cb h b (-t) a=(-(a.1*t-b.1*h),-(a.2.1*t-b.2.1*h),-(a.2.2*t-b.2.2*h)) by unfold cb;refine b9 ?_ (b9 ?_ ?_)<;>(dsimp only;grind)]
 exact this
noncomputable def emit(m:V3)(num:Int)(e:Vx×Vx):List Vx:=
 (if ex m e.1.1<0∨(ex m e.1.1=0 /\ ex m e.2.1<=0) then[e.1] else if ex m e.1.1=0 then[(e.1.1,m,num)] else[])++
 (if ex m e.1.1<0 /\ 0<ex m e.2.1 then[(jk e.1.1 e.2.1 (ex m e.1.1) (ex m e.2.1),m,num)] else if 0<ex m e.1.1 /\ ex m e.2.1<0 then[(jk e.1.1 e.2.1 (ex m e.1.1) (ex m e.2.1),e.1.2)] else[])
noncomputable def jB(m:V3)(num:Int)(l:List Vx):List Vx:=(edges l).flatMap (emit m num)
theorem qk(m:V3)(num:Int)(a:Vx):∀p:List Vx,(∀c∈p++[a],ex m c.1<=0) ->(pe (p++[a])).flatMap (emit m num)=p
 |[],_=>rfl
 |[x],h=>by
  have h1:=h x (by simp)
  have h2:=h a (by simp)
  simp only[ak,aP,pe,bH,dG,aI,emit];rw[if_pos (by omega),if_neg (by omega),if_neg (by omega)];rfl
 |x::y::p,h=>by
  have h1:=h x (by simp)
  have h2:=h y (by simp)
  have ih:=qk m num a (y::p) fun c hc=>h c (by simp at hc⊢;right;exact hc)
  simp only[ak,pe,bH] at ih⊢;rw[ih];simp only[emit];rw[if_pos (by omega),if_neg (by omega),if_neg (by omega)];rfl
theorem tV(m:V3)(num:Int):∀p:List Vx,(∀c∈p,0<ex m c.1) ->(pe p).flatMap (emit m num)=[]
 |[],_=>rfl
 |[x],h=>rfl
 |x::y::p,h=>by
  have h1:=h x (by simp)
  have h2:=h y (by simp)
  have ih:=tV m num (y::p) fun c hc=>h c (by simp at hc⊢;right;exact hc)
  simp only[pe,bH] at ih⊢;rw[ih];simp only[emit];rw[if_neg (by omega),if_neg (by omega),if_neg (by omega),if_neg (by omega)];rfl
noncomputable def kF(m:V3)(num:Int)(k d:Vx):List Vx:=if ex m k.1<0 then[k,(jk k.1 d.1 (ex m k.1) (ex m d.1),m,num)] else[(k.1,m,num)]
noncomputable def kX(m:V3)(z c:Vx):List Vx:=if ex m c.1<0 then[(jk z.1 c.1 (ex m z.1) (ex m c.1),z.2)] else[]
theorem oD{m:V3}{num:Int}{C1 D2:List Vx}{C2 D1:List Vx}{k d c z:Vx}(eC:C1++[k]=c::C2)(eD:D2++[z]=d::D1)
  (hC:∀x∈C1++[k],ex m x.1<=0) (hD:∀x∈d::D1,0<ex m x.1):jB m num ((C1++[k])++(d::D1))=C1++(kF m num k d++kX m z c):=by
 have hk:=hC k (by simp)
 have hd:=hD d (by simp)
 have hc:=hC c (by rw[eC];simp)
 have hz:=hD z (by rw[<-eD];simp)
 have e1:edges ((C1++[k])++(d::D1))=pe (C1++[k])++((k,d)::(pe (d::D1)++[(z,c)])):=by
  rw[eC,ak,kE];have e2:c::(C2++d::D1)++[c]=C1++k::(d::D1++[c]):=by
   rw[<-ak, <-eC];simp
  rw[e2,pe_app, <-eC]
  congr 1
  show(k,d)::pe (d::(D1++[c]))=_
  congr 1
  rw[<-ak, <-eD,bG];show pe (D2++z::[c])=_
  rw[pe_app,eD];rfl
 unfold jB;rw[e1,cj,bH,cj,qk m num k C1 hC,tV m num (d::D1) hD]
 congr 1
 simp only[bH,dG,aI,aP]
 congr 1
 ·unfold emit kF;dsimp only
  by_cases q:ex m k.1<0
  ·rw[if_pos (.inl q),if_pos ⟨q,hd⟩,if_pos q];rfl
  ·rw[if_neg (by omega),if_pos (by omega),if_neg (by omega),if_neg (by omega),if_neg q];rfl
 ·unfold emit kX;dsimp only;rw[if_neg (by omega),if_neg (by omega),if_neg (by omega)]
  by_cases q:ex m c.1<0
  ·rw[if_pos ⟨hz,q⟩,if_pos q];rfl
  ·rw[if_neg (by omega),if_neg q];rfl
end MC
namespace MC
open MA
theorem Edge.congr{l:List Vx}{a b b':Vx}(h:Edge l a b)(e:b.1=b'.1):Edge l a b':=by
 obtain⟨h1,h2,h3,h4,h5⟩:=h
 rw[e] at h1 h3 h4 h5;exact⟨h1,h2,h3,h4,h5⟩
noncomputable def Ai(a b:Vx)(p:V3):Prop:=p=a.1∨p=b.1∨(0<dt a.1 b.1 p /\ ex a.2.1 p<0)
theorem zX{l:List Vx}{a b:Vx}(h1:a.1≠b.1)(h2:ex a.2.1 a.1=0)(h3:ex a.2.1 b.1=0)(h:∀c∈l,Ai a b c.1):Edge l a b:=
 ⟨h1,h2,h3,fun c hc=>(h c hc).imp id (fun q=>q.imp id (·.1)),fun c hc=>(h c hc).imp id (fun q=>q.imp id (·.2))⟩
theorem Edge.ok{l:List Vx}{a b c:Vx}(h:Edge l a b)(hc:c∈l):Ai a b c.1:=by
 rcases h.left c hc with e|e|e
 ·exact .inl e
 ·exact .inr (.inl e)
 ·rcases h.back c hc with e'|e'|e'
  ·exact .inl e'
  ·exact .inr (.inl e')
  ·exact .inr (.inr ⟨e,e'⟩)
theorem vE{k k':Vx}(hk:k'.1=k.1):∀(p:List Vx) (a b:Vx),(a,b)∈pe (p++[k']) -> ∃b',(a,b')∈pe (p++[k]) /\ b'.1=b.1
 |[],a,b,h=>by simp[pe] at h
 |[x],a,b,h=>by
  simp only[ak,aP,pe,ao,ay,or_false,d7.injEq] at h⊢;obtain⟨rfl,rfl⟩:=h
  exact⟨k,⟨rfl,rfl⟩,hk.symm⟩
 |x::y::p,a,b,h=>by
  simp only[ak,pe,ao,d7.injEq] at h⊢;rcases h with⟨rfl,rfl⟩|h
  ·exact⟨b,.inl ⟨rfl,rfl⟩,rfl⟩
  ·obtain⟨b',h1,h2⟩:=vE hk (y::p) a b h
   exact⟨b',.inr h1,h2⟩
theorem nN{α:Type}:∀(p:List α) (a b:α),(a,b)∈pe p ->a∈p /\ b∈p
 |[],a,b,h=>by simp[pe] at h
 |[x],a,b,h=>by simp[pe] at h
 |x::y::p,a,b,h=>by
  simp only[pe,ao,d7.injEq] at h;rcases h with⟨rfl,rfl⟩|h
  ·simp
  ·have:=nN (y::p) a b h
   exact⟨aB _ this.1,aB _ this.2⟩
theorem l4{α:Type}{p q:List α}{a b:α}(h:(a,b)∈pe p):(a,b)∈pe (p++q):=by
 cases hp:p.reverse with
 |nil=>
  have:p=[]:=by simpa using hp
  subst this;simp[pe] at h
 |cons x r=>
  have e:p=r.reverse++[x]:=by
   have:=congrArg gj hp
   simpa using this
  rw[e,bG,gm,pe_app, <-e];exact bf _ h
theorem vP{C:List Vx}{c0 k c:Vx}{C1 C2:List Vx}(e1:C=C1++[k])(e2:C=c0::C2)(hc:c∈C)(n1:c≠c0)(n2:c≠k):∃p a b s,C=p++a::c::b::s:=by
 obtain⟨p,s,e⟩:=gH hc
 cases hp:p.reverse with
 |nil=>
  have:p=[]:=by simpa using hp
  subst this;rw[e] at e2;simp at e2;exact absurd e2.1 n1
 |cons a r=>
  have ep:p=r.reverse++[a]:=by
   have:=congrArg gj hp
   simpa using this
  cases s with
  |nil=>
   rw[e] at e1;have:=congrArg gj e1
   simp at this;exact absurd this.1 n2
  |cons b s=>exact⟨r.reverse,a,b,s,by rw[e,ep];simp⟩
structure Cfg(m:V3)(C1 C2 D1 D2:List Vx)(k c d z:Vx):Prop where
 hP:Poly ((C1++[k])++(d::D1))
 eC:C1++[k]=c::C2
 eD:D2++[z]=d::D1
 hC:∀x∈C1++[k],ex m x.1<=0
 hD:∀x∈d::D1,0<ex m x.1
 neg:∃x∈C1++[k],ex m x.1<0
section
variable {m:V3} {num:Int} {C1 C2 D1 D2:List Vx} {k c d z:Vx}
noncomputable def Xp(m:V3)(k d:Vx):V3:=if ex m k.1<0 then jk k.1 d.1 (ex m k.1) (ex m d.1) else k.1
noncomputable def Yp(m:V3)(z c:Vx):V3:=if ex m c.1<0 then jk z.1 c.1 (ex m z.1) (ex m c.1) else c.1
namespace Cfg
theorem inC(h:Cfg m C1 C2 D1 D2 k c d z){x:Vx}(hx:x∈C1++[k]):x∈(C1++[k])++(d::D1):=bf _ hx
theorem inD(h:Cfg m C1 C2 D1 D2 k c d z){x:Vx}(hx:x∈d::D1):x∈(C1++[k])++(d::D1):=aM _ hx
theorem kC(h:Cfg m C1 C2 D1 D2 k c d z):k∈C1++[k]:=by simp
theorem cC(h:Cfg m C1 C2 D1 D2 k c d z):c∈C1++[k]:=by rw[h.eC];simp
theorem zD(h:Cfg m C1 C2 D1 D2 k c d z):z∈d::D1:=by rw[<-h.eD];simp
theorem dD(h:Cfg m C1 C2 D1 D2 k c d z):d∈d::D1:=by simp
theorem ekd(h:Cfg m C1 C2 D1 D2 k c d z):Edge ((C1++[k])++(d::D1)) k d:=by
 have:(k,d)∈edges ((C1++[k])++(d::D1)):=by
  have:=kI (p:=C1) (s:=D1) (a:=k) (b:=d)
  simpa using this
 exact h.hP.edge _ this
theorem ezc(h:Cfg m C1 C2 D1 D2 k c d z):Edge ((C1++[k])++(d::D1)) z c:=by
 have:(z,c)∈edges ((C1++[k])++(d::D1)):=by
  rw[h.eC, <-h.eD];have:=kL (m:=C2++D2) (a:=z) (b:=c)
  simpa using this
 exact h.hP.edge _ this
theorem cd(h:Cfg m C1 C2 D1 D2 k c d z){x y:Vx}(hx:x∈C1++[k])(hy:y∈d::D1):x.1≠y.1:=fun q=>by
 have h1:=h.hC x hx
 have h2:=h.hD y hy
 rw[q] at h1;omega
theorem inj(h:Cfg m C1 C2 D1 D2 k c d z){x y:Vx}(hx:x∈C1++[k])(hy:y∈C1++[k])(e:x.1=y.1):x=y:=by
 have nd:=h.hP.nd
 rw[au,ba] at nd;have nd:=nd.1
 generalize C1++[k]=C at hx hy nd
 induction C with
 |nil=>simp at hx
 |cons w C ih=>
  rw[aD,bb] at nd;rcases ao.mp hx with rfl|hx'<;>rcases ao.mp hy with rfl|hy'
  ·rfl
  ·exact absurd (aw.mpr ⟨y,hy',e.symm⟩) nd.1
  ·exact absurd (aw.mpr ⟨x,hx',e⟩) nd.1
  ·exact ih hx' hy' nd.2
theorem two(h:Cfg m C1 C2 D1 D2 k c d z)(e:c.1=k.1):z.1≠d.1:=by
 have ek:c=k:=h.inj h.cC h.kC e
 have len:=h.hP.three
 have e1:C1=[]:=by
  cases C1 with
  |nil=>rfl
  |cons w C1'=>
   have hc:=h.eC
   rw[ak] at hc;have hw:w=c:=(cp.inj hc).1
   have nd:=h.hP.nd
   rw[au,ba,ak,aD,bb] at nd;refine absurd ?_ nd.1.1;rw[hw,e];exact aw.mpr ⟨k,by simp,rfl⟩
 subst e1;intro q;have hD2:=h.eD
 cases D1 with
 |nil=>simp at len
 |cons y D1'=>
  cases D2 with
  |nil=>simp at hD2
  |cons w D2'=>
   rw[ak] at hD2;obtain⟨rfl,e3⟩:=cp.inj hD2
   have nd:=h.hP.nd
   rw[au,ba,aD,bb] at nd;refine absurd ?_ nd.2.1.1;rw[<-e3, <-q];exact aw.mpr ⟨z,by simp,rfl⟩
theorem wk(h:Cfg m C1 C2 D1 D2 k c d z){x:Vx}(hx:x∈(C1++[k])++(d::D1)):0<x.1.2.2:=h.hP.pos x hx
theorem simX(h:Cfg m C1 C2 D1 D2 k c d z):Sim (Xp m k d) (cb (ex m d.1) k.1 (-(ex m k.1)) d.1):=by
 unfold Xp;have hk:=h.hC k h.kC
 have hd:=h.hD d h.dD
 split
 ·rename_i q
  exact(ub (h.wk (h.inC h.kC)) (h.wk (h.inD h.dD)) q hd).2
 ·have e:ex m k.1=0:=by omega
  rw[e];refine⟨ex m d.1,1,hd,by decide,?_,?_,?_⟩<;>(unfold cb;dsimp only;grind)
theorem simY(h:Cfg m C1 C2 D1 D2 k c d z):Sim (Yp m z c) (cb (ex m z.1) c.1 (-(ex m c.1)) z.1):=by
 unfold Yp;have hc:=h.hC c h.cC
 have hz:=h.hD z h.zD
 split
 ·rename_i q
  exact(oN (h.wk (h.inD h.zD)) (h.wk (h.inC h.cC)) hz q).2
 ·have e:ex m c.1=0:=by omega
  rw[e];refine⟨ex m z.1,1,hz,by decide,?_,?_,?_⟩<;>(unfold cb;dsimp only;grind)
theorem exX(h:Cfg m C1 C2 D1 D2 k c d z):ex m (Xp m k d)=0:=(h.simX.exz m).mpr (m5 m k.1 d.1)
theorem exY(h:Cfg m C1 C2 D1 D2 k c d z):ex m (Yp m z c)=0:=(h.simY.exz m).mpr (m5 m c.1 z.1)
theorem okX(h:Cfg m C1 C2 D1 D2 k c d z){a b:Vx}(ha:a∈C1++[k])(hb:b∈C1++[k])(E:Edge ((C1++[k])++(d::D1)) a b):Ai a b (Xp m k d):=by
 have hk:=h.hC k h.kC
 have hd:=h.hD d h.dD
 by_cases q:ex m k.1<0
 ·have:=Aw E (h.inC h.kC) (h.inD h.dD) (s:=ex m d.1) (t:= -(ex m k.1)) (by omega) (by omega) (.inr ⟨by omega,(h.cd ha h.dD).symm,(h.cd hb h.dD).symm⟩)
  exact .inr (.inr ⟨(h.simX.dtp a.1 b.1).mpr this.1,(h.simX.exn a.2.1).mpr this.2⟩)
 ·rw[show Xp m k d=k.1 from if_neg q];exact E.ok (h.inC h.kC)
theorem okY(h:Cfg m C1 C2 D1 D2 k c d z){a b:Vx}(ha:a∈C1++[k])(hb:b∈C1++[k])(E:Edge ((C1++[k])++(d::D1)) a b):Ai a b (Yp m z c):=by
 have hc:=h.hC c h.cC
 have hz:=h.hD z h.zD
 by_cases q:ex m c.1<0
 ·have:=Aw E (h.inC h.cC) (h.inD h.zD) (s:=ex m z.1) (t:= -(ex m c.1)) (by omega) (by omega) (.inr ⟨by omega,(h.cd ha h.zD).symm,(h.cd hb h.zD).symm⟩)
  exact .inr (.inr ⟨(h.simY.dtp a.1 b.1).mpr this.1,(h.simY.exn a.2.1).mpr this.2⟩)
 ·rw[show Yp m z c=c.1 from if_neg q];exact E.ok (h.inC h.cC)
theorem kdY(h:Cfg m C1 C2 D1 D2 k c d z)(q:ex m k.1<0∨c.1≠k.1):0<dt k.1 d.1 (Yp m z c) /\ ex k.2.1 (Yp m z c)<0:=by
 have hc:=h.hC c h.cC
 have hz:=h.hD z h.zD
 have cases:(0<ex m z.1 /\ c.1≠k.1 /\ c.1≠d.1)∨(0< -(ex m c.1) /\ z.1≠k.1 /\ z.1≠d.1):=by
  by_cases e:c.1=k.1
  ·right
   refine⟨?_,(h.cd h.kC h.zD).symm,h.two e⟩;rcases q with q|q
   ·rw[e];omega
   ·exact absurd e q
  ·exact .inl ⟨hz,e,h.cd h.cC h.dD⟩
 have:=Aw h.ekd (h.inC h.cC) (h.inD h.zD) (s:=ex m z.1) (t:= -(ex m c.1)) (by omega) (by omega) cases
 exact⟨(h.simY.dtp k.1 d.1).mpr this.1,(h.simY.exn k.2.1).mpr this.2⟩
theorem zcX(h:Cfg m C1 C2 D1 D2 k c d z)(q:ex m c.1<0∨c.1≠k.1):0<dt z.1 c.1 (Xp m k d) /\ ex z.2.1 (Xp m k d)<0:=by
 have hk:=h.hC k h.kC
 have hd:=h.hD d h.dD
 have cases:(0<ex m d.1 /\ k.1≠z.1 /\ k.1≠c.1)∨(0< -(ex m k.1) /\ d.1≠z.1 /\ d.1≠c.1):=by
  by_cases e:c.1=k.1
  ·right
   refine⟨?_,(h.two e).symm,(h.cd h.cC h.dD).symm⟩;rcases q with q|q
   ·rw[<-e];omega
   ·exact absurd e q
  ·exact .inl ⟨hd,h.cd h.kC h.zD,Ne.symm e⟩
 have:=Aw h.ezc (h.inC h.kC) (h.inD h.dD) (s:=ex m d.1) (t:= -(ex m k.1)) (by omega) (by omega) cases
 exact⟨(h.simX.dtp z.1 c.1).mpr this.1,(h.simX.exn z.2.1).mpr this.2⟩
theorem ends(h:Cfg m C1 C2 D1 D2 k c d z):ex m k.1<0∨c.1≠k.1:=by
 by_cases e:c.1=k.1
 ·left
  have ek:c=k:=h.inj h.cC h.kC e
  have e1:C1=[]:=by
   cases C1 with
   |nil=>rfl
   |cons w C1'=>
    have hc:=h.eC
    rw[ak] at hc;have hw:w=c:=(cp.inj hc).1
    have nd:=h.hP.nd
    rw[au,ba,ak,aD,bb] at nd;refine absurd ?_ nd.1.1;rw[hw,e];exact aw.mpr ⟨k,by simp,rfl⟩
  obtain⟨x,hx,hx0⟩:=h.neg
  subst e1;obtain rfl:x=k:=by simpa using hx
  exact hx0
 ·exact .inr e
theorem ends'(h:Cfg m C1 C2 D1 D2 k c d z):ex m c.1<0∨c.1≠k.1:=by
 rcases h.ends with q|q
 ·by_cases e:c.1=k.1
  ·exact .inl (by rw[e];exact q)
  ·exact .inr e
 ·exact .inr q
theorem xd(h:Cfg m C1 C2 D1 D2 k c d z):dt (Xp m k d) (Yp m z c) d.1<0:=by
 have hd:=h.hD d h.dD
 have q:=(h.kdY h.ends).1
 --X is a sum of k and d
 obtain⟨s,t,hs,ht,e1,e2,e3⟩:=h.simX
 have e:dt (Xp m k d) (Yp m z c) d.1*s= -(ex m d.1*dt k.1 d.1 (Yp m z c))*t:=by
  rw[<-yP (ex m d.1) k.1 (-(ex m k.1)) d.1 (Yp m z c)];generalize cb (ex m d.1) k.1 (-(ex m k.1)) d.1=v at e1 e2 e3;generalize Xp m k d=w at e1 e2 e3;unfold dt
  grind
 have q2:=be hd q
 exact(lh hs ht e).2.2.mpr (by omega)
theorem xy(h:Cfg m C1 C2 D1 D2 k c d z):Xp m k d≠Yp m z c:=fun e=>by
 have:=h.xd
 rw[e,wc] at this;omega
theorem newLeft(h:Cfg m C1 C2 D1 D2 k c d z){p:V3}(hp:ex m p<0):0<dt (Xp m k d) (Yp m z c) p:=by
 have hd:=h.hD d h.dD
 have P:=lm m (Xp m k d) (Yp m z c) p d.1
 rw[h.exX,h.exY,bX,bX,b8,b8] at P;have q:=Int.mul_pos_of_neg_of_neg h.xd hp
 rw[<-P] at q;rcases dC (dt (Xp m k d) (Yp m z c) p) 0 with r|r|r
 ·have:=cf r hd
  omega
 ·rw[r,dm] at q;omega
 ·exact r
theorem zero(h:Cfg m C1 C2 D1 D2 k c d z){x:Vx}(hx:x∈C1++[k])(h0:ex m x.1=0):x=c∨x=k:=by
 refine Classical.byContradiction fun no=> ?_
 have n1:x≠c:=fun q=>no (.inl q)
 have n2:x≠k:=fun q=>no (.inr q)
 obtain⟨p,a,b,s,e⟩:=vP (C:=C1++[k]) rfl h.eC hx n1 n2
 have l1:(a,x)∈edges ((C1++[k])++(d::D1)):=by
  rw[e];have:=kI (p:=p) (s:=b::s++(d::D1)) (a:=a) (b:=x)
  simpa using this
 have l2:(x,b)∈edges ((C1++[k])++(d::D1)):=by
  rw[e];have:=kI (p:=p++[a]) (s:=s++(d::D1)) (a:=x) (b:=b)
  simpa using this
 have E1:=h.hP.edge _ l1
 have E2:=h.hP.edge _ l2
 dsimp only at E1 E2;have ma:a∈C1++[k]:=by rw[e];simp
 have mb:b∈C1++[k]:=by rw[e];simp
 have nd:=h.hP.nd
 rw[au,ba,e,au,aD,aD,aD,ba,bb,bb] at nd;have nab:b.1≠a.1:=fun q=>nd.1.2.1.1 (by rw[<-q];simp)
 have nxb:b.1≠x.1:=fun q=>nd.1.2.1.2.1 (by rw[<-q];simp)
 have A1:=E1.left_of (h.inC mb) nab nxb
 have A2:=E1.left_of (h.inD h.dD) (h.cd ma h.dD).symm (h.cd hx h.dD).symm
 have A3:=E2.left_of (h.inD h.dD) (h.cd hx h.dD).symm (h.cd mb h.dD).symm
 have P:=lm m a.1 x.1 b.1 d.1
 rw[h0,bX,gT, <-oJ d.1 x.1 b.1] at P;have hd:=h.hD d h.dD
 have q1:=be A1 hd
 have q2:=tI (cA A3) (h.hC a ma)
 have q3:=tI (cA A2) (h.hC b mb)
 omega
end Cfg
end
end MC
namespace MC
open MA
namespace Cfg
variable {m:V3} {num:Int} {C1 C2 D1 D2:List Vx} {k c d z:Vx}
theorem pts(h:Cfg m C1 C2 D1 D2 k c d z){v:Vx}(hv:v∈C1++(kF m num k d++kX m z c)):(∃x∈C1++[k],v.1=x.1)∨v.1=Xp m k d∨v.1=Yp m z c:=by
 rcases aU.mp hv with q|q
 ·exact .inl ⟨v,bf _ q,rfl⟩
 ·rcases aU.mp q with q|q
  ·unfold kF at q
   by_cases e:ex m k.1<0
   ·rw[if_pos e] at q;simp only[ao,ay,or_false] at q;rcases q with rfl|rfl
    ·exact .inl ⟨v,by simp,rfl⟩
    ·exact .inr (.inl (by unfold Xp;rw[if_pos e]))
   ·rw[if_neg e] at q;obtain rfl:v=(k.1,m,num):=by simpa using q
    exact .inl ⟨k,by simp,rfl⟩
  ·unfold kX at q
   by_cases e:ex m c.1<0
   ·rw[if_pos e] at q;obtain rfl:v=(jk z.1 c.1 (ex m z.1) (ex m c.1),z.2):=by simpa using q
    exact .inr (.inr (by unfold Yp;rw[if_pos e]))
   ·rw[if_neg e] at q;simp at q
theorem edge_of3(h:Cfg m C1 C2 D1 D2 k c d z){a b:Vx}(h1:a.1≠b.1)(h2:ex a.2.1 a.1=0)(h3:ex a.2.1 b.1=0)(hC:∀x∈C1++[k],Ai a b x.1)(hX:Ai a b (Xp m k d))(hY:Ai a b (Yp m z c)):
  Edge (C1++(kF m num k d++kX m z c)) a b:=zX h1 h2 h3 fun v hv=>by
 rcases h.pts hv with⟨x,hx,e⟩|e|e
 ·rw[e];exact hC x hx
 ·rw[e];exact hX
 ·rw[e];exact hY
theorem eOld(h:Cfg m C1 C2 D1 D2 k c d z){a b:Vx}(ha:a∈C1++[k])(hb:b∈C1++[k])(E:Edge ((C1++[k])++(d::D1)) a b):Edge (C1++(kF m num k d++kX m z c)) a b:=
 h.edge_of3 E.ne E.on1 E.on2 (fun x hx=>E.ok (h.inC hx)) (h.okX ha hb E) (h.okY ha hb E)
theorem Xne(h:Cfg m C1 C2 D1 D2 k c d z)(q:ex m k.1<0){x:Vx}(hx:x∈C1++[k]):x.1≠Xp m k d:=fun e=>by
 have h0:ex m x.1=0:=by rw[e];exact h.exX
 rcases h.zero hx h0 with rfl|rfl
 ·have:Yp m z x=x.1:=if_neg (by omega)
  exact h.xy (by rw[this,e])
 ·omega
theorem Yne(h:Cfg m C1 C2 D1 D2 k c d z)(q:ex m c.1<0){x:Vx}(hx:x∈C1++[k]):x.1≠Yp m z c:=fun e=>by
 have h0:ex m x.1=0:=by rw[e];exact h.exY
 rcases h.zero hx h0 with rfl|rfl
 ·omega
 ·have:Xp m x d=x.1:=if_neg (by omega)
  exact h.xy (by rw[this,e])
theorem eKX(h:Cfg m C1 C2 D1 D2 k c d z)(q:ex m k.1<0)(b:Vx)(hb:b.1=Xp m k d):Edge (C1++(kF m num k d++kX m z c)) k b:=by
 have hd:=h.hD d h.dD
 have E:=h.ekd
 obtain⟨s,t,hs,ht,e1,e2,e3⟩:=h.simX
 have key:∀p:V3,0<dt k.1 d.1 p ->0<dt k.1 (Xp m k d) p:=by
  intro p hp;have e:dt k.1 (Xp m k d) p*s= -(ex m k.1)*dt k.1 d.1 p*t:=by
   generalize Xp m k d=w at e1 e2 e3;unfold cb at e1 e2 e3;dsimp only at e1 e2 e3;unfold dt
   grind
  have:0< -(ex m k.1)*dt k.1 d.1 p:=be (by omega) hp
  exact(lh hs ht e).1.mpr this
 have on:ex k.2.1 (Xp m k d)=0:=(h.simX.exz k.2.1).mpr (by rw[rc,E.on1,E.on2];simp)
 refine Edge.congr (b:=(Xp m k d,m,num)) ?_ hb.symm;refine h.edge_of3 (h.Xne q h.kC) E.on1 on (fun x hx=> ?_) (.inr (.inl rfl)) ?_
 ·by_cases e:x.1=k.1
  ·exact .inl e
  ·exact .inr (.inr ⟨key _ (E.left_of (h.inC hx) e (h.cd hx h.dD)),E.back_of (h.inC hx) e (h.cd hx h.dD)⟩)
 ·exact .inr (.inr ⟨key _ (h.kdY h.ends).1,(h.kdY h.ends).2⟩)
theorem eXY(h:Cfg m C1 C2 D1 D2 k c d z)(a b:Vx)(ha:a.1=Xp m k d)(ha':a.2.1=m)(hb:b.1=Yp m z c):Edge (C1++(kF m num k d++kX m z c)) a b:=by
 refine h.edge_of3 (by rw[ha,hb];exact h.xy) (by rw[ha,ha'];exact h.exX) (by rw[hb,ha'];exact h.exY) (fun x hx=> ?_) (.inl ha.symm) (.inr (.inl hb.symm))
 by_cases q:ex m x.1<0
 ·exact .inr (.inr ⟨by rw[ha,hb];exact h.newLeft q,by rw[ha'];exact q⟩)
 ·have h0:ex m x.1=0:=by have:=h.hC x hx;omega
  rcases h.zero hx h0 with rfl|rfl
  ·exact .inr (.inl (by rw[hb];unfold Yp;rw[if_neg q]))
  ·exact .inl (by rw[ha];unfold Xp;rw[if_neg q])
theorem eYC(h:Cfg m C1 C2 D1 D2 k c d z)(q:ex m c.1<0)(a b:Vx)(ha:a.1=Yp m z c)(ha':a.2.1=z.2.1)(hb:b.1=c.1):Edge (C1++(kF m num k d++kX m z c)) a b:=by
 have hz:=h.hD z h.zD
 have E:=h.ezc
 obtain⟨s,t,hs,ht,e1,e2,e3⟩:=h.simY
 have key:∀p:V3,0<dt z.1 c.1 p ->0<dt (Yp m z c) c.1 p:=by
  intro p hp;have e:dt (Yp m z c) c.1 p*s= -(ex m c.1)*dt z.1 c.1 p*t:=by
   generalize Yp m z c=w at e1 e2 e3;unfold cb at e1 e2 e3;dsimp only at e1 e2 e3;unfold dt
   grind
  have:0< -(ex m c.1)*dt z.1 c.1 p:=be (by omega) hp
  exact(lh hs ht e).1.mpr this
 have on:ex z.2.1 (Yp m z c)=0:=(h.simY.exz z.2.1).mpr (by rw[rc,E.on1,E.on2];simp)
 refine h.edge_of3 (by rw[ha,hb];exact(h.Yne q h.cC).symm) (by rw[ha,ha'];exact on) (by rw[hb,ha'];exact E.on2) (fun x hx=> ?_) ?_ (.inl ha.symm)
 ·by_cases e:x.1=c.1
  ·exact .inr (.inl (by rw[e,hb]))
  ·exact .inr (.inr ⟨by rw[ha,hb];exact key _ (E.left_of (h.inC hx) (h.cd hx h.zD) e),by rw[ha'];exact E.back_of (h.inC hx) (h.cd hx h.zD) e⟩)
 ·exact .inr (.inr ⟨by rw[ha,hb];exact key _ (h.zcX h.ends').1,by rw[ha'];exact(h.zcX h.ends').2⟩)
theorem len(h:Cfg m C1 C2 D1 D2 k c d z):3<=(C1++(kF m num k d++kX m z c)).length:=by
 have hk:=h.hC k h.kC
 have hc:=h.hC c h.cC
 rw[aq,aq];unfold kF kX;cases C1 with
 |nil=>
  have e:k=c:=by have:=h.eC;simp at this;exact this.1
  obtain⟨x,hx,hx0⟩:=h.neg
  obtain rfl:x=k:=by simpa using hx
  rw[if_pos hx0, <-e,if_pos hx0];simp
 |cons w C1'=>
  cases C1' with
  |nil=>
   have e:w=c:=by have:=h.eC;simp at this;exact this.1
   obtain⟨x,hx,hx0⟩:=h.neg
   simp only[ak,aP,ao,ay,or_false] at hx;rcases hx with rfl|rfl
   ·rw[<-e,if_pos hx0];split<;>simp
   ·rw[if_pos hx0];split<;>simp
  |cons w' C1''=>
   simp only[aX];split<;>simp<;>omega
theorem nodup_snoc{α:Type}{l:List α}{a:α}(h:l.Nodup)(n:a∉l):(l++[a]).Nodup:=by
 rw[ba];refine⟨h,by simp,fun x hx y hy e=> ?_⟩;obtain rfl:y=a:=by simpa using hy
 exact n (e▸hx)
theorem ndAll(h:Cfg m C1 C2 D1 D2 k c d z):((C1++(kF m num k d++kX m z c)).map (·.1)).Nodup:=by
 have nd:=h.hP.nd
 rw[au,ba] at nd;have n0:=nd.1
 have e1:(C1++(kF m num k d++kX m z c)).map (·.1)=((C1++[k]).map (·.1)++(if ex m k.1<0 then[Xp m k d] else[]))++(if ex m c.1<0 then[Yp m z c] else[]):=by
  unfold kF kX Xp Yp
  by_cases q1:ex m k.1<0<;>by_cases q2:ex m c.1<0<;>simp[q1,q2]
 rw[e1];have n1:((C1++[k]).map (·.1)++(if ex m k.1<0 then[Xp m k d] else[])).Nodup:=by
  by_cases q:ex m k.1<0
  ·rw[if_pos q];refine nodup_snoc n0 fun hm=> ?_
   obtain⟨x,hx,e⟩:=aw.mp hm
   exact h.Xne q hx e
  ·rw[if_neg q,aI];exact n0
 by_cases q:ex m c.1<0
 ·rw[if_pos q];refine nodup_snoc n1 fun hm=> ?_
  rcases aU.mp hm with hm|hm
  ·obtain⟨x,hx,e⟩:=aw.mp hm
   exact h.Yne q hx e
  ·by_cases q':ex m k.1<0
   ·rw[if_pos q'] at hm;have e:Yp m z c=Xp m k d:=by simpa using hm
    exact h.xy e.symm
   ·rw[if_neg q'] at hm;simp at hm
 ·rw[if_neg q,aI];exact n1
theorem lowX(h:Cfg m C1 C2 D1 D2 k c d z)(q:ex m k.1<0):0<(Xp m k d).2.2 /\ aA (aA (Xp m k d).1 (Xp m k d).2.1) (Xp m k d).2.2=1:=by
 have:=(ub (h.wk (h.inC h.kC)) (h.wk (h.inD h.dD)) q (h.hD d h.dD)).1
 unfold Xp;rw[if_pos q];exact⟨this.pos,this.low⟩
theorem lowY(h:Cfg m C1 C2 D1 D2 k c d z)(q:ex m c.1<0):0<(Yp m z c).2.2 /\ aA (aA (Yp m z c).1 (Yp m z c).2.1) (Yp m z c).2.2=1:=by
 have:=(oN (h.wk (h.inD h.zD)) (h.wk (h.inC h.cC)) (h.hD z h.zD) q).1
 unfold Yp;rw[if_pos q];exact⟨this.pos,this.low⟩
theorem low3(h:Cfg m C1 C2 D1 D2 k c d z){v:Vx}(hv:v∈C1++(kF m num k d++kX m z c)):0<v.1.2.2 /\ aA (aA v.1.1 v.1.2.1) v.1.2.2=1:=by
 rcases h.pts hv with⟨x,hx,e⟩|e|e
 ·rw[e];exact⟨h.hP.pos x (h.inC hx),h.hP.low x (h.inC hx)⟩
 ·rw[e]
  by_cases q:ex m k.1<0
  ·exact h.lowX q
  ·rw[show Xp m k d=k.1 from if_neg q];exact⟨h.hP.pos k (h.inC h.kC),h.hP.low k (h.inC h.kC)⟩
 ·rw[e]
  by_cases q:ex m c.1<0
  ·exact h.lowY q
  ·rw[show Yp m z c=c.1 from if_neg q];exact⟨h.hP.pos c (h.inC h.cC),h.hP.low c (h.inC h.cC)⟩
theorem poly(h:Cfg m C1 C2 D1 D2 k c d z):Poly (C1++(kF m num k d++kX m z c)) where
 three:=h.len
 pos:=fun v hv=>(h.low3 hv).1
 low:=fun v hv=>(h.low3 hv).2
 nd:=h.ndAll
 edge:=fun e he=>by
  obtain⟨a,b⟩:=e
  --the head of the list has the point of c
  obtain⟨t0,T,eT,ht0⟩:∃t0 T,kF m num k d++kX m z c=t0::T /\ t0.1=k.1:=by
   unfold kF;split
   ·exact⟨_,_,rfl,rfl⟩
   ·exact⟨_,_,rfl,rfl⟩
  obtain⟨hd0,R,eR,hhd⟩:∃hd0 R,C1++(t0::T)=hd0::R /\ hd0.1=c.1:=by
   cases C1 with
   |nil=>
    refine⟨t0,T,rfl,?_⟩;have:k=c:=by have:=h.eC;simp at this;exact this.1
    rw[ht0,this]
   |cons w C1'=>
    refine⟨w,C1'++(t0::T),rfl,?_⟩;have:=h.eC
    rw[ak] at this;rw[(cp.inj this).1]
  rw[eT,eR,kE, <-eR] at he;have he:(a,b)∈pe (C1++t0::(T++[hd0])):=by simpa using he
  rw[pe_app] at he;rcases aU.mp he with q|q
  ·obtain⟨b',hb',eb⟩:=vE ht0 C1 a b q
   have m2:=nN _ _ _ hb'
   have E:Edge ((C1++[k])++(d::D1)) a b':=by
    have:(a,b')∈edges ((C1++[k])++(d::D1)):=by
     rw[h.eC,ak,kE, <-ak, <-h.eC,bG];exact l4 hb'
    exact h.hP.edge _ this
   exact(h.eOld m2.1 m2.2 E).congr eb
  ·unfold kF kX at eT
   by_cases q1:ex m k.1<0<;>by_cases q2:ex m c.1<0
   ·rw[if_pos q1,if_pos q2] at eT;simp only[ak,aP,aI,cp.injEq] at eT;obtain⟨rfl,rfl⟩:=eT
    simp only[ak,aP,pe,ao,ay,or_false,d7.injEq] at q;rcases q with⟨rfl,rfl⟩|⟨rfl,rfl⟩|⟨rfl,rfl⟩
    ·exact h.eKX q1 _ (by unfold Xp;rw[if_pos q1])
    ·exact h.eXY _ _ (by unfold Xp;rw[if_pos q1]) rfl (by unfold Yp;rw[if_pos q2])
    ·exact h.eYC q2 _ _ (by unfold Yp;rw[if_pos q2]) rfl hhd
   ·rw[if_pos q1,if_neg q2] at eT;simp only[ak,aP,aI,cp.injEq] at eT;obtain⟨rfl,rfl⟩:=eT
    simp only[ak,aP,aI,pe,ao,ay,or_false,d7.injEq] at q;rcases q with⟨rfl,rfl⟩|⟨rfl,rfl⟩
    ·exact h.eKX q1 _ (by unfold Xp;rw[if_pos q1])
    ·exact h.eXY _ _ (by unfold Xp;rw[if_pos q1]) rfl (by unfold Yp;rw[if_neg q2];exact hhd)
   ·rw[if_neg q1,if_pos q2] at eT;simp only[ak,aP,aI,cp.injEq] at eT;obtain⟨rfl,rfl⟩:=eT
    simp only[ak,aP,pe,ao,ay,or_false,d7.injEq] at q;rcases q with⟨rfl,rfl⟩|⟨rfl,rfl⟩
    ·exact h.eXY _ _ (by unfold Xp;rw[if_neg q1]) rfl (by unfold Yp;rw[if_pos q2])
    ·exact h.eYC q2 _ _ (by unfold Yp;rw[if_pos q2]) rfl hhd
   ·rw[if_neg q1,if_neg q2] at eT;simp only[ak,aP,aI,cp.injEq] at eT;obtain⟨rfl,rfl⟩:=eT
    simp only[ak,aP,aI,pe,ao,ay,or_false,d7.injEq] at q;obtain⟨rfl,rfl⟩:=q
    exact h.eXY _ _ (by unfold Xp;rw[if_neg q1]) rfl (by unfold Yp;rw[if_neg q2];exact hhd)
end Cfg
theorem md{l:List Vx}(hP:Poly l)(m:V3)(num:Int)(hp:∃v∈l,0<ex m v.1)(hn:∃v∈l,ex m v.1<0):Poly (jB m num l):=by
 obtain⟨C,D,hR,nC,nD,hC,hD⟩:=canon hP m hp (by obtain⟨v,hv,q⟩:=hn;exact⟨v,hv,by omega⟩)
 obtain⟨c,C2,eC⟩:∃c C2,C=c::C2:=by cases C with|nil=>exact absurd rfl nC|cons c C2=>exact⟨c,C2,rfl⟩
 obtain⟨d,D1,eD⟩:∃d D1,D=d::D1:=by cases D with|nil=>exact absurd rfl nD|cons c C2=>exact⟨c,C2,rfl⟩
 obtain⟨C1,k,eC'⟩:∃C1 k,C=C1++[k]:=⟨C.dropLast,C.getLast nC,(cw nC).symm⟩
 obtain⟨D2,z,eD'⟩:∃D2 z,D=D2++[z]:=⟨D.dropLast,D.getLast nD,(cw nD).symm⟩
 have cfg:Cfg m C1 C2 D1 D2 k c d z:=by
  refine⟨by rw[<-eC', <-eD];exact hR.poly hP,by rw[<-eC',eC],by rw[<-eD',eD],by rw[<-eC'];exact hC,by rw[<-eD];exact hD,?_⟩;obtain⟨v,hv,q⟩:=hn
  have:=(hR.mem v).mpr hv
  rcases aU.mp this with w|w
  ·exact⟨v,by rw[<-eC'];exact w,q⟩
  ·have:=hD v w
   omega
 have e:=oD (num:=num) cfg.eC cfg.eD cfg.hC cfg.hD
 have hRr:Rot (jB m num l) (jB m num (C++D)):=hR.edges.flat (emit m num)
 rw[eC',eD,e] at hRr;exact hRr.symm.poly cfg.poly
end MC
namespace MC
open MA
namespace Cfg
variable {m:V3} {num:Int} {C1 C2 D1 D2:List Vx} {k c d z:Vx}
theorem edgesN(h:Cfg m C1 C2 D1 D2 k c d z){a b:Vx}(he:(a,b)∈edges (C1++(kF m num k d++kX m z c))):
  (∃b',(a,b')∈edges ((C1++[k])++(d::D1)) /\ a∈C1++[k] /\ b'∈C1++[k] /\ b'.1=b.1)∨(ex m k.1<0 /\ a=k /\ b.1=Xp m k d)∨(a=(Xp m k d,m,num) /\ b.1=Yp m z c)∨(ex m c.1<0 /\ a=(Yp m z c,z.2) /\ b.1=c.1):=by
 obtain⟨t0,T,eT,ht0⟩:∃t0 T,kF m num k d++kX m z c=t0::T /\ t0.1=k.1:=by
  unfold kF;split
  ·exact⟨_,_,rfl,rfl⟩
  ·exact⟨_,_,rfl,rfl⟩
 obtain⟨hd0,R,eR,hhd⟩:∃hd0 R,C1++(t0::T)=hd0::R /\ hd0.1=c.1:=by
  cases C1 with
  |nil=>
   refine⟨t0,T,rfl,?_⟩;have:k=c:=by have:=h.eC;simp at this;exact this.1
   rw[ht0,this]
  |cons w C1'=>
   refine⟨w,C1'++(t0::T),rfl,?_⟩;have:=h.eC
   rw[ak] at this;rw[(cp.inj this).1]
 rw[eT,eR,kE, <-eR] at he;have he:(a,b)∈pe (C1++t0::(T++[hd0])):=by simpa using he
 rw[pe_app] at he;rcases aU.mp he with q|q
 ·obtain⟨b',hb',eb⟩:=vE ht0 C1 a b q
  have m2:=nN _ _ _ hb'
  refine .inl ⟨b',?_,m2.1,m2.2,eb⟩;rw[h.eC,ak,kE, <-ak, <-h.eC,bG];exact l4 hb'
 ·unfold kF kX at eT
  by_cases q1:ex m k.1<0<;>by_cases q2:ex m c.1<0
  ·rw[if_pos q1,if_pos q2] at eT;simp only[ak,aP,aI,cp.injEq] at eT;obtain⟨rfl,rfl⟩:=eT
   simp only[ak,aP,pe,ao,ay,or_false,d7.injEq] at q;rcases q with⟨rfl,rfl⟩|⟨rfl,rfl⟩|⟨rfl,rfl⟩
   ·exact .inr (.inl ⟨q1,rfl,by unfold Xp;rw[if_pos q1]⟩)
   ·exact .inr (.inr (.inl ⟨by unfold Xp;rw[if_pos q1],by unfold Yp;rw[if_pos q2]⟩))
   ·exact .inr (.inr (.inr ⟨q2,by unfold Yp;rw[if_pos q2],hhd⟩))
  ·rw[if_pos q1,if_neg q2] at eT;simp only[ak,aP,aI,cp.injEq] at eT;obtain⟨rfl,rfl⟩:=eT
   simp only[ak,aP,aI,pe,ao,ay,or_false,d7.injEq] at q;rcases q with⟨rfl,rfl⟩|⟨rfl,rfl⟩
   ·exact .inr (.inl ⟨q1,rfl,by unfold Xp;rw[if_pos q1]⟩)
   ·exact .inr (.inr (.inl ⟨by unfold Xp;rw[if_pos q1],by unfold Yp;rw[if_neg q2];exact hhd⟩))
  ·rw[if_neg q1,if_pos q2] at eT;simp only[ak,aP,aI,cp.injEq] at eT;obtain⟨rfl,rfl⟩:=eT
   simp only[ak,aP,pe,ao,ay,or_false,d7.injEq] at q;rcases q with⟨rfl,rfl⟩|⟨rfl,rfl⟩
   ·exact .inr (.inr (.inl ⟨by unfold Xp;rw[if_neg q1],by unfold Yp;rw[if_pos q2]⟩))
   ·exact .inr (.inr (.inr ⟨q2,by unfold Yp;rw[if_pos q2],hhd⟩))
  ·rw[if_neg q1,if_neg q2] at eT;simp only[ak,aP,aI,cp.injEq] at eT;obtain⟨rfl,rfl⟩:=eT
   simp only[ak,aP,aI,pe,ao,ay,or_false,d7.injEq] at q;obtain⟨rfl,rfl⟩:=q
   exact .inr (.inr (.inl ⟨by unfold Xp;rw[if_neg q1],by unfold Yp;rw[if_neg q2];exact hhd⟩))
theorem newIn(h:Cfg m C1 C2 D1 D2 k c d z):∃b,((Xp m k d,m,num),b)∈edges (C1++(kF m num k d++kX m z c)) /\ b.1=Yp m z c:=by
 have hX:(Xp m k d,m,num)∈kF m num k d:=by
  unfold kF Xp;split<;>simp
 have hX2:(Xp m k d,m,num)∈C1++(kF m num k d++kX m z c):=by simp[hX]
 --each corner begins an edge
 have:∃b,((Xp m k d,m,num),b)∈edges (C1++(kF m num k d++kX m z c)):=by
  generalize C1++(kF m num k d++kX m z c)=N at hX2;obtain⟨i,hi⟩:=bF hX2
  have li:=(aa.mp hi).1
  have lr:i<(rot N).length:=by rw[rot_length];exact li
  refine⟨(rot N)[i],?_⟩;unfold edges;rw[dq];exact⟨i,by rw[cg];exact⟨hi,af lr⟩⟩
 obtain⟨b,hb⟩:=this
 refine⟨b,hb,?_⟩;rcases h.edgesN hb with⟨b',h1,h2,h3,h4⟩|⟨q,e,h2⟩|⟨e,h2⟩|⟨q,e,h2⟩
 ·exfalso
  have hk:ex m k.1<0∨¬ex m k.1<0:=Classical.em _
  rcases hk with q|q
  ·exact h.Xne q h2 rfl
  ·have e:Xp m k d=k.1:=if_neg q
   have ek:((Xp m k d,m,num):Vx)=k:=h.inj h2 h.kC e
   rw[ek] at h1;have E:=h.hP.edge _ h1
   dsimp only at E;have eL:k.2.1=m:=by rw[<-ek]
   rcases E.back d (h.inD h.dD) with w|w|w
   ·exact h.cd h.kC h.dD w.symm
   ·exact h.cd h3 h.dD w.symm
   ·rw[eL] at w;have:=h.hD d h.dD
    omega
 ·exfalso
  have:(Xp m k d)=k.1:=congrArg iN e
  exact h.Xne q h.kC this.symm
 ·exact h2
 ·exfalso
  exact h.xy (congrArg iN e)
theorem dtXY(h:Cfg m C1 C2 D1 D2 k c d z)(p:V3):0<=dt (Xp m k d) (Yp m z c) p↔ex m p<=0:=by
 have hd:=h.hD d h.dD
 have hx:=h.xd
 have P:=lm m (Xp m k d) (Yp m z c) p d.1
 rw[h.exX,h.exY,bX,bX,b8,b8] at P;constructor
 ·intro q;have:=lN q (cA hd)
  rw[P] at this;refine Classical.byContradiction fun no=> ?_
  have:=cf hx (show 0<ex m p by omega)
  omega
 ·intro q;have:0<=dt (Xp m k d) (Yp m z c) d.1*ex m p:=dU (cA hx) q
  rw[<-P] at this;refine Classical.byContradiction fun no=> ?_
  have:=cf (show dt (Xp m k d) (Yp m z c) p<0 by omega) hd
  omega
theorem ptsN(h:Cfg m C1 C2 D1 D2 k c d z){p:V3}(hp:∀e∈edges ((C1++[k])++(d::D1)),0<=dt e.1.1 e.2.1 p):
  (∀e∈edges (C1++(kF m num k d++kX m z c)),0<=dt e.1.1 e.2.1 p)↔ex m p<=0:=by
 have kd:(k,d)∈edges ((C1++[k])++(d::D1)):=by
  have:=kI (p:=C1) (s:=D1) (a:=k) (b:=d)
  simpa using this
 have zc:(z,c)∈edges ((C1++[k])++(d::D1)):=by
  rw[h.eC, <-h.eD];have:=kL (m:=C2++D2) (a:=z) (b:=c)
  simpa using this
 constructor
 ·intro q;obtain⟨b,hb,e⟩:=h.newIn (num:=num)
  have:=q _ hb
  dsimp only at this;rw[e] at this;exact(h.dtXY p).mp this
 ·rintro q ⟨a,b⟩ he;dsimp only;rcases h.edgesN he with⟨b',h1,h2,h3,h4⟩|⟨q1,rfl,h2⟩|⟨rfl,h2⟩|⟨q1,rfl,h2⟩
  ·rw[<-h4];exact hp _ h1
  ·rw[h2];obtain⟨s,t,hs,ht,e1,e2,e3⟩:=h.simX
   have e:dt a.1 (Xp m a d) p*s= -(ex m a.1)*dt a.1 d.1 p*t:=by
    generalize Xp m a d=w at e1 e2 e3;unfold cb at e1 e2 e3;dsimp only at e1 e2 e3;unfold dt
    grind
   have hkd:0<=dt a.1 d.1 p:=hp _ kd
   have:=lN (show 0<= -(ex m a.1) by omega) hkd
   have w:=lh hs ht e
   omega
  ·rw[h2];exact(h.dtXY p).mpr q
  ·rw[h2];dsimp only;obtain⟨s,t,hs,ht,e1,e2,e3⟩:=h.simY
   have e:dt (Yp m z c) c.1 p*s= -(ex m c.1)*dt z.1 c.1 p*t:=by
    generalize Yp m z c=w at e1 e2 e3;unfold cb at e1 e2 e3;dsimp only at e1 e2 e3;unfold dt
    grind
   have hzc:0<=dt z.1 c.1 p:=hp _ zc
   have:=lN (show 0<= -(ex m c.1) by omega) hzc
   have w:=lh hs ht e
   omega
end Cfg
theorem rf{l:List Vx}(hP:Poly l)(m:V3)(hp:∃v∈l,0<ex m v.1)(hn:∃v∈l,ex m v.1<0):
  ∃C1 C2 D1 D2 k c d z,Cfg m C1 C2 D1 D2 k c d z /\ Rot l ((C1++[k])++(d::D1)) /\ ∀num,Rot (jB m num l) (C1++(kF m num k d++kX m z c)):=by
 obtain⟨C,D,hR,nC,nD,hC,hD⟩:=canon hP m hp (by obtain⟨v,hv,q⟩:=hn;exact⟨v,hv,by omega⟩)
 obtain⟨c,C2,eC⟩:∃c C2,C=c::C2:=by cases C with|nil=>exact absurd rfl nC|cons c C2=>exact⟨c,C2,rfl⟩
 obtain⟨d,D1,eD⟩:∃d D1,D=d::D1:=by cases D with|nil=>exact absurd rfl nD|cons c C2=>exact⟨c,C2,rfl⟩
 obtain⟨C1,k,eC'⟩:∃C1 k,C=C1++[k]:=⟨C.dropLast,C.getLast nC,(cw nC).symm⟩
 obtain⟨D2,z,eD'⟩:∃D2 z,D=D2++[z]:=⟨D.dropLast,D.getLast nD,(cw nD).symm⟩
 have cfg:Cfg m C1 C2 D1 D2 k c d z:=by
  refine⟨by rw[<-eC', <-eD];exact hR.poly hP,by rw[<-eC',eC],by rw[<-eD',eD],by rw[<-eC'];exact hC,by rw[<-eD];exact hD,?_⟩;obtain⟨v,hv,q⟩:=hn
  have:=(hR.mem v).mpr hv
  rcases aU.mp this with w|w
  ·exact⟨v,by rw[<-eC'];exact w,q⟩
  ·have:=hD v w
   omega
 refine⟨C1,C2,D1,D2,k,c,d,z,cfg,by rw[<-eC', <-eD];exact hR,fun num=> ?_⟩;have e:=oD (num:=num) cfg.eC cfg.eD cfg.hC cfg.hD
 have hRr:Rot (jB m num l) (jB m num (C++D)):=hR.edges.flat (emit m num)
 rw[eC',eD,e] at hRr;exact hRr
theorem uG{l:List Vx}(hP:Poly l)(m:V3)(num:Int)(hp:∃v∈l,0<ex m v.1)(hn:∃v∈l,ex m v.1<0){p:V3}(hin:∀e∈edges l,0<=dt e.1.1 e.2.1 p):
  (∀e∈edges (jB m num l),0<=dt e.1.1 e.2.1 p)↔ex m p<=0:=by
 obtain⟨C1,C2,D1,D2,k,c,d,z,cfg,h1,h2⟩:=rf hP m hp hn
 rw[<-cfg.ptsN (num:=num) (fun e he=>hin e ((h1.edges.mem e).mp he))];exact⟨fun q e he=>q e (((h2 num).edges.mem e).mp he),fun q e he=>q e (((h2 num).edges.mem e).mpr he)⟩
end MC
namespace MC
open MA L2
theorem zE{L M X:V3}(h1:ex L X=0)(h2:ex M X=0)(hW:0<X.2.2)(hg:aA (aA X.1 X.2.1) X.2.2=1)(hn:L.1*M.2.1-L.2.1*M.1≠0):
  X.1.natAbs<=(L.2.2*M.2.1-L.2.1*M.2.2).natAbs /\ X.2.1.natAbs<=(L.1*M.2.2-L.2.2*M.1).natAbs /\ X.2.2.natAbs<=(L.1*M.2.1-L.2.1*M.1).natAbs:=by
 have k1:=nU (x:=L.2.2*M.2.1-L.2.1*M.2.2) (y:=L.1*M.2.2-L.2.2*M.1) hn
 have k2:IsPt X.1 X.2.1 X.2.2 X.1 X.2.1 X.2.2:=⟨hW,rfl,rfl,hg,av _,av _,av _⟩
 unfold ex at h1 h2;obtain⟨e1,e2,e3⟩:=isPt_same k1 k2 hn (by omega) (by grind) (by grind)
 have a:=k1.la
 have b:=k1.lb
 have c:=k1.lc
 rw[e1] at a;rw[e2] at b;rw[e3] at c;exact⟨a,b,c⟩
theorem zw{L U v w c:V3}(h1:ex L v=0)(h2:ex L w=0)(h3:ex U v=0)(h4:ex U w≠0)(hv:0<v.2.2)(hc:ex L c≠0):U.1*L.2.1-U.2.1*L.1≠0:=by
 intro D;have e:ex U w*v.2.2=U.1*(w.1*v.2.2-v.1*w.2.2)+U.2.1*(w.2.1*v.2.2-v.2.1*w.2.2):=by unfold ex at h3⊢;grind
 have z:L.1*(w.1*v.2.2-v.1*w.2.2)+L.2.1*(w.2.1*v.2.2-v.2.1*w.2.2)=0:=by unfold ex at h1 h2;grind
 have n:ex U w*v.2.2≠0:=gq h4 (by omega)
 have q1:L.1*(ex U w*v.2.2)=0:=by rw[e];grind
 have q2:L.2.1*(ex U w*v.2.2)=0:=by rw[e];grind
 have l1:L.1=0:=(aV.mp q1).elim id fun q=>absurd q n
 have l2:L.2.1=0:=(aV.mp q2).elim id fun q=>absurd q n
 unfold ex at h1 hc;rw[l1,l2,dm,dm,b8] at h1 hc;have l3:L.2.2=0:=by
  have:L.2.2*v.2.2=0:=by omega
  exact(aV.mp this).elim id fun q=>by omega
 rw[l3,dm] at hc;omega
noncomputable def LnB(n:Nat)(l:List Vx):Prop:=∀v∈l,Bd n v.2.1.1 /\ Bd n v.2.1.2.1 /\ Bd n v.2.1.2.2
theorem wy{n:Nat}{a b c d:Int}(h1:Bd n a)(h2:Bd n b)(h3:Bd n c)(h4:Bd n d):Bd (2*n+1) (a*b-c*d):=by
 have p:=h1.mul h2
 have q:=h3.mul h4
 unfold Bd at*;rw[Nat.pow_succ,Nat.two_mul];omega
theorem mf{l:List Vx}(hP:Poly l){n:Nat}(hB:LnB n l){v:Vx}(hv:v∈l):Bd (2*n+1) v.1.1 /\ Bd (2*n+1) v.1.2.1 /\ Bd (2*n+1) v.1.2.2:=by
 --the list turned so that v is the second
 obtain⟨p,s,e⟩:=gH hv
 have hR:Rot l (v::(s++p)):=⟨p,v::s,e,by simp⟩
 have hPt:=hR.poly hP
 have len:=hPt.three
 obtain⟨w,r,u,er⟩:∃w r u,s++p=w::(r++[u]):=by
  generalize s++p=t at len
  match t,len with
  |w::y::t',_=>
   refine⟨w,(y::t').dropLast,(y::t').getLast (by simp),?_⟩;rw[cw]
 rw[er] at hPt hR;have e1:(v,w)∈edges (v::(w::(r++[u]))):=by
  have:=kI (p:=[]) (s:=r++[u]) (a:=v) (b:=w)
  simpa using this
 have e2:(u,v)∈edges (v::(w::(r++[u]))):=by
  have:=kL (m:=w::r) (a:=u) (b:=v)
  simpa using this
 have E1:=hPt.edge _ e1
 have E2:=hPt.edge _ e2
 dsimp only at E1 E2;have nd:=hPt.nd
 simp only[aD,au,bI,bb,ao,aU,ay,or_false,not_or] at nd;have nwu:w.1≠u.1:=nd.2.1.2
 have nwv:w.1≠v.1:=fun q=>nd.1.1 q.symm
 have nuv:u.1≠v.1:=fun q=>nd.1.2.2 q.symm
 have B:=E2.back_of (c:=w) (by simp) nwu nwv
 have B':=E1.back_of (c:=u) (by simp) nuv (Ne.symm nwu)
 have np:=zw (L:=v.2.1) (U:=u.2.1) (v:=v.1) (w:=w.1) (c:=u.1) E1.on1 E1.on2 E2.on2 (by omega) (hP.pos v hv) (by omega)
 have mu:u∈l:=(hR.mem u).mp (by simp)
 obtain⟨a1,a2,a3⟩:=hB v hv
 obtain⟨b1,b2,b3⟩:=hB u mu
 obtain⟨q1,q2,q3⟩:=zE (L:=u.2.1) (M:=v.2.1) E2.on2 E1.on1 (hP.pos v hv) (hP.low v hv) np
 exact⟨bJ q1 (wy b3 a2 b2 a3),bJ q2 (wy b1 a3 b3 a1),bJ q3 (wy b1 a2 b2 a1)⟩
theorem oC{m:V3}{num:Int}{l:List Vx}{v:Vx}(hv:v∈jB m num l):v.2=(m,num)∨∃u∈l,v.2=u.2:=by
 unfold jB at hv;obtain⟨e,he,hv⟩:=cQ.mp hv
 have me:=(kx (l:=l) (a:=e.1) (b:=e.2) he).1
 unfold emit at hv;rcases aU.mp hv with q|q
 ·split at q
  ·obtain rfl:v=e.1:=by simpa using q
   exact .inr ⟨e.1,me,rfl⟩
  ·split at q
   ·obtain rfl:v=(e.1.1,m,num):=by simpa using q
    exact .inl rfl
   ·simp at q
 ·split at q
  ·obtain rfl:v=_:=by simpa using q
   exact .inl rfl
  ·split at q
   ·obtain rfl:v=_:=by simpa using q
    exact .inr ⟨e.1,me,rfl⟩
   ·simp at q
theorem sZ{m:V3}{num:Int}{l:List Vx}{n:Nat}(hB:LnB n l)(hm:Bd n m.1 /\ Bd n m.2.1 /\ Bd n m.2.2):LnB n (jB m num l):=by
 intro v hv;rcases oC hv with e|⟨u,hu,e⟩
 ·rw[e];exact hm
 ·rw[e];exact hB u hu
theorem wo{l:List Vx}(hP:Poly l)(m:V3)(num:Int)(hp:∃v∈l,0<ex m v.1)(hn:∃v∈l,ex m v.1<0):(jB m num l).length<=l.length+1:=by
 obtain⟨C1,C2,D1,D2,k,c,d,z,cfg,h1,h2⟩:=rf hP m hp hn
 obtain⟨u,v,e1,e2⟩:=h1
 obtain⟨u',v',e3,e4⟩:=h2 num
 have l1:l.length=((C1++[k])++(d::D1)).length:=by rw[e2,e1,aq,aq];omega
 have l2:(jB m num l).length=(C1++(kF m num k d++kX m z c)).length:=by rw[e4,e3,aq,aq];omega
 rw[l1,l2];unfold kF kX;simp only[aq,aX,bo];split<;>split<;>simp<;>omega
end MC
namespace MC
theorem nX{x y v:Int}(hv:0<v)(h:x*v<y*v):x<y:=by
 rcases Int.lt_or_le x y with q|q
 ·exact q
 ·have:=cG q (cA hv)
  omega
theorem Bx{a w b v c u:Int}(hw:0<w)(hv:0<v)(hu:0<u)(h1:a*v<b*w)(h2:b*u<c*v):a*u<c*w:=by
 refine nX hv ?_;have q1:=cy h1 hu
 have q2:=cy h2 hw
 have e1:a*v*u=a*u*v:=by grind
 have e2:b*w*u=b*u*w:=by grind
 have e3:c*v*w=c*w*v:=by grind
 omega
theorem Ck{a w b v c u:Int}(hw:0<w)(hv:0<v)(hu:0<u)(h1:a*v<b*w)(h2:b*u=c*v):a*u<c*w:=by
 refine nX hv ?_;have q1:=cy h1 hu
 have e1:a*v*u=a*u*v:=by grind
 have e2:b*w*u=b*u*w:=by grind
 have e3:c*v*w=c*w*v:=by grind
 rw[h2] at e2;omega
theorem Cm{a w b v c u:Int}(hw:0<w)(hv:0<v)(hu:0<u)(h1:a*v=b*w)(h2:b*u<c*v):a*u<c*w:=by
 refine nX hv ?_;have q2:=cy h2 hw
 have e1:a*v*u=a*u*v:=by grind
 have e2:b*w*u=b*u*w:=by grind
 have e3:c*v*w=c*w*v:=by grind
 rw[h1] at e1;omega
theorem Co{a w b v c u:Int}(hv:0<v)(h1:a*v=b*w)(h2:b*u=c*v):a*u=c*w:=by
 have:a*u*v=c*w*v:=by grind
 exact bA (by omega) this
noncomputable def Ahd(a b:V3):Prop:=a.1*b.2.2<b.1*a.2.2∨(a.1*b.2.2=b.1*a.2.2 /\ a.2.1*b.2.2<b.2.1*a.2.2)
noncomputable instance(a b:V3):Decidable (Ahd a b):=by unfold Ahd;exact inferInstance
theorem Ahd.trans{a b c:V3}(ha:0<a.2.2)(hb:0<b.2.2)(hc:0<c.2.2)(h1:Ahd a b)(h2:Ahd b c):Ahd a c:=by
 rcases h1 with h1|⟨h1,k1⟩
 ·rcases h2 with h2|⟨h2,k2⟩
  ·exact .inl (Bx ha hb hc h1 h2)
  ·exact .inl (Ck ha hb hc h1 h2)
 ·rcases h2 with h2|⟨h2,k2⟩
  ·exact .inl (Cm ha hb hc h1 h2)
  ·exact .inr ⟨Co hb h1 h2,Bx ha hb hc k1 k2⟩
theorem Ahd.irr(a:V3):¬Ahd a a:=by
 rintro(h|⟨_,h⟩)<;>exact Int.lt_irrefl _ h
theorem Ahd.total{a b:V3}(ha:0<a.2.2)(hb:0<b.2.2)(ga:aA (aA a.1 a.2.1) a.2.2=1)(gb:aA (aA b.1 b.2.1) b.2.2=1)(h1:¬Ahd a b)(h2:¬Ahd b a):a=b:=by
 unfold Ahd at h1 h2;have e1:a.1*b.2.2=b.1*a.2.2:=by omega
 have e2:a.2.1*b.2.2=b.2.1*a.2.2:=by omega
 have k1:MA.IsPt a.1 a.2.1 a.2.2 a.1 a.2.1 a.2.2:=⟨ha,rfl,rfl,ga,av _,av _,av _⟩
 have k2:MA.IsPt b.1 b.2.1 b.2.2 b.1 b.2.1 b.2.2:=⟨hb,rfl,rfl,gb,av _,av _,av _⟩
 obtain⟨q1,q2,q3⟩:=MA.isPt_same k1 k2 (by omega) (by omega) e1 e2
 obtain⟨a1,a2,a3⟩:=a
 obtain⟨b1,b2,b3⟩:=b
 dsimp only at q1 q2 q3;rw[q1,q2,q3]
end MC
namespace MC
open MA L2
noncomputable def lO(x y u v:Int):List Vx:=[((x,y,1),(0,-1,-y),-1),((u,y,1),(1,0,u),-2),((u,v,1),(0,1,v),-3),((x,v,1),(-1,0,-x),-4)]
theorem ue{x y u v:Int}(h1:x<u)(h2:y<v):Poly (lO x y u v) where
 three:=by show 3<=4;decide
 pos:=by
  intro w hw;simp only[lO,ao,ay,or_false] at hw;rcases hw with rfl|rfl|rfl|rfl<;>exact dr
 low:=by
  intro w hw;simp only[lO,ao,ay,or_false] at hw;rcases hw with rfl|rfl|rfl|rfl<;>exact Int.gcd_one_right _
 nd:=by
  simp only[lO,aD,bI,bb,ao,ay,or_false,d7.injEq,not_or,gC,and_true,not_false_eq_true];omega
 edge:=by
  intro e he;have he':e∈[(((x,y,1),(0,-1,-y),-1),((u,y,1),(1,0,u),-2)),(((u,y,1),(1,0,u),-2),((u,v,1),(0,1,v),-3)),(((u,v,1),(0,1,v),-3),((x,v,1),(-1,0,-x),-4)),(((x,v,1),(-1,0,-x),-4),((x,y,1),(0,-1,-y),-1))]:=he
  have pp:0<(u-x)*(v-y):=be (by omega) (by omega)
  simp only[ao,ay,or_false] at he';rcases he' with rfl|rfl|rfl|rfl
  all_goals
   refine⟨?_,?_,?_,?_,?_⟩
   ·simp only[ne_eq,d7.injEq];omega
   ·simp only[ex];omega
   ·simp only[ex];omega
   ·intro c hc;simp only[lO,ao,ay,or_false] at hc;rcases hc with rfl|rfl|rfl|rfl
    all_goals first|exact .inl rfl|exact .inr (.inl rfl)|(refine .inr (.inr ?_);simp only[dt];grind)
   ·intro c hc;simp only[lO,ao,ay,or_false] at hc;rcases hc with rfl|rfl|rfl|rfl
    all_goals first|exact .inl rfl|exact .inr (.inl rfl)|(refine .inr (.inr ?_);simp only[ex];omega)
noncomputable def dot(h p:V3):Int:=h.1*p.1+h.2.1*p.2.1+h.2.2*p.2.2
noncomputable def CF(a b:V3):V3:=(a.2.1*b.2.2-a.2.2*b.2.1,a.2.2*b.1-a.1*b.2.2,a.1*b.2.1-a.2.1*b.1)
theorem yO(a b p:V3):dt a b p=dot (CF a b) p:=by unfold dt dot CF;grind
theorem yM(m p:V3):ex m p=dot (m.1,m.2.1,-m.2.2) p:=by unfold ex dot;grind
noncomputable def Hull(cs:List V3)(p:V3):Prop:=∀h:V3,(∀v∈cs,0<=dot h v) ->0<=dot h p
noncomputable def jo(l:List Vx)(p:V3):Prop:=∀e∈edges l,0<=dt e.1.1 e.2.1 p
noncomputable instance(l:List Vx)(p:V3):Decidable (jo l p):=by unfold jo;exact inferInstance
theorem Hull.self{cs:List V3}{p:V3}(h:p∈cs):Hull cs p:=fun _ q=>q p h
theorem Edge.left0{l:List Vx}{a b c:Vx}(E:Edge l a b)(hc:c∈l):0<=dt a.1 b.1 c.1:=by
 rcases E.left c hc with q|q|q
 ·rw[q,qq];exact cM 0
 ·rw[q,m7];exact cM 0
 ·exact cA q
theorem Hull.inside{l:List Vx}(hP:Poly l){p:V3}(h:Hull (l.map (·.1)) p):jo l p:=by
 intro e he;rw[yO];refine h _ fun v hv=> ?_
 obtain⟨c,hc,rfl⟩:=aw.mp hv
 rw[<-yO];exact(hP.edge e he).left0 hc
theorem Hull.ex{cs:List V3}{p m:V3}(h:Hull cs p)(q:∀v∈cs,0<=ex m v):0<=ex m p:=by
 rw[yM];exact h _ fun v hv=>by rw[<-yM];exact q v hv
theorem Rot.inside{l l':List Vx}(h:Rot l l')(p:V3):jo l' p↔jo l p:=by
 unfold jo;exact⟨fun q e he=>q e ((h.edges.mem e).mpr he),fun q e he=>q e ((h.edges.mem e).mp he)⟩
theorem Hull.exn{cs:List V3}{p m:V3}(h:Hull cs p)(q:∀v∈cs,MC.ex m v<=0):MC.ex m p<=0:=by
 have e:∀p,dot (-m.1,-m.2.1,m.2.2) p= -MC.ex m p:=fun p=>by unfold dot MC.ex;grind
 have:=h (-m.1,-m.2.1,m.2.2) fun v hv=>by
  rw[e];have:=q v hv
  omega
 rw[e] at this;omega
theorem LnB.rot{n:Nat}{l l':List Vx}(h:LnB n l)(r:Rot l l'):LnB n l':=fun v hv=>h v ((r.mem v).mp hv)
theorem Rot.len{α:Type}{l m:List α}(h:Rot l m):m.length=l.length:=by
 obtain⟨u,v,rfl,rfl⟩:=h
 rw[aq,aq,gS]
end MC
namespace MC
open MA L2
noncomputable def j5:List V3 ->Int
 |[]=>1
 |v::r=>v.2.2*j5 r
theorem qL:∀{l:List V3},(∀v∈l,0<v.2.2) ->0<j5 l
 |[],_=>dr
 |v::r,h=>be (h v (by simp)) (qL fun x hx=>h x (by simp[hx]))
theorem qM:∀{l:List V3} {v:V3},v∈l ->v.2.2∣j5 l
 |x::r,v,h=>by
  rcases ao.mp h with e|h
  ·rw[e];exact⟨j5 r,rfl⟩
  ·obtain⟨k,hk⟩:=qM h
   exact⟨x.2.2*k,by rw[j5,hk];grind⟩
end MC
namespace MC
open MA L2
noncomputable abbrev U2:=Int×Int
noncomputable def crs(a b:U2):Int:=a.1*b.2-b.1*a.2
noncomputable def path:List U2 ->Int
 |[]=>0
 |[_]=>0
 |a::b::r=>crs a b+path (b::r)
noncomputable def cyc:List U2 ->Int
 |[]=>0
 |a::r=>path (a::r++[a])
theorem m9(a:U2):crs a a=0:=by unfold crs;grind
theorem n6(a b:U2):crs b a= -crs a b:=by unfold crs;grind
theorem lG(x:U2)(r:List U2):∀l:List U2,path (l++x::r)=path (l++[x])+path (x::r)
 |[]=>by simp[path]
 |[a]=>by simp[path]
 |a::b::l=>by
  have:=lG x r (b::l)
  simp only[ak,path] at this⊢;omega
theorem ym(a:U2)(r:List U2):cyc (r++[a])=cyc (a::r):=by
 cases r with
 |nil=>rfl
 |cons b r=>
  show path (b::(r++[a])++[b])=crs a b+path (b::r++[a])
  have:=lG a [b] (b::r)
  rw[show b::(r++[a])++[b]=b::r++a::[b] by simp,this];simp only[path];omega
theorem wn:∀(u v:List U2),cyc (v++u)=cyc (u++v)
 |[],v=>by simp
 |a::u,v=>by
  have h1:=wn u (v++[a])
  have h2:=ym a (u++v)
  rw[bG,gm] at h1;rw[h1, <-bG,h2];rfl
theorem n4{α:Type}(f:α ->U2){l m:List α}(h:Rot l m):cyc (m.map f)=cyc (l.map f):=by
 obtain⟨u,v,rfl,rfl⟩:=h
 rw[au,au,wn]
noncomputable def fan(a:U2):List U2 ->Int
 |[]=>0
 |[_]=>0
 |b::c::r=>crs a b+crs b c+crs c a+fan a (c::r)
theorem tX(a z:U2):∀(b:U2) (r:List U2),path (a::b::r++[z])+crs z a=fan a (b::r++[z])
 |b,[]=>by simp[path,fan]
 |b,c::r=>by
  have:=tX a z c r
  simp only[ak,path,fan] at this⊢;have e:=n6 a c
  omega
theorem z9(a b:U2)(r:List U2):cyc (a::b::r)=fan a (b::r):=by
 have h1:cyc (a::b::r)=path (a::b::r++[a]):=rfl
 rcases List.eq_nil_or_concat r with e|⟨r',z,e⟩
 ·subst e;have:=n6 a b
  simp only[h1,ak,aP,path,fan];omega
 ·subst e;have h2:=tX a z b r'
  have h3:=lG z [a] (a::b::r')
  rw[h1];rw[List.concat_eq_append,show a::b::(r'++[z])++[a]=a::b::r'++z::[a] by simp,h3];rw[show b::(r'++[z])=b::r'++[z] by simp, <-h2];simp only[path];omega
noncomputable def sc(S:Int)(z:V3):U2:=(z.1*(S /z.2.2),z.2.1*(S /z.2.2))
theorem AS{S:Int}{a b c:V3}(ha:a.2.2∣S)(hb:b.2.2∣S)(hc:c.2.2∣S):
  S*(crs (sc S a) (sc S b)+crs (sc S b) (sc S c)+crs (sc S c) (sc S a))=(S /a.2.2)*((S /b.2.2)*((S /c.2.2)*dt a b c)):=by
 have e1:=dN ha
 have e2:=dN hb
 have e3:=dN hc
 unfold sc crs dt;dsimp only;generalize S /a.2.2=A at e1⊢;generalize S /b.2.2=B at e2⊢;generalize S /c.2.2=C at e3⊢
 grind
theorem ve{S:Int}(hS:0<S){a:V3}(ha:a.2.2∣S)(h:0<a.2.2):0<S /a.2.2:=by
 have e:=dN ha
 rcases Int.lt_or_le 0 (S /a.2.2) with q|q
 ·exact q
 ·have:=Int.mul_nonpos_of_nonpos_of_nonneg q (cA h)
  omega
theorem uQ{S:Int}(hS:0<S){a b c:V3}(ha:a.2.2∣S)(hb:b.2.2∣S)(hc:c.2.2∣S)(pa:0<a.2.2)(pb:0<b.2.2)(pc:0<c.2.2)(h:0<dt a b c):
  0<crs (sc S a) (sc S b)+crs (sc S b) (sc S c)+crs (sc S c) (sc S a):=by
 have e:=AS ha hb hc
 have p:=be (ve hS ha pa) (be (ve hS hb pb) (be (ve hS hc pc) h))
 rw[<-e] at p;exact fJ p hS
theorem sO{S:Int}(hS:0<S){a b c:V3}(ha:a.2.2∣S)(hb:b.2.2∣S)(hc:c.2.2∣S)(h:dt a b c=0):
  crs (sc S a) (sc S b)+crs (sc S b) (sc S c)+crs (sc S c) (sc S a)=0:=by
 have e:=AS ha hb hc
 rw[h,bX,bX,bX] at e;rcases aV.mp e with q|q
 ·omega
 ·exact q
theorem v9{S:Int}(hS:0<S){a:V3}(ha:a.2.2∣S)(pa:0<a.2.2):∀(r:List V3),2<=r.length ->(∀v∈r,v.2.2∣S /\ 0<v.2.2) ->(∀e∈pe r,0<dt a e.1 e.2) ->0<fan (sc S a) (r.map (sc S))
 |[],h,_,_=>by simp at h
 |[x],h,_,_=>by simp at h
 |[x,y],_,hv,he=>by
  have hx:=hv x (by simp)
  have hy:=hv y (by simp)
  have:=uQ hS ha hx.1 hy.1 pa hx.2 hy.2 (he (x,y) (by simp[pe]))
  simpa[fan] using this
 |x::y::z::r,_,hv,he=>by
  have hx:=hv x (by simp)
  have hy:=hv y (by simp)
  have h1:=uQ hS ha hx.1 hy.1 pa hx.2 hy.2 (he (x,y) (by simp[pe]))
  have h2:=v9 hS ha pa (y::z::r) (by simp) (fun v h=>hv v (aB _ h)) (fun e h=>he e (by simp only[pe,ao] at h⊢;exact .inr h))
  simp only[aD,fan] at h2⊢;omega
theorem vG{α β:Type}(f:α ->β):∀l:List α,pe (l.map f)=(pe l).map fun e=>(f e.1,f e.2)
 |[]=>rfl
 |[_]=>rfl
 |x::y::r=>by
  have:=vG f (y::r)
  simp only[aD,pe] at this⊢;rw[this]
theorem yx{S:Int}(hS:0<S){l:List Vx}(hP:Poly l)(hd:∀v∈l,v.1.2.2∣S):0<cyc (l.map fun v=>sc S v.1):=by
 match l,hP,hd with
 |[],hP,_=>have:=hP.three;simp at this
 |[_],hP,_=>have:=hP.three;simp at this
 |a::b::r,hP,hd=>
  have h3:=hP.three
  simp only[aD,z9];have e:sc S b.1::r.map (fun v=>sc S v.1)=((b::r).map (·.1)).map (sc S):=by simp
  rw[e];refine v9 hS (hd a (by simp)) (hP.pos a (by simp)) _ (by simpa using h3) (fun v hv=> ?_) (fun e he=> ?_)
  ·obtain⟨x,hx,rfl⟩:=aw.mp hv
   exact⟨hd x (aB _ hx),hP.pos x (aB _ hx)⟩
  ·rw[vG] at he;obtain⟨e',he',rfl⟩:=aw.mp he
   have hin:e'∈edges (a::b::r):=by
    rw[kE];show e'∈(a,b)::pe (b::r++[a])
    exact aB _ (l4 he')
   have E:=hP.edge _ hin
   have nd:=hP.nd
   rw[aD,bb] at nd;have m:=nN _ _ _ he'
   rw[<-oJ];rcases E.left a (by simp) with q|q|q
   ·exact absurd (aw.mpr ⟨_,m.1,q.symm⟩) nd.1
   ·exact absurd (aw.mpr ⟨_,m.2,q.symm⟩) nd.1
   ·exact q
end MC
namespace MC
open MA L2
noncomputable def ng(m:V3):V3:=(-m.1,-m.2.1,-m.2.2)
theorem nY(m p:V3):ex (ng m) p= -ex m p:=by unfold ex ng;grind
theorem Aa(x y w:Int):com (-x) (-y) (-w)= -com x y w:=by
 unfold com;have e:sgn (-w)= -sgn w:=by
  unfold sgn;split<;>split<;>(try split)<;>(try split)<;>omega
 rw[e];simp only[Int.gcd_neg,Int.neg_gcd,Int.mul_neg]
theorem oO(a b:V3)(h t:Int):jk a b (-h) (-t)=jk a b h t:=by
 unfold jk;have e:∀x y:Int,x* -t-y* -h= -(x*t-y*h):=fun x y=>by grind
 rw[e,e,e,Aa,fS,fS,fS]
theorem wm{a kk:U2}{r r':List U2}(e:a::r=r'++[kk])(t:List U2):cyc (a::(r++t))=path (a::r)+path (kk::(t++[a])):=by
 show path (a::(r++t)++[a])=_
 have:a::(r++t)++[a]=r'++kk::(t++[a]):=by
  rw[<-ak,e];simp
 rw[this,lG, <-e]
section
variable {m:V3} {num:Int} {C1 C2 D1 D2:List Vx} {k c d z:Vx}
namespace Cfg
theorem behind(h:Cfg m C1 C2 D1 D2 k c d z)(f:V3 ->U2):cyc ((C1++(kF m num k d++kX m z c)).map fun v=>f v.1)=path ((C1++[k]).map fun v=>f v.1)+crs (f k.1) (f (Xp m k d))+crs (f (Xp m k d)) (f (Yp m z c))+crs (f (Yp m z c)) (f c.1):=by
 have eC:f c.1::C2.map (fun v=>f v.1)=C1.map (fun v=>f v.1)++[f k.1]:=by
  have:=congrArg (iO fun v:Vx=>f v.1) h.eC
  simpa using this.symm
 have tail:∀t:List U2,(C1++(kF m num k d++kX m z c)).map (fun v=>f v.1)=(C1.map (fun v=>f v.1)++[f k.1])++t ->cyc ((C1++(kF m num k d++kX m z c)).map fun v=>f v.1)=path ((C1++[k]).map fun v=>f v.1)+path (f k.1::(t++[f c.1])):=by
  intro t e;rw[e, <-eC,ak,wm eC t,eC];simp
 unfold kF kX Xp Yp at*
 by_cases hk:ex m k.1<0
 ·by_cases hc:ex m c.1<0
  ·simp only[if_pos hk,if_pos hc] at tail⊢;rw[tail [f (jk k.1 d.1 (ex m k.1) (ex m d.1)),f (jk z.1 c.1 (ex m z.1) (ex m c.1))] (by simp)];simp only[ak,aP,path];omega
  ·simp only[if_pos hk,if_neg hc] at tail⊢;rw[tail [f (jk k.1 d.1 (ex m k.1) (ex m d.1))] (by simp)];have:=m9 (f c.1)
   simp only[ak,aP,path];omega
 ·by_cases hc:ex m c.1<0
  ·simp only[if_neg hk,if_pos hc] at tail⊢;rw[tail [f (jk z.1 c.1 (ex m z.1) (ex m c.1))] (by simp)];have:=m9 (f k.1)
   simp only[ak,aP,path];omega
  ·simp only[if_neg hk,if_neg hc] at tail⊢;rw[tail [] (by simp)];have:=m9 (f k.1)
   have:=m9 (f c.1)
   simp only[ak,aP,path];omega
theorem tW{m':V3}:∀p:List Vx,(∀e∈pe p,0<ex m' e.1.1 /\ 0<=ex m' e.2.1) ->(pe p).flatMap (emit m' num)=[]:=by
 intro p h;rw[List.flatMap_eq_nil_iff];intro e he;obtain⟨h1,h2⟩:=h e he
 unfold emit;rw[if_neg (by omega),if_neg (by omega),if_neg (by omega),if_neg (by omega)];rfl
theorem edgesCD(h:Cfg m C1 C2 D1 D2 k c d z):edges ((C1++[k])++(d::D1))=pe (C1++[k])++((k,d)::(pe (d::D1)++[(z,c)])):=by
 rw[h.eC,ak,kE];have e2:c::(C2++d::D1)++[c]=C1++k::(d::D1++[c]):=by
  rw[<-ak, <-h.eC];simp
 rw[e2,pe_app, <-h.eC]
 congr 1
 show(k,d)::pe (d::(D1++[c]))=_
 congr 1
 rw[<-ak, <-h.eD,bG];show pe (D2++z::[c])=_
 rw[pe_app,h.eD];rfl
theorem partA(h:Cfg m C1 C2 D1 D2 k c d z):((pe (C1++[k])).flatMap (emit (ng m) num)).map (·.1)=if ex m c.1<0 then[] else[Yp m z c]:=by
 have hc:=h.hC c h.cC
 have nd:=h.hP.nd
 rw[au,ba] at nd;have nd:=nd.1
 have src:∀e∈pe (C1++[k]),e.1∈C1:=by
  intro e he;have:∀(p:List Vx) (x:Vx) (e:Vx×Vx),e∈pe (p++[x]) ->e.1∈p:=by
   intro p
   induction p with
   |nil=>intro x e he;simp[pe] at he
   |cons a p ih=>
    intro x e he;cases p with
    |nil=>
     simp only[ak,aP,pe,bK] at he;rw[he];simp
    |cons b p=>
     simp only[ak,pe,ao] at he;rcases he with he|he
     ·rw[he];simp
     ·exact aB _ (ih x e (by simpa using he))
  exact this C1 k e he
 have notk:∀x∈C1,x≠k:=by
  intro x hx e;rw[e] at hx;rw[au,ba] at nd;exact nd.2.2 k.1 (aw.mpr ⟨k,hx,rfl⟩) k.1 (by simp) rfl
 have tgt:∀e∈pe (C1++[k]),e.2∈C1++[k]:=fun e he=>(nN _ _ _ he).2
 have neg:∀x∈C1,x≠c ->ex m x.1<0:=by
  intro x hx nc;have hx':=h.hC x (bf _ hx)
  rcases Int.lt_or_eq_of_le hx' with q|q
  ·exact q
  ·rcases h.zero (bf _ hx) q with e|e
   ·exact absurd e nc
   ·exact absurd e (notk x hx)
 by_cases q:ex m c.1<0
 ·rw[if_pos q,tW]
  ·rfl
  ·intro e he;have h1:=src e he
   have h2:=h.hC _ (tgt e he)
   rw[nY,nY]
   by_cases ec:e.1=c
   ·rw[ec];omega
   ·have:=neg _ h1 ec
    omega
 ·rw[if_neg q];have c0:ex m c.1=0:=by omega
  have ey:Yp m z c=c.1:=if_neg q
  --the list has two or more
  obtain⟨b,C3,e3⟩:∃b C3,C2=b::C3:=by
   cases hC2:C2 with
   |nil=>
    have e:=h.eC
    rw[hC2] at e;have l1:C1=[]:=by
     have:=congrArg List.length e
     simp at this;exact this
    rw[l1] at e;simp at e;have:=h.ends
    rw[e] at this;rcases this with w|w
    ·omega
    ·exact absurd rfl w
   |cons b C3=>exact⟨b,C3,rfl⟩
  have eC:=h.eC
  rw[e3] at eC;rw[eC,pe,bH,au,tW,bI,aI]
  ·have hb:=h.hC b (by rw[eC];simp)
   unfold emit;rw[nY,nY,c0];dsimp only
   by_cases w:ex m b.1=0
   ·rw[w,if_pos (by omega),if_neg (by omega),if_neg (by omega),ey];rfl
   ·rw[if_neg (by omega),if_pos (by omega),if_neg (by omega),if_neg (by omega),ey];rfl
  ·intro e he;have he':e∈pe (C1++[k]):=by
    rw[eC,pe];exact aB _ he
   have h1:=src e he'
   have h2:=h.hC _ (tgt e he')
   have h3:e.1≠c:=by
    intro ec;have mm:=(nN _ _ _ he).1
    rw[ec] at mm;rw[eC,aD,bb] at nd;exact nd.1 (aw.mpr ⟨c,mm,rfl⟩)
   have:=neg _ h1 h3
   rw[nY,nY];omega
theorem beyond(h:Cfg m C1 C2 D1 D2 k c d z):Rot (Xp m k d::((d::D1).map (·.1)++[Yp m z c])) ((jB (ng m) num ((C1++[k])++(d::D1))).map (·.1)):=by
 have hk:=h.hC k h.kC
 have hd:=h.hD d h.dD
 have hc:=h.hC c h.cC
 have hz:=h.hD z h.zD
 have pB:(emit (ng m) num (k,d)).map (·.1)=[Xp m k d]:=by
  unfold emit Xp;rw[nY,nY];dsimp only
  by_cases q:ex m k.1<0
  ·rw[if_neg (by omega),if_neg (by omega),if_neg (by omega),if_pos (by omega),if_pos q,oO];rfl
  ·rw[if_pos (by omega),if_neg (by omega),if_neg (by omega),if_neg q];rfl
 have pC:(pe (d::D1)).flatMap (emit (ng m) num)=D2:=by
  rw[<-h.eD];refine qk _ _ _ _ fun x hx=> ?_
  rw[h.eD] at hx;have:=h.hD x hx
  rw[nY];omega
 have pD:(emit (ng m) num (z,c)).map (·.1)=z.1::(if ex m c.1<0 then[Yp m z c] else[]):=by
  unfold emit Yp;rw[nY,nY];dsimp only
  by_cases q:ex m c.1<0
  ·rw[if_pos (by omega),if_pos (by omega),if_pos q,if_pos q,oO];rfl
  ·rw[if_pos (by omega),if_neg (by omega),if_neg (by omega),if_neg q];rfl
 have eD:D2.map (·.1)++[z.1]=(d::D1).map (·.1):=by
  rw[<-h.eD];simp
 unfold jB;rw[h.edgesCD,cj,bH,cj,au,au,au,h.partA,pB,pC,bH,dG,aI,pD, <-eD]
 by_cases q:ex m c.1<0
 ·rw[if_pos q,if_pos q];have:([]:List V3)++([Xp m k d]++(D2.map (·.1)++z.1::[Yp m z c]))=Xp m k d::(D2.map (·.1)++[z.1]++[Yp m z c]):=by simp
  rw[this];exact .refl _
 ·rw[if_neg q,if_neg q];exact⟨Xp m k d::(D2.map (·.1)++[z.1]),[Yp m z c],by simp,by simp⟩
end Cfg
end
end MC
namespace MC
open MA L2
section
variable {m:V3} {num:Int} {C1 C2 D1 D2:List Vx} {k c d z:Vx}
namespace Cfg
theorem colX(h:Cfg m C1 C2 D1 D2 k c d z):dt k.1 (Xp m k d) d.1=0:=by
 rw[oJ];obtain⟨s,t,hs,ht,e⟩:=h.simX.dt d.1 k.1
 rw[su,m7,qq] at e;have:dt d.1 k.1 (Xp m k d)*s=0:=by rw[e];simp
 rcases aV.mp this with q|q
 ·exact q
 ·omega
theorem colY(h:Cfg m C1 C2 D1 D2 k c d z):dt z.1 (Yp m z c) c.1=0:=by
 rw[oJ];obtain⟨s,t,hs,ht,e⟩:=h.simY.dt c.1 z.1
 rw[su,m7,qq] at e;have:dt c.1 z.1 (Yp m z c)*s=0:=by rw[e];simp
 rcases aV.mp this with q|q
 ·exact q
 ·omega
theorem sums(h:Cfg m C1 C2 D1 D2 k c d z){S:Int}(hS:0<S)(hd:∀v∈(C1++[k])++(d::D1),v.1.2.2∣S)(hX:(Xp m k d).2.2∣S)(hY:(Yp m z c).2.2∣S)(num':Int):
  cyc ((C1++(kF m num k d++kX m z c)).map fun v=>sc S v.1)+cyc ((jB (ng m) num' ((C1++[k])++(d::D1))).map fun v=>sc S v.1)=cyc (((C1++[k])++(d::D1)).map fun v=>sc S v.1):=by
 rw[h.behind (sc S)];have eB:cyc ((jB (ng m) num' ((C1++[k])++(d::D1))).map fun v=>sc S v.1)=cyc ((Xp m k d::((d::D1).map (·.1)++[Yp m z c])).map (sc S)):=by
  rw[<-n4 (sc S) (h.beyond (num:=num')),cN];rfl
 have eD:((d::D1).map (·.1)).map (sc S)=(D2.map fun v=>sc S v.1)++[sc S z.1]:=by
  rw[<-h.eD];simp
 have eB2:cyc ((Xp m k d::((d::D1).map (·.1)++[Yp m z c])).map (sc S))=crs (sc S (Xp m k d)) (sc S d.1)+path ((d::D1).map fun v=>sc S v.1)+crs (sc S z.1) (sc S (Yp m z c))+crs (sc S (Yp m z c)) (sc S (Xp m k d)):=by
  rw[aD,au,eD];show path (sc S (Xp m k d)::((D2.map fun v=>sc S v.1)++[sc S z.1]++[sc S (Yp m z c)])++[sc S (Xp m k d)])=_
  have e1:sc S (Xp m k d)::((D2.map fun v=>sc S v.1)++[sc S z.1]++[sc S (Yp m z c)])++[sc S (Xp m k d)]=(sc S (Xp m k d)::(D2.map fun v=>sc S v.1))++sc S z.1::[sc S (Yp m z c),sc S (Xp m k d)]:=by simp
  rw[e1,lG];have e2:(sc S (Xp m k d)::(D2.map fun v=>sc S v.1))++[sc S z.1]=sc S (Xp m k d)::((d::D1).map fun v=>sc S v.1):=by
   rw[<-h.eD];simp
  rw[e2];simp only[aD,path];omega
 have eL:cyc (((C1++[k])++(d::D1)).map fun v=>sc S v.1)=path ((C1++[k]).map fun v=>sc S v.1)+crs (sc S k.1) (sc S d.1)+path ((d::D1).map fun v=>sc S v.1)+crs (sc S z.1) (sc S c.1):=by
  have eC:sc S c.1::C2.map (fun v=>sc S v.1)=C1.map (fun v=>sc S v.1)++[sc S k.1]:=by
   have:=congrArg (iO fun v:Vx=>sc S v.1) h.eC
   simpa using this.symm
  have e0:((C1++[k])++(d::D1)).map (fun v=>sc S v.1)=sc S c.1::(C2.map (fun v=>sc S v.1)++(d::D1).map fun v=>sc S v.1):=by
   rw[au, <-ak,eC];simp
  rw[e0,wm eC,eC];have e1:(C1++[k]).map (fun v=>sc S v.1)=C1.map (fun v=>sc S v.1)++[sc S k.1]:=by simp
  rw[e1];have e2:sc S k.1::((d::D1).map (fun v=>sc S v.1)++[sc S c.1])=(sc S k.1::D2.map (fun v=>sc S v.1))++sc S z.1::[sc S c.1]:=by
   rw[<-h.eD];simp
  have e4:=lG (sc S z.1) [sc S c.1] (sc S k.1::D2.map (fun v=>sc S v.1))
  rw[e2,e4];have e3:(sc S k.1::D2.map (fun v=>sc S v.1))++[sc S z.1]=sc S k.1::((d::D1).map fun v=>sc S v.1):=by
   rw[<-h.eD];simp
  rw[e3];simp only[aD,path];omega
 rw[eB,eB2,eL];have t1:=sO hS (hd k (h.inC h.kC)) hX (hd d (h.inD h.dD)) h.colX
 have t2:=sO hS (hd z (h.inD h.zD)) hY (hd c (h.inC h.cC)) h.colY
 have n1:=n6 (sc S k.1) (sc S d.1)
 have n2:=n6 (sc S z.1) (sc S c.1)
 have n3:=n6 (sc S (Xp m k d)) (sc S (Yp m z c))
 omega
theorem inX(h:Cfg m C1 C2 D1 D2 k c d z):∃v∈C1++(kF m num k d++kX m z c),v.1=Xp m k d:=by
 unfold kF Xp;split
 ·exact⟨(jk k.1 d.1 (ex m k.1) (ex m d.1),m,num),by simp,rfl⟩
 ·exact⟨(k.1,m,num),by simp,rfl⟩
theorem inY(h:Cfg m C1 C2 D1 D2 k c d z):(∃v∈C1++(kF m num k d++kX m z c),v.1=Yp m z c)∨Yp m z c=c.1:=by
 unfold kX Yp;split
 ·exact .inl ⟨(jk z.1 c.1 (ex m z.1) (ex m c.1),z.2),by simp,rfl⟩
 ·exact .inr rfl
end Cfg
end
theorem wq{l:List Vx}(hP:Poly l)(m:V3)(n1 n2:Int)(hp:∃v∈l,0<ex m v.1)(hn:∃v∈l,ex m v.1<0){S:Int}(hS:0<S)(h0:∀v∈l,v.1.2.2∣S)(h1:∀v∈jB m n1 l,v.1.2.2∣S):
  cyc ((jB m n1 l).map fun v=>sc S v.1)+cyc ((jB (ng m) n2 l).map fun v=>sc S v.1)=cyc (l.map fun v=>sc S v.1):=by
 obtain⟨C1,C2,D1,D2,k,c,d,z,cfg,r1,r2⟩:=rf hP m hp hn
 have r3:Rot (jB (ng m) n2 l) (jB (ng m) n2 ((C1++[k])++(d::D1))):=r1.edges.flat (emit (ng m) n2)
 have hX:(Xp m k d).2.2∣S:=by
  obtain⟨v,hv,e⟩:=cfg.inX (num:=n1)
  rw[<-e];exact h1 v (((r2 n1).mem v).mp hv)
 have hY:(Yp m z c).2.2∣S:=by
  rcases cfg.inY (num:=n1) with⟨v,hv,e⟩|e
  ·rw[<-e];exact h1 v (((r2 n1).mem v).mp hv)
  ·rw[e];exact h0 c ((r1.mem c).mp (cfg.inC cfg.cC))
 rw[<-n4 (fun v:Vx=>sc S v.1) (r2 n1), <-n4 (fun v:Vx=>sc S v.1) r3, <-n4 (fun v:Vx=>sc S v.1) r1];exact cfg.sums hS (fun v hv=>h0 v ((r1.mem v).mp hv)) hX hY n2
theorem Sim.dot{q v:V3}(h:Sim q v)(g:V3):∃s t:Int,0<s /\ 0<t /\ dot g q*s=dot g v*t:=by
 obtain⟨s,t,hs,ht,e1,e2,e3⟩:=h
 refine⟨s,t,hs,ht,?_⟩;unfold MC.dot
 grind
theorem BF(g:V3)(s:Int)(c:V3)(t:Int)(d:V3):dot g (cb s c t d)=s*dot g c+t*dot g d:=by unfold dot cb;grind
theorem yn{l:List Vx}(hP:Poly l)(m:V3)(num:Int)(hp:∃v∈l,0<ex m v.1)(hn:∃v∈l,ex m v.1<0){v:Vx}(hv:v∈jB m num l):Hull (l.map (·.1)) v.1:=by
 obtain⟨C1,C2,D1,D2,k,c,d,z,cfg,h1,h2⟩:=rf hP m hp hn
 have hv':=((h2 num).mem v).mpr hv
 have ml:∀{x:Vx},x∈(C1++[k])++(d::D1) ->x.1∈l.map (·.1):=fun hx=>aw.mpr ⟨_,(h1.mem _).mp hx,rfl⟩
 have hk:=cfg.hC k cfg.kC
 have hd:=cfg.hD d cfg.dD
 have hc:=cfg.hC c cfg.cC
 have hz:=cfg.hD z cfg.zD
 have two:∀{q x y:V3} {s t:Int},0<=s ->0<=t ->x∈l.map (·.1) ->y∈l.map (·.1) ->Sim q (cb s x t y) ->Hull (l.map (·.1)) q:=by
  intro q x y s t hs ht hx hy hq g hg;obtain⟨s',t',hs',ht',e⟩:=hq.dot g
  have w:=lh hs' ht' e
  rw[BF] at w;have q1:=lN hs (hg x hx)
  have q2:=lN ht (hg y hy)
  omega
 rcases cfg.pts hv' with⟨x,hx,e⟩|e|e
 ·rw[e];exact .self (ml (cfg.inC hx))
 ·rw[e];exact two (by omega) (by omega) (ml (cfg.inC cfg.kC)) (ml (cfg.inD cfg.dD)) cfg.simX
 ·rw[e];exact two (by omega) (by omega) (ml (cfg.inC cfg.cC)) (ml (cfg.inD cfg.zD)) cfg.simY
end MC
namespace MC
open MA L2
theorem Poly.off{l:List Vx}(hP:Poly l){m:V3}(hm:¬(m.1=0 /\ m.2.1=0)):∃v∈l,ex m v.1≠0:=by
 have h3:=hP.three
 match l,h3,hP with
 |a::b::c::r,_,hP=>
  have he:(a,b)∈edges (a::b::c::r):=kI (p:=[])
  have E:=hP.edge (a,b) he
  have nd:=hP.nd
  simp only[aD,bb,ao,not_or] at nd;have hl:=E.left_of (c:=c) (by simp) (fun z=>nd.1.2.1 z.symm) (fun z=>nd.2.1.1 z.symm)
  dsimp only at hl;refine Classical.byContradiction fun hn=>hm ?_
  have h0:∀v∈a::b::c::r,ex m v.1=0:=fun v hv=>Classical.byContradiction fun z=>hn ⟨v,hv,z⟩
  have all:∀d:V3,ex m d=0:=fun d=>by
   have p:=lm m a.1 b.1 c.1 d
   rw[h0 a (by simp),h0 b (by simp),h0 c (by simp)] at p;have p':dt a.1 b.1 c.1*ex m d=0:=by rw[p];simp
   rcases aV.mp p' with q|q
   ·omega
   ·exact q
  have e1:=all (1,0,0)
  have e2:=all (0,1,0)
  unfold ex at e1 e2;dsimp only at e1 e2;omega
noncomputable def mK(p:Int×Int)(z:V3×V3):Int×Int:=(p.1*(z.1.2.2*z.2.2.2)+(z.1.1*z.2.2.1-z.2.1*z.1.2.1)*p.2,p.2*(z.1.2.2*z.2.2.2))
noncomputable def Ae(l:List (V3×V3)):Int×Int:=l.foldl mK (0,1)
noncomputable def prs:List (U2×U2) ->Int
 |[]=>0
 |z::r=>crs z.1 z.2+prs r
theorem xE:∀(r:List U2) (a b:U2),prs ((a::r).zip (r++[b]))=path (a::r++[b]):=by
 intro r
 induction r with
 |nil=>intro a b;simp[prs,path]
 |cons c r ih=>
  intro a b;have:=ih c b
  simp only[ak,cH,prs,path] at this⊢;rw[this]
theorem zi(l:List U2):prs (l.zip (rot l))=cyc l:=by
 cases l with
 |nil=>rfl
 |cons a r=>exact xE r a a
theorem BJ(w:Int)(u:V3 ->U2):∀L:List (V3×V3),(∀z∈L,(0<z.1.2.2 /\ z.1.1*w=(u z.1).1*z.1.2.2 /\ z.1.2.1*w=(u z.1).2*z.1.2.2) /\ (0<z.2.2.2 /\ z.2.1*w=(u z.2).1*z.2.2.2 /\ z.2.2.1*w=(u z.2).2*z.2.2.2)) ->
  ∀p:Int×Int,∀S:Int,p.2≠0 ->p.1*(w*w)=p.2*S ->(L.foldl mK p).2≠0 /\ (L.foldl mK p).1*(w*w)=(L.foldl mK p).2*(S+prs (L.map fun z=>(u z.1,u z.2))):=by
 intro L
 induction L with
 |nil=>
  intro _ p S h0 h;exact⟨h0,by simpa[prs] using h⟩
 |cons z L ih=>
  intro hz p S h0 h;obtain⟨⟨k1,k2,k3⟩,⟨k4,k5,k6⟩⟩:=hz z (by simp)
  have:=ih (fun z hz'=>hz z (by simp[hz'])) (mK p z) (S+crs (u z.1) (u z.2)) ?_ ?_
  ·simp only[ix,aD,prs];rw[<-Int.add_assoc];exact this
  ·unfold mK;have:z.1.2.2*z.2.2.2≠0:=gq (by omega) (by omega)
   exact gq h0 this
  ·unfold mK crs;dsimp only
   grind
theorem ze{S:Int}{z:V3}(h:z.2.2∣S)(hz:0<z.2.2):0<z.2.2 /\ z.1*S=(sc S z).1*z.2.2 /\ z.2.1*S=(sc S z).2*z.2.2:=by
 obtain⟨k,rfl⟩:=h
 have e:z.2.2*k /z.2.2=k:=bZ k (by omega)
 refine⟨hz,?_,?_⟩
 all_goals
  unfold sc;dsimp only;rw[e]
  grind
structure ArOf(l:List Vx)(a b:Int):Prop where
 pos:0<a
 bot:0<b
 low:aA a b=1
 fr:∀S:Int,0<S ->(∀v∈l,v.1.2.2∣S) ->a*(2*S*S)=b*cyc (l.map fun v=>sc S v.1)
theorem ArOf.rot{l l':List Vx}{a b:Int}(A:ArOf l a b)(r:Rot l l'):ArOf l' a b:=⟨A.pos,A.bot,A.low,fun S hS hd=>by
 have e:=n4 (fun v:Vx=>sc S v.1) r
 rw[e];exact A.fr S hS fun v hv=>hd v ((r.mem v).mpr hv)⟩
end MC
namespace MC
open MA L2
theorem rL(h a b c d:V3):dt a b c*dot h d=dt d b c*dot h a+dt a d c*dot h b+dt a b d*dot h c:=by unfold dt dot;grind
theorem tY{h a p:V3}(ha:0<=dot h a):∀(s:List V3) (x:V3),0<=dt a x p ->(∀z∈(x::s).getLast?,dt a z p<=0) ->s≠[] ->(∀e∈pe (x::s),0<=dt e.1 e.2 p /\ 0<dt a e.1 e.2) ->(∀v∈x::s,0<=dot h v) ->0<=dot h p
 |[],x,_,_,hn,_,_=>absurd rfl hn
 |y::s,x,h1,h2,_,h3,h4=>by
  have e:=h3 (x,y) (by simp[pe])
  dsimp only at e
  by_cases q:dt a y p<=0
  ·have pl:=rL h a x y p
   have r1:dt p x y=dt x y p:=(oJ p x y).symm
   have r2:dt a p y= -dt a y p:=by unfold dt;grind
   rw[r1,r2] at pl;have m1:=lN e.1 ha
   have m2:=lN (a:= -dt a y p) (by omega) (h4 x (by simp))
   have m3:=lN h1 (h4 y (by simp))
   refine Classical.byContradiction fun z=> ?_
   have:=bO e.2 (show dot h p<0 by omega)
   omega
  ·refine tY ha s y (by omega) (fun z hz=>h2 z (by rw[List.getLast?_cons_cons];exact hz)) ?_ (fun e he=>h3 e (by simp only[pe,ao];exact .inr he)) (fun v hv=>h4 v (aB _ hv));intro z;subst z;exact q (h2 y (by simp))
theorem sf{l:List Vx}(hP:Poly l){p:V3}(hin:jo l p):Hull (l.map (·.1)) p:=by
 intro h hh;have h3:=hP.three
 match l,h3,hP,hin,hh with
 |a::b::c::r,_,hP,hin,hh=>
  have nd:=hP.nd
  rw[aD,bb] at nd;have ee:edges (a::b::c::r)=pe (a::(b::c::r)++[a]):=kE a (b::c::r)
  refine tY (a:=a.1) (hh _ (by simp)) ((c::r).map (·.1)) b.1 ?_ ?_ (by simp) ?_ fun v hv=>hh v (by rw[aD];exact aB _ hv)
  ·exact hin (a,b) (kI (p:=[]))
  ·intro z hz;rw[<-aD (f:=fun v:Vx=>v.1),List.getLast?_map] at hz;obtain⟨z',hz',e⟩:=df.mp hz
   subst e;obtain⟨m,hm⟩:∃m,b::c::r=m++[z']:=List.getLast?_eq_some_iff.mp hz'
   have el:(z',a)∈edges (a::b::c::r):=by
    rw[hm];exact kL
   have:=hin _ el
   dsimp only at this;rw[zY] at this;omega
  ·intro e he;rw[<-aD (f:=fun v:Vx=>v.1),vG] at he;obtain⟨e',he',rfl⟩:=aw.mp he
   have hl:e'∈edges (a::b::c::r):=by
    rw[ee];have:(e'.1,e'.2)∈pe (b::c::r++[a]):=l4 he'
    simp only[ak,pe,ao] at this⊢;exact .inr this
   have E:=hP.edge e' hl
   obtain⟨m1,m2⟩:=nN _ _ _ he'
   have n1:a.1≠e'.1.1:=fun z=>nd.1 (aw.mpr ⟨e'.1,m1,z.symm⟩)
   have n2:a.1≠e'.2.1:=fun z=>nd.1 (aw.mpr ⟨e'.2,m2,z.symm⟩)
   refine⟨hin e' hl,?_⟩;have:=E.left_of (c:=a) (by simp) n1 n2
   rw[oJ] at this;exact this
theorem Hull.trans{cs ds:List V3}{p:V3}(h1:Hull ds p)(h2:∀d∈ds,Hull cs d):Hull cs p:=fun g hg=>h1 g fun d hd=>h2 d hd g hg
theorem sE{l l':List Vx}{m:V3}{num:Int}(hP:Poly l)(hp:∃v∈l,0<ex m v.1)(hn:∃v∈l,ex m v.1<0)(r:Rot (jB m num l) l')(p:V3):jo l' p↔jo l p /\ ex m p<=0:=by
 have P':=r.poly (md hP m num hp hn)
 have key:jo l p ->(jo l' p↔ex m p<=0):=fun q=>(r.inside p).trans (uG hP m num hp hn q)
 constructor
 ·intro q;have i1:jo l p:=Hull.inside hP (Hull.trans (sf P' q) fun d hd=>by
   obtain⟨v,hv,rfl⟩:=aw.mp hd
   exact yn hP m num hp hn ((r.mem v).mp hv))
  exact⟨i1,(key i1).mp q⟩
 ·rintro⟨i1,q⟩;exact(key i1).mpr q
theorem same_iff{l:List Vx}{m:V3}(hP:Poly l)(h:∀v∈l,ex m v.1<=0)(p:V3):jo l p↔jo l p /\ ex m p<=0:=
 ⟨fun q=>⟨q,(sf hP q).exn fun v hv=>by
  obtain⟨u,hu,rfl⟩:=aw.mp hv
  exact h u hu⟩,fun q=>q.1⟩
theorem rE{l:List Vx}{m p:V3}(hP:Poly l)(hin:jo l p)(h:ex m p<0):∃v∈l,ex m v.1<0:=by
 refine Classical.byContradiction fun z=> ?_
 have:=(sf hP hin).ex (m:=m) fun v hv=>by
  obtain⟨u,hu,rfl⟩:=aw.mp hv
  exact Int.not_lt.mp fun q=>z ⟨u,hu,q⟩
 omega
theorem lJ{x y u v:Int}(h1:x<u)(h2:y<v)(p:V3):jo (lO x y u v) p↔(x*p.2.2<=p.1 /\ p.1<=u*p.2.2) /\ (y*p.2.2<=p.2.1 /\ p.2.1<=v*p.2.2):=by
 have e1:dt (x,y,1) (u,y,1) p=(u-x)*(p.2.1-y*p.2.2):=by unfold dt;grind
 have e2:dt (u,y,1) (u,v,1) p=(v-y)*(u*p.2.2-p.1):=by unfold dt;grind
 have e3:dt (u,v,1) (x,v,1) p=(u-x)*(v*p.2.2-p.2.1):=by unfold dt;grind
 have e4:dt (x,v,1) (x,y,1) p=(v-y)*(p.1-x*p.2.2):=by unfold dt;grind
 have nn:∀{a b:Int},0<a ->(0<=a*b↔0<=b):=fun {a b} ha=>⟨fun q=>Classical.byContradiction fun z=>by
  have:=bO ha (show b<0 by omega)
  omega,fun q=>cx (by omega) q⟩
 have key:jo (lO x y u v) p↔0<=dt (x,y,1) (u,y,1) p /\ 0<=dt (u,y,1) (u,v,1) p /\ 0<=dt (u,v,1) (x,v,1) p /\ 0<=dt (x,v,1) (x,y,1) p:=by
  unfold jo lO edges rot;simp
 rw[key,e1,e2,e3,e4,nn (by omega),nn (by omega),nn (by omega),nn (by omega)];omega
noncomputable def sq2(z:V3)(r:U2):Int:=(z.1-r.1*z.2.2)^2+(z.2.1-r.2*z.2.2)^2
noncomputable def lnB(r s:U2):V3:=
 let a:=2*(s.1-r.1);let b:=2*(s.2-r.2);let c:=s.1*s.1+s.2*s.2-r.1*r.1-r.2*r.2
 (a /(aA (aA a b) c:Int),b /(aA (aA a b) c:Int),c /(aA (aA a b) c:Int))
theorem rZ{a b c x y z:Int}(h:IsLn a b c x y z):x=a /(aA (aA a b) c:Int) /\ y=b /(aA (aA a b) c:Int) /\ z=c /(aA (aA a b) c:Int):=by
 obtain⟨g,hg,e1,e2,e3,e4⟩:=h.ex
 rw[<-e4];refine⟨?_,?_,?_⟩
 ·rw[e1,bZ _ (by omega)]
 ·rw[e2,bZ _ (by omega)]
 ·rw[e3,bZ _ (by omega)]
theorem Bh{r s:U2}(h:r≠s):∃g:Int,0<g /\ ∀p:V3,g*ex (lnB r s) p*p.2.2=sq2 p r-sq2 p s:=by
 have hab:¬(2*(s.1-r.1)=0 /\ 2*(s.2-r.2)=0):=fun q=>h (b9 (by omega) (by omega))
 have L:=(rY (c:=s.1*s.1+s.2*s.2-r.1*r.1-r.2*r.2) hab).1
 have E:=rZ L
 obtain⟨g,hg,e1,e2,e3,e4⟩:=L.ex
 rw[E.1] at e1;rw[E.2.1] at e2;rw[E.2.2] at e3;refine⟨g,hg,fun p=> ?_⟩;have e:g*ex (lnB r s) p=2*(s.1-r.1)*p.1+2*(s.2-r.2)*p.2.1-(s.1*s.1+s.2*s.2-r.1*r.1-r.2*r.2)*p.2.2:=by
  unfold ex lnB;dsimp only;generalize(2*(s.1-r.1)) /_=A at e1⊢;generalize(2*(s.2-r.2)) /_=B at e2⊢;generalize(s.1*s.1+s.2*s.2-r.1*r.1-r.2*r.2) /_=D at e3⊢;rw[e1,e2,e3]
  grind
 rw[e];unfold sq2
 grind
theorem j7{r s:U2}(h:r≠s){p:V3}(hp:0<p.2.2):(ex (lnB r s) p<=0↔sq2 p r<=sq2 p s) /\ (ex (lnB r s) p<0↔sq2 p r<sq2 p s) /\ (ex (lnB r s) p=0↔sq2 p r=sq2 p s):=by
 obtain⟨g,hg,e⟩:=Bh h
 have e:=e p
 have q:=lh (x:=ex (lnB r s) p) (y:=sq2 p r-sq2 p s) (s:=g*p.2.2) (t:=1) (be hg hp) (by decide) (by rw[dJ, <-e];grind)
 omega
theorem rW{n:Nat}{a b c d:Int}(h1:Bd n a)(h2:Bd n b)(h3:Bd n c)(h4:Bd n d):Bd (2*n+4) (2*(c-a)) /\ Bd (2*n+4) (c*c+d*d-a*a-b*b):=by
 have p1:(2:Nat)^(2*n+4)=2^(2*n)*16:=by rw[Nat.pow_add]
 have p2:(2:Nat)^n<=2^(2*n):=dE (by decide) (by omega)
 have sqb:∀{i:Int},Bd n i ->(i*i).natAbs<2^(2*n):=fun {i} hi=>by
  have:=hi.mul hi
  unfold Bd at this;rw[show 2*n=n+n by omega];exact this
 have q1:=sqb h1
 have q2:=sqb h2
 have q3:=sqb h3
 have q4:=sqb h4
 unfold Bd at h1 h2 h3 h4⊢;generalize(2:Nat)^(2*n+4)=T at p1⊢;generalize(2:Nat)^(2*n)=T1 at p1 p2 q1 q2 q3 q4;generalize(2:Nat)^n=T2 at p2 h1 h2 h3 h4;generalize a*a=A at*;generalize b*b=B at*;generalize c*c=C at*;generalize d*d=D at*;constructor
 ·omega
 ·omega
theorem Bi{r s:U2}{n:Nat}(h1:Bd n r.1)(h2:Bd n r.2)(h3:Bd n s.1)(h4:Bd n s.2)(h:r≠s):Bd (2*n+4) (lnB r s).1 /\ Bd (2*n+4) (lnB r s).2.1 /\ Bd (2*n+4) (lnB r s).2.2:=by
 have hab:¬(2*(s.1-r.1)=0 /\ 2*(s.2-r.2)=0):=fun q=>h (b9 (by omega) (by omega))
 have L:=(rY (c:=s.1*s.1+s.2*s.2-r.1*r.1-r.2*r.2) hab).1
 have E:=rZ L
 have la:=L.la
 have lb:=L.lb
 have lc:=L.lc
 rw[E.1] at la;rw[E.2.1] at lb;rw[E.2.2] at lc;have b1:=(rW h1 h2 h3 h4).1
 have b2:=(rW h2 h1 h4 h3).1
 have b3:=(rW h1 h2 h3 h4).2
 exact⟨bJ la b1,bJ lb b2,bJ lc b3⟩
end MC
namespace MC
open MA L2
theorem kT(a:Int):0<=a*a:=by
 rcases gU 0 a with h|h
 ·exact cx h h
 ·exact dU h h
noncomputable def nms(l:List Vx):List Int:=l.map fun v=>v.2.2
theorem Rot.nodup{α β:Type}(f:α ->β){l m:List α}(h:Rot l m)(hn:(l.map f).Nodup):(m.map f).Nodup:=by
 obtain⟨u,v,rfl,rfl⟩:=h
 rw[au,ba] at hn⊢;exact⟨hn.2.1,hn.1,fun a ha b hb e=>hn.2.2 b hb a ha e.symm⟩
theorem ut{l:List Vx}(hP:Poly l)(m:V3)(num:Int)(hp:∃v∈l,0<ex m v.1)(hn:∃v∈l,ex m v.1<0)(nd:(nms l).Nodup)(nn:num∉nms l):(nms (jB m num l)).Nodup:=by
 obtain⟨C1,C2,D1,D2,k,c,d,z,cfg,h1,h2⟩:=rf hP m hp hn
 refine(h2 num).symm.nodup (fun v:Vx=>v.2.2) ?_;have N:=h1.nodup (fun v:Vx=>v.2.2) nd
 have nn':∀v∈(C1++[k])++(d::D1),v.2.2≠num:=fun v hv e=>nn (aw.mpr ⟨v,(h1.mem v).mp hv,e⟩)
 rw[au,ba] at N;obtain⟨N1,N2,N3⟩:=N
 have zD:=cfg.zD
 have zz:∀v∈C1++[k],v.2.2≠z.2.2:=fun v hv=>N3 _ (aw.mpr ⟨v,hv,rfl⟩) _ (aw.mpr ⟨z,zD,rfl⟩)
 have nz:=nn' z (cfg.inD zD)
 have hk:k.2.2∉C1.map (fun v=>v.2.2) /\ (C1.map fun v=>v.2.2).Nodup:=by
  rw[au,ba] at N1;refine⟨fun q=>N1.2.2 _ q k.2.2 (by simp) rfl,N1.1⟩
 have nC:∀v∈C1,v.2.2≠num:=fun v hv=>nn' v (cfg.inC (by simp[hv]))
 have nk:=nn' k (cfg.inC cfg.kC)
 have zC:∀v∈C1,v.2.2≠z.2.2:=fun v hv=>zz v (by simp[hv])
 have zk:=zz k cfg.kC
 have nC':num∉C1.map (fun v=>v.2.2):=fun q=>by
  obtain⟨v,hv,e⟩:=aw.mp q
  exact nC v hv e
 have zC':z.2.2∉C1.map (fun v=>v.2.2):=fun q=>by
  obtain⟨v,hv,e⟩:=aw.mp q
  exact zC v hv e
 have app:∀(A B:List Int),A.Nodup ->B.Nodup ->(∀b∈B,b∉A) ->(A++B).Nodup:=fun A B a b c=>ba.mpr ⟨a,b,fun x hx y hy e=>c y hy (e▸hx)⟩
 rw[au];refine app _ _ hk.2 ?_ ?_
 ·unfold kF kX;split<;>split<;>simp<;>(try omega)
 ·intro b hb;unfold kF kX at hb;rw[au,aU] at hb;rcases hb with hb|hb
  ·split at hb
   ·simp only[aD,bI,ao,ay,or_false] at hb;rcases hb with rfl|rfl
    ·exact hk.1
    ·exact nC'
   ·simp only[aD,bI,ao,ay,or_false] at hb;rw[hb];exact nC'
  ·split at hb
   ·simp only[aD,bI,ao,ay,or_false] at hb;rw[hb];exact zC'
   ·simp at hb
structure LandOk(x y u v:Int)(rs:List U2)(r:U2)(js:List Nat)(l:List Vx):Prop where
 poly:Poly l
 lnb:LnB 300 l
 len:l.length<=4+js.length
 pts:∀p,jo l p↔jo (lO x y u v) p /\ ∀j∈js,∀s,rs[j]? =some s ->ex (lnB r s) p<=0
 lead:∀w∈l,∀h∈l.head?,¬Ahd w.1 h.1
 nm:∀w∈l,(∃b∈lO x y u v,w.2=b.2)∨∃j∈js,∃s,rs[j]? =some s /\ w.2=(lnB r s,(j:Int))
 nd:(nms l).Nodup
theorem xU{x y u v:Int}(rs:List U2)(r:U2)(h1:x<u)(h2:y<v)(b:Bd 300 x /\ Bd 300 y /\ Bd 300 u /\ Bd 300 v):LandOk x y u v rs r [] (lO x y u v) where
 poly:=ue h1 h2
 lnb:=by
  intro w hw;simp only[lO,ao,ay,or_false] at hw;have l0:Bd 300 0:=Bd.mono (m:=10) (Bd.of_le 0 (by decide) (by decide) (by decide)) (by decide)
  have l1:Bd 300 1:=Bd.mono (m:=10) (Bd.of_le 1 (by decide) (by decide) (by decide)) (by decide)
  have l2:Bd 300 (-1):=Bd.mono (m:=10) (Bd.of_le 1 (by decide) (by decide) (by decide)) (by decide)
  obtain⟨b1,b2,b3,b4⟩:=b
  rcases hw with rfl|rfl|rfl|rfl
  ·exact⟨l0,l2,b2.neg⟩
  ·exact⟨l1,l0,b3⟩
  ·exact⟨l0,l1,b4⟩
  ·exact⟨l2,l0,b1.neg⟩
 len:=av 4
 pts:=fun p=>⟨fun q=>⟨q,fun j hj=>absurd hj ay⟩,fun q=>q.1⟩
 lead:=by
  intro w hw h hh;simp only[lO,List.head?_cons,Option.mem_def,aZ.injEq] at hh;subst hh;simp only[lO,ao,ay,or_false] at hw;unfold Ahd;rcases hw with rfl|rfl|rfl|rfl<;>dsimp only<;>omega
 nm:=fun w hw=> .inl ⟨w,hw,rfl⟩
 nd:=by
  show([-1,-2,-3,-4]:List Int).Nodup
  decide
theorem vW{x y u v:Int}{rs:List U2}{r s:U2}{js:List Nat}{l:List Vx}(h:LandOk x y u v rs r js l){j:Nat}(hj:rs[j]? =some s)(q:∀w∈l,ex (lnB r s) w.1<=0):LandOk x y u v rs r (js++[j]) l where
 poly:=h.poly
 lnb:=h.lnb
 len:=by
  have:=h.len
  rw[aq];omega
 pts:=fun p=>by
  constructor
  ·intro i;have i2:=(same_iff h.poly q p).mp i
   refine⟨((h.pts p).mp i).1,fun j' hj' s' hs'=> ?_⟩;rcases aU.mp hj' with z|z
   ·exact((h.pts p).mp i).2 j' z s' hs'
   ·rw[bK] at z;subst z;rw[hj] at hs';cases hs';exact i2.2
  ·rintro⟨a,b⟩;exact(h.pts p).mpr ⟨a,fun j' hj'=>b j' (bf _ hj')⟩
 lead:=h.lead
 nm:=fun w hw=>by
  rcases h.nm w hw with z|⟨j',hj',z⟩
  ·exact .inl z
  ·exact .inr ⟨j',bf _ hj',z⟩
 nd:=h.nd
theorem xT{x y u v:Int}{rs:List U2}{r s:U2}{js:List Nat}{l l':List Vx}(h:LandOk x y u v rs r js l){j:Nat}(hj:rs[j]? =some s)(hn:j∉js)(bm:Bd 300 (lnB r s).1 /\ Bd 300 (lnB r s).2.1 /\ Bd 300 (lnB r s).2.2)
  (q1:∃w∈l,0<ex (lnB r s) w.1) (q2:∃w∈l,ex (lnB r s) w.1<0) (rt:Rot (jB (lnB r s) (j:Int) l) l') (ld:∀w∈jB (lnB r s) (j:Int) l,∀h∈l'.head?,¬Ahd w.1 h.1):LandOk x y u v rs r (js++[j]) l' where
 poly:=rt.poly (md h.poly _ _ q1 q2)
 lnb:=(sZ h.lnb bm).rot rt
 len:=by
  have:=h.len
  have c:=wo h.poly (lnB r s) (j:Int) q1 q2
  rw[rt.len,aq];show _<=4+(js.length+1)
  omega
 pts:=fun p=>by
  rw[sE h.poly q1 q2 rt p,h.pts p];constructor
  ·rintro⟨⟨a,b⟩,c⟩;refine⟨a,fun j' hj' s' hs'=> ?_⟩;rcases aU.mp hj' with z|z
   ·exact b j' z s' hs'
   ·rw[bK] at z;subst z;rw[hj] at hs';cases hs';exact c
  ·rintro⟨a,b⟩;exact⟨⟨a,fun j' hj'=>b j' (bf _ hj')⟩,b j (by simp) s hj⟩
 lead:=fun w hw=>ld w ((rt.mem w).mp hw)
 nm:=fun w hw=>by
  rcases oC ((rt.mem w).mp hw) with z|⟨w',hw',z⟩
  ·exact .inr ⟨j,by simp,s,hj,z⟩
  ·rw[z];rcases h.nm w' hw' with z|⟨j',hj',z⟩
   ·exact .inl z
   ·exact .inr ⟨j',bf _ hj',z⟩
 nd:=by
  refine rt.nodup (fun v:Vx=>v.2.2) (ut h.poly _ _ q1 q2 h.nd ?_);intro hm;obtain⟨w,hw,e⟩:=aw.mp hm
  rcases h.nm w hw with⟨b,hb,z⟩|⟨j',hj',s',hs',z⟩
  ·rw[z] at e;simp only[lO,ao,ay,or_false] at hb;rcases hb with rfl|rfl|rfl|rfl<;>dsimp only at e<;>omega
  ·rw[z] at e;dsimp only at e;have:j'=j:=by omega
   subst this;exact hn hj'
theorem xR{x y u v:Int}{rs:List U2}{r:U2}{js:List Nat}{l:List Vx}(h:LandOk x y u v rs r js l)(h1:x<u)(h2:y<v)(hr:x<=r.1 /\ r.1<=u /\ y<=r.2 /\ r.2<=v)(nd:∀j∈js,rs[j]? ≠some r):jo l (r.1,r.2,1):=by
 refine(h.pts _).mpr ⟨(lJ h1 h2 _).mpr (by dsimp only;omega),fun j hj s hs=> ?_⟩;have ne:r≠s:=fun z=>nd j hj (by rw[hs,z])
 refine(j7 ne (show(0:Int)<1 by decide)).1.mpr ?_;unfold sq2;dsimp only;have e:(r.1-r.1*1)^2+(r.2-r.2*1)^2=0:=by grind
 rw[e];have p1:0<=(r.1-s.1*1)^2:=by rw[fv,fv,Int.pow_zero,Int.one_mul];exact kT _
 have p2:0<=(r.2-s.2*1)^2:=by rw[fv,fv,Int.pow_zero,Int.one_mul];exact kT _
 omega
end MC
namespace MC
open MA L2
theorem tG{r s:U2}(ne:r≠s):ex (lnB r s) (r.1,r.2,1)<0:=by
 refine(j7 ne (show(0:Int)<1 by decide)).2.1.mpr ?_;unfold sq2;dsimp only;have e:(r.1-r.1*1)^2+(r.2-r.2*1)^2=0:=by grind
 rw[e];have e1:(r.1-s.1*1)^2=(r.1-s.1)*(r.1-s.1):=by grind
 have e2:(r.2-s.2*1)^2=(r.2-s.2)*(r.2-s.2):=by grind
 rw[e1,e2];have p1:=kT (r.1-s.1)
 have p2:=kT (r.2-s.2)
 refine Classical.byContradiction fun z=>ne ?_
 have z1:(r.1-s.1)*(r.1-s.1)=0:=by omega
 have z2:(r.2-s.2)*(r.2-s.2)=0:=by omega
 rcases aV.mp z1 with a|a<;>rcases aV.mp z2 with b|b<;>exact b9 (by omega) (by omega)
noncomputable def jD(n i:Nat):List Nat:=(bg n).filter fun j=>decide (j≠i)
theorem qO(n i:Nat):jD (n+1) i=if n≠i then jD n i++[n] else jD n i:=by
 unfold jD;rw[iB,List.filter_append]
 by_cases h:n=i
 ·subst h;simp
 ·simp[h]
theorem mem_othersL{n i j:Nat}:j∈jD n i↔j<n /\ j≠i:=by
 unfold jD;simp
theorem pS(n i:Nat):(jD n i).Nodup:=dH.filter _
theorem lQ(n i:Nat):(jD n i).length<=n:=by
 unfold jD;exact bW (List.length_filter_le _ _) (by rw[bC];exact av _)
end MC
namespace MC
open MA L2
theorem Rot.lt{l m:List Vx}(h:Rot l m)(h0:0<l.length):∃k,k<l.length /\ m=rotk k l:=by
 obtain⟨k,hk,e⟩:=h.at
 by_cases hl:k<l.length
 ·exact⟨k,hl,e⟩
 ·refine⟨0,h0,?_⟩;rw[e,show k=l.length by omega];unfold MC.rotk;simp
end MC
namespace MC
open MA L2
theorem pV{l:List Vx}{v:Vx}(hv:v∈l):∃w∈l,(v,w)∈edges l:=by
 obtain⟨i,hi,e⟩:=gx.mp hv
 have h2:i<(rot l).length:=by rw[rot_length];exact hi
 refine⟨(rot l)[i],(j6 _ _).mp (cL h2),?_⟩;have hz:i<(l.zip (rot l)).length:=by rw[fg];omega
 have:=cL hz
 rw[ig,e] at this;exact this
theorem vA{l:List Vx}{v:Vx}(hv:v∈l):∃u∈l,(u,v)∈edges l:=by
 obtain⟨i,hi,e⟩:=gx.mp ((j6 l v).mpr hv)
 have h2:i<l.length:=by rw[<-rot_length l];exact hi
 refine⟨l[i],cL h2,?_⟩;have hz:i<(l.zip (rot l)).length:=by rw[fg];omega
 have:=cL hz
 rw[ig,e] at this;exact this
theorem lP{l:List Vx}(hP:Poly l){v:Vx}(hv:v∈l):jo l v.1:=Hull.inside hP (.self (aw.mpr ⟨v,hv,rfl⟩))
theorem rB{l:List Vx}(hP:Poly l)(a b:V3):∃c∈l,c.1≠a /\ c.1≠b:=by
 have h3:=hP.three
 have nd:=hP.nd
 match l,h3,nd with
 |x::y::z::r,_,nd=>
  simp only[aD,bb,ao,not_or] at nd
  by_cases h1:x.1=a∨x.1=b
  ·by_cases h2:y.1=a∨y.1=b
   ·refine⟨z,by simp,?_,?_⟩
    ·intro q;have n1:=nd.1.2.1
     have n2:=nd.2.1.1
     have n3:=nd.1.1
     rcases h1 with h1|h1<;>rcases h2 with h2|h2
     ·exact n3 (h1.trans h2.symm)
     ·exact n1 (h1.trans q.symm)
     ·exact n2 (h2.trans q.symm)
     ·exact n3 (h1.trans h2.symm)
    ·intro q;have n1:=nd.1.2.1
     have n2:=nd.2.1.1
     have n3:=nd.1.1
     rcases h1 with h1|h1<;>rcases h2 with h2|h2
     ·exact n3 (h1.trans h2.symm)
     ·exact n2 (h2.trans q.symm)
     ·exact n1 (h1.trans q.symm)
     ·exact n3 (h1.trans h2.symm)
   ·exact⟨y,by simp,fun q=>h2 (.inl q),fun q=>h2 (.inr q)⟩
  ·exact⟨x,by simp,fun q=>h1 (.inl q),fun q=>h1 (.inr q)⟩
noncomputable abbrev Same(l l':List Vx):Prop:=∀p:V3,0<p.2.2 ->(jo l p↔jo l' p)
end MC
namespace MC
open MA L2
noncomputable def tw(l:List Vx):Rat:=((Ae ((l.map (·.1)).zip (rot (l.map (·.1))))).1:Rat) /((Ae ((l.map (·.1)).zip (rot (l.map (·.1))))).2:Rat)
theorem vt{x:Int}(h:x≠0):(x:Rat)≠0:=fun q=>h (by exact_mod_cast q)
theorem wQ{l:List Vx}(hP:Poly l){S:Int}(hS:0<S)(hd:∀v∈l,v.1.2.2∣S):tw l*((S*S:Int):Rat)=((cyc (l.map fun v=>sc S v.1):Int):Rat):=by
 have ok:∀z∈l.map (·.1),0<z.2.2 /\ z.1*S=(sc S z).1*z.2.2 /\ z.2.1*S=(sc S z).2*z.2.2:=fun z hz=>by
  obtain⟨v,hv,rfl⟩:=aw.mp hz
  exact ze (hd v hv) (hP.pos v hv)
 have q:=BJ S (sc S) ((l.map (·.1)).zip (rot (l.map (·.1)))) (fun z hz=>⟨ok _ (bE hz).1,ok _ ((j6 _ _).mp (bE hz).2)⟩) (0,1) 0 (by decide) (by simp)
 have e:((l.map (·.1)).zip (rot (l.map (·.1)))).map (fun z=>(sc S z.1,sc S z.2))=((l.map fun v=>sc S v.1)).zip (rot (l.map fun v=>sc S v.1)):=by
  have e2:(l.map fun v=>sc S v.1)=(l.map (·.1)).map (sc S):=by rw[cN];rfl
  rw[e2];generalize l.map (·.1)=cs;rw[vq,List.zip_map];rfl
 rw[e,zi,b8] at q;obtain⟨q1,q2⟩:=q
 unfold tw Ae;generalize List.foldl mK (0,1) _=A at q1 q2;have n:=vt q1
 have k:((A.1*(S*S):Int):Rat)=((A.2*cyc (l.map fun v=>sc S v.1):Int):Rat):=by rw[q2]
 rw[Rat.intCast_mul,Rat.intCast_mul] at k
 grind
theorem qr(l:List Vx)(h:∀v∈l,0<v.1.2.2):0<j5 (l.map (·.1)) /\ ∀v∈l,v.1.2.2∣j5 (l.map (·.1)):=
 ⟨qL fun v hv=>by obtain⟨c,hc,rfl⟩:=aw.mp hv;exact h c hc,fun v hv=>qM (aw.mpr ⟨v,hv,rfl⟩)⟩
theorem Cd{S:Int}(h:0<S):((S*S:Int):Rat)≠0:=vt (eN (be h h))
noncomputable def CG(X:V3 ->Prop):Prop:=∀l,Poly l -> ¬∀p:V3,0<p.2.2 ->jo l p ->X p
noncomputable def Ar(X:V3 ->Prop)(q:Rat):Prop:=(∃l,Poly l /\ (∀p:V3,0<p.2.2 ->(jo l p↔X p)) /\ tw l=q)∨(CG X /\ q=0)
theorem Ar.congr{X Y:V3 ->Prop}{q:Rat}(a:Ar X q)(h:∀p:V3,0<p.2.2 ->(X p↔Y p)):Ar Y q:=by
 rcases a with⟨l,h1,h2,e⟩|⟨h1,e⟩
 ·exact .inl ⟨l,h1,fun p hp=>(h2 p hp).trans (h p hp),e⟩
 ·exact .inr ⟨fun l hl z=>h1 l hl fun p hp hi=>(h p hp).mpr (z p hp hi),e⟩
theorem zT{l:List Vx}(hP:Poly l){m:V3}(hm:∃d,ex m d≠0)(h:∀v∈l,ex m v.1=0):False:=by
 obtain⟨d,hd⟩:=hm
 have h3:=hP.three
 match l,h3,hP,h with
 |a::b::c::r,_,hP,h=>
  have e:(a,b)∈edges (a::b::c::r):=kI (p:=[])
  have E:=hP.edge _ e
  have nd:=hP.nd
  simp only[aD,bb,ao,not_or] at nd;have L:=(E.left c (by simp)).resolve_left (fun q=>nd.1.2.1 q.symm)|>.resolve_left fun q=>nd.2.1.1 q.symm
  have pl:=lm m a.1 b.1 c.1 d
  rw[h a (by simp),h b (by simp),h c (by simp)] at pl;dsimp only at L;rw[bX,bX,bX,gT,gT] at pl;rcases aV.mp pl with z|z
  ·omega
  ·exact hd z
theorem rR(m p:V3):ex (ng m) p= -ex m p:=by unfold ex ng;grind
theorem Ar.split{X:V3 ->Prop}{q:Rat}(a:Ar X q){m:V3}(hm:∃d,ex m d≠0):∃q1 q2,Ar (fun p=>X p /\ ex m p<=0) q1 /\ Ar (fun p=>X p /\ 0<=ex m p) q2 /\ q1+q2=q:=by
 rcases a with⟨l,hP,h2,e⟩|⟨h1,e⟩
 ·have gen:∀m:V3,(∃d,ex m d≠0) ->(∀v∈l,ex m v.1<=0) ->CG fun p=>X p /\ 0<=ex m p:=fun m hm hp l2 hl2 z=>by
   refine zT hl2 hm fun v hv=> ?_
   obtain⟨x1,x2⟩:=z v.1 (hl2.pos v hv) (lP hl2 hv)
   have:=((same_iff hP hp v.1).mp ((h2 _ (hl2.pos v hv)).mpr x1)).2
   omega
  by_cases hp:∃v∈l,0<ex m v.1
  ·by_cases hn:∃v∈l,ex m v.1<0
   ·have hp':∃v∈l,0<ex (ng m) v.1:=by obtain⟨v,hv,q⟩:=hn;exact⟨v,hv,by rw[rR];omega⟩
    have hn':∃v∈l,ex (ng m) v.1<0:=by obtain⟨v,hv,q⟩:=hp;exact⟨v,hv,by rw[rR];omega⟩
    have P1:=md hP m 0 hp hn
    have P2:=md hP (ng m) 0 hp' hn'
    refine⟨_,_,.inl ⟨_,P1,fun p hp0=>(sE hP hp hn (.refl _) p).trans (and_congr (h2 p hp0) Iff.rfl),rfl⟩,.inl ⟨_,P2,fun p hp0=>(sE hP hp' hn' (.refl _) p).trans (and_congr (h2 p hp0) (by rw[rR];omega)),rfl⟩,?_⟩;obtain⟨a1,a2⟩:=qr l hP.pos
    obtain⟨b1,b2⟩:=qr _ P1.pos
    obtain⟨c1,c2⟩:=qr _ P2.pos
    have hS:=be (be a1 b1) c1
    have d0:∀v∈l,v.1.2.2∣j5 (l.map (·.1))*j5 ((jB m 0 l).map (·.1))*j5 ((jB (ng m) 0 l).map (·.1)):=fun v hv=>dB (a2 v hv) ⟨j5 ((jB m 0 l).map (·.1))*j5 ((jB (ng m) 0 l).map (·.1)),by rw[gI]⟩
    have d1:∀v∈jB m 0 l,v.1.2.2∣j5 (l.map (·.1))*j5 ((jB m 0 l).map (·.1))*j5 ((jB (ng m) 0 l).map (·.1)):=fun v hv=>dB (b2 v hv) ⟨j5 (l.map (·.1))*j5 ((jB (ng m) 0 l).map (·.1)),by grind⟩
    have d2:∀v∈jB (ng m) 0 l,v.1.2.2∣j5 (l.map (·.1))*j5 ((jB m 0 l).map (·.1))*j5 ((jB (ng m) 0 l).map (·.1)):=fun v hv=>dB (c2 v hv) ⟨j5 (l.map (·.1))*j5 ((jB m 0 l).map (·.1)),by grind⟩
    have s:=wq hP m 0 0 hp hn hS d0 d1
    have e0:=wQ hP hS d0
    have e1:=wQ P1 hS d1
    have e2:=wQ P2 hS d2
    rw[<-s,Rat.intCast_add, <-e1, <-e2] at e0;have n:=Cd hS
    rw[<-e]
    grind
   ·have hn1:∀v∈l,ex (ng m) v.1<=0:=fun v hv=>by
     rw[rR];have:¬ex m v.1<0:=fun y=>hn ⟨v,hv,y⟩
     omega
    refine⟨0,q,.inr ⟨?_,rfl⟩,.inl ⟨l,hP,fun p hp0=> ?_,e⟩,by grind⟩
    ·have g:=gen (ng m) (by obtain⟨d,hd⟩:=hm;exact⟨d,by rw[rR];omega⟩) hn1
     intro l2 hl2 z;exact g l2 hl2 fun p hp0 hi=>⟨(z p hp0 hi).1,by rw[rR];have:=(z p hp0 hi).2;omega⟩
    ·refine(same_iff hP hn1 p).trans (and_congr (h2 p hp0) (by rw[rR];omega))
  ·have hp1:∀v∈l,ex m v.1<=0:=fun v hv=>Int.not_lt.mp fun y=>hp ⟨v,hv,y⟩
   exact⟨q,0,.inl ⟨l,hP,fun p hp0=>(same_iff hP hp1 p).trans (and_congr (h2 p hp0) Iff.rfl),e⟩,.inr ⟨gen m hm hp1,rfl⟩,by grind⟩
 ·refine⟨0,0,.inr ⟨fun l hl z=>h1 l hl fun p hp hi=>(z p hp hi).1,rfl⟩,.inr ⟨fun l hl z=>h1 l hl fun p hp hi=>(z p hp hi).1,rfl⟩,by rw[e];grind⟩
noncomputable def sm(f:Nat ->Rat):Nat ->Rat
 |0=>0
 |n+1=>sm f n+f n
theorem pw2(a:Int):a^2=a*a:=by grind
theorem nn2(a:Int):0<=a*a:=by
 rcases gU 0 a with h|h
 ·exact cx h h
 ·have:=cx (show 0<= -a by omega) (show 0<= -a by omega)
  rwa [iD] at this
theorem Bg{r s:U2}(h:r≠s):∃d,ex (lnB r s) d≠0:=by
 refine⟨(r.1,r.2,1),fun q=> ?_⟩;have z:=((j7 h (p:=(r.1,r.2,1)) dr).2.2).mp q
 unfold sq2 at z;dsimp only at z;have e1:(r.1-r.1*1)^2+(r.2-r.2*1)^2=(0:Int):=by grind
 rw[e1] at z;have a:r.1-s.1*1=0 /\ r.2-s.2*1=0:=by
  generalize r.1-s.1*1=a at z;generalize r.2-s.2*1=b at z;have h1:0<=a^2:=by rw[pw2];exact nn2 a
  have h2:0<=b^2:=by rw[pw2];exact nn2 b
  have z1:a^2=0:=by omega
  have z2:b^2=0:=by omega
  rw[pw2] at z1 z2;exact⟨(aV.mp z1).elim id id,(aV.mp z2).elim id id⟩
 exact h (b9 (by omega) (by omega))
theorem Ar.by{r:Nat ->U2}{X:V3 ->Prop}{q:Rat}(a:Ar X q)(n:Nat):∀k,(∀j,j<k ->r n≠r j) -> ∃g,Ar (fun p=>X p /\ ∀j,j<k ->sq2 p (r n)<=sq2 p (r j)) g
 |0,_=>⟨q,a.congr fun p _=>⟨fun h=>⟨h,fun _ z=>absurd z (iA _)⟩,fun h=>h.1⟩⟩
 |k+1,h=>by
  obtain⟨g,hg⟩:=Ar.by a n k fun j hj=>h j (by omega)
  obtain⟨g1,_,h1,_,_⟩:=hg.split (Bg (h k (by omega)))
  refine⟨g1,h1.congr fun p hp=> ?_⟩;rw[(j7 (h k (by omega)) hp).1];constructor
  ·rintro⟨⟨x,y⟩,z⟩;refine⟨x,fun j hj=> ?_⟩;rcases ft (Nat.le_of_lt_succ hj) with q|q
   ·exact y j q
   ·subst q;exact z
  ·rintro⟨x,y⟩;exact⟨⟨x,fun j hj=>y j (by omega)⟩,y k (by omega)⟩
end MC
namespace MC
open MA L2
noncomputable def SI(l:List Vx)(z:V3):Prop:=∀e∈edges l,0<dt e.1.1 e.2.1 z
theorem qX{α:Type}(f:α ->Int):∀L:List α,∃N:Int,0<N /\ ∀c∈L,f c<=N
 |[]=>⟨1,by decide,fun c h=>by simp at h⟩
 |a::L=>by
  obtain⟨N,h0,h⟩:=qX f L
  refine⟨max N (f a),by omega,fun c hc=> ?_⟩;rcases ao.mp hc with rfl|q
  ·omega
  ·have:=h c q
   omega
theorem SI.inside{l:List Vx}{z:V3}(h:SI l z):jo l z:=fun e he=>cA (h e he)
theorem SI.add{l:List Vx}{o p:V3}(h:SI l o)(hp:jo l p){N:Int}(hN:0<=N):SI l (cb N p 1 o):=fun e he=>by
 rw[su];have h1:=h e he
 have h2:=cx hN (hp e he)
 omega
theorem SI.mix{l:List Vx}{o p:V3}(h:SI l o)(hp:SI l p){M N:Int}(hM:0<M)(hN:0<N):SI l (cb M p N o):=fun e he=>by
 rw[su];have h1:=be hN (h e he)
 have h2:=be hM (hp e he)
 omega
theorem pk{a b:Int}(h:a*a+b*b=0):a=0 /\ b=0:=by
 have h1:=nn2 a
 have h2:=nn2 b
 have z:∀{c:Int},c*c=0 ->c=0:=fun {c} e=>(aV.mp e).elim id id
 exact⟨z (by omega),z (by omega)⟩
theorem sM{X Y W p1 p2 r1 r2:Int}(hw:W≠0)(h:(X-p1*W)^2+(Y-p2*W)^2=(X-r1*W)^2+(Y-r2*W)^2):2*((r1-p1)*(X-p1*W)+(r2-p2)*(Y-p2*W))=((r1-p1)*(r1-p1)+(r2-p2)*(r2-p2))*W:=by
 apply bA hw;have e:2*((r1-p1)*(X-p1*W)+(r2-p2)*(Y-p2*W))*W-((r1-p1)*(r1-p1)+(r2-p2)*(r2-p2))*W*W=((X-p1*W)^2+(Y-p2*W)^2)-((X-r1*W)^2+(Y-r2*W)^2):=by
  clear h hw
  grind
 omega
theorem wO{a1 a2 W d1 d2 e1 e2 t1 t2:Int}(hd:¬(d1=0 /\ d2=0))(he:¬(e1=0 /\ e2=0))(ht:¬(t1=0 /\ t2=0))(o1:d1*t1+d2*t2=0)(o2:e1*t1+e2*t2=0)(A:2*(d1*a1+d2*a2)=(d1*d1+d2*d2)*W)(B:2*(e1*a1+e2*a2)=(e1*e1+e2*e2)*W)(hW:W≠0):d1=e1 /\ d2=e2:=by
 have cr:d1*e2-d2*e1=0:=by
  have c1:(d1*e2-d2*e1)*t1=0:=by
   have:(d1*e2-d2*e1)*t1=e2*(d1*t1+d2*t2)-d2*(e1*t1+e2*t2):=by clear o1 o2 A B hd he ht hW;grind
   rw[this,o1,o2];omega
  have c2:(d1*e2-d2*e1)*t2=0:=by
   have:(d1*e2-d2*e1)*t2=d1*(e1*t1+e2*t2)-e1*(d1*t1+d2*t2):=by clear o1 o2 A B hd he ht hW c1;grind
   rw[this,o1,o2];omega
  rcases aV.mp c1 with q|q
  ·exact q
  ·rcases aV.mp c2 with q2|q2
   ·exact q2
   ·exact(ht ⟨q,q2⟩).elim
 have f1:(e1*e1+e2*e2)*d1=(d1*d1+d2*d2)*e1:=by
  apply bA hW;have:(e1*e1+e2*e2)*d1*W-(d1*d1+d2*d2)*e1*W=2*a2*(d1*e2-d2*e1):=by
   have k1:(e1*e1+e2*e2)*d1*W=2*(e1*a1+e2*a2)*d1:=by rw[B];clear o1 o2 A B hd he ht hW cr;grind
   have k2:(d1*d1+d2*d2)*e1*W=2*(d1*a1+d2*a2)*e1:=by rw[A];clear o1 o2 A B hd he ht hW cr k1;grind
   rw[k1,k2];clear o1 o2 A B hd he ht hW cr k1 k2
   grind
  rw[cr] at this;omega
 have f2:(e1*e1+e2*e2)*d2=(d1*d1+d2*d2)*e2:=by
  apply bA hW;have:(e1*e1+e2*e2)*d2*W-(d1*d1+d2*d2)*e2*W= -(2*a1)*(d1*e2-d2*e1):=by
   have k1:(e1*e1+e2*e2)*d2*W=2*(e1*a1+e2*a2)*d2:=by rw[B];clear o1 o2 A B hd he ht hW cr f1;grind
   have k2:(d1*d1+d2*d2)*e2*W=2*(d1*a1+d2*a2)*e2:=by rw[A];clear o1 o2 A B hd he ht hW cr k1 f1;grind
   rw[k1,k2];clear o1 o2 A B hd he ht hW cr k1 k2 f1
   grind
  rw[cr] at this;omega
 have g1:e1*e1+e2*e2=e1*d1+e2*d2:=by
  apply bA (a:=d1*d1+d2*d2) (fun q=>hd (pk q));have:(e1*e1+e2*e2)*(d1*d1+d2*d2)=((e1*e1+e2*e2)*d1)*d1+((e1*e1+e2*e2)*d2)*d2:=by clear o1 o2 A B hd he ht hW cr f1 f2;grind
  rw[this,f1,f2];clear o1 o2 A B hd he ht hW cr f1 f2 this
  grind
 have g2:d1*d1+d2*d2=e1*d1+e2*d2:=by
  apply bA (a:=e1*e1+e2*e2) (fun q=>he (pk q));have:(d1*d1+d2*d2)*(e1*e1+e2*e2)=((d1*d1+d2*d2)*e1)*e1+((d1*d1+d2*d2)*e2)*e2:=by clear o1 o2 A B hd he ht hW cr f1 f2 g1;grind
  rw[this, <-f1, <-f2];clear o1 o2 A B hd he ht hW cr f1 f2 this g1
  grind
 have:=pk (a:=d1-e1) (b:=d2-e2) (by
  have:(d1-e1)*(d1-e1)+(d2-e2)*(d2-e2)=(d1*d1+d2*d2)-2*(e1*d1+e2*d2)+(e1*e1+e2*e2):=by clear o1 o2 A B hd he ht hW cr f1 f2 g1 g2;grind
  omega)
 omega
theorem mirror{w z:V3}(hw:0<w.2.2)(hz:0<z.2.2){p r s:U2}(pr:p≠r)(ps:p≠s)(h1:sq2 w p=sq2 w r)(h2:sq2 w p=sq2 w s)(k1:sq2 z p=sq2 z r)(k2:sq2 z p=sq2 z s)
  (t:¬(w.1*z.2.2=z.1*w.2.2 /\ w.2.1*z.2.2=z.2.1*w.2.2)):r=s:=by
 unfold sq2 at h1 h2 k1 k2;have nw:=eN hw
 have nz:=eN hz
 have a1:=sM nw h1
 have a2:=sM nw h2
 have b1:=sM nz k1
 have b2:=sM nz k2
 have op:∀{d1 d2 D:Int},2*(d1*(w.1-p.1*w.2.2)+d2*(w.2.1-p.2*w.2.2))=D*w.2.2 ->2*(d1*(z.1-p.1*z.2.2)+d2*(z.2.1-p.2*z.2.2))=D*z.2.2 ->d1*(w.1*z.2.2-z.1*w.2.2)+d2*(w.2.1*z.2.2-z.2.1*w.2.2)=0:=fun {d1 d2 D} e1 e2=>by
  have:2*(d1*(w.1*z.2.2-z.1*w.2.2)+d2*(w.2.1*z.2.2-z.2.1*w.2.2))=(2*(d1*(w.1-p.1*w.2.2)+d2*(w.2.1-p.2*w.2.2)))*z.2.2-(2*(d1*(z.1-p.1*z.2.2)+d2*(z.2.1-p.2*z.2.2)))*w.2.2:=by
   clear a1 a2 b1 b2 h1 h2 k1 k2 t e1 e2 nw nz hw hz pr ps
   grind
  rw[e1,e2] at this;have c:D*w.2.2*z.2.2=D*z.2.2*w.2.2:=by rw[gI,gi w.2.2, <-gI]
  omega
 have:=wO (fun q=>pr (b9 (by omega) (by omega))) (fun q=>ps (b9 (by omega) (by omega))) (fun q=>t ⟨by omega,by omega⟩) (op a1 b1) (op a2 b2) a1 a2 nw
 exact b9 (by omega) (by omega)
theorem uf{x y u v:Int}(h1:x<u)(h2:y<v){b:Vx}(hb:b∈lO x y u v):(∃d,ex b.2.1 d≠0) /\ ∀p,jo (lO x y u v) p ->ex b.2.1 p<=0:=by
 have hP:=ue h1 h2
 obtain⟨b2,hb2,he⟩:=pV hb
 have E:=hP.edge _ he
 obtain⟨c,hc,n1,n2⟩:=rB hP b.1 b2.1
 exact⟨⟨c.1,Int.ne_of_lt (E.back_of hc n1 n2)⟩,fun p hp=>((same_iff hP (fun v hv=>E.back_le hv) p).mp hp).2⟩
theorem Cc{l:List Vx}(hP:Poly l):0<tw l:=by
 obtain⟨a1,a2⟩:=qr l hP.pos
 have e1:=wQ hP a1 a2
 have p:(0:Rat)<((cyc (l.map fun v=>sc (j5 (l.map (·.1))) v.1):Int):Rat):=by exact_mod_cast yx a1 hP a2
 have s:(0:Rat)<((j5 (l.map (·.1))*j5 (l.map (·.1)):Int):Rat):=by exact_mod_cast be a1 a1
 rw[<-e1] at p;apply Classical.byContradiction;intro q;have q:=Rat.not_lt.mp q
 have:=Rat.mul_le_mul_of_nonneg_right q (Rat.le_of_lt s)
 grind
end MC
namespace MC
open MA L2
noncomputable def Is2(q:Rat)(a b:Int):Prop:=0<b /\ aA a b=1 /\ (a:Rat)=q*(b:Rat)
theorem Is2.ofFr{x w a b:Int}(h:IsFr x w a b)(hw:w≠0){q:Rat}(e:(x:Rat)=q*(w:Rat)):Is2 q a b:=by
 refine⟨h.pos,h.low,?_⟩;have k:((a*w:Int):Rat)=((x*b:Int):Rat):=by rw[h.ex]
 rw[Rat.intCast_mul,Rat.intCast_mul,e] at k;have n:=vt hw
 grind
theorem Is2.sub{p q:Rat}{a b c d u v:Int}(h:Is2 p a b)(k:Is2 q c d)(f:IsFr (a*d-c*b) (b*d) u v):Is2 (p-q) u v:=by
 refine .ofFr f (eN (be h.1 k.1)) ?_;rw[Rat.intCast_sub,Rat.intCast_mul,Rat.intCast_mul,Rat.intCast_mul,h.2.2,k.2.2]
 grind
theorem Is2.add{p q:Rat}{a b c d u v:Int}(h:Is2 p a b)(k:Is2 q c d)(f:IsFr (a*d+c*b) (b*d) u v):Is2 (p+q) u v:=by
 refine .ofFr f (eN (be h.1 k.1)) ?_;rw[Rat.intCast_add,Rat.intCast_mul,Rat.intCast_mul,Rat.intCast_mul,h.2.2,k.2.2]
 grind
theorem Is2.neg{p:Rat}{a b:Int}(h:Is2 p a b):Is2 (-p) (0-a) b:=by
 refine⟨h.1,?_,?_⟩
 ·rw[Int.zero_sub,Int.neg_gcd];exact h.2.1
 ·rw[Int.zero_sub,Rat.intCast_neg,h.2.2]
  grind
theorem Is2.zero:Is2 0 0 1:=⟨by decide,by decide,by show((0:Int):Rat)=0*_;rw[Rat.zero_mul];rfl⟩
end MC
namespace MC
open MA L2
theorem AQ{D E T X:Int}(hD:0<D)(hX:X<0)(e:D*E=T*X):(0<E↔T<0) /\ (E=0↔T=0) /\ (E<0↔0<T):=by
 have q:=lh (x:=E) (y:= -T) (s:=D) (t:= -X) hD (by omega) (by grind)
 omega
theorem qp{l:List Vx}(hP:Poly l){a b:Vx}(he:(a,b)∈edges l)(d:V3):(0<ex a.2.1 d↔dt a.1 b.1 d<0) /\ (ex a.2.1 d=0↔dt a.1 b.1 d=0) /\ (ex a.2.1 d<0↔0<dt a.1 b.1 d):=by
 have E:=hP.edge _ he
 dsimp only at E;obtain⟨c,hc,n1,n2⟩:=rB hP a.1 b.1
 have h1:=(E.left c hc).resolve_left n1|>.resolve_left n2
 have h2:=(E.back c hc).resolve_left n1|>.resolve_left n2
 have p:=lm a.2.1 a.1 b.1 c.1 d
 rw[E.on1,E.on2,bX,bX,b8,b8] at p;exact AQ h1 h2 p
end MC
namespace MC
open MA L2
structure CutsOk(x y u v:Int)(cs:List Vx)(l:List Vx):Prop where
 poly:Poly l
 lnb:LnB 300 l
 len:l.length<=4+cs.length
 pts:∀p,jo l p↔jo (lO x y u v) p /\ ∀c∈cs,ex c.1 p<=0
 lead:∀w∈l,∀h∈l.head?,¬Ahd w.1 h.1
 nm:∀w∈l,(∃b∈lO x y u v,w.2=b.2)∨∃c∈cs,w.2=(c.1,c.2.2)
theorem nodup_ne{α:Type}{rs:List α}(nd:rs.Nodup){i j:Nat}{r s:α}(hi:rs[i]? =some r)(hj:rs[j]? =some s)(ne:j≠i):r≠s:=fun z=>by
 subst z;have h1:=aa.mp hi
 have h2:=aa.mp hj
 exact ne ((cJ (h₀:=h2.1) (h₁:=h1.1) nd).mp (h2.2.trans h1.2.symm))
theorem tJ{m A Q C D:V3}(hA:ex m A=0)(hQ:ex m Q=0)(hC:ex m C<0)(hD:0<ex m D)(h1:0<=dt C A Q)(h2:0<=dt Q D A)(pA:0<A.2.2)(pQ:0<Q.2.2)(gA:aA (aA A.1 A.2.1) A.2.2=1)(gQ:aA (aA Q.1 Q.2.1) Q.2.2=1):A=Q:=by
 have c1:dt C A Q=dt A Q C:=by unfold dt;grind
 have c2:dt Q D A=dt A Q D:=by unfold dt;grind
 have pl:∀X,dt A Q C*ex m X=dt A Q X*ex m C:=fun X=>by
  have:=lm m A Q C X
  rw[hA,hQ,bX,bX,b8,b8] at this;exact this
 rw[c1] at h1;rw[c2] at h2;have z:dt A Q C=0:=by
  have e:=pl D
  have a1:=cx h1 (cA hD)
  have a2:dt A Q D*ex m C<=0:=dS h2 (cA hC)
  have a3:dt A Q C*ex m D=0:=by omega
  rcases aV.mp a3 with q|q
  ·exact q
  ·omega
 have all:∀X,dt A Q X=0:=fun X=>by
  have e:=pl X
  rw[z,dm] at e;rcases aV.mp e.symm with q|q
  ·exact q
  ·omega
 have e1:=all (1,0,0)
 have e2:=all (0,1,0)
 unfold dt at e1 e2;dsimp only at e1 e2;have k1:A.2.1*Q.2.2=Q.2.1*A.2.2:=by grind
 have k2:A.1*Q.2.2=Q.1*A.2.2:=by grind
 refine Ahd.total pA pQ gA gQ ?_ ?_
 ·unfold Ahd;omega
 ·unfold Ahd;omega
theorem mZ{l:List Vx}(hP:Poly l){a b c:Vx}(he:(a,b)∈edges l)(hc:(c,a)∈edges l∨(b,c)∈edges l):ex a.2.1 c.1<0:=by
 have E:=hP.edge _ he
 have mc:c∈l:=by
  rcases hc with h|h
  ·exact(bE h).1
  ·exact(j6 _ _).mp (bE h).2
 obtain⟨d,hd,n1,n2⟩:=rB hP a.1 b.1
 have p1:=E.left_of hd n1 n2
 dsimp only at p1;have sw:∀A B C:V3,dt B A C= -dt A B C:=fun A B C=>by unfold dt;grind
 have zz:∀A C:V3,dt A A C=0:=fun A C=>by unfold dt;grind
 refine E.back_of mc (fun q=> ?_) fun q=> ?_
 ·rcases hc with h|h
  ·have F:=hP.edge _ h
   obtain⟨g,hg,m1,m2⟩:=rB hP c.1 a.1
   have:=F.left_of hg m1 m2
   dsimp only at this q;rw[q,zz] at this;omega
  ·have F:=hP.edge _ h
   dsimp only at q;have:=F.left_of hd n2 (fun z=>n1 (z.trans q))
   dsimp only at this;rw[q,sw] at this;omega
 ·rcases hc with h|h
  ·have F:=hP.edge _ h
   dsimp only at q;have:=F.left_of hd (fun z=>n2 (z.trans q)) n1
   dsimp only at this;rw[q,sw] at this;omega
  ·have F:=hP.edge _ h
   obtain⟨g,hg,m1,m2⟩:=rB hP b.1 c.1
   have:=F.left_of hg m1 m2
   dsimp only at this q;rw[q,zz] at this;omega
theorem Ar.less{X:V3 ->Prop}{q:Rat}(a:Ar X q):∀L:List V3,(∀m∈L,∃d,ex m d≠0) -> ∃g,g<=q /\ Ar (fun p=>X p /\ ∀m∈L,ex m p<=0) g
 |[],_=>⟨q,Rat.le_refl,a.congr fun p _=>⟨fun h=>⟨h,fun m hm=>absurd hm (by simp)⟩,fun h=>h.1⟩⟩
 |m::L,h=>by
  obtain⟨g,hg,ag⟩:=Ar.less a L fun m hm=>h m (aB _ hm)
  obtain⟨q1,q2,h1,h2,e⟩:=ag.split (h m (by simp))
  have n2:0<=q2:=by
   rcases h2 with⟨l,hl,_,rfl⟩|⟨_,rfl⟩
   ·exact Rat.le_of_lt (Cc hl)
   ·exact Rat.le_refl
  refine⟨q1,by grind,h1.congr fun p _=>⟨fun⟨⟨x,y⟩,z⟩=>⟨x,fun k hk=> ?_⟩,fun⟨x,y⟩=>⟨⟨x,fun k hk=>y k (aB _ hk)⟩,y m (by simp)⟩⟩⟩;rcases ao.mp hk with rfl|hk
  ·exact z
  ·exact y k hk
end MC
namespace MC
open MA L2
noncomputable def Cu(rs:List U2)(r:U2)(j:Nat):Vx:=(lnB r (rs.getD j (0,0)),lnB r (rs.getD j (0,0)),(j:Int))
theorem wD{rs:List U2}{r s:U2}{j:Nat}(h:rs[j]? =some s):Cu rs r j=(lnB r s,lnB r s,(j:Int)):=by
 unfold Cu;rw[aR,h];rfl
noncomputable def Aq(rs:List U2)(r:U2)(i:Nat):List Vx:=(jD rs.length i).map (Cu rs r)
theorem ne_mem{rs:List U2}{r:U2}{i:Nat}{c:Vx}:c∈Aq rs r i↔∃(k:Nat) (t:U2),rs[k]? =some t /\ k≠i /\ c=(lnB r t,lnB r t,(k:Int)):=by
 constructor
 ·intro h;obtain⟨k,hk,rfl⟩:=aw.mp h
  obtain⟨kl,ki⟩:=mem_othersL.mp hk
  exact⟨k,rs[k],af kl,ki,wD (af kl)⟩
 ·rintro⟨k,t,hk,ki,rfl⟩;exact aw.mpr ⟨k,mem_othersL.mpr ⟨(aa.mp hk).1,ki⟩,wD hk⟩
theorem nR{x y u v:Int}{rs:List U2}{L:List Vx}{r:U2}{i:Nat}(nd:rs.Nodup)(hi:rs[i]? =some r)(hL:CutsOk x y u v (Aq rs r i) L){z:V3}(hz:0<z.2.2):jo L z↔jo (lO x y u v) z /\ ∀s∈rs,sq2 z r<=sq2 z s:=by
 rw[hL.pts z];refine and_congr Iff.rfl ⟨fun q s hs=> ?_,fun q c hc=> ?_⟩
 ·obtain⟨j,hj⟩:=bF hs
  by_cases e:j=i
  ·subst e;rw[hi] at hj;cases hj;exact cM _
  ·exact(j7 (nodup_ne nd hi hj e) hz).1.mp (q _ (ne_mem.mpr ⟨j,s,hj,e,rfl⟩))
 ·obtain⟨k,t,hk,ki,rfl⟩:=ne_mem.mp hc
  exact(j7 (nodup_ne nd hi hk ki) hz).1.mpr (q t (ar hk))
theorem pX{x y u v:Int}{rs:List U2}{L:List Vx}{r:U2}{i:Nat}(h:LandOk x y u v rs r (jD rs.length i) L):CutsOk x y u v (Aq rs r i) L where
 poly:=h.poly
 lnb:=h.lnb
 len:=by
  have:=h.len
  unfold Aq;rw[ae];exact this
 pts:=fun p=>by
  rw[h.pts p];refine and_congr Iff.rfl ⟨fun q c hc=> ?_,fun q j hj s hs=> ?_⟩
  ·obtain⟨k,t,hk,ki,rfl⟩:=ne_mem.mp hc
   exact q k (mem_othersL.mpr ⟨(aa.mp hk).1,ki⟩) t hk
  ·exact q _ (ne_mem.mpr ⟨j,s,hs,(mem_othersL.mp hj).2,rfl⟩)
 lead:=h.lead
 nm:=fun w hw=>(h.nm w hw).imp id fun⟨j,hj,s,hs,e⟩=>⟨_,ne_mem.mpr ⟨j,s,hs,(mem_othersL.mp hj).2,rfl⟩,e⟩
theorem j8{r s:U2}(h:r≠s){p:V3}(hp:0<p.2.2):(ex (lnB s r) p<=0↔sq2 p s<=sq2 p r) /\ (ex (lnB s r) p<0↔sq2 p s<sq2 p r) /\ (ex (lnB s r) p=0↔sq2 p r=sq2 p s):=by
 obtain⟨h1,h2,h3⟩:=j7 h.symm hp
 exact⟨h1,h2,h3.trans eq_comm⟩
theorem qR{x y u v:Int}(xu:x<u)(yv:y<v){rs:List U2}(nd:rs.Nodup)(ins:∀s∈rs,x<=s.1 /\ s.1<=u /\ y<=s.2 /\ s.2<=v){r:U2}{i j:Nat}{L:List Vx}(hi:rs[i]? =some r)(hL:CutsOk x y u v (Aq rs r i) L){a b:Vx}(he:(a,b)∈edges L)(hn:a.2.2=(j:Int)):
  ∃s,rs[j]? =some s /\ j≠i /\ sq2 a.1 s=sq2 a.1 r /\ sq2 b.1 s=sq2 b.1 r /\ ∀M,CutsOk x y u v (Aq rs s j) M -> ∃a' b',(a',b')∈edges M /\ a'.1=b.1 /\ b'.1=a.1 /\ a'.2.2=(i:Int):=by
 have ma:a∈L:=(bE he).1
 have mb:b∈L:=(j6 _ _).mp (bE he).2
 obtain⟨s,hs,ji,hl⟩:∃s,rs[j]? =some s /\ j≠i /\ a.2.1=lnB r s:=by
  rcases hL.nm a ma with⟨b,hb,e⟩|⟨c,hc,e⟩
  ·exfalso
   simp only[lO,ao,ay,or_false] at hb;rw[e] at hn;rcases hb with rfl|rfl|rfl|rfl<;>(dsimp only at hn;omega)
  ·obtain⟨k,t,hk,ki,rfl⟩:=ne_mem.mp hc
   rw[e] at hn;dsimp only at hn;have:k=j:=by omega
   subst this;exact⟨t,hk,ki,by rw[e]⟩
 have pa:=hL.poly.pos a ma
 have pb:=hL.poly.pos b mb
 have ga:=hL.poly.low a ma
 have gb:=hL.poly.low b mb
 have E:=hL.poly.edge _ he
 have o1:=E.on1
 have o2:=E.on2
 dsimp only at o1 o2;rw[hl] at o1 o2;have nsr:s≠r:=(nodup_ne nd hi hs ji).symm
 have e1:=(j8 nsr pa).2.2.mp o1
 have e2:=(j8 nsr pb).2.2.mp o2
 have ia:=lP hL.poly ma
 have ib:=lP hL.poly mb
 have strict:∀(k:Nat) (t:U2),rs[k]? =some t ->k≠i ->k≠j ->ex (lnB r t) (cb 1 a.1 1 b.1)<0:=fun k t hk ki kj=>by
  have q1:=((hL.pts _).mp ia).2 _ (ne_mem.mpr ⟨k,t,hk,ki,rfl⟩)
  have q2:=((hL.pts _).mp ib).2 _ (ne_mem.mpr ⟨k,t,hk,ki,rfl⟩)
  dsimp only at q1 q2;rw[rc]
  by_cases z:ex (lnB r t) a.1=0 /\ ex (lnB r t) b.1=0
  ·exfalso
   have ntr:t≠r:=(nodup_ne nd hi hk ki).symm
   have e3:=(j8 ntr pa).2.2.mp z.1
   have e4:=(j8 ntr pb).2.2.mp z.2
   refine nodup_ne nd hs hk kj (mirror pa pb nsr.symm ntr.symm e1.symm e3.symm e2.symm e4.symm fun w=> ?_);obtain⟨c,hc,n1,n2⟩:=rB hL.poly a.1 b.1
   have d:=E.left_of hc n1 n2
   dsimp only at d;have k:a.1.2.2*dt a.1 b.1 c.1=0:=by
    unfold dt;clear d E o1 o2 e1 e2 q1 q2 z e3 e4
    grind
   rcases aV.mp k with k|k<;>omega
  ·omega
 have m0:ex (lnB r s) (cb 1 a.1 1 b.1)=0:=by rw[rc,o1,o2];rfl
 have pm:0<(cb 1 a.1 1 b.1).2.2:=by
  unfold cb;dsimp only;omega
 have inm:jo (lO x y u v) (cb 1 a.1 1 b.1):=fun e he=>by
  rw[su];have h1:=((hL.pts _).mp ia).1 e he
  have h2:=((hL.pts _).mp ib).1 e he
  omega
 generalize cb 1 a.1 1 b.1=m at strict m0 pm inm;have em:=(j8 nsr pm).2.2.mp m0
 have strict2:∀(k:Nat) (t:U2),rs[k]? =some t ->k≠i ->k≠j ->ex (lnB s t) m<0:=fun k t hk ki kj=>by
  have h1:=(j8 (nodup_ne nd hi hk ki).symm pm).2.1.mp (strict k t hk ki kj)
  exact(j8 (nodup_ne nd hs hk kj).symm pm).2.1.mpr (by omega)
 have m1:ex (lnB s r) m=0:=(j8 nsr.symm pm).2.2.mpr em.symm
 have inr:jo (lO x y u v) (r.1,r.2,1):=(lJ xu yv _).mpr (by have:=ins r (ar hi);dsimp only;omega)
 have ins':jo (lO x y u v) (s.1,s.2,1):=(lJ xu yv _).mpr (by have:=ins s (ar hs);dsimp only;omega)
 have mix:∀{N:Int} {z:V3},0<N ->jo (lO x y u v) z ->jo (lO x y u v) (cb N m 1 z):=fun {N z} n0 iz e he=>by
  rw[su];have h1:=cx (cA n0) (inm e he)
  have h2:=iz e he
  omega
 have less:∀(z:V3),∃N:Int,0<N /\ ∀(k:Nat) (t:U2),rs[k]? =some t ->k≠i ->k≠j ->ex (lnB s t) (cb N m 1 z)<0:=fun z=>by
  obtain⟨N,n0,hN⟩:=qX (fun t:U2=>ex (lnB s t) z) rs
  refine⟨N+1,by omega,fun k t hk ki kj=> ?_⟩;have st:=strict2 k t hk ki kj
  have h1:(N+1)*ex (lnB s t) m<=(N+1)*(-1):=Int.mul_le_mul_of_nonneg_left (by omega) (by omega)
  have h2:=hN t (ar hk)
  rw[rc];omega
 refine⟨s,hs,ji,e1,e2,fun M hM=> ?_⟩
 ·obtain⟨w,hw,hwn⟩:∃w∈M,w.2.2=(i:Int):=by
   apply Classical.byContradiction;intro none;obtain⟨N,n0,hN⟩:=less (r.1,r.2,1)
   have ip:=mix n0 inr
   have inM:jo M (cb N m 1 (r.1,r.2,1)):=fun e he=>by
    have q:=qp hM.poly (a:=e.1) (b:=e.2) he (cb N m 1 (r.1,r.2,1))
    have me:e.1∈M:=(bE he).1
    have le:ex e.1.2.1 (cb N m 1 (r.1,r.2,1))<=0:=by
     rcases hM.nm _ me with⟨b,hb,z⟩|⟨c,hc,z⟩
     ·rw[z];exact(uf xu yv hb).2 _ ip
     ·obtain⟨k,t,hk,kj,rfl⟩:=ne_mem.mp hc
      rw[z];refine cA (hN k t hk (fun ki=>none ⟨_,me,?_⟩) kj);rw[z,ki]
    omega
   have g:=((hM.pts _).mp inM).2 _ (ne_mem.mpr ⟨i,r,hi,ji.symm,rfl⟩)
   dsimp only at g;rw[rc,m1] at g;have o:=tG nsr.symm
   have l2:=(j8 nsr (p:=(r.1,r.2,1)) dr).2.1.mp o
   have l3:=(j8 nsr.symm (p:=(r.1,r.2,1)) dr).1.mp (by omega)
   omega
  have hwl:w.2.1=lnB s r:=by
   rcases hM.nm w hw with⟨b,hb,e⟩|⟨c,hc,e⟩
   ·exfalso
    simp only[lO,ao,ay,or_false] at hb;rw[e] at hwn;rcases hb with rfl|rfl|rfl|rfl<;>(dsimp only at hwn;omega)
   ·obtain⟨k,t,hk,ki,rfl⟩:=ne_mem.mp hc
    rw[e] at hwn;dsimp only at hwn;have:k=i:=by omega
    subst this;rw[hi] at hk;cases hk;rw[e]
  obtain⟨w2,hw2,hf⟩:=pV hw
  have F:=hM.poly.edge _ hf
  have f1:=F.on1
  have f2:=F.on2
  dsimp only at f1 f2;rw[hwl] at f1 f2;have pw:=hM.poly.pos w hw
  have pw2:=hM.poly.pos w2 hw2
  have g1:=(j8 nsr.symm pw).2.2.mp f1
  have g2:=(j8 nsr.symm pw2).2.2.mp f2
  have toL:∀{z:V3},0<z.2.2 ->jo M z ->sq2 z r=sq2 z s ->jo L z:=fun {z} hz iz q=>by
   have h1:=(nR nd hs hM hz).mp iz
   exact(nR nd hi hL hz).mpr ⟨h1.1,fun t ht=>by rw[q];exact h1.2 t ht⟩
  have toM:∀{z:V3},0<z.2.2 ->jo L z ->sq2 z s=sq2 z r ->jo M z:=fun {z} hz iz q=>by
   have h1:=(nR nd hi hL hz).mp iz
   exact(nR nd hs hM hz).mpr ⟨h1.1,fun t ht=>by rw[q];exact h1.2 t ht⟩
  have iwL:=toL pw (lP hM.poly hw) g1
  have iw2L:=toL pw2 (lP hM.poly hw2) g2
  have iaM:=toM pa ia e1
  have ibM:=toM pb ib e2
  have flip:∀{z:V3},0<z.2.2 ->ex (lnB s r) z<0 ->0<ex (lnB r s) z:=fun {z} hz q=>by
   have h1:=(j8 nsr.symm hz).2.1.mp q
   have h2:=(j8 nsr hz).1
   by_cases k:ex (lnB r s) z<=0
   ·have:=h2.mp k
    omega
   ·omega
  refine⟨w,w2,hf,?_,?_,hwn⟩
  ·obtain⟨c,hc,k1⟩:=pV mb
   obtain⟨d,hd,k2⟩:=vA hw
   have c0:=mZ hL.poly he (.inr k1)
   have d0:=flip (hM.poly.pos d hd) (by have:=mZ hM.poly hf (.inl k2);rw[hwl] at this;exact this)
   rw[hl] at c0;exact tJ (m:=lnB r s) (A:=w.1) (Q:=b.1) (C:=c.1) (D:=d.1) ((j8 nsr pw).2.2.mpr g1.symm) o2 c0 d0 (by
    have:=iwL _ k1
    dsimp only at this;have e:dt c.1 w.1 b.1=dt b.1 c.1 w.1:=by unfold dt;grind
    rw[e];exact this) (by
    have:=ibM _ k2
    dsimp only at this;have e:dt b.1 d.1 w.1=dt d.1 w.1 b.1:=by unfold dt;grind
    rw[e];exact this) pw pb (hM.poly.low w hw) gb
  ·obtain⟨c,hc,k1⟩:=vA ma
   obtain⟨d,hd,k2⟩:=pV hw2
   have c0:=mZ hL.poly he (.inl k1)
   have d0:=flip (hM.poly.pos d hd) (by have:=mZ hM.poly hf (.inr k2);rw[hwl] at this;exact this)
   rw[hl] at c0;exact(tJ (m:=lnB r s) (A:=a.1) (Q:=w2.1) (C:=c.1) (D:=d.1) o1 ((j8 nsr pw2).2.2.mpr g2.symm) c0 d0 (iw2L _ k1) (iaM _ k2) pa pw2 ga (hM.poly.low w2 hw2)).symm
end MC
namespace MC
open MA L2
theorem tK{α:Type}(κ:α ->Int):∀(l:List α),0<l.length -> ∃(k:Nat) (a:α),l[k]? =some a /\ ∀b∈l,κ b<=κ a
 |[],h=>absurd h (ci _)
 |[a],_=>⟨0,a,rfl,fun b hb=>by rw[bK] at hb;rw[hb];exact cM _⟩
 |a::b::l,_=>by
  obtain⟨k,c,hk,hm⟩:=tK κ (b::l) (Nat.succ_pos _)
  by_cases h:κ c<=κ a
  ·refine⟨0,a,rfl,fun d hd=> ?_⟩;rcases ao.mp hd with rfl|hd
   ·exact cM _
   ·exact f9 (hm d hd) h
  ·refine⟨k+1,c,hk,fun d hd=> ?_⟩;rcases ao.mp hd with rfl|hd
   ·omega
   ·exact hm d hd
noncomputable abbrev Rw:=V3×V3×Int×Int
noncomputable def Ct(lot:List Nat)(c:Int):Prop:=0<=c /\ ∀j∈lot,c≠(j:Int)
noncomputable instance(lot:List Nat)(c:Int):Decidable (Ct lot c):=by unfold Ct;infer_instance
noncomputable def ur(lot:List Nat)(n:Nat)(t:V3×V3×Int):Option Rw:=if Ct lot t.2.2 then some (t.1,t.2.1,(n:Int),t.2.2) else none
noncomputable def uK(L:List Vx):List (V3×V3×Int):=(edges L).map fun e=>(e.1.1,e.2.1,e.1.2.2)
noncomputable def rowsOf(lot:List Nat)(n:Nat)(L:List Vx):List Rw:=(uK L).filterMap (ur lot n)
noncomputable def jY(lot:List Nat)(Lf:Nat ->List Vx)(k:List Nat):List Rw:=k.flatMap fun n=>rowsOf lot n (Lf n)
noncomputable def j4(x y u v:Int)(rs:List U2)(Lf:Nat ->List Vx)(k:List Nat):Prop:=∀n∈k,∃r,rs[n]? =some r /\ LandOk x y u v rs r (jD rs.length n) (Lf n)
section
variable {x y u v:Int} {rs:List U2} (xu:x<u) (yv:y<v) (nd:rs.Nodup) (ins:∀s∈rs,x<=s.1 /\ s.1<=u /\ y<=s.2 /\ s.2<=v)
include xu yv nd ins
structure RowF(rs:List U2)(lot:List Nat)(z:Rw)(n m:Nat)(r s:U2):Prop where
 en:z.2.2.1=(n:Int)
 em:z.2.2.2=(m:Int)
 hn:rs[n]? =some r
 hm:rs[m]? =some s
 inl:n∈lot
 out:m∉lot
 p1:0<z.1.2.2
 p2:0<z.2.1.2.2
 g1:aA (aA z.1.1 z.1.2.1) z.1.2.2=1
 g2:aA (aA z.2.1.1 z.2.1.2.1) z.2.1.2.2=1
 n1:∀t∈rs,sq2 z.1 r<=sq2 z.1 t
 n2:∀t∈rs,sq2 z.2.1 r<=sq2 z.2.1 t
 q1:sq2 z.1 s=sq2 z.1 r
 q2:sq2 z.2.1 s=sq2 z.2.1 r
 ne:z.1≠z.2.1
 lf:0<dt z.1 z.2.1 (r.1,r.2,1)
theorem kJ{lot:List Nat}{n:Nat}{r:U2}{L:List Vx}(hl:n∈lot)(hr:rs[n]? =some r)(h:LandOk x y u v rs r (jD rs.length n) L){z:Rw}(hz:z∈rowsOf lot n L):∃(m:Nat) (s:U2) (a b:Vx),RowF rs lot z n m r s /\ (a,b)∈edges L /\ z=(a.1,b.1,(n:Int),a.2.2) /\ a.2.2=(m:Int):=by
 unfold rowsOf at hz;obtain⟨t,ht,e⟩:=dg.mp hz
 obtain⟨⟨a,b⟩,he,rfl⟩:=aw.mp ht
 unfold ur at e;dsimp only at e;split at e
 rotate_left
 ·cases e
 rename_i o
 cases e;have ma:a∈L:=(bE he).1
 have mb:b∈L:=(j6 _ _).mp (bE he).2
 obtain⟨m,s,hm,mn,ha,hl'⟩:∃(m:Nat) (s:U2),rs[m]? =some s /\ m≠n /\ a.2.2=(m:Int) /\ a.2.1=lnB r s:=by
  rcases h.nm a ma with⟨b,hb,e⟩|⟨j,hj,s,hs,e⟩
  ·exfalso
   simp only[lO,ao,ay,or_false] at hb;have o1:=o.1
   rw[e] at o1;rcases hb with rfl|rfl|rfl|rfl<;>(dsimp only at o1;omega)
  ·exact⟨j,s,hs,(mem_othersL.mp hj).2,by rw[e],by rw[e]⟩
 have rne:r≠s:=nodup_ne nd hr hm mn
 have pa:=h.poly.pos a ma
 have pb:=h.poly.pos b mb
 have E:=h.poly.edge _ he
 have o1:=E.on1
 have o2:=E.on2
 dsimp only at o1 o2;rw[hl'] at o1 o2;have C:=pX h
 refine⟨m,s,a,b,⟨rfl,ha,hr,hm,hl,fun g=>o.2 m g ha,pa,pb,h.poly.low a ma,h.poly.low b mb,((nR nd hr C pa).mp (lP h.poly ma)).2,((nR nd hr C pb).mp (lP h.poly mb)).2,((j7 rne pa).2.2.mp o1).symm,((j7 rne pb).2.2.mp o2).symm,fun e=> ?_,?_⟩,he,rfl,ha⟩
 ·dsimp only at e;obtain⟨c,hc,n1,n2⟩:=rB h.poly a.1 b.1
  have d:=E.left_of hc n1 n2
  dsimp only at d;rw[e] at d;have:dt b.1 b.1 c.1=0:=by unfold dt;grind
  omega
 ·have q:=(qp h.poly he (r.1,r.2,1)).2.2
  rw[hl'] at q;exact q.mp (tG rne)
theorem xm{lot:List Nat}{z z':Rw}{n m n' m':Nat}{r s r' s':U2}(h:RowF rs lot z n m r s)(h':RowF rs lot z' n' m' r' s')(e1:z.1=z'.1)(e2:z.2.1=z'.2.1):z=z' /\ n=n':=by
 have idx:∀{i j:Nat} {a:U2},rs[i]? =some a ->rs[j]? =some a ->i=j:=fun {i j a} h1 h2=>by
  obtain⟨l1,f1⟩:=aa.mp h1
  obtain⟨l2,f2⟩:=aa.mp h2
  exact(cJ nd).mp (f1.trans f2.symm)
 have off:¬(z.1.1*z.2.1.2.2=z.2.1.1*z.1.2.2 /\ z.1.2.1*z.2.1.2.2=z.2.1.2.1*z.1.2.2):=fun g=>h.ne (Ahd.total h.p1 h.p2 h.g1 h.g2 (by unfold Ahd;omega) (by unfold Ahd;omega))
 have mr:=ar h.hn
 have mr':=ar h'.hn
 have rs_ne:r≠s:=fun e=>by
  have:=h.hm
  rw[<-e] at this;exact h.out (by rw[<-idx h.hn this];exact h.inl)
 have rs_ne':r'≠s':=fun e=>by
  have:=h'.hm
  rw[<-e] at this;exact h'.out (by rw[<-idx h'.hn this];exact h'.inl)
 have a1:=h.n1 r' mr'
 have a2:=h'.n1 r mr
 have b1:=h.n2 r' mr'
 have b2:=h'.n2 r mr
 have c1:=h'.q1
 have c2:=h'.q2
 rw[<-e1] at a2 c1;rw[<-e2] at b2 c2;have nn:n=n':=Classical.byContradiction fun c=>by
  have rr:r≠r':=fun e=>c (idx h.hn (by rw[e];exact h'.hn))
  have:=mirror h.p1 h.p2 rr rs_ne (by omega) h.q1.symm (by omega) h.q2.symm off
  have q:=h.hm
  rw[<-this] at q;exact h.out (by rw[<-idx h'.hn q];exact h'.inl)
 subst nn;have rr:r=r':=by have:=h.hn;rw[h'.hn] at this;exact(aZ.inj this).symm
 subst rr;have ss:s=s':=mirror h.p1 h.p2 rs_ne rs_ne' h.q1.symm c1.symm h.q2.symm c2.symm off
 have mm:m=m':=idx h.hm (by rw[ss];exact h'.hm)
 refine⟨?_,rfl⟩;refine b9 e1 (b9 e2 (b9 (h.en.trans h'.en.symm) ?_));rw[h.em,h'.em,mm]
theorem zf{lot:List Nat}{n:Nat}{L:List Vx}(h:Poly L):(rowsOf lot n L).Pairwise fun z z'=>¬z.1=z'.1:=by
 have hn:=h.nd
 have e:(uK L).map (·.1)=L.map (·.1):=by
  unfold uK edges;rw[cN];show(L.zip (rot L)).map (fun e=>e.1.1)=_
  have:(L.zip (rot L)).map (fun e=>e.1.1)=((L.zip (rot L)).map iN).map (·.1):=by rw[cN];rfl
  rw[this,ii];unfold rot;rw[aq,aJ,az];omega
 rw[<-e,bT,cu] at hn;unfold rowsOf;rw[fM];refine hn.imp fun {a b} hab z hz z' hz'=> ?_
 unfold ur at hz hz';split at hz<;>split at hz'<;>first|(cases hz;done)|(cases hz';done)|(cases hz;cases hz';exact hab)
theorem u7{lot:List Nat}{Lf:Nat ->List Vx}:∀{k:List Nat},k.Nodup ->(∀n∈k,n∈lot) ->j4 x y u v rs Lf k ->(jY lot Lf k).Pairwise fun z z'=>¬(z.1=z'.1 /\ z.2.1=z'.2.1)
 |[],_,_,_=>fH
 |n::k,dk,sub,hL=>by
  obtain⟨d1,d2⟩:=bb.mp dk
  obtain⟨r,hr,lo⟩:=hL n aY
  have ih:=u7 d2 (fun m hm=>sub m (aB _ hm)) (fun m hm=>hL m (aB _ hm))
  unfold jY at ih⊢;rw[bH,cR];refine⟨(zf xu yv nd ins lo.poly).imp fun hz q=>hz q.1,ih,fun z hz z' hz' q=> ?_⟩;obtain⟨n',hn',hz2⟩:=cQ.mp hz'
  obtain⟨r',hr',lo'⟩:=hL n' (aB _ hn')
  obtain⟨m,s,_,_,f,_⟩:=kJ xu yv nd ins (sub n aY) hr lo hz
  obtain⟨m',s',_,_,f',_⟩:=kJ xu yv nd ins (sub n' (aB _ hn')) hr' lo' hz2
  have:=(xm xu yv nd ins f f' q.1 q.2).2
  rw[this] at d1;exact d1 hn'
theorem xg{lot:List Nat}{Lf:Nat ->List Vx}{k:List Nat}(sub:∀n∈k,n∈lot)(hL:j4 x y u v rs Lf k){z:Rw}(hz:z∈jY lot Lf k):∃n m r s,RowF rs lot z n m r s /\ n∈k:=by
 unfold jY at hz;obtain⟨n,hn,h⟩:=cQ.mp hz
 obtain⟨r,hr,lo⟩:=hL n hn
 obtain⟨m,s,_,_,f,_⟩:=kJ xu yv nd ins (sub n hn) hr lo h
 exact⟨n,m,r,s,f,hn⟩
noncomputable def swR(z:Rw):Rw:=(z.2.1,z.1,z.2.2.2,z.2.2.1)
theorem qG{lot lot':List Nat}{Lf Lf':Nat ->List Vx}(hL:j4 x y u v rs Lf lot)(hL':j4 x y u v rs Lf' lot')(part:∀n,n<rs.length ->(n∈lot↔n∉lot')){z:Rw}(hz:z∈jY lot Lf lot):swR z∈jY lot' Lf' lot':=by
 unfold jY at hz⊢;obtain⟨n,hn,h⟩:=cQ.mp hz
 obtain⟨r,hr,lo⟩:=hL n hn
 obtain⟨m,s,a,b,f,he,ez,ha⟩:=kJ xu yv nd ins hn hr lo h
 obtain⟨s',hs',mn,_,_,P⟩:=qR xu yv nd ins hr (pX lo) he ha
 have ml:m∈lot':=Classical.byContradiction fun c=>f.out ((part m (aa.mp f.hm).1).mpr c)
 obtain⟨r',hr',lo'⟩:=hL' m ml
 rw[hs'] at hr';cases hr';obtain⟨a',b',he',e1,e2,e3⟩:=P _ (pX lo')
 refine cQ.mpr ⟨m,ml,dg.mpr ⟨(a'.1,b'.1,a'.2.2),aw.mpr ⟨(a',b'),he',rfl⟩,?_⟩⟩;unfold ur;dsimp only;have nl':n∉lot':=(part n (aa.mp f.hn).1).mp hn
 rw[if_pos ⟨by rw[e3];omega,fun j hj e=>nl' (by rw[e3] at e;rw[show n=j by omega];exact hj)⟩,ez];unfold swR;dsimp only;rw[e1,e2,e3,ha]
theorem u5{lot:List Nat}{Lf:Nat ->List Vx}(hL:j4 x y u v rs Lf lot)(l0:0<lot.length){h:Nat}(hh:h<rs.length)(nh:h∉lot):jY lot Lf lot≠[]:=by
 intro e0;obtain⟨sh,hsh⟩:∃s,rs[h]? =some s:=⟨_,af hh⟩
 obtain⟨k,n,hk,hmin⟩:∃(k:Nat) (n:Nat),lot[k]? =some n /\ ∀j∈lot,sq2 (sh.1,sh.2,1) (rs.getD n (0,0))<=sq2 (sh.1,sh.2,1) (rs.getD j (0,0)):=by
  obtain⟨k,n,hk,hm⟩:=tK (fun n:Nat=> -sq2 (sh.1,sh.2,1) (rs.getD n (0,0))) lot l0
  exact⟨k,n,hk,fun j hj=>by have:=hm j hj;omega⟩
 have hn:=ar hk
 obtain⟨r,hr,lo⟩:=hL n hn
 have er:rs.getD n (0,0)=r:=by rw[aR,hr];rfl
 have zb:jo (lO x y u v) (sh.1,sh.2,1):=(lJ xu yv _).mpr (by have:=ins sh (ar hsh);dsimp only;omega)
 have iz:jo (Lf n) (sh.1,sh.2,1):=fun e he=>by
  have q:=qp lo.poly (a:=e.1) (b:=e.2) he (sh.1,sh.2,1)
  have me:e.1∈Lf n:=(bE he).1
  have le:ex e.1.2.1 (sh.1,sh.2,1)<=0:=by
   rcases lo.nm _ me with⟨b,hb,z⟩|⟨j,hj,s,hs,z⟩
   ·rw[z];exact(uf xu yv hb).2 _ zb
   ·rw[z];have ji:=(mem_othersL.mp hj).2
    have jl:j∈lot:=Classical.byContradiction fun c=>by
     have:(e.1.1,e.2.1,(n:Int),e.1.2.2)∈jY lot Lf lot:=by
      refine cQ.mpr ⟨n,hn,dg.mpr ⟨(e.1.1,e.2.1,e.1.2.2),aw.mpr ⟨e,he,rfl⟩,?_⟩⟩;unfold ur;dsimp only;rw[if_pos ⟨by rw[z];dsimp only;omega,fun i hi g=>c (by rw[z] at g;dsimp only at g;rw[show j=i by omega];exact hi)⟩]
     rw[e0] at this;cases this
    have m:=hmin j jl
    have es:rs.getD j (0,0)=s:=by rw[aR,hs];rfl
    rw[er,es] at m;exact(j7 (nodup_ne nd hr hs ji) dr).1.mpr m
  omega
 have:=((nR nd hr (pX lo) (z:=(sh.1,sh.2,1)) dr).mp iz).2 sh (ar hsh)
 have nr:r≠sh:=nodup_ne nd hr hsh (fun e=>nh (by rw[e];exact hn))
 have l1:=(j7 nr (p:=(sh.1,sh.2,1)) dr).1.mpr this
 have o:=tG nr.symm
 have l2:=(j7 nr.symm (p:=(sh.1,sh.2,1)) dr).2.1.mp o
 omega
end
noncomputable def EB(z z':Rw):Prop:=if z.1=z'.1 then Ahd z.2.1 z'.2.1 else Ahd z.1 z'.1
noncomputable instance(z z':Rw):Decidable (EB z z'):=by unfold EB;infer_instance
noncomputable def Ca(p:V3):Prop:=0<p.2.2 /\ aA (aA p.1 p.2.1) p.2.2=1
noncomputable def uh(z:Rw):Prop:=Ca z.1 /\ Ca z.2.1
theorem Ahd.as{a b:V3}(ha:Ca a)(hb:Ca b)(h:Ahd a b):¬Ahd b a:=fun g=>Ahd.irr a (Ahd.trans ha.1 hb.1 ha.1 h g)
theorem EB.as{a b:Rw}(ha:uh a)(hb:uh b)(h:EB a b):¬EB b a:=by
 unfold EB at*
 by_cases c:a.1=b.1
 ·rw[if_pos c] at h;rw[if_pos c.symm];exact h.as ha.2 hb.2
 ·rw[if_neg c] at h;rw[if_neg (Ne.symm c)];exact h.as ha.1 hb.1
theorem EB.tr{a b c:Rw}(ha:uh a)(hb:uh b)(hc:uh c)(h:EB a b)(g:EB b c):EB a c:=by
 unfold EB at*
 by_cases e1:a.1=b.1
 ·rw[if_pos e1] at h
  by_cases e2:b.1=c.1
  ·rw[if_pos e2] at g;rw[if_pos (e1.trans e2)];exact Ahd.trans ha.2.1 hb.2.1 hc.2.1 h g
  ·rw[if_neg e2] at g;rw[if_neg (by rw[e1];exact e2),e1];exact g
 ·rw[if_neg e1] at h
  by_cases e2:b.1=c.1
  ·rw[if_neg (by rw[<-e2];exact e1), <-e2];exact h
  ·rw[if_neg e2] at g;have t:=Ahd.trans ha.1.1 hb.1.1 hc.1.1 h g
   rw[if_neg (fun e=>by rw[e] at t;exact Ahd.irr _ t)];exact t
theorem EB.tot{a b:Rw}(ha:uh a)(hb:uh b)(h:¬EB a b)(g:¬EB b a):a.1=b.1 /\ a.2.1=b.2.1:=by
 unfold EB at*
 by_cases e:a.1=b.1
 ·rw[if_pos e] at h;rw[if_pos e.symm] at g;exact⟨e,Ahd.total ha.2.1 hb.2.1 ha.2.2 hb.2.2 h g⟩
 ·rw[if_neg e] at h;rw[if_neg (Ne.symm e)] at g;exact absurd (Ahd.total ha.1.1 hb.1.1 ha.1.2 hb.1.2 h g) e
theorem EB.ntr{a b c:Rw}(ha:uh a)(hb:uh b)(hc:uh c)(h:¬EB b a)(g:¬EB c b):¬EB c a:=fun q=>by
 by_cases e:EB a b
 ·exact g (q.tr hc ha hb e)
 ·obtain⟨e1,e2⟩:=EB.tot ha hb e h
  refine g ?_;unfold EB at q⊢;rw[e1,e2] at q;exact q
theorem yi{P Q:V3}(hP:0<P.2.2)(hQ:0<Q.2.2){r s:U2}(h1:sq2 P s=sq2 P r)(h2:sq2 Q s=sq2 Q r)(d:0<dt P Q (r.1,r.2,1))(lt:r.1<s.1∨(r.1=s.1 /\ r.2<s.2)):
  P.2.1*Q.2.2<Q.2.1*P.2.2∨(P.2.1*Q.2.2=Q.2.1*P.2.2 /\ Q.1*P.2.2<P.1*Q.2.2):=by
 obtain⟨p1,p2,pw⟩:=P
 obtain⟨q1,q2,qw⟩:=Q
 obtain⟨x,y⟩:=r
 obtain⟨u,v⟩:=s
 unfold sq2 at h1 h2;unfold dt at d;dsimp only at*;have e1:pw*(2*(u-x)*p1+2*(v-y)*p2-(u*u+v*v-x*x-y*y)*pw)=0:=by grind
 have e2:qw*(2*(u-x)*q1+2*(v-y)*q2-(u*u+v*v-x*x-y*y)*qw)=0:=by grind
 have f1:=(aV.mp e1).resolve_left (by omega)
 have f2:=(aV.mp e2).resolve_left (by omega)
 clear e1 e2 h1 h2;obtain⟨a,ha⟩:∃a,u=x+a:=⟨u-x,by omega⟩
 obtain⟨b,hb⟩:∃b,v=y+b:=⟨v-y,by omega⟩
 subst ha hb;have g1:2*a*p1+2*b*p2=(2*a*x+a*a+2*b*y+b*b)*pw:=by grind
 have g2:2*a*q1+2*b*q2=(2*a*x+a*a+2*b*y+b*b)*qw:=by grind
 clear f1 f2;obtain⟨D1,hD1⟩:∃D,D=q1*pw-p1*qw:=⟨_,rfl⟩
 obtain⟨D2,hD2⟩:∃D,D=q2*pw-p2*qw:=⟨_,rfl⟩
 have on:a*D1+b*D2=0:=by rw[hD1,hD2];grind
 have t1:a*D1= -(b*D2):=by omega
 have t2:b*D2= -(a*D1):=by omega
 have K1:2*a*p1=(2*a*x+a*a+2*b*y+b*b)*pw-2*b*p2:=by omega
 have K2:2*a*q1=(2*a*x+a*a+2*b*y+b*b)*qw-2*b*q2:=by omega
 have K3:2*b*p2=(2*a*x+a*a+2*b*y+b*b)*pw-2*a*p1:=by omega
 have K4:2*b*q2=(2*a*x+a*a+2*b*y+b*b)*qw-2*a*q1:=by omega
 have ed:2*(p1*(q2*1-qw*y)-p2*(q1*1-qw*x)+pw*(q1*y-q2*x))=2*(p1*q2-p2*q1)+2*y*D1-2*x*D2:=by rw[hD1,hD2];grind
 have k1:a*((a+2*x)*D2-(b+2*y)*D1-2*(p1*q2-p2*q1))=0:=by
  calc a*((a+2*x)*D2-(b+2*y)*D1-2*(p1*q2-p2*q1))=(a*(a+2*x))*D2-(b+2*y)*(a*D1)-(2*a*p1)*q2+(2*a*q1)*p2:=by grind
   _=0:=by rw[t1,K1,K2,hD2];grind
 have k2:b*((a+2*x)*D2-(b+2*y)*D1-2*(p1*q2-p2*q1))=0:=by
  calc b*((a+2*x)*D2-(b+2*y)*D1-2*(p1*q2-p2*q1))=(a+2*x)*(b*D2)-(b*(b+2*y))*D1-p1*(2*b*q2)+(2*b*p2)*q1:=by grind
   _=0:=by rw[t2,K3,K4,hD1];grind
 have key:0<a*D2-b*D1:=by
  have z:(a+2*x)*D2-(b+2*y)*D1-2*(p1*q2-p2*q1)=0:=by
   rcases aV.mp k1 with g|g
   ·rcases aV.mp k2 with g'|g'
    ·omega
    ·exact g'
   ·exact g
  have z2:(a+2*x)*D2-(b+2*y)*D1=a*D2-b*D1+2*x*D2-2*y*D1:=by grind
  omega
 clear k1 k2 ed K1 K2 K3 K4 g1 g2 d
 by_cases ca:0<a
 ·left
  have e:a*(a*D2-b*D1)=D2*(a*a+b*b):=by
   calc a*(a*D2-b*D1)=a*a*D2-b*(a*D1):=by grind
    _=_:=by rw[t1];grind
  have p:=be ca key
  rw[e] at p;have sq:0<a*a+b*b:=by
   have h1:=be ca ca
   have h2:0<=b*b:=by
    rcases gU 0 b with g|g
    ·exact cx g g
    ·rw[<-iD];exact cx (by omega) (by omega)
   omega
  have:0<D2:=Int.pos_of_mul_pos_left p sq
  omega
 ·right
  have a0:a=0:=by omega
  subst a0;have b0:0<b:=by omega
  rw[dm,b8] at on;have d2:D2=0:=(aV.mp on).resolve_left (by omega)
  rw[dm] at key;have:D1<0:=Classical.byContradiction fun c=>by
   have:=cx (cA b0) (show 0<=D1 by omega)
   omega
  omega
end MC
section
open PySem L2 MA PyProof.Rows MC
local macro_rules| `(tactic|walk_at "RD")=> `(tactic|simp only[Al,dO,uT,AL,wU,tOp,tUn,rI,rI0,rU,Ak,tC,yZ,sj,AE,wV,uU,ul,uk,AH,tCB,AD,AJ,rEq,rNe,ixF,BU,B0,AF,AG,AM,tOr,tB,wX,uW,BO,tIf,aI,cW,cX,d8,d9,aZ.injEq,V.int.injEq,V.bl.injEq,V.ref.injEq,exists_eq_left',exists_eq_left,exists_eq_right,exists_and_left,exists_and_right,and_true,true_and,and_assoc,cp.injEq,i6,kn,k7,AB,AK,wY,xC,tML,BP,Af,BX,B6,Ax,uy,As,slF,tSl,uS,ny,tyN,BZ,tU,tT,tS,tR,tQ,tP,tO,jH,lS,lT,dh,fN,fO,L2.stLC,frV,aD,bI,cY,cZ,ak,aP,dP,dF,eV,uI,yt,yr,yq,An,if_true,if_false,bR,eh,reduceIte,reduceCtorEq,decide_eq_true_eq,eI,decide_eq_false_iff_not,eq_self,aX,bo,eJ,Nat.reduceAdd,Nat.reduceLT,iX,eo,Int.reduceToNat,Int.reducePow,Int.reduceLE,Int.reduceLT,Int.reduceSub,Int.reduceAdd,Int.reduceMul,Int.reduceNeg,B8,B7,bd2,bd3,bd4,qd,qc,qa,qf,qe,p9,p8,p7,p6,ne_eq,Int.reduceEq,not_false_eq_true,not_true_eq_false,false_or,or_false,false_and,and_false,exists_false,exists_const,wZ,sQ,pj,BN,sU,l8,wW,Au,fI,fI0,fU,uD,uE,Av,fEq,fNe,B4,tDg,tDp,t8,uV,nv,BQ,sS,BS,BR,sR,tE,zQ,BW,sT,mB,pf,nu,qA])
local macro_rules| `(tactic|o_head ⟨$a0⟩)=> `(tactic|simp only[Al,dO,uT,AL,wU,tOp,tUn,rI,rI0,rU,Ak,tC,yZ,sj,AE,wV,uU,ul,uk,AH,tCB,AD,AJ,rEq,rNe,ixF,BU,B0,AF,AG,AM,tOr,tB,wX,uW,BO,tIf,aI,cW,cX,d8,d9,aZ.injEq,V.int.injEq,V.bl.injEq,V.ref.injEq,exists_eq_left',exists_eq_left,exists_eq_right,exists_and_left,exists_and_right,and_true,true_and,and_assoc,cp.injEq,i6,kn,k7,AB,AK,wY,xC,tML,BP,Af,BX,B6,Ax,uy,As,slF,tSl,uS,ny,tyN,BZ,tU,tT,tS,tR,tQ,tP,tO,jH,lS,lT,dh,fN,fO,L2.stLC,frV,aD,bI,cY,cZ,ak,aP,dP,dF,eV,uI,yt,yr,yq,An,if_true,if_false,bR,eh,reduceIte,reduceCtorEq,decide_eq_true_eq,eI,decide_eq_false_iff_not,eq_self,aX,bo,eJ,Nat.reduceAdd,Nat.reduceLT,iX,eo,Int.reduceToNat,Int.reducePow,Int.reduceLE,Int.reduceLT,Int.reduceSub,Int.reduceAdd,Int.reduceMul,Int.reduceNeg,B8,B7,bd2,bd3,bd4,qd,qc,qa,qf,qe,p9,p8,p7,p6,ne_eq,Int.reduceEq,not_false_eq_true,not_true_eq_false,false_or,or_false,false_and,and_false,exists_false,exists_const,wZ,sQ,pj,BN,sU,l8,wW,Au,fI,fI0,fU,uD,uE,Av,fEq,fNe,B4,tDg,tDp,t8,uV,nv,BQ,sS,BS,BR,sR,tE,zQ,BW,sT,mB,pf,nu,qA, $a0:term])
local macro_rules| `(tactic|o_head ⟨$a0, $a1, $a2, $a3⟩)=> `(tactic|simp only[Al,dO,uT,AL,wU,tOp,tUn,rI,rI0,rU,Ak,tC,yZ,sj,AE,wV,uU,ul,uk,AH,tCB,AD,AJ,rEq,rNe,ixF,BU,B0,AF,AG,AM,tOr,tB,wX,uW,BO,tIf,aI,cW,cX,d8,d9,aZ.injEq,V.int.injEq,V.bl.injEq,V.ref.injEq,exists_eq_left',exists_eq_left,exists_eq_right,exists_and_left,exists_and_right,and_true,true_and,and_assoc,cp.injEq,i6,kn,k7,AB,AK,wY,xC,tML,BP,Af,BX,B6,Ax,uy,As,slF,tSl,uS,ny,tyN,BZ,tU,tT,tS,tR,tQ,tP,tO,jH,lS,lT,dh,fN,fO,L2.stLC,frV,aD,bI,cY,cZ,ak,aP,dP,dF,eV,uI,yt,yr,yq,An,if_true,if_false,bR,eh,reduceIte,reduceCtorEq,decide_eq_true_eq,eI,decide_eq_false_iff_not,eq_self,aX,bo,eJ,Nat.reduceAdd,Nat.reduceLT,iX,eo,Int.reduceToNat,Int.reducePow,Int.reduceLE,Int.reduceLT,Int.reduceSub,Int.reduceAdd,Int.reduceMul,Int.reduceNeg,B8,B7,bd2,bd3,bd4,qd,qc,qa,qf,qe,p9,p8,p7,p6,ne_eq,Int.reduceEq,not_false_eq_true,not_true_eq_false,false_or,or_false,false_and,and_false,exists_false,exists_const,wZ,sQ,pj,BN,sU,l8,wW,Au,fI,fI0,fU,uD,uE,Av,fEq,fNe,B4,tDg,tDp,t8,uV,nv,BQ,sS,BS,BR,sR,tE,zQ,BW,sT,mB,pf,nu,qA, $a0:term, $a1:term, $a2:term, $a3:term])
local macro_rules| `(tactic|o_head ⟨$a0, $a1, $a2, $a3, $a4, $a5, $a6, $a7, $a8, $a9, $a10, $a11⟩)=> `(tactic|simp only[Al,dO,uT,AL,wU,tOp,tUn,rI,rI0,rU,Ak,tC,yZ,sj,AE,wV,uU,ul,uk,AH,tCB,AD,AJ,rEq,rNe,ixF,BU,B0,AF,AG,AM,tOr,tB,wX,uW,BO,tIf,aI,cW,cX,d8,d9,aZ.injEq,V.int.injEq,V.bl.injEq,V.ref.injEq,exists_eq_left',exists_eq_left,exists_eq_right,exists_and_left,exists_and_right,and_true,true_and,and_assoc,cp.injEq,i6,kn,k7,AB,AK,wY,xC,tML,BP,Af,BX,B6,Ax,uy,As,slF,tSl,uS,ny,tyN,BZ,tU,tT,tS,tR,tQ,tP,tO,jH,lS,lT,dh,fN,fO,L2.stLC,frV,aD,bI,cY,cZ,ak,aP,dP,dF,eV,uI,yt,yr,yq,An,if_true,if_false,bR,eh,reduceIte,reduceCtorEq,decide_eq_true_eq,eI,decide_eq_false_iff_not,eq_self,aX,bo,eJ,Nat.reduceAdd,Nat.reduceLT,iX,eo,Int.reduceToNat,Int.reducePow,Int.reduceLE,Int.reduceLT,Int.reduceSub,Int.reduceAdd,Int.reduceMul,Int.reduceNeg,B8,B7,bd2,bd3,bd4,qd,qc,qa,qf,qe,p9,p8,p7,p6,ne_eq,Int.reduceEq,not_false_eq_true,not_true_eq_false,false_or,or_false,false_and,and_false,exists_false,exists_const,wZ,sQ,pj,BN,sU,l8,wW,Au,fI,fI0,fU,uD,uE,Av,fEq,fNe,B4,tDg,tDp,t8,uV,nv,BQ,sS,BS,BR,sR,tE,zQ,BW,sT,mB,pf,nu,qA, $a0:term, $a1:term, $a2:term, $a3:term, $a4:term, $a5:term, $a6:term, $a7:term, $a8:term, $a9:term, $a10:term, $a11:term])
local macro_rules| `(tactic|walk_at "ST")=> `(tactic|simp only[L2.start,aD,bI,aX,bo,Nat.reduceAdd,Nat.reduceSub,cY,cZ,ak,aP,aI])
local macro_rules| `(tactic|walk_at "CM")=> `(tactic|(first|exact CMulA.left (by decide) (by decide)|exact CMulA.right (by decide) (by decide)|(apply CMulA.of;(repeat(first|assumption|apply Bd.mul|apply Bd.sub|apply Bd.add|apply Bd.neg|apply Bd.sq));all_goals decide)))
set_option maxHeartbeats 0
namespace LW
open PySem L2 MA PyProof.Rows
theorem Ci{A:Around}{k:Nat}(hr:Room k A):A.units+65<cLine:=by have:=hr.un;omega
theorem Cj{A:Around}{k:Nat}(hr:Room k A):A.units+64<cLine:=hr.units
structure Cz where
 edge_before:Addr
 lc_by_place:Addr
 lp_by_place:Addr
structure Txt(K:ah)(mg:Str ->Option Value)(C:Cz):Prop where
 b_abs:mg "abs"=none
 b_enumerate:mg "enumerate"=none
 b_int:mg "int"=none
 b_len:mg "len"=none
 b_list:mg "list"=none
 b_max:mg "max"=none
 b_min:mg "min"=none
 b_range:mg "range"=none
 b_set:mg "set"=none
 b_sorted:mg "sorted"=none
 b_zip:mg "zip"=none
 g_edge_before:mg "edge_before"=some (.ref C.edge_before)
 n_MOST_SPOTS:∃t,mg "MOST_SPOTS"=some (.int 12 t)
end LW
namespace LW
open PySem L2 MA PyProof.Rows MC
noncomputable def kh:Sp:=fun vs H Q _=>∃a b:Int,vs=[.int a,.int b] /\ Q (.int (aA a b:Int)) H
noncomputable def pE:Sp:=fun vs H Q _=>∃n:Int,vs=[.int n] /\ Q (.int (sgn n)) H
noncomputable abbrev P3:=Int×Int×Int
noncomputable def CsAt(H:Hp)(qs:List Addr)(cs:List P3):Prop:=qs.length=cs.length /\ ∀(i:Nat) (q:Addr) (z:P3),qs[i]? =some q ->cs[i]? =some z ->H q=some (.tup [.int z.1,.int z.2.1,.int z.2.2])
theorem CsAt.ext{H H':Hp}{qs:List Addr}{rs:List P3}(h:CsAt H qs rs)(x:Ext H H'):CsAt H' qs rs:=⟨h.1,fun i q z a b=>x _ _ (h.2 i q z a b)⟩
theorem CsAt.at{H:Hp}{qs:List Addr}{rs:List P3}(h:CsAt H qs rs){i:Nat}{q:Addr}(hq:qs[i]? =some q):∃r,rs[i]? =some r /\ H q=some (.tup [.int r.1,.int r.2.1,.int r.2.2]):=by
 have li:=(aa.mp hq).1
 have e:=af (l:=rs) (i:=i) (by rw[<-h.1];exact li)
 exact⟨_,e,h.2 i q _ hq e⟩
theorem CsAt.snoc{H:Hp}{qs:List Addr}{R:List P3}(h:CsAt H qs R){q:Addr}{v:P3}(h2:H q=some (.tup [.int v.1,.int v.2.1,.int v.2.2])):CsAt H (qs++[q]) (R++[v]):=by
 refine⟨by rw[aq,aq,h.1];rfl,fun i t' v' a b=> ?_⟩
 by_cases hi:i<qs.length
 ·rw[aQ hi] at a;rw[aQ (by rw[<-h.1];exact hi)] at b;exact h.2 i t' v' a b
 ·rw[aH (by omega)] at a;rw[aH (by rw[<-h.1];omega), <-h.1] at b;have:i-qs.length=0:=by
   have:=(aa.mp a).1
   simp only[aX,bo] at this;omega
  rw[this] at a b;cases a;cases b;exact h2
theorem CsAt.setL{H:Hp}{qs:List Addr}{R:List P3}{L:Addr}{xs ys:List V}(h:CsAt H qs R)(hL:H L=some (.lst xs)):CsAt (upd H L (.lst ys)) qs R:=⟨h.1,fun i t v a b=>by
 have h1:=h.2 i t v a b
 exact(i7 (lA h1 hL (by intro z;cases z))).trans h1⟩
structure NewF(H:Hp)(f c e:Addr):Prop where
 nf:H f=none
 nc:H c=none
 ne:H e=none
 ce:c≠e
theorem jz{qs:List Addr}{i:Nat}{v:V}(h:(qs.map V.ref)[i]? =some v):∃q,qs[i]? =some q /\ v= .ref q:=by
 rw[aC] at h;cases e:qs[i]? with
 |none=>rw[e] at h;cases h
 |some q=>rw[e] at h;exact⟨q,rfl,(aZ.inj h).symm⟩
theorem Ext.none{H H':Hp}{b:Addr}(f:Ext H H')(h:H' b=none):H b=none:=by
 cases q:H b with
 |none=>rfl
 |some o=>
  rw[f b o q] at h;cases h
structure FldAt(H:Hp)(f c e:Addr)(qs:List Addr)(l:List Vx):Prop where
 at_:H f=some (.tup [.ref c,.ref e])
 cs:H c=some (.lst (qs.map V.ref))
 pt:CsAt H qs (l.map (·.1))
 es:H e=some (.lst ((l.map (·.2.2)).map V.int))
theorem FldAt.ext{H H':Hp}{f c e:Addr}{qs:List Addr}{l:List Vx}(h:FldAt H f c e qs l)(x:Ext H H'):FldAt H' f c e qs l:=⟨x _ _ h.at_,x _ _ h.cs,h.pt.ext x,x _ _ h.es⟩
noncomputable def RwAt(H:Hp)(ts:List Addr)(R:List Vx):Prop:=ts.length=R.length /\ ∀(i:Nat) (t:Addr) (v:Vx),ts[i]? =some t ->R[i]? =some v -> ∃q,H t=some (.tup [.ref q,.int v.2.2]) /\ H q=some (.tup [.int v.1.1,.int v.1.2.1,.int v.1.2.2])
theorem RwAt.ext{H H':Hp}{ts:List Addr}{R:List Vx}(h:RwAt H ts R)(x:Ext H H'):RwAt H' ts R:=⟨h.1,fun i t v a b=>by
 obtain⟨q,h1,h2⟩:=h.2 i t v a b
 exact⟨q,x _ _ h1,x _ _ h2⟩⟩
theorem RwAt.snoc{H:Hp}{ts:List Addr}{R:List Vx}(h:RwAt H ts R){t q:Addr}{v:Vx}(h1:H t=some (.tup [.ref q,.int v.2.2]))(h2:H q=some (.tup [.int v.1.1,.int v.1.2.1,.int v.1.2.2])):RwAt H (ts++[t]) (R++[v]):=by
 refine⟨by rw[aq,aq,h.1];rfl,fun i t' v' a b=> ?_⟩
 by_cases hi:i<ts.length
 ·rw[aQ hi] at a;rw[aQ (by rw[<-h.1];exact hi)] at b;exact h.2 i t' v' a b
 ·rw[aH (by omega)] at a;rw[aH (by rw[<-h.1];omega), <-h.1] at b;have:i-ts.length=0:=by
   have:=(aa.mp a).1
   simp only[aX,bo] at this;omega
  rw[this] at a b;cases a;cases b;exact⟨q,h1,h2⟩
theorem m8(xs:List V)(k:Nat):ua xs (some (k:Int)) none=xs.drop k:=by
 unfold ua;rw[HT.sIx_nat,HT.sIx_none,cc (by rw[aJ];omega)]
 by_cases h:k<=xs.length
 ·rw[iE h]
 ·rw[ij (by omega),ik,fX (by omega)]
theorem n5(xs:List V)(k:Nat):ua xs none (some (k:Int))=xs.take k:=by
 unfold ua;rw[HT.sIx_nat,HT.sIx_none,dF,Nat.sub_zero]
 by_cases h:k<=xs.length
 ·rw[iE h]
 ·rw[ij (by omega),bD,cc (by omega)]
theorem getElem?_rot{α:Type}{l:List α}{k i:Nat}(hk:k<=l.length):(l.drop k++l.take k)[i]? =if i<l.length-k then l[k+i]? else if i<l.length then l[i-(l.length-k)]? else none:=by
 by_cases h:i<l.length-k
 ·rw[if_pos h,aQ (by rw[aJ];exact h),cI]
 ·rw[if_neg h,aH (by rw[aJ];omega),aJ]
  by_cases h2:i<l.length
  ·rw[if_pos h2,bu (by omega)]
  ·rw[if_neg h2,ck (by rw[az];omega)]
theorem RwAt.rotk{H:Hp}{qs:List Addr}{rs:List Vx}(h:RwAt H qs rs){k:Nat}(hk:k<=qs.length):RwAt H (MC.rotk k qs) (MC.rotk k rs):=by
 unfold MC.rotk;refine⟨by simp only[aq,aJ,az,h.1],fun i q z h1 h2=> ?_⟩;rw[getElem?_rot hk] at h1;rw[getElem?_rot (by rw[<-h.1];exact hk), <-h.1] at h2;split at h1
 ·rename_i hi
  rw[if_pos hi] at h2;exact h.2 _ q z h1 h2
 ·rename_i hi
  rw[if_neg hi] at h2;split at h1
  ·rename_i hi2
   rw[if_pos hi2] at h2;exact h.2 _ q z h1 h2
  ·cases h1
theorem xn{α β:Type}(f:α ->β)(k:Nat)(l:List α):(rotk k l).map f=rotk k (l.map f):=by
 unfold MC.rotk;rw[au,cV,cE]
theorem xo{α:Type}(k:Nat)(l:List α):(rotk k l).length=l.length:=by
 unfold MC.rotk;rw[aq,aJ,az];omega
theorem vo{α:Type}{k:Nat}{l:List α}(h:k<l.length):(rotk k l).head?=l[k]? :=by
 unfold MC.rotk;rw[bU h,af h];rfl
noncomputable abbrev P2:=Int×Int
noncomputable def R2At(H:Hp)(qs:List Addr)(rs:List P2):Prop:=qs.length=rs.length /\ ∀(i:Nat) (q:Addr) (z:P2),qs[i]? =some q ->rs[i]? =some z ->H q=some (.tup [.int z.1,.int z.2])
theorem R2At.ext{H H':Hp}{qs:List Addr}{rs:List P2}(h:R2At H qs rs)(x:Ext H H'):R2At H' qs rs:=⟨h.1,fun i q z a b=>x _ _ (h.2 i q z a b)⟩
theorem R2At.at{H:Hp}{qs:List Addr}{rs:List P2}(h:R2At H qs rs){i:Nat}{q:Addr}(hq:qs[i]? =some q):∃r,rs[i]? =some r /\ H q=some (.tup [.int r.1,.int r.2]):=by
 have li:=(aa.mp hq).1
 have e:=af (l:=rs) (i:=i) (by rw[<-h.1];exact li)
 exact⟨_,e,h.2 i q _ hq e⟩
structure SpOk(H:Hp)(b l:Addr)(x y u v:Int)(qs:List Addr)(rs:List P2):Prop where
 bx:H b=some (.tup [.int x,.int y,.int u,.int v])
 sp:H l=some (.lst (qs.map V.ref))
 at_:R2At H qs rs
 xu:x<u
 yv:y<v
 ins:∀r∈rs,x<=r.1 /\ r.1<=u /\ y<=r.2 /\ r.2<=v
 nd:rs.Nodup
 n0:0<rs.length
 n12:rs.length<=12
 sz:(-(4*10^30)<=x /\ u<=4*10^30) /\ (-(4*10^30)<=y /\ v<=4*10^30)
theorem SpOk.ext{H H':Hp}{b l:Addr}{x y u v:Int}{qs:List Addr}{rs:List P2}(h:SpOk H b l x y u v qs rs)(e:Ext H H'):SpOk H' b l x y u v qs rs:=
 ⟨e _ _ h.bx,e _ _ h.sp,h.at_.ext e,h.xu,h.yv,h.ins,h.nd,h.n0,h.n12,h.sz⟩
theorem ug{n:Int}(h1: -(4*10^30)<=n)(h2:n<=4*10^30)(m:Nat)(hm:110<=m:=by decide):Bd m n:=Bd.mono (m:=110) (Bd.of_le (4*10^30) h1 h2 (by decide)) hm
theorem SpOk.b2{H:Hp}{b l:Addr}{x y u v:Int}{qs:List Addr}{rs:List P2}(h:SpOk H b l x y u v qs rs){r:P2}(hr:r∈rs):B2 200 r:=by
 have:=h.ins r hr
 have z:=h.sz
 exact⟨ug (by omega) (by omega) 200,ug (by omega) (by omega) 200⟩
noncomputable def t2d(r:P2):PyData:= .tuple [.int r.1,.int r.2]
theorem tu{K:ah}{H:Hp}:∀{qs:List Addr} {rs:List P2},R2At H qs rs ->RdyAll K H (qs.map V.ref) (rs.map t2d)
 |[],[],_=> .nil
 |[],_::_,h=>by simp[R2At] at h
 |_::_,[],h=>by simp[R2At] at h
 |p::ps,c::cs,h=> .cons (oE (h.2 0 p c rfl rfl)) (tu ⟨by simpa using h.1,fun i q z h1 h2=>h.2 (i+1) q z h1 h2⟩)
theorem R2At.take{H:Hp}{qs:List Addr}{rs:List P2}(h:R2At H qs rs)(k:Nat):R2At H (qs.take k) (rs.take k):=by
 refine⟨by rw[az,az,h.1],fun i q z h1 h2=> ?_⟩
 by_cases hi:i<k
 ·rw[bu hi] at h1 h2;exact h.2 i q z h1 h2
 ·rw[ck (by rw[az];omega)] at h1;cases h1
theorem yK:∀rs:List P2,PyData.canLayAll0 (rs.map t2d)=true /\ PyData.depthAll (rs.map t2d)<=1
 |[]=>⟨rfl,by simp[PyData.depthAll]⟩
 |c::cs=>by
  obtain⟨a,b⟩:=yK cs
  constructor
  ·simp[t2d,PyData.canLayAll0,PyData.canLay0];exact a
  ·simp[t2d,PyData.depthAll,PyData.depth] at b⊢;omega
theorem nI(rs:List P2):SeqAt.shaped (.list (rs.map t2d))=true:=by
 obtain⟨a,b⟩:=yK rs
 unfold SeqAt.shaped;rw[cK,decide_eq_true_eq];exact⟨by simp[PyData.canLay0,a],by simp[PyData.depth];omega⟩
theorem nH(r:P2):SeqAt.shaped (t2d r)=true:=by
 simp[t2d,SeqAt.shaped,PyData.canLay0,PyData.canLayAll0,PyData.depth,PyData.depthAll]
theorem l6(a b:P2):SeqAt.noMix (t2d a) (t2d b)=true:=by
 simp[t2d,SeqAt.noMix,SeqAt.noMixAll]
theorem oG{rs:List P2}(hn:rs.Nodup){i:Nat}{r:P2}(hi:rs[i]? =some r):decide (Spec.countIn (t2d r) ((rs.take i).map t2d)≠0)=false:=by
 rw[<-any_eqv_countIn _ _ (fun y hy=>by obtain⟨z,_,rfl⟩:=aw.mp hy;exact l6 z r)];rw[fE];intro y hy;obtain⟨z,hz,rfl⟩:=aw.mp hy
 show¬PyData.eqv (.tuple [.int z.1,.int z.2]) (.tuple [.int r.1,.int r.2])=true
 rw[tZ,decide_eq_true_eq];rintro⟨e1,e2⟩;have ez:z=r:=b9 e1 e2
 subst ez;obtain⟨j,hj⟩:=bF hz
 have lj:=(aa.mp hj).1
 rw[az] at lj;rw[bu (by omega)] at hj;obtain⟨h1,e1⟩:=aa.mp hi
 obtain⟨h2,e2⟩:=aa.mp hj
 have:=(cJ (h₀:=h1) (h₁:=h2) hn).mp (e1.trans e2.symm)
 omega
noncomputable def kN:Sp:=fun vs H Q _=>∃x y w:Int,vs=[.int x,.int y,.int w] /\ w≠0 /\ Bd 8000 w /\
 ∀p a b c,H p=none ->IsPt x y w a b c ->Q (.ref p) (upd H p (.tup [.int a,.int b,.int c]))
noncomputable def kb:Sp:=fun vs H Q _=>∃(p:Addr) (a b:Int),vs=[.ref p] /\ H p=some (.tup [.int a,.int b]) /\ ∀t,H t=none ->Q (.ref t) (upd H t (.tup [.int a,.int b,.int 1]))
noncomputable def oS(a b c d e f:Int):Bool:=if¬(a*f-d*c=0) then decide (a*f-d*c<0) else decide (b*f<e*c)
noncomputable def lF:Sp:=fun vs H Q _=>∃(p q:Addr),vs=[.ref p,.ref q] /\ kH (yW (H p)) fun x=>kH (yW (H q)) fun y=>B3 2000 x /\ B3 2000 y /\ Q (.bl (oS x.1 x.2.1 x.2.2 y.1 y.2.1 y.2.2)) H
noncomputable def lD:Sp:=fun vs H Q _=>∃a b c:Int,vs=[.int a,.int b,.int c] /\ ¬(a=0 /\ b=0) /\ (Bd 4000 a /\ Bd 4000 b /\ Bd 4000 c) /\
 ∀p x y z,H p=none ->IsLn a b c x y z ->Q (.ref p) (upd H p (.tup [.int x,.int y,.int z]))
noncomputable def BM(x y:Int×Int)(H:Hp)(Q:VK):Prop:=¬x=y /\ ∀t,H t=none ->Q (.ref t) (upd H t (.tup [.int (lnB x y).1,.int (lnB x y).2.1,.int (lnB x y).2.2]))
noncomputable def lE:Sp:=fun vs H Q _=>∃(p q:Addr),vs=[.ref p,.ref q] /\ kH (AA (H p)) fun x=>kH (AA (H q)) fun y=>B2 400 x /\ B2 400 y /\ BM x y H Q
noncomputable def C0(x y:Int×Int×Int):Int:=x.1*y.1+x.2.1*y.2.1-x.2.2*y.2.2
noncomputable def lZ:Sp:=fun vs H Q _=>∃(p q:Addr),vs=[.ref p,.ref q] /\ kH (yW (H p)) fun x=>kH (yW (H q)) fun y=>B3 2000 x /\ B3 2000 y /\ Q (.int (C0 x y)) H
noncomputable def jT:Sp:=fun vs H Q _=>∃(p:Addr) (x y u v:Int),vs=[.ref p] /\ H p=some (.tup [.int x,.int y,.int u,.int v]) /\ x<u /\ y<v /\ Q .non H
noncomputable def sg(x y u v:Int)(z:P3):Bool:=decide (x*z.2.2<=z.1 /\ z.1<=u*z.2.2 /\ y*z.2.2<=z.2.1 /\ z.2.1<=v*z.2.2)
noncomputable def kZ:Sp:=fun vs H Q _=>∃(p q:Addr) (x y u v:Int) (z:P3),vs=[.ref p,.ref q] /\ H p=some (.tup [.int x,.int y,.int u,.int v]) /\ H q=some (.tup [.int z.1,.int z.2.1,.int z.2.2]) /\ (Bd 2000 x /\ Bd 2000 y /\ Bd 2000 u /\ Bd 2000 v) /\ Bd 2000 z.2.2 /\ Q (.bl (sg x y u v z)) H
noncomputable def lY:Sp:=fun vs H Q _=>∃(p q:Addr) (x y u v a b:Int),vs=[.ref p,.ref q] /\ H p=some (.tup [.int x,.int y,.int u,.int v]) /\ H q=some (.tup [.int a,.int b]) /\ (Bd 2000 x /\ Bd 2000 y /\ Bd 2000 u /\ Bd 2000 v) /\ (x<=a /\ a<=u /\ y<=b /\ b<=v) /\ ∀H',Ext H H' ->Q (.bl true) H'
noncomputable def jM:Sp:=fun vs H Q _=>∃(l:Addr) (xs:List V),vs=[.ref l] /\ H l=some (.lst xs) /\ 0<xs.length /\ xs.length<=12 /\ Q .non H
structure LpOk(H:Hp)(l:Addr)(qs:List Addr)(rs:List P2):Prop where
 sp:H l=some (.lst (qs.map V.ref))
 at_:R2At H qs rs
 nd:rs.Nodup
 n0:0<rs.length
 n12:rs.length<=12
 sz:∀r∈rs,Bd 200 r.1 /\ Bd 200 r.2
theorem LpOk.ext{H H':Hp}{l:Addr}{qs:List Addr}{rs:List P2}(h:LpOk H l qs rs)(e:Ext H H'):LpOk H' l qs rs:=⟨e _ _ h.sp,h.at_.ext e,h.nd,h.n0,h.n12,h.sz⟩
theorem SpOk.lp{H:Hp}{b l:Addr}{x y u v:Int}{qs:List Addr}{rs:List P2}(h:SpOk H b l x y u v qs rs):LpOk H l qs rs:=⟨h.sp,h.at_,h.nd,h.n0,h.n12,fun r hr=>h.b2 hr⟩
noncomputable def w6(K:ah):Sp:=fun vs H Q _=>∃(l:Addr) (qs:List Addr) (rs:List P2),vs=[.ref l] /\ LpOk H l qs rs /\ ∀H',Ext H H' ->Q .non H'
noncomputable def sX(K:ah):Sp:=fun vs H Q _=>∃(b l:Addr) (x y u v:Int) (qs:List Addr) (rs:List P2),vs=[.ref b,.ref l] /\ SpOk H b l x y u v qs rs /\ ∀H',Ext H H' ->Q .non H'
noncomputable def JsV(js:List Nat):List V:=js.map fun j:Nat=>V.int (j:Int)
theorem wF{js:List Nat}{k:Nat}{w:V}(hk:(JsV js)[k]? =some w):∃j:Nat,js[k]? =some j /\ w= .int (j:Int):=by
 unfold JsV at hk;rw[aC] at hk;cases e:js[k]? with
 |none=>rw[e] at hk;cases hk
 |some q=>rw[e] at hk;exact⟨q,rfl,(aZ.inj hk).symm⟩
noncomputable def nB:Sp:=fun vs H Q _=>∃(l:Addr) (i:Nat) (xs:List V),vs=[.ref l,.int (i:Int)] /\ H l=some (.lst xs) /\ xs.length<=1000 /\ ∀D H',Ext H H' ->H D=none ->H' D=some (.lst (JsV (jD xs.length i))) ->Q (.ref D) H'
noncomputable def del(H:Hp)(D:Addr):Hp:=fun b=>if b=D then none else H b
theorem oM{H:Hp}{D a:Addr}(h:a≠D):del H D a=H a:=if_neg h
theorem mF(H:Hp)(D:Addr):Ext (del H D) H:=fun b o h=>by
 unfold del at h;split at h
 ·cases h
 ·exact h
theorem wg{H:Hp}{D a:Addr}{xs ys:List V}(h:H a=some (.tup xs))(hD:H D=some (.lst ys)):del H D a=some (.tup xs):=(oM (lA h hD (by intro z;cases z))).trans h
theorem sL(js:List Nat):JsV js=(js.map fun j:Nat=>(j:Int)).map V.int:=by
 unfold JsV;rw[cN];rfl
theorem oh(js:List Nat):(JsV js).length=js.length:=by
 unfold JsV;rw[ae]
theorem xY{js:List Nat}(h:js.Nodup):(js.map fun j:Nat=>(j:Int)).Nodup:=List.Pairwise.map _ (fun a b n e=>n (by omega)) h
theorem SqL.js{K:ah}{H:Hp}{t:Addr}{js:List Nat}(h:H t=some (.lst (JsV js))):SqL K H t ((js.map fun j:Nat=>(j:Int)).map V.int):=by
 rw[<-sL];exact SqL.of h
noncomputable def nA(K:ah):Sp:=fun vs H Q _=>∃(l t:Addr) (xs:List V) (lot:List Nat),vs=[.ref l,.ref t] /\ H l=some (.lst xs) /\ H t=some (.lst (JsV lot)) /\ lot.Nodup /\ 0<lot.length /\ lot.length<=900 /\ (∀j∈lot,j<xs.length) /\ ∀H',Ext H H' ->Q (.bl true) H'
noncomputable def wOf(rs:List P2)(i:Nat):List Int:=[(rs.getD i (0,0)).1,(rs.getD i (0,0)).2]
noncomputable def PlQ(rs:List P2)(q:List Nat):Prop:=q.Perm (bg rs.length) /\ q.Pairwise fun a b=>HT.lexLt (wOf rs b) (wOf rs a)=false
noncomputable def rS(q:List Nat):List V:=(q.map fun i:Nat=>(i:Int)).map V.int
theorem n8{n i:Nat}(h:i<n):atV ((bg n).map fun j:Nat=>V.int (j:Int)) i= .int (i:Int):=by
 have e:=n9 (xs:=(bg n).map fun j:Nat=>V.int (j:Int)) (i:=i) (by simpa using h)
 rw[aC,fe h] at e;exact(aZ.inj e).symm
noncomputable def mU(K:ah)(C:Cz):Sp:=fun vs H Q _=>∃(l:Addr) (qs:List Addr) (rs:List P2),vs=[.ref l] /\ H l=some (.lst (qs.map V.ref)) /\ R2At H qs rs /\ rs.length<=12 /\ H C.lp_by_place=some (.tbl tg_by_place) /\
 ∀t H' q,Ext H H' ->H t=none ->PlQ rs q ->H' t=some (.lst (rS q)) ->Q (.ref t) H'
noncomputable def kA:Sp:=fun vs H Q _=>∃(p:Addr) (x y u v:Int),vs=[.ref p] /\ H p=some (.tup [.int x,.int y,.int u,.int v]) /\ x<u /\ y<v /\ ∀f c e qs H',Ext H H' ->NewF H f c e ->FldAt H' f c e qs (lO x y u v) ->Q (.ref f) H'
noncomputable def kP:Sp:=fun vs H Q _=>∃(p q:Addr) (h t:Int) (a b:P3),vs=[.ref p,.ref q,.int h,.int t] /\ H p=some (.tup [.int a.1,.int a.2.1,.int a.2.2]) /\ H q=some (.tup [.int b.1,.int b.2.1,.int b.2.2]) /\ B3 601 a /\ B3 601 b /\ Bd 3000 h /\ Bd 3000 t /\ a.2.2*t-b.2.2*h≠0 /\ ∀r,H r=none ->Q (.ref r) (upd H r (.tup [.int (jk a b h t).1,.int (jk a b h t).2.1,.int (jk a b h t).2.2]))
theorem wb{l:List Vx}{i:Nat}{a b:Vx}(ha:l[i]? =some a)(hb:l[(i+1)%l.length]? =some b):(edges l)[i]? =some (a,b):=by
 have li:=(aa.mp ha).1
 unfold edges;rw[cg];refine⟨ha,?_⟩;unfold MC.rot
 by_cases h:i+1<l.length
 ·rw[Nat.mod_eq_of_lt h] at hb;rw[aQ (by rw[aJ];omega),cI,gS];exact hb
 ·have e:i+1=l.length:=by omega
  rw[e,Nat.mod_self] at hb;rw[aH (by rw[aJ];omega),aJ,show i-(l.length-1)=0 by omega,bu (by decide)];exact hb
theorem Bz{m v:P3}(h1:B3 300 m)(h2:B3 601 v):Bd 3000 (ex m v):=(((h1.1.mul h2.1).add (h1.2.1.mul h2.2.1)).sub (h1.2.2.mul h2.2.2)).mono (by decide)
theorem yg(m:P3)(num:Int)(e:Vx×Vx):(emit m num e).length<=2:=by
 unfold emit;rw[aq];have h1:(if ex m e.1.1<0∨(ex m e.1.1=0 /\ ex m e.2.1<=0) then[e.1] else if ex m e.1.1=0 then[(e.1.1,m,num)] else[]).length<=1:=by
  split
  ·simp
  ·split<;>simp
 have h2:(if ex m e.1.1<0 /\ 0<ex m e.2.1 then[(jk e.1.1 e.2.1 (ex m e.1.1) (ex m e.2.1),m,num)] else if 0<ex m e.1.1 /\ ex m e.2.1<0 then[(jk e.1.1 e.2.1 (ex m e.1.1) (ex m e.2.1),e.1.2)] else[]).length<=1:=by
  split
  ·simp
  ·split<;>simp
 omega
theorem t7(m:P3)(num:Int):∀es:List (Vx×Vx),(es.flatMap (emit m num)).length<=2*es.length
 |[]=>av _
 |e::es=>by
  have h1:=yg m num e
  have h2:=t7 m num es
  rw[bH,aq,aX];omega
theorem yh(m:P3)(num:Int)(l:List Vx)(i:Nat)(h:l.length<=30):(((edges l).take i).flatMap (emit m num)).length<=60:=by
 have h1:=t7 m num ((edges l).take i)
 rw[az,lB] at h1;omega
theorem RwAt.setL{H:Hp}{ts:List Addr}{R:List Vx}{L:Addr}{xs ys:List V}(h:RwAt H ts R)(hL:H L=some (.lst xs)):RwAt (upd H L (.lst ys)) ts R:=⟨h.1,fun i t v a b=>by
 obtain⟨q,h1,h2⟩:=h.2 i t v a b
 exact⟨q,(i7 (lA h1 hL (by intro z;cases z))).trans h1,(i7 (lA h2 hL (by intro z;cases z))).trans h2⟩⟩
theorem vm{H H5:Hp}{L p q:Addr}{ts:List Addr}{R:List Vx}{v:Vx}(hL:H L=none)(eL:H5 L=some (.lst (ts.map V.ref)))(x:Ext H H5)(r:RwAt H5 ts R)(hp:H5 p=none)(hq:H5 q=some (.tup [.int v.1.1,.int v.1.2.1,.int v.1.2.2])):
  upd H5 p (.tup [.ref q,.int v.2.2]) L=some (.lst (ts.map V.ref)) /\ RwAt (upd (upd H5 p (.tup [.ref q,.int v.2.2])) L (.lst (ts.map V.ref++[.ref p]))) (ts++[p]) (R++[v]) /\ Ext H (upd (upd H5 p (.tup [.ref q,.int v.2.2])) L (.lst (ts.map V.ref++[.ref p]))):=by
 have e:=ju (o:= .tup [.ref q,.int v.2.2]) hp eL
 refine⟨e,?_,(x.then hp).set hL⟩;exact((r.ext (Ext.upd hp)).snoc iX (ju hp hq)).setL e
theorem pZ(ts:List Addr)(p:Addr):ts.map V.ref++[.ref p]=(ts++[p]).map V.ref:=by simp
noncomputable def rD(K:ah):Sp:=fun vs H Q _=>∃(c e x:Addr) (num:Int) (qs:List Addr) (l:List Vx) (m:P3),vs=[.ref c,.ref e,.ref x,.int num] /\ H c=some (.lst (qs.map V.ref)) /\ CsAt H qs (l.map (·.1)) /\ H e=some (.lst ((l.map (·.2.2)).map V.int)) /\ H x=some (.lst ((l.map fun v=>ex m v.1).map V.int)) /\ (∀v∈l,0<v.1.2.2 /\ B3 601 v.1) /\ B3 300 m /\ 0<l.length /\ l.length<=30 /\ ∀t ts H',Ext H H' ->H t=none ->H' t=some (.lst (ts.map V.ref)) ->RwAt H' ts (jB m num l) ->Q (.ref t) H'
theorem wC(a b:P3):oS a.1 a.2.1 a.2.2 b.1 b.2.1 b.2.2=decide (Ahd a b):=by
 unfold oS Ahd;split
 ·rename_i h
  exact decide_eq_decide.mpr (by omega)
 ·rename_i h
  exact decide_eq_decide.mpr (by omega)
noncomputable def kO(K:ah):Sp:=fun vs H Q _=>∃(t:Addr) (ts:List Addr) (R:List Vx),vs=[.ref t] /\ H t=some (.lst (ts.map V.ref)) /\ RwAt H ts R /\ (∀v∈R,0<v.1.2.2 /\ B3 601 v.1) /\ 0<R.length /\ R.length<=60 /\ ∀f c e qs l' H',Ext H H' ->NewF H f c e ->FldAt H' f c e qs l' ->Rot R l' ->(∀v∈R,∀u∈l'.head?,¬Ahd v.1 u.1) ->Q (.ref f) H'
noncomputable def sW(K:ah):Sp:=fun vs H Q _=>∃(f ln:Addr) (num:Int) (c e:Addr) (qs:List Addr) (l:List Vx) (m:P3),vs=[.ref f,.ref ln,.int num] /\ FldAt H f c e qs l /\ H ln=some (.tup [.int m.1,.int m.2.1,.int m.2.2]) /\ Poly l /\ LnB 300 l /\ B3 300 m /\ l.length<=30 /\
 (∀H',Ext H H' ->(∀v∈l,0<=ex m v.1) ->(∃v∈l,0<ex m v.1) ->Q .non H') /\
 (∀f' c' e' qs' H',Ext H H' ->NewF H f' c' e' ->FldAt H' f' c' e' qs' l ->(∀v∈l,ex m v.1<=0) ->Q (.ref f') H') /\
 (∀f' c' e' qs' l' H',Ext H H' ->NewF H f' c' e' ->FldAt H' f' c' e' qs' l' ->(∃v∈l,0<ex m v.1) ->(∃v∈l,ex m v.1<0) ->Rot (jB m num l) l' ->(∀v∈jB m num l,∀u∈l'.head?,¬Ahd v.1 u.1) ->Q (.ref f') H')
noncomputable def mC(K:ah):Sp:=fun vs H Q _=>∃(f o c e:Addr) (ps:List Addr) (L:List Vx) (ts:List Addr) (cs:List Vx) (P:Nat ->List Vx ->Prop) (NN:Prop),vs=[.ref f,.ref o] /\ FldAt H f c e ps L /\ H o=some (.lst (ts.map V.ref)) /\ RwAt H ts cs /\ P 0 L /\
 (∀k w L',cs[k]? =some w ->P k L' ->Poly L' /\ LnB 300 L' /\ B3 300 w.1 /\ L'.length<=30 /\ ((∀v∈L',ex w.1 v.1<=0) ->P (k+1) L') /\ (∀l',(∃v∈L',0<ex w.1 v.1) ->(∃v∈L',ex w.1 v.1<0) ->Rot (jB w.1 w.2.2 L') l' ->(∀v∈jB w.1 w.2.2 L',∀u∈l'.head?,¬Ahd v.1 u.1) ->P (k+1) l') /\ ((∀v∈L',0<=ex w.1 v.1) ->(∃v∈L',0<ex w.1 v.1) ->NN)) /\
 (NN -> ∀H',Ext H H' ->Q .non H') /\ ∀f' c' e' ps' L' H',Ext H H' ->(NewF H f' c' e'∨(cs.length=0 /\ f'=f /\ c'=c /\ e'=e)) ->FldAt H' f' c' e' ps' L' ->P cs.length L' ->Q (.ref f') H'
noncomputable def BL(rs:List P2)(r:P2)(j:Nat):Vx:=(lnB r (rs.getD j (0,0)),lnB r (rs.getD j (0,0)),(j:Int))
theorem sJ{rs:List P2}{r s:P2}{j:Nat}(h:rs[j]? =some s):BL rs r j=(lnB r s,lnB r s,(j:Int)):=by
 unfold BL;rw[aR,h];rfl
theorem nodup_ne{α:Type}{rs:List α}(nd:rs.Nodup){i j:Nat}{r s:α}(hi:rs[i]? =some r)(hj:rs[j]? =some s)(ne:j≠i):r≠s:=fun z=>by
 subst z;have h1:=aa.mp hi
 have h2:=aa.mp hj
 exact ne ((cJ (h₀:=h2.1) (h₁:=h1.1) nd).mp (h2.2.trans h1.2.symm))
theorem xK{js:List Nat}(nd:js.Nodup){k j:Nat}(hj:js[k]? =some j):j∉js.take k:=fun z=>by
 obtain⟨k',hk'⟩:=bF z
 have lk:=(aa.mp hk').1
 rw[az] at lk;rw[bu (by omega)] at hk';have h1:=aa.mp hj
 have h2:=aa.mp hk'
 have:=(cJ (h₀:=h1.1) (h₁:=h2.1) nd).mp (h1.2.trans h2.2.symm)
 omega
noncomputable def nG(K:ah):Sp:=fun vs H Q _=>∃(f l:Addr) (i:Nat) (o b:Addr) (x y u v:Int) (qs:List Addr) (rs:List P2) (c e:Addr) (ps:List Addr) (L:List Vx) (r:P2) (j0 js:List Nat),vs=[.ref f,.ref l,.int (i:Int),.ref o] /\ SpOk H b l x y u v qs rs /\ FldAt H f c e ps L /\ LandOk x y u v rs r j0 L /\ rs[i]? =some r /\ H o=some (.lst (JsV js)) /\ js.Nodup /\ j0.length+js.length<=12 /\ (∀j∈js,j<rs.length /\ j≠i /\ j∉j0) /\ (∀j∈j0,j≠i) /\
 ∀f' c' e' ps' L' H',Ext H H' ->(NewF H f' c' e'∨(js.length=0 /\ f'=f /\ c'=c /\ e'=e)) ->FldAt H' f' c' e' ps' L' ->LandOk x y u v rs r (j0++js) L' ->Q (.ref f') H'
noncomputable def mV(K:ah):Sp:=fun vs H Q _=>∃(b l:Addr) (i:Nat) (x y u v:Int) (qs:List Addr) (rs:List P2) (r:P2),vs=[.ref b,.ref l,.int (i:Int)] /\ SpOk H b l x y u v qs rs /\ rs[i]? =some r /\
 ∀f c e ps L H',Ext H H' ->NewF H f c e ->FldAt H' f c e ps L ->LandOk x y u v rs r (jD rs.length i) L ->Q (.ref f) H'
noncomputable def kQ(K:ah):Sp:=fun vs H Q _=>∃(b l t:Addr) (x y u v:Int) (qs:List Addr) (rs:List P2) (lot:List Nat),vs=[.ref b,.ref l,.ref t] /\ SpOk H b l x y u v qs rs /\ H t=some (.lst (JsV lot)) /\ lot.Nodup /\ 0<lot.length /\ lot.length<rs.length /\ (∀j∈lot,j<rs.length) /\ ∀H',Ext H H' ->Q .non H'
noncomputable def RowIs(H:Hp)(p:Addr)(z:Rw):Prop:=∃s e:Addr,H p=some (.tup [.ref s,.ref e,.int z.2.2.1,.int z.2.2.2]) /\ H s=some (.tup [.int z.1.1,.int z.1.2.1,.int z.1.2.2]) /\ H e=some (.tup [.int z.2.1.1,.int z.2.1.2.1,.int z.2.1.2.2])
noncomputable def yz(z:Rw):Prop:=uh z /\ B3 2000 z.1 /\ B3 2000 z.2.1
theorem RowIs.ext{H H':Hp}{p:Addr}{z:Rw}(h:RowIs H p z)(x:Ext H H'):RowIs H' p z:=by
 obtain⟨s,e,h1,h2,h3⟩:=h
 exact⟨s,e,x _ _ h1,x _ _ h2,x _ _ h3⟩
noncomputable def p3d(z:P3):PyData:= .tuple [.int z.1,.int z.2.1,.int z.2.2]
theorem tz{K:ah}{H:Hp}{t:Addr}{z:P3}(h:H t=some (.tup [.int z.1,.int z.2.1,.int z.2.2])):Rdy K H (.ref t) (p3d z):= .tup (SqT.of h) (.cons (.int _) (.cons (.int _) (.cons (.int _) .nil)))
theorem qF(z:P3):SeqAt.shaped (p3d z)=true:=by simp only[p3d,SeqAt.shaped,PyData.canLay0,PyData.canLayAll0,PyData.depth,PyData.depthAll]<;>decide
theorem BB(z w:P3):PyData.eqv (p3d z) (p3d w)=decide (z=w):=by
 refine(BA _ _ _ _ _ _).trans (decide_eq_decide.mpr ⟨fun h=>b9 h.1 (b9 h.2.1 h.2.2),fun h=>by rw[h];exact⟨rfl,rfl,rfl⟩⟩)
theorem rq(z w:P3):oS z.1 z.2.1 z.2.2 w.1 w.2.1 w.2.2=decide (Ahd z w):=by
 have e:decide (Ahd z w)=decide (z.1*w.2.2<w.1*z.2.2∨(z.1*w.2.2=w.1*z.2.2 /\ z.2.1*w.2.2<w.2.1*z.2.2)):=decide_eq_decide.mpr Iff.rfl
 rw[e];unfold oS;split
 ·rw[decide_eq_decide];omega
 ·rw[decide_eq_decide];omega
noncomputable def y6(K:ah):Sp:=fun vs H Q _=>∃(p q:Addr) (z z2:Rw),vs=[.ref p,.ref q] /\ RowIs H p z /\ RowIs H q z2 /\ yz z /\ yz z2 /\ Q (.bl (decide (EB z z2))) H
noncomputable def RwsAt(H:Hp)(ts:List Addr)(zs:List Rw):Prop:=ts.length=zs.length /\ ∀(i:Nat) (t:Addr) (z:Rw),ts[i]? =some t ->zs[i]? =some z ->RowIs H t z
theorem RwsAt.ext{H H':Hp}{ts:List Addr}{zs:List Rw}(h:RwsAt H ts zs)(x:Ext H H'):RwsAt H' ts zs:=⟨h.1,fun i t z a b=>(h.2 i t z a b).ext x⟩
theorem RwsAt.at{H:Hp}{ts:List Addr}{zs:List Rw}(h:RwsAt H ts zs){i:Nat}{t:Addr}(ht:ts[i]? =some t):∃z,zs[i]? =some z /\ RowIs H t z:=by
 have l:=(aa.mp ht).1
 obtain⟨z,e⟩:∃z,zs[i]? =some z:=⟨_,af (by rw[<-h.1];exact l)⟩
 exact⟨z,e,h.2 i t z ht e⟩
theorem RwsAt.app{H:Hp}{us vs:List Addr}{rs ss:List Rw}(h:RwsAt H us rs)(g:RwsAt H vs ss):RwsAt H (us++vs) (rs++ss):=by
 refine⟨by rw[aq,aq,h.1,g.1],fun k q w a b=> ?_⟩
 by_cases hk:k<us.length
 ·rw[aQ hk] at a;rw[aQ (by rw[<-h.1];exact hk)] at b;exact h.2 k q w a b
 ·rw[aH (by omega)] at a;rw[aH (by rw[<-h.1];omega), <-h.1] at b;exact g.2 _ q w a b
theorem RwsAt.one{H:Hp}{p:Addr}{z:Rw}(h:RowIs H p z):RwsAt H [p] [z]:=⟨rfl,fun i t w a b=>by
 cases i with
 |zero=>cases a;cases b;exact h
 |succ i=>simp at a⟩
theorem RwsAt.take{H:Hp}{ts:List Addr}{zs:List Rw}(h:RwsAt H ts zs)(k:Nat):RwsAt H (ts.take k) (zs.take k):=by
 refine⟨by rw[az,az,h.1],fun i t z a b=> ?_⟩
 by_cases c:i<k
 ·rw[bu c] at a b;exact h.2 i t z a b
 ·rw[ck (by rw[az];omega)] at a;cases a
theorem RwsAt.drop{H:Hp}{ts:List Addr}{zs:List Rw}(h:RwsAt H ts zs)(k:Nat):RwsAt H (ts.drop k) (zs.drop k):=by
 refine⟨by rw[aJ,aJ,h.1],fun i t z a b=> ?_⟩;rw[cI] at a b;exact h.2 _ t z a b
noncomputable def Ah(ws:List Rw):Prop:=ws.Pairwise fun a b=>¬EB b a
theorem y4{ws:List Rw}{z:Rw}{k:Nat}(hs:Ah ws)(lz:uh z)(lw:∀w∈ws,uh w)(hk:k<=ws.length)(up:∀w∈ws.drop k,EB z w)(dn:k=0∨∃w,ws[k-1]? =some w /\ ¬EB z w):Ah (ws.take k++[z]++ws.drop k):=by
 have hs':=hs
 unfold Ah at hs⊢;rw[<-cq k ws,cR] at hs;obtain⟨h1,h2,h3⟩:=hs
 have tk:∀a∈ws.take k,¬EB z a:=fun a ha=>by
  rcases dn with rfl|⟨w,hw,nb⟩
  ·simp at ha
  ·obtain⟨i,hi⟩:=bF ha
   have li:=(aa.mp hi).1
   rw[az] at li;rw[bu (by omega)] at hi
   by_cases e:i=k-1
   ·subst e;rw[hi] at hw;cases hw;exact nb
   ·have p:=cB.mp hs' i (k-1) (by omega) (by omega) (by omega)
    rw[(aa.mp hi).2,(aa.mp hw).2] at p;exact EB.ntr (lw a (ar hi)) (lw w (ar hw)) lz p nb
 rw[cR,cR];refine⟨⟨h1,List.pairwise_singleton _ _,fun a ha b hb=> ?_⟩,h2,fun a ha b hb=> ?_⟩
 ·rw[bK.mp hb];exact tk a ha
 ·rcases aU.mp ha with g|g
  ·exact h3 a g b hb
  ·rw[bK.mp g];exact(up b hb).as lz (lw b (e8 hb))
noncomputable def lC(K:ah)(C:Cz):Sp:=fun vs H Q _=>∃(l:Addr) (ts:List Addr) (zs:List Rw),vs=[.ref l,.ref C.edge_before] /\ H l=some (.lst (ts.map V.ref)) /\ RwsAt H ts zs /\ (∀z∈zs,yz z) /\ ts.length<=900 /\ ∀(D:Addr) (us:List Addr) (ws:List Rw) (H':Hp),Ext H H' ->H D=none ->H' D=some (.lst (us.map V.ref)) ->RwsAt H' us ws ->ws.Perm zs ->Ah ws ->Q (.ref D) H'
theorem Bq{k:Nat}(js:List Nat):inV (V.int (k:Int)) (JsV js)=decide (k∈js):=by
 induction js with
 |nil=>simp[JsV,inV]
 |cons j js ih=>
  have e:JsV (j::js)=V.int (j:Int)::JsV js:=rfl
  rw[e];unfold inV at ih⊢;rw[dX,ih]
  by_cases h:k=j
  ·subst h;simp[eqV]
  ·simp[eqV,h];intro q;exact absurd (by omega) h
theorem Cp(js:List Nat):(JsV js).all qo=true:=by
 unfold JsV;rw[List.all_map,fR];exact fun _ _=>rfl
theorem zy{H G:Hp}{a:Addr}{o:HO}(h:upd H a o=G)(k:H a=none):Ext H G:=h▸Ext.upd k
theorem zA{H G:Hp}{a:Addr}{o:HO}(h:upd H a o=G):G a=some o:=h▸iX
theorem wf{H H':Hp}{D:Addr}(x:Ext H H'):Ext (del H D) (del H' D):=fun b o h=>by
 unfold del at h⊢;split at h
 ·cases h
 ·rename_i c
  rw[if_neg c];exact x _ _ h
theorem yl(H:Hp)(D:Addr)(o:HO):Ext (del H D) (del (upd H D o) D):=fun b w h=>by
 unfold del at h⊢;split at h
 ·cases h
 ·rename_i c
  rw[if_neg c,i7 c];exact h
theorem FldAt.delD{H:Hp}{f c e D:Addr}{ps:List Addr}{L:List Vx}{xs:List V}(h:FldAt H f c e ps L)(hD:H D=some (.lst xs))(nc:c≠D)(ne:e≠D):FldAt (del H D) f c e ps L:=
 ⟨wg h.at_ hD,(oM nc).trans h.cs,⟨h.pt.1,fun i q z a b=>wg (h.pt.2 i q z a b) hD⟩,(oM ne).trans h.es⟩
theorem zF{rs:List U2}{lot:List Nat}{z:Rw}{n m:Nat}{r s:U2}(h:RowF rs lot z n m r s):uh z:=⟨⟨h.p1,h.g1⟩,h.p2,h.g2⟩
theorem u6{lot:List Nat}{Lf:Nat ->List Vx}{k:List Nat}{n:Nat}{L:List Vx}(hn:n∉k):jY lot (fun m=>if m=n then L else Lf m) (k++[n])=jY lot Lf k++rowsOf lot n L:=by
 unfold jY;rw[cj,bH,dG,aI];dsimp only;rw[if_pos rfl]
 congr 1
 rw[io,io]
 congr 1
 refine dQ fun m hm=> ?_
 rw[if_neg (fun e=>hn (by rw[<-e];exact hm))]
theorem rX{x y u v:Int}{rs:List U2}{Lf:Nat ->List Vx}{k:List Nat}{n:Nat}{L:List Vx}{r:U2}(h:j4 x y u v rs Lf k)(hn:n∉k)(hr:rs[n]? =some r)(lo:LandOk x y u v rs r (jD rs.length n) L):j4 x y u v rs (fun m=>if m=n then L else Lf m) (k++[n]):=fun m hm=>by
 rcases aU.mp hm with g|g
 ·obtain⟨r',h1,h2⟩:=h m g
  exact⟨r',h1,by dsimp only;rw[if_neg (fun e=>hn (by rw[<-e];exact g))];exact h2⟩
 ·rw[bK.mp g];exact⟨r,hr,by dsimp only;rw[if_pos rfl];exact lo⟩
theorem yX{L:List Vx}{k:Nat}{w:Vx}(hw:L[k]? =some w):∃w2,(L.drop 1++L.take 1)[k]? =some w2 /\ (uK L)[k]? =some (w.1,w2.1,w.2.2):=by
 have kl:=(aa.mp hw).1
 have ll:(MC.rot L).length=L.length:=by unfold MC.rot;rw[aq,aJ,az];omega
 obtain⟨w2,h2⟩:∃w2,(MC.rot L)[k]? =some w2:=⟨_,af (by omega)⟩
 refine⟨w2,h2,?_⟩;unfold uK edges;rw[aC,(cg (z:=(w,w2))).mpr ⟨hw,h2⟩];rfl
theorem CsAt.rot1{H:Hp}{qs:List Addr}{cs:List P3}(h:CsAt H qs cs):CsAt H (qs.drop 1++qs.take 1) (cs.drop 1++cs.take 1):=by
 have l:=h.1
 refine⟨by simp only[aq,aJ,az];omega,fun i q z a b=> ?_⟩
 by_cases hk:i<(qs.drop 1).length
 ·rw[aQ hk,cI] at a;rw[aQ (by rw[aJ] at hk⊢;omega),cI] at b;exact h.2 _ q z a b
 ·rw[aH (by omega)] at a;rw[aH (by rw[aJ] at hk⊢;omega),aJ, <-l, <-aJ] at b;have hi:=(aa.mp a).1
  rw[az] at hi;rw[bu (by omega)] at a b;exact h.2 _ q z a b
theorem wR(L:List Vx):(uK L).length=L.length:=by
 unfold uK edges MC.rot;rw[ae,fg,aq,aJ,az];omega
theorem xj{x y u v:Int}{rs:List U2}(xu:x<u)(yv:y<v)(nd:rs.Nodup)(ins:∀s∈rs,x<=s.1 /\ s.1<=u /\ y<=s.2 /\ s.2<=v){lot:List Nat}{n:Nat}{r:U2}{L:List Vx}(hl:n∈lot)(hr:rs[n]? =some r)(h:LandOk x y u v rs r (jD rs.length n) L):∀z∈rowsOf lot n L,yz z:=fun z hz=>by
 obtain⟨m,s,a,b,f,he,ez,_⟩:=kJ xu yv nd ins hl hr h hz
 have ma:a∈L:=(bE he).1
 have mb:b∈L:=(j6 _ _).mp (bE he).2
 have c1:=mf h.poly h.lnb ma
 have c2:=mf h.poly h.lnb mb
 refine⟨zF f,?_,?_⟩
 ·rw[ez];exact⟨c1.1.mono (by decide),c1.2.1.mono (by decide),c1.2.2.mono (by decide)⟩
 ·rw[ez];exact⟨c2.1.mono (by decide),c2.2.1.mono (by decide),c2.2.2.mono (by decide)⟩
noncomputable def rC(K:ah)(C:Cz):Sp:=fun vs H Q _=>∃(b l t:Addr) (x y u v:Int) (qs:List Addr) (rs:List P2) (lot:List Nat),vs=[.ref b,.ref l,.ref t] /\ SpOk H b l x y u v qs rs /\ H t=some (.lst (JsV lot)) /\ lot.Nodup /\ 0<lot.length /\ lot.length<rs.length /\ (∀j∈lot,j<rs.length) /\ ∀(D:Addr) (us:List Addr) (ws:List Rw) (Lf:Nat ->List Vx) (H':Hp),Ext H H' ->H D=none ->H' D=some (.lst (us.map V.ref)) ->RwsAt H' us ws ->ws.Perm (jY lot Lf lot) ->Ah ws ->j4 x y u v rs Lf lot ->(∀z∈ws,yz z) ->us.length<=900 ->Q (.ref D) H'
theorem qC{lot:List Nat}{ns:List Int}(h:ns.Perm (lot.map fun j:Nat=>(j:Int)))(s:ns.Pairwise (· <= ·)):∃A:List Nat,ns=(A.map fun j:Nat=>(j:Int)) /\ A.Perm lot /\ A.Pairwise (· <= ·):=by
 have pm:=h.map iR
 rw[cN,show(iR∘fun j:Nat=>(j:Int))=id from rfl,List.map_id] at pm;have nn:∀z∈ns,0<=z:=fun z hz=>by
  obtain⟨j,_,rfl⟩:=aw.mp (h.mem_iff.mp hz)
  omega
 refine⟨ns.map iR,?_,pm,cu.mpr (s.imp fun {a b} q=>by omega)⟩;rw[cN];refine(List.map_id ns).symm.trans (dQ fun z hz=> ?_);exact(Int.toNat_of_nonneg (nn z hz)).symm
noncomputable def Lx(a b:P2):Prop:=a.1<b.1∨(a.1=b.1 /\ a.2<b.2)
noncomputable instance(a b:P2):Decidable (Lx a b):=by unfold Lx;infer_instance
theorem Lx.irr{a:P2}:¬Lx a a:=by unfold Lx;omega
theorem Lx.trans{a b c:P2}(h:Lx a b)(g:Lx b c):Lx a c:=by unfold Lx at*;omega
theorem xO(a b:P2):Lx a b∨a=b∨Lx b a:=by
 unfold Lx
 by_cases h1:a.1=b.1
 ·by_cases h2:a.2=b.2
  ·exact .inr (.inl (b9 h1 h2))
  ·omega
 ·omega
noncomputable def sP(rs:List P2)(i:Nat):P2:=rs.getD i (0,0)
theorem BV{rs:List P2}{i:Nat}(h:i<rs.length):rs[i]? =some (sP rs i):=by unfold sP;rw[aR,af h];rfl
theorem xF{rs:List P2}{q:List Nat}(nd:rs.Nodup)(h:PlQ rs q):(q.map (sP rs)).Pairwise Lx:=by
 obtain⟨pm,pw⟩:=h
 have ndq:q.Nodup:=pm.nodup_iff.mpr dH
 have lt:∀i∈q,i<rs.length:=fun i hi=>fA.mp (pm.mem_iff.mp hi)
 rw[cu];refine(pw.and ndq).imp_of_mem fun {a b} ha hb hs=> ?_
 obtain⟨h1,h2⟩:=hs
 rcases xO (sP rs a) (sP rs b) with g|g|g
 ·exact g
 ·exfalso
  refine h2 ?_;have e1:=BV (lt a ha)
  have e2:=BV (lt b hb)
  rw[g] at e1;obtain⟨l1,f1⟩:=aa.mp e1
  obtain⟨l2,f2⟩:=aa.mp e2
  exact(cJ nd).mp (f1.trans f2.symm)
 ·exfalso
  unfold wOf at h1;have e:∀i,rs.getD i (0,0)=sP rs i:=fun i=>rfl
  rw[e,e] at h1;simp only[HT.lexLt_cons,HT.lexLt_nil_nil] at h1;unfold Lx at g
  by_cases c:(sP rs b).1=(sP rs a).1
  ·rw[if_pos c] at h1
   by_cases c2:(sP rs b).2=(sP rs a).2
   ·omega
   ·rw[if_neg c2] at h1;simp only[decide_eq_false_iff_not] at h1;omega
  ·rw[if_neg c] at h1;simp only[decide_eq_false_iff_not] at h1;omega
structure HalfOk(rs:List P2)(lo hi:List Nat):Prop where
 n1:lo.Nodup
 n2:hi.Nodup
 part:∀n,n<rs.length ->(n∈lo↔n∉hi)
 l1:0<lo.length
 l2:0<hi.length
 lt1:∀j∈lo,j<rs.length
 lt2:∀j∈hi,j<rs.length
 s1:lo.length<rs.length
 s2:hi.length<rs.length
 lx:∀a∈lo,∀b∈hi,Lx (sP rs a) (sP rs b)
theorem zR{rs:List P2}{q lo hi:List Nat}{h:Nat}(nd:rs.Nodup)(p:PlQ rs q)(h0:0<h)(h1:h<rs.length)(pl:lo.Perm (q.take h))(ph:hi.Perm (q.drop h)):HalfOk rs lo hi:=by
 have sx:=xF nd p
 have pm:=p.1
 have ql:q.length=rs.length:=by rw[pm.length_eq,bC]
 have nq:q.Nodup:=pm.nodup_iff.mpr dH
 have mq:∀n,n∈q↔n<rs.length:=fun n=>by rw[pm.mem_iff,fA]
 have sp:q=q.take h++q.drop h:=(cq h q).symm
 have l1:lo.length=h:=by rw[pl.length_eq,az];omega
 have l2:hi.length=rs.length-h:=by rw[ph.length_eq,aJ];omega
 rw[sp] at nq;obtain⟨na,nb,nab⟩:=ba.mp nq
 rw[sp,au,cR] at sx;refine⟨pl.nodup_iff.mpr na,ph.nodup_iff.mpr nb,fun n hn=> ?_,by omega,by omega,fun j hj=>(mq j).mp (cS (pl.mem_iff.mp hj)),fun j hj=>(mq j).mp (e8 (ph.mem_iff.mp hj)),by omega,by omega,fun a ha b hb=>sx.2.2 _ (fh (pl.mem_iff.mp ha)) _ (fh (ph.mem_iff.mp hb))⟩;rw[pl.mem_iff,ph.mem_iff];have m:=(mq n).mpr hn
 rw[sp] at m;constructor
 ·intro g g2;exact nab n g n g2 rfl
 ·intro g;exact(aU.mp m).resolve_right g
noncomputable def nF(K:ah)(C:Cz):Sp:=fun vs H Q _=>∃(l:Addr) (qs:List Addr) (rs:List P2),vs=[.ref l] /\ LpOk H l qs rs /\ 2<=rs.length /\ H C.lp_by_place=some (.tbl tg_by_place) /\
 ∀(t a b:Addr) (lo hi:List Nat) (H':Hp),Ext H H' ->H' t=some (.tup [.ref a,.ref b]) ->H' a=some (.lst (JsV lo)) ->H' b=some (.lst (JsV hi)) ->HalfOk rs lo hi ->Q (.ref t) H'
noncomputable abbrev fdL(c:Addr)(n l:Int):List (Key×V):=[(Sum.inr "cells",.ref c),(Sum.inr "at",.int n),(Sum.inr "left",.int l)]
theorem yf(c:Addr)(n l:Int):qt (fdL c n l) (Sum.inr "cells")=some (.ref c):=rfl
theorem Cq(c:Addr)(n l:Int):qt (fdL c n l) (Sum.inr "at")=some (.int n):=rfl
theorem zV(c:Addr)(n l:Int):qt (fdL c n l) (Sum.inr "left")=some (.int l):=rfl
theorem ye(c:Addr)(n l m:Int):putK (fdL c n l) (Sum.inr "at") (.int m)=fdL c m l:=rfl
theorem uC(c:Addr)(n l m:Int):putK (fdL c n l) (Sum.inr "left") (.int m)=fdL c n m:=rfl
noncomputable def FD(c:Addr)(b:Nat)(H:Hp)(p:Addr):Prop:=∃(ns:List Int) (n:Nat) (l:Int),H p=some (.dK (fdL c n l)) /\ H c=some (.lst (ns.map V.int)) /\ ns.length<=63 /\ n<=b
structure DX(c:Addr)(b:Nat)(p:Addr)(H H':Hp):Prop where
 feed:FD c b H' p
 keep:∀q o,q≠p ->H q=some o ->H' q=some o
theorem DX.trans{e:Addr}{a b:Nat}{p:Addr}{H H1 H2:Hp}(x:DX e a p H H1)(y:DX e b p H1 H2):DX e b p H H2:=⟨y.feed,fun c o hc h=>y.keep c o hc (x.keep c o hc h)⟩
theorem DX.refl{e:Addr}{b:Nat}{p:Addr}{H:Hp}(h:FD e b H p):DX e b p H H:=⟨h,fun _ _ _ h=>h⟩
theorem FD.ext{e:Addr}{b:Nat}{p:Addr}{H H':Hp}(h:FD e b H p)(x:Ext H H'):FD e b H' p:=by
 obtain⟨ns,n,l,h1,h2,h3,h4⟩:=h
 exact⟨ns,n,l,x _ _ h1,x _ _ h2,h3,h4⟩
theorem FD.upd{e:Addr}{b:Nat}{p q:Addr}{H:Hp}{o:HO}(h:FD e b H p)(hq:H q=none):FD e b (L2.upd H q o) p:=h.ext (Ext.upd hq)
theorem DX.ext{e:Addr}{b:Nat}{p:Addr}{H H1 H2:Hp}(d:DX e b p H H1)(x:Ext H1 H2):DX e b p H H2:=⟨d.feed.ext x,fun q o hq e=>x _ _ (d.keep q o hq e)⟩
theorem DX.upd{e:Addr}{b:Nat}{p q:Addr}{H H1:Hp}{o:HO}(a:DX e b p H H1)(h:H1 q=none):DX e b p H (L2.upd H1 q o):=a.ext (Ext.upd h)
theorem FD.mono{e:Addr}{a b:Nat}{p:Addr}{H:Hp}(h:FD e a H p)(hab:a<=b):FD e b H p:=by
 obtain⟨ns,n,l,h1,h2,h3,h4⟩:=h
 exact⟨ns,n,l,h1,h2,h3,by omega⟩
theorem DX.mono{e:Addr}{a b:Nat}{p:Addr}{H H':Hp}(h:DX e a p H H')(hab:a<=b):DX e b p H H':=⟨h.feed.mono hab,h.keep⟩
theorem FD.ne{e:Addr}{b:Nat}{p t:Addr}{H:Hp}(h:FD e b H p)(ht:H t=none):t≠p:=by
 obtain⟨ns,n,l,h1,_⟩:=h
 rintro rfl;rw[h1] at ht;cases ht
theorem FD.nc{e:Addr}{b:Nat}{p t:Addr}{H:Hp}(h:FD e b H p)(ht:H t=none):t≠e:=by
 obtain⟨ns,n,l,h1,h2,_⟩:=h
 rintro rfl;rw[h2] at ht;cases ht
theorem FD.tup{e:Addr}{b:Nat}{H:Hp}{p q:Addr}{xs:List V}(f:FD e b H p)(h:H q=some (.tup xs)):q≠p:=by
 obtain⟨ns,n,l,h1,_⟩:=f
 exact lA h h1 (by intro z;cases z)
theorem FD.lst{e:Addr}{b:Nat}{H:Hp}{p q:Addr}{xs:List V}(f:FD e b H p)(h:H q=some (.lst xs)):q≠p:=by
 obtain⟨ns,n,l,h1,_⟩:=f
 exact lA h h1 (by intro z;cases z)
theorem FD.set{e:Addr}{b:Nat}{p D:Addr}{H:Hp}{o:HO}(f:FD e b H p)(h1:D≠p)(h2:D≠e):FD e b (L2.upd H D o) p:=by
 obtain⟨ns,n,l,g1,g2,r⟩:=f
 exact⟨ns,n,l,(i7 h1.symm).trans g1,(i7 h2.symm).trans g2,r⟩
theorem DX.set{e:Addr}{b b0:Nat}{p D:Addr}{H H1:Hp}{o:HO}(d:DX e b p H H1)(hD:H D= .none)(f:FD e b0 H p):DX e b p H (L2.upd H1 D o):=⟨d.feed.set (f.ne hD) (f.nc hD),fun q u hq e=>by rw[i7 (i4 e hD)];exact d.keep q u hq e⟩
theorem DX.sqL{e:Addr}{b b0:Nat}{p a:Addr}{H H1:Hp}{K:ah}{xs:List V}(d:DX e b p H H1)(f:FD e b0 H p)(h:SqL K H a xs):SqL K H1 a xs:=by
 have np:∀{o:HO},H a=some o ->(∀kvs,o≠ .dK kvs) ->a≠p:=fun {o} e ne z=>by
  obtain⟨_,_,_,h1,_⟩:=f
  rw[z,h1] at e;exact ne _ (aZ.inj e).symm
 rcases h with(h|⟨o,h⟩)|h
 ·exact .inl (.inl (d.keep _ _ (np h (fun _ z=>by cases z)) h))
 ·exact .inl (.inr ⟨o,d.keep _ _ (np h (fun _ z=>by cases z)) h⟩)
 ·exact .inr h
theorem DX.none{e:Addr}{b:Nat}{p t:Addr}{H H':Hp}(x:DX e b p H H')(h:H' t=none):H t=none:=by
 by_cases c:t=p
 ·obtain⟨ns,n,l,h1,_⟩:=x.feed
  rw[c,h1] at h;cases h
 ·cases q:H t with
  |none=>rfl
  |some o=>
   rw[x.keep t o c q] at h;cases h
noncomputable def pF(K:ah):Sp:=fun vs H Q _=>∃(a:Addr) (ns:List Int),vs=[.ref a] /\ SqL K H a (ns.map V.int) /\ ns.length<=63 /\ ∀p c H',Ext H H' ->H p=none ->FD c 0 H' p ->Q (.ref p) H'
noncomputable def jC:Sp:=fun vs H Q _=>∃(p:Addr) (m:Int) (c:Addr) (b:Nat),vs=[.ref p,.int m] /\ FD c b H p /\ b<=1000000 /\ 0<m /\ m<=100000 /\ ∀r H',0<=r ->r<m ->DX c (b+1) p H H' ->Q (.int r) H'
noncomputable def mW:Sp:=fun vs H Q _=>∃(p:Addr) (k:Nat) (c:Addr) (b:Nat),vs=[.ref p,.int k] /\ FD c b H p /\ b<=100000 /\ k<=5 /\ ∀(r:Int) H',0<=r ->r<100000^k ->DX c (b+k) p H H' ->Q (.int r) H'
noncomputable def mT:Sp:=fun vs H Q _=>∃(p c:Addr) (b:Nat),vs=[.ref p] /\ FD c b H p /\ b<=10000 /\ ∀t m r u H',DX c (b+25) p H H' ->H' t=some (.tup [.int m,.int r,.int u]) ->(1<=m /\ m<=10^20) ->(-(10^25)<=r /\ r<=10^25) ->(-(10^25)<=u /\ u<=10^25) ->Q (.ref t) H'
theorem yT{xs:List Int}{r:Int}(h0:0<=r)(h1:r<xs.length):∃x,atI (xs.map V.int) r=some (.int x) /\ x∈xs:=by
 obtain⟨n,rfl⟩:=fP h0
 have hn:n<xs.length:=by omega
 exact⟨xs[n],jK (by rw[aC,af hn];rfl),cL hn⟩
theorem atI_get{xs:List Int}{n:Nat}(h1:n<xs.length):∃x,atI (xs.map V.int) (n:Int)=some (.int x) /\ some x=xs[n]? :=
 ⟨xs[n],jK (by rw[aC,af h1];rfl),(af h1).symm⟩
noncomputable def pz:Sp:=fun vs H Q _=>∃(p:Addr) (st:Int) (c:Addr) (b:Nat),vs=[.ref p,.int st] /\ FD c b H p /\ b<=10000 /\ 0<=st /\ st<=5 /\ ∀t x y H',DX c (b+2) p H H' ->H' t=some (.tup [.int x,.int y]) ->(0<=x /\ x<=12) ->(0<=y /\ y<=12) ->Q (.ref t) H'
noncomputable def dzX:List Int:=[10,9,8,5,2,1,0,1,2,5,8,9]
noncomputable def dzY:List Int:=[5,8,9,10,9,8,5,2,1,0,1,2]
noncomputable def DzOk(way:Int)(k:Nat)(r:P2):Prop:=if way=0 then r=((k:Int)%4,(k:Int) /4) else if way=1 then some r.1=dzX[k]? /\ some r.2=dzY[k]? else r.1=k /\ 0<=r.2 /\ r.2<=10
theorem DzOk.inj{way:Int}{i j:Nat}{r:P2}(hi:i<12)(hj:j<12)(h1:DzOk way i r)(h2:DzOk way j r):i=j:=by
 unfold DzOk at h1 h2;split at h1
 ·rename_i c
  rw[if_pos c] at h2;have:=h1.symm.trans h2
  simp only[d7.injEq] at this;omega
 ·rename_i c
  rw[if_neg c] at h2;split at h1
  ·rename_i c2
   rw[if_pos c2] at h2;have e1:=h1.1.symm.trans h2.1
   have e2:=h1.2.symm.trans h2.2
   have key:∀i j:Fin 12,dzX[i.val]? =dzX[j.val]? ->dzY[i.val]? =dzY[j.val]? ->i=j:=by unfold dzX dzY;decide
   have:=key ⟨i,hi⟩ ⟨j,hj⟩ e1 e2
   exact congrArg Fin.val this
  ·rename_i c2
   rw[if_neg c2] at h2;omega
theorem DzOk.bd{way:Int}{i:Nat}{r:P2}(hi:i<12)(h:DzOk way i r):(0<=r.1 /\ r.1<=12) /\ (0<=r.2 /\ r.2<=12):=by
 unfold DzOk at h;split at h
 ·subst h;dsimp only;omega
 ·split at h
  ·have key:∀i:Fin 12,∀x,some x=dzX[i.val]? ->0<=x /\ x<=12:=by
    intro i x hx;have m:=ar hx.symm
    have bx:∀x∈dzX,0<=x /\ x<=12:=by unfold dzX;decide
    exact bx x m
   have key2:∀i:Fin 12,∀x,some x=dzY[i.val]? ->0<=x /\ x<=12:=by
    intro i x hx;have m:=ar hx.symm
    have bx:∀x∈dzY,0<=x /\ x<=12:=by unfold dzY;decide
    exact bx x m
   exact⟨key ⟨i,hi⟩ _ h.1,key2 ⟨i,hi⟩ _ h.2⟩
  ·omega
theorem R2At.drop{H:Hp}{qs:List Addr}{rs:List P2}(h:R2At H qs rs)(k:Nat):R2At H (qs.drop k) (rs.drop k):=by
 refine⟨by rw[aJ,aJ,h.1],fun i q z h1 h2=> ?_⟩;rw[cI] at h1 h2;exact h.2 _ q z h1 h2
theorem R2At.append{H:Hp}{qs qs':List Addr}{rs rs':List P2}(h:R2At H qs rs)(h':R2At H qs' rs'):R2At H (qs++qs') (rs++rs'):=by
 refine⟨by rw[aq,aq,h.1,h'.1],fun i q z h1 h2=> ?_⟩
 by_cases hi:i<qs.length
 ·rw[aQ hi] at h1;rw[aQ (by rw[<-h.1];exact hi)] at h2;exact h.2 i q z h1 h2
 ·rw[aH (by omega)] at h1;rw[aH (by rw[<-h.1];omega), <-h.1] at h2;exact h'.2 _ q z h1 h2
theorem R2At.one{H:Hp}{q:Addr}{r:P2}(h:H q=some (.tup [.int r.1,.int r.2])):R2At H [q] [r]:=⟨rfl,fun i q' z h1 h2=>by
 match i,h1,h2 with
 |0,h1,h2=>cases h1;cases h2;exact h⟩
theorem R2At.setL{H:Hp}{qs:List Addr}{R:List P2}{L:Addr}{xs ys:List V}(h:R2At H qs R)(hL:H L=some (.lst xs)):R2At (upd H L (.lst ys)) qs R:=⟨h.1,fun i t v a b=>by
 have h1:=h.2 i t v a b
 exact(i7 (lA h1 hL (by intro z;cases z))).trans h1⟩
theorem R2At.dx{e:Addr}{b:Nat}{p:Addr}{H H':Hp}{qs:List Addr}{R:List P2}(h:R2At H qs R){b0:Nat}(f:FD e b0 H p)(d:DX e b p H H'):R2At H' qs R:=⟨h.1,fun i t v a c=>d.keep _ _ (f.tup (h.2 i t v a c)) (h.2 i t v a c)⟩
theorem rQ{rs:List P2}{P:Nat ->P2 ->Prop}(h:∀i r,rs[i]? =some r ->P i r)(inj:∀i j r,i<rs.length ->j<rs.length ->P i r ->P j r ->i=j):rs.Nodup:=by
 rw[fi,cB];intro i j hi hj hij e;have e1:rs[i]? =some rs[i]:=af hi
 have e2:rs[j]? =some rs[i]:=by rw[af hj,e]
 have:=inj i j _ hi hj (h i _ e1) (h j _ e2)
 omega
theorem vO{α:Type}{l:List α}(h:l.Nodup)(k:Nat):(l.drop k++l.take k).Nodup:=by
 have:(l.drop k++l.take k).Perm l:=by
  have:=gs (l₁:=l.drop k) (l₂:=l.take k)
  rwa [cq] at this
 exact this.nodup_iff.mpr h
noncomputable def mX:Sp:=fun vs H Q _=>∃(p c:Addr) (b:Nat),vs=[.ref p] /\ FD c b H p /\ b<=1000 /\ ∀D qs rs H',DX c (b+20) p H H' ->H D=none ->H' D=some (.lst (qs.map V.ref)) ->R2At H' qs rs ->rs.Nodup ->10<=rs.length ->rs.length<=12 ->(∀r∈rs,(0<=r.1 /\ r.1<=12) /\ (0<=r.2 /\ r.2<=12)) ->Q (.ref D) H'
theorem Br(rs:List P2)(r:P2):decide (Spec.countIn (t2d r) (rs.map t2d)≠0)=decide (r∈rs):=by
 rw[<-any_eqv_countIn _ _ (fun y hy=>by obtain⟨z,_,rfl⟩:=aw.mp hy;exact l6 z r)];rw[gc,List.any_eq_true,decide_eq_true_eq];constructor
 ·rintro⟨y,hy,e⟩;obtain⟨z,hz,rfl⟩:=aw.mp hy
  have e':PyData.eqv (.tuple [.int z.1,.int z.2]) (.tuple [.int r.1,.int r.2])=true:=e
  rw[tZ,decide_eq_true_eq] at e';have:z=r:=b9 e'.1 e'.2
  rw[<-this];exact hz
 ·intro h;refine⟨t2d r,aw.mpr ⟨r,h,rfl⟩,?_⟩;show PyData.eqv (.tuple [.int r.1,.int r.2]) (.tuple [.int r.1,.int r.2])=true
  rw[tZ,decide_eq_true_eq];exact⟨rfl,rfl⟩
noncomputable def WBd(n:Int)(rs:List P2):Prop:=∀r∈rs,(0<=r.1 /\ r.1<=n) /\ (0<=r.2 /\ r.2<=12)
theorem WBd.snoc{n:Int}{rs:List P2}(h:WBd n rs){r:P2}(hr:(0<=r.1 /\ r.1<=n) /\ (0<=r.2 /\ r.2<=12)):WBd n (rs++[r]):=fun z hz=>by
 rcases aU.mp hz with q|q
 ·exact h z q
 ·rw[bK] at q;rw[q];exact hr
theorem WBd.mono{m n:Int}{rs:List P2}(h:WBd m rs)(hmn:m<=n):WBd n rs:=fun z hz=>by
 have:=h z hz
 omega
theorem nodup_snoc{α:Type}{rs:List α}(h:rs.Nodup){r:α}(hr:r∉rs):(rs++[r]).Nodup:=ba.mpr ⟨h,by simp,fun x hx y hy e=>by
 rw[bK] at hy;subst hy;subst e;exact hr hx⟩
noncomputable def mS(K:ah):Sp:=fun vs H Q _=>∃(p:Addr) (n0 m0:Nat) (c:Addr) (b:Nat),vs=[.ref p,.int (n0:Int),.int (m0:Int)] /\ FD c b H p /\ b<=500 /\ 1<=n0 /\ n0<=6 /\ n0<=m0 /\ m0<=12 /\ ∀D qs rs H',DX c (b+60) p H H' ->H D=none ->H' D=some (.lst (qs.map V.ref)) ->R2At H' qs rs ->rs.Nodup ->n0<=rs.length ->rs.length<=12 ->WBd 24 rs ->Q (.ref D) H'
theorem v8{ys:List V}(l:ys.length=4)(hv:∀v∈ys,∃x:Int,v= .int x /\ 0<=x /\ x<=7):∃e0 e1 e2 e3:Int,ys=[.int e0,.int e1,.int e2,.int e3] /\ (0<=e0 /\ e0<=7) /\ (0<=e1 /\ e1<=7) /\ (0<=e2 /\ e2<=7) /\ (0<=e3 /\ e3<=7):=by
 match ys,l with
 |[v1,v2,v3,v4],_=>
  obtain⟨e0,rfl,f0⟩:=hv v1 (by simp)
  obtain⟨e1,rfl,f1⟩:=hv v2 (by simp)
  obtain⟨e2,rfl,f2⟩:=hv v3 (by simp)
  obtain⟨e3,rfl,f3⟩:=hv v4 (by simp)
  exact⟨e0,e1,e2,e3,rfl,f0,f1,f2,f3⟩
theorem xi{k m:Int}(h1: -10<=k)(h2:k<=50)(m1:1<=m)(m2:m<=10^20): -(10^21)<=k*m /\ k*m<=50*10^20:=by
 constructor
 ·have:=cG h1 (show 0<=m by omega)
  omega
 ·have:=cG h2 (show 0<=m by omega)
  omega
theorem xh{k l m r:Int}(h:k<=l)(m1:1<=m):k*m+r<=l*m+r:=by
 have:=cG h (show 0<=m by omega)
 omega
theorem AR{k l m r:Int}(h:k<l)(m1:1<=m):k*m+r<l*m+r:=by
 have:=cy h (show 0<m by omega)
 omega
theorem yD{k l m r:Int}(m1:1<=m)(h:k*m+r=l*m+r):k=l:=by
 have:k*m=l*m:=by omega
 exact bA (by omega) this
theorem xM{rs:List P2}(h:rs.Nodup){m r u:Int}(m1:1<=m):(rs.map fun z=>(z.1*m+r,z.2*m+u)).Nodup:=by
 rw[fi] at h⊢;rw[cu];refine h.imp fun {a b} ne e=>ne ?_
 simp only[d7.injEq] at e;exact b9 (yD m1 e.1) (yD m1 e.2)
noncomputable def mR(K:ah):Sp:=fun vs H Q _=>∃(p:Addr) (n0 m0:Nat) (c:Addr) (b:Nat),vs=[.ref p,.int (n0:Int),.int (m0:Int)] /\ FD c b H p /\ b<=400 /\ 1<=n0 /\ n0<=6 /\ n0<=m0 /\ m0<=12 /\
 ∀t bx l x y u v qs rs H',DX c (b+90) p H H' ->H' t=some (.tup [.ref bx,.ref l]) ->SpOk H' bx l x y u v qs rs ->n0<=rs.length ->(-(10^26)<=x /\ u<=10^26) ->(-(10^26)<=y /\ v<=10^26) ->Q (.ref t) H'
noncomputable def oT(z w:P3):Bool:=if¬z.2.1*w.2.2=w.2.1*z.2.2 then decide (z.2.1*w.2.2<w.2.1*z.2.2) else decide (w.1*z.2.2<z.1*w.2.2)
noncomputable def lX:Sp:=fun vs H Q _=>∃(p q:Addr) (z w:P3),vs=[.ref p,.ref q] /\ H p=some (.tup [.int z.1,.int z.2.1,.int z.2.2]) /\ H q=some (.tup [.int w.1,.int w.2.1,.int w.2.2]) /\ B3 2000 z /\ B3 2000 w /\ Q (.bl (oT z w)) H
theorem SpOk.dx{c:Addr}{b0 b1:Nat}{p:Addr}{H H':Hp}{b l:Addr}{x y u v:Int}{qs:List Addr}{rs:List P2}(h:SpOk H b l x y u v qs rs)(f:FD c b0 H p)(d:DX c b1 p H H'):SpOk H' b l x y u v qs rs:=
 ⟨d.keep _ _ (f.tup h.bx) h.bx,d.keep _ _ (f.lst h.sp) h.sp,h.at_.dx f d,h.xu,h.yv,h.ins,h.nd,h.n0,h.n12,h.sz⟩
noncomputable def vK(n:Nat)(lot:List Nat):List Nat:=(bg n).filter fun j=>decide (j∉lot)
theorem outOf_mem{n j:Nat}{lot:List Nat}:j∈vK n lot↔j<n /\ j∉lot:=by
 unfold vK;simp
theorem rN(n:Nat)(lot:List Nat):(vK n lot).Nodup:=List.Pairwise.filter _ dH
theorem vJ{n:Nat}{lot:List Nat}(nd:lot.Nodup)(hlt:∀j∈lot,j<n):(vK n lot).length+lot.length=n:=by
 have p:(bg n).Perm (vK n lot++lot):=(fj dH (ba.mpr ⟨rN n lot,nd,fun a ha b hb e=>(outOf_mem.mp ha).2 (e▸hb)⟩)).mpr fun j=>by
  rw[fA,aU,outOf_mem];constructor
  ·intro q
   by_cases m:j∈lot
   ·exact .inr m
   ·exact .inl ⟨q,m⟩
  ·rintro(q|q)
   ·exact q.1
   ·exact hlt j q
 have:=p.length_eq
 rw[bC,aq] at this;omega
theorem yH{n:Nat}{lot:List Nat}(nd:lot.Nodup)(hlt:∀j∈lot,j<n):lot.length<=n:=by
 have:=vJ nd hlt
 omega
noncomputable def pH(H:Hp)(p:Addr):P3:=match H p with
 |some (.tup [.int a,.int b,.int c])=>(a,b,c)
 |_=>(0,0,0)
noncomputable def Bw(H:Hp)(v:V):Rw4:=match v with
 | .ref t=>(match H t with
  |some (.tup [.ref p,.ref q,.int m,.int n])=>(pH H p,pH H q,m,n)
  |_=>((0,0,0),(0,0,0),0,0))
 |_=>((0,0,0),(0,0,0),0,0)
theorem si{H:Hp}{t:Addr}{z:Rw}(h:RowIs H t z):Bw H (.ref t)=z:=by
 obtain⟨p,q,h1,h2,h3⟩:=h
 show(match H t with|some (.tup [.ref p,.ref q,.int m,.int n])=>(pH H p,pH H q,m,n)|_=>((0,0,0),(0,0,0),0,0))=z
 rw[h1];show(pH H p,pH H q,z.2.2.1,z.2.2.2)=z
 unfold pH;rw[h2,h3]
theorem vn{H:Hp}{t:Addr}{z:Rw}(h:RowIs H t z):Ao (Bw H) (.ref t) (.ref t) H:=by
 have e:=si h
 obtain⟨p,q,h1,h2,h3⟩:=h
 refine⟨t,p,q,rfl,?_,?_,?_⟩
 ·rw[e];exact h1
 ·rw[e];exact h2
 ·rw[e];exact h3
theorem yJ:∀a b:List Int,a.length=b.length ->HT.lexLt a b=false ->HT.lexLt b a=false ->a=b
 |[],[],_,_,_=>rfl
 |[],_::_,h,_,_=>by simp at h
 |_::_,[],h,_,_=>by simp at h
 |x::a,y::b,h,h1,h2=>by
  rw[HT.lexLt_cons] at h1 h2
  by_cases e:x=y
  ·rw[if_pos e] at h1;rw[if_pos e.symm] at h2;rw[e,yJ a b (by simpa using h) h1 h2]
  ·rw[if_neg e] at h1;rw[if_neg (Ne.symm e)] at h2;simp only[decide_eq_false_iff_not] at h1 h2;omega
theorem zU{a b:Rw4}(h:flR a=flR b):a=b:=by
 unfold flR l3 at h;simp only[ak,aP,cp.injEq,and_true] at h;obtain⟨h1,h2,h3,h4,h5,h6,h7,h8⟩:=h
 exact b9 (b9 h1 (b9 h2 h3)) (b9 (b9 h4 (b9 h5 h6)) (b9 h7 h8))
noncomputable def B9(ws:List Rw):Prop:=ws.Pairwise fun a b=>HT.lexLt (flR b) (flR a)=false
theorem w4{a b:List Rw}(h:a.Perm b)(ha:B9 a)(hb:B9 b):a=b:=List.Perm.eq_of_pairwise (fun x y _ _ h1 h2=>zU (yJ _ _ rfl h2 h1)) ha hb h
theorem qD{H:Hp}{us:List Addr}{ws:List Rw}{q:List Nat}(h:RwsAt H us ws)(s:jF (ltT (fun v=>flR (Bw H v)) (us.map V.ref)) (us.map V.ref).length q):∃us' ws',q.map (atV (us.map V.ref))=us'.map V.ref /\ RwsAt H us' ws' /\ ws'.Perm ws /\ B9 ws':=by
 obtain⟨pm,pw⟩:=s
 have lw:=h.1
 rw[ae] at pm;have lt:∀i∈q,i<us.length:=fun i hi=>by simpa using pm.mem_iff.mp hi
 let z0:Rw:=((0,0,0),(0,0,0),0,0)
 have at':∀i,i<us.length ->atV (us.map V.ref) i= .ref (us.getD i 0) /\ RowIs H (us.getD i 0) (ws.getD i z0):=fun i hi=>by
  have e1:us[i]? =some (us.getD i 0):=by rw[aR,af hi];rfl
  have e2:ws[i]? =some (ws.getD i z0):=by rw[aR,af (by omega)];rfl
  refine⟨?_,h.2 i _ _ e1 e2⟩;unfold atV;rw[aR,aC,e1];rfl
 refine⟨q.map fun i=>us.getD i 0,q.map fun i=>ws.getD i z0,?_,⟨by simp,fun k t z a b=> ?_⟩,?_,?_⟩
 ·rw[cN];exact dQ fun i hi=>(at' i (lt i hi)).1
 ·rw[aC] at a b;cases e:q[k]? with
  |none=>rw[e] at a;cases a
  |some i=>
   rw[e] at a b;cases a;cases b;exact(at' i (lt i (ar e))).2
 ·refine(pm.map _).trans ?_;have:(bg us.length).map (fun i=>ws.getD i z0)=ws:=by
   refine gO fun i=> ?_
   rw[aC]
   by_cases c:i<us.length
   ·rw[fe c];show some (ws.getD i z0)=_
    rw[aR,af (show i<ws.length by omega)];rfl
   ·rw[ck (by rw[bC];omega),ck (by omega)];rfl
  rw[this]
 ·unfold B9;rw[cu];refine pw.imp_of_mem fun {a b} ha hb hs=> ?_
  unfold SR.sl ltT at hs;rw[(at' a (lt a ha)).1,(at' b (lt b hb)).1] at hs;dsimp only at hs;rw[si (at' a (lt a ha)).2,si (at' b (lt b hb)).2] at hs;rcases hs with g|⟨g,_⟩
  ·exact tL _ _ g
  ·exact g
noncomputable def rwD(z:Rw):PyData:= .tuple [p3d z.1,p3d z.2.1,.int z.2.2.1,.int z.2.2.2]
theorem rJ{K:ah}{H:Hp}:∀{us:List Addr} {ws:List Rw},RwsAt H us ws ->RdyAll K H (us.map V.ref) (ws.map rwD)
 |[],[],_=> .nil
 |[],_::_,h=>by simp[RwsAt] at h
 |_::_,[],h=>by simp[RwsAt] at h
 |t::us,z::ws,h=>by
  obtain⟨p,q,h1,h2,h3⟩:=h.2 0 t z rfl rfl
  exact .cons (.tup (SqT.of h1) (.cons (tz h2) (.cons (tz h3) (.cons (.int _) (.cons (.int _) .nil))))) (rJ ⟨by simpa using h.1,fun i t z a b=>h.2 (i+1) t z a b⟩)
theorem vU:∀ws:List Rw,PyData.canLayAll0 (ws.map rwD)=true /\ PyData.depthAll (ws.map rwD)<=2
 |[]=>⟨rfl,by simp[PyData.depthAll]⟩
 |c::cs=>by
  obtain⟨a,b⟩:=vU cs
  constructor
  ·simp[rwD,p3d,PyData.canLayAll0,PyData.canLay0];exact a
  ·simp[rwD,p3d,PyData.depthAll,PyData.depth] at b⊢;omega
theorem oB(ws:List Rw):SeqAt.shaped (.list (ws.map rwD))=true:=by
 obtain⟨a,b⟩:=vU ws
 unfold SeqAt.shaped;rw[cK,decide_eq_true_eq];exact⟨by simp[PyData.canLay0,a],by simp[PyData.depth];omega⟩
theorem vh(ws:List Rw):j3 (.list (ws.map rwD))=true:=by
 simp only[j3];exact nM _ (fun z=>by simp[rwD,p3d,j3,kR]) _
theorem xl{rs:List P2}{lot:List Nat}{n:Nat}{r:P2}{L:List Vx}{x y u v:Int}(xu:x<u)(yv:y<v)(nd:rs.Nodup)(ins:∀s∈rs,x<=s.1 /\ s.1<=u /\ y<=s.2 /\ s.2<=v)(ln:lot.Nodup)(hlt:∀j∈lot,j<rs.length)(hl:n∈lot)(hr:rs[n]? =some r)(h:LandOk x y u v rs r (jD rs.length n) L):(rowsOf lot n L).length+lot.length<=rs.length:=by
 have cn:∀z∈rowsOf lot n L,∃m:Nat,z.2.2.2=(m:Int) /\ m<rs.length /\ m∉lot:=fun z hz=>by
  obtain⟨m,s,a,b,f,_⟩:=kJ xu yv nd ins hl hr h hz
  exact⟨m,f.em,(aa.mp f.hm).1,f.out⟩
 have dn:((rowsOf lot n L).map fun z=>z.2.2.2).Nodup:=by
  have e:(uK L).map (·.2.2)=nms L:=by
   unfold uK edges nms;rw[cN];have:(L.zip (MC.rot L)).map (fun e=>e.1.2.2)=((L.zip (MC.rot L)).map iN).map fun v=>v.2.2:=by rw[cN];rfl
   show(L.zip (MC.rot L)).map (fun e=>e.1.2.2)=_
   rw[this,ii];unfold MC.rot;rw[aq,aJ,az];omega
  have hn:=h.nd
  rw[<-e,bT,cu] at hn;rw[bT,cu];unfold rowsOf;rw[fM];refine hn.imp fun {a b} hab z hz z' hz'=> ?_
  unfold ur at hz hz';split at hz<;>split at hz'<;>first|(cases hz;done)|(cases hz';done)|(cases hz;cases hz';exact hab)
 have key:=yH (n:=rs.length) (lot:=((rowsOf lot n L).map fun z=>z.2.2.2.toNat)++lot) (ba.mpr ⟨?_,ln,?_⟩) (fun j hj=> ?_)
 ·rw[aq,ae] at key;exact key
 ·rw[bT,cu] at dn⊢;refine dn.imp_of_mem fun {a b} ha hb hab e=> ?_
  obtain⟨m,e1,_⟩:=cn a ha
  obtain⟨m',e2,_⟩:=cn b hb
  exact hab (by omega)
 ·intro j hj k hk e;obtain⟨z,hz,rfl⟩:=aw.mp hj
  obtain⟨m,e1,_,e3⟩:=cn z hz
  exact e3 (by rw[show m=z.2.2.2.toNat by omega,e];exact hk)
 ·rcases aU.mp hj with g|g
  ·obtain⟨z,hz,rfl⟩:=aw.mp g
   obtain⟨m,e1,e2,_⟩:=cn z hz
   omega
  ·exact hlt j g
theorem sY{rs:List P2}{lot:List Nat}{Lf:Nat ->List Vx}{x y u v:Int}(xu:x<u)(yv:y<v)(nd:rs.Nodup)(ins:∀s∈rs,x<=s.1 /\ s.1<=u /\ y<=s.2 /\ s.2<=v)(ln:lot.Nodup)(hlt:∀j∈lot,j<rs.length):∀{k:List Nat},(∀n∈k,n∈lot) ->j4 x y u v rs Lf k ->(jY lot Lf k).length<=k.length*(rs.length-lot.length)
 |[],_,_=>by simp[jY]
 |n::k,sub,hL=>by
  obtain⟨r,hr,lo⟩:=hL n aY
  have ih:=sY xu yv nd ins ln hlt (k:=k) (fun m hm=>sub m (aB _ hm)) (fun m hm=>hL m (aB _ hm))
  have o:=xl xu yv nd ins ln hlt (sub n aY) hr lo
  unfold jY at ih⊢;rw[bH,aq,aX,Nat.succ_mul];omega
theorem By:∀a:Nat,a<13 ->a*(12-a)<64:=by decide
theorem vc{rs:List P2}{lot:List Nat}{Lf:Nat ->List Vx}{x y u v:Int}(xu:x<u)(yv:y<v)(nd:rs.Nodup)(ins:∀s∈rs,x<=s.1 /\ s.1<=u /\ y<=s.2 /\ s.2<=v)(n12:rs.length<=12)(ln:lot.Nodup)(hlt:∀j∈lot,j<rs.length)(hL:j4 x y u v rs Lf lot):(jY lot Lf lot).length<64:=by
 have h:=sY xu yv nd ins ln hlt (fun n hn=>hn) hL
 have l:=yH ln hlt
 have:=By lot.length (by omega)
 have:=Nat.mul_le_mul_left lot.length (show rs.length-lot.length<=12-lot.length by omega)
 omega
theorem xv{P Q:V3}(h:P.2.1*Q.2.2<Q.2.1*P.2.2∨(P.2.1*Q.2.2=Q.2.1*P.2.2 /\ Q.1*P.2.2<P.1*Q.2.2)):oT P Q=true:=by
 unfold oT;split
 ·rw[decide_eq_true_eq];omega
 ·rw[decide_eq_true_eq];omega
theorem qK{rs:List P2}{lo hi:List Nat}(ho:HalfOk rs lo hi){z:Rw}{n m:Nat}{r s:P2}(F:RowF rs lo z n m r s):oT z.1 z.2.1=true /\ HT.lexGe [r.1,r.2] [s.1,s.2]=false:=by
 have ml:=(aa.mp F.hm).1
 have mh:m∈hi:=Classical.byContradiction fun c=>F.out ((ho.part m ml).mpr c)
 have lx:=ho.lx n F.inl m mh
 have e1:sP rs n=r:=by have:=BV (aa.mp F.hn).1;rw[F.hn] at this;exact(aZ.inj this).symm
 have e2:sP rs m=s:=by have:=BV ml;rw[F.hm] at this;exact(aZ.inj this).symm
 rw[e1,e2] at lx;refine⟨xv (yi F.p1 F.p2 F.q1 F.q2 F.lf lx),?_⟩;unfold Lx at lx;simp only[HT.lexGe]
 by_cases c:r.1=s.1
 ·rw[if_pos c,if_neg (by omega),decide_eq_false_iff_not];omega
 ·rw[if_neg c,decide_eq_false_iff_not];omega
theorem u9{x y u v:Int}{rs:List P2}(xu:x<u)(yv:y<v)(nd:rs.Nodup)(ins:∀s∈rs,x<=s.1 /\ s.1<=u /\ y<=s.2 /\ s.2<=v){lo hi:List Nat}(ho:HalfOk rs lo hi){Lf Lg:Nat ->List Vx}(h1:j4 x y u v rs Lf lo)(h2:j4 x y u v rs Lg hi){ws ws2:List Rw}(p1:ws.Perm (jY lo Lf lo))(p2:ws2.Perm (jY hi Lg hi)):(ws2.map swR).Perm ws:=by
 have part2:∀n,n<rs.length ->(n∈hi↔n∉lo):=fun n hn=>by have:=ho.part n hn;constructor<;>intro g<;>(try intro g2)<;>first|exact(this.mp g2) g|exact Classical.byContradiction fun c=>g (this.mpr c)
 have nodup:∀{lot:List Nat} {L:Nat ->List Vx},lot.Nodup ->j4 x y u v rs L lot ->(jY lot L lot).Nodup:=fun dl hl=>(u7 xu yv nd ins dl (fun n hn=>hn) hl).imp fun h e=>h (by rw[e];exact⟨rfl,rfl⟩)
 have n1:=p1.nodup_iff.mpr (nodup ho.n1 h1)
 have n2:=p2.nodup_iff.mpr (nodup ho.n2 h2)
 refine(fj ?_ n1).mpr fun z=> ?_
 ·rw[bT,cu];exact n2.imp fun h e=>h (by have:=congrArg swR e;exact this)
 ·rw[aw,p1.mem_iff];constructor
  ·rintro⟨w,hw,rfl⟩;exact qG xu yv nd ins h2 h1 part2 (p2.mem_iff.mp hw)
  ·intro hz;exact⟨swR z,p2.mem_iff.mpr (qG xu yv nd ins h1 h2 ho.part hz),rfl⟩
end LW
namespace LW
open PySem L2 MA PyProof.Rows MC
section
variable {P:Program} {w:World} {K:ah} {mg:Str ->Option Value} {base:Heap}
theorem sc_divisor:FnScope ["one","other"] ["one","other"] (iW s_divisor):=⟨rfl,rfl,rfl,by decide+kernel,rfl,by decide+kernel,by decide+kernel⟩
theorem ok_divisor{C:Cz}{f:Addr}{fd:FuncData}(F:Fun K "divisor" "divisor" s_divisor f fd)(T:Txt K mg C):FnOk P w K mg base (CXE P w) 1 f fd ["one","other"] kh:=by
 refine okN F (k:=0) sc_divisor (fun vs H Q E h=> ?_) (fun cdv A outer s H vs Q E hr h=> ?_)
 ·obtain⟨a,b,rfl,_⟩:=h
  rfl
 ·obtain⟨a,b,rfl,h⟩:=h
  refine'⟨_,?main,?rest⟩
  case main=>
   refine' i0 ?c1 ?c2
   case' c1=>refine' jt (i:=0) sc_divisor.nd rfl (aS rfl) ?c3
   case' c3=>refine' jc ud (by rfl) T.b_abs boot_abs ?c4
   case' c4=>exact iT (pvF 0) iV
   case' c2=>refine' i0 ?c5 ?c6
   case' c5=>refine' jt (i:=1) sc_divisor.nd rfl (aS rfl) ?c7
   case' c7=>refine' jc ud (by rfl) T.b_abs boot_abs ?c8
   case' c8=>exact iT (pvF 1) iV
   case' c6=>refine' i0 ?c9 ?c10
   case' c9=>refine' pN PassesOwn.never ?c11 ?c12
   case' c11=>exact ja qQ (pvF 1) iU (je _)
   case' c12=>refine' iY ?c13
   case' c13=>refine' AZ (i:=0) (j:=1) rfl sc_divisor.nd rfl rfl (by decide) rfl rfl ?c14 rfl
   case' c14=>refine' iT (pvF 1) ?c15
   case' c15=>exact iT (i8 (OpR.f ly) (pvF 0) (pvF 1)) iV
   case' c10=>exact iY (jg (pvF 0))
  case rest=>
   walk_at "ST"
   walk_at "RD"
   refine⟨fun m σ H'=>∃x y:Int,σ=[some (.int x),some (.int y)] /\ H'=H /\ 0<=x /\ 0<=y /\ aA x y=aA a b /\ m=y.toNat,⟨_,_,_,rfl,rfl,?_,?_,?_,rfl⟩,?_⟩
   ·show 0<=ab a
    rw[yy];omega
   ·show 0<=ab b
    rw[yy];omega
   ·show aA (ab a) (ab b)=_
    rw[yy,yy,qY,qh]
   ·rintro m σ H' ⟨x,y,rfl,rfl,hx,hy,hg,rfl⟩;walk_at "RD"
    by_cases hy0:y=0
    ·subst hy0;rw[if_neg (by simp)];have e:=gcd_zero hx
     rw[hg] at e;rw[e] at h;exact h
    ·rw[if_pos (by simpa using hy0)];have hp:0<y:=by omega
     refine⟨fun σ' H1=>∃x y':Int,σ'=[some (.int x),some (.int y')] /\ H1=H' /\ 0<=x /\ 0<=y' /\ aA x y'=aA a b /\ y'<y,?_,?_⟩
     ·rintro σ' H1 ⟨x,y',rfl,rfl,h1,h2,h3,h4⟩;exact⟨y'.toNat,by omega,x,y',rfl,rfl,h1,h2,h3,rfl⟩
     ·walk_at "RD"
      exact⟨hp,hy,cF _ hy0,by rw[yc hp];exact hg,b7 _ hp⟩
theorem zd:FnScope ["number"] ["number"] (iW s_sign):=⟨rfl,rfl,rfl,by decide+kernel,rfl,by decide+kernel,by decide+kernel⟩
theorem ok_sign{C:Cz}{f:Addr}{fd:FuncData}(F:Fun K "sign" "sign" s_sign f fd)(T:Txt K mg C):FnOk P w K mg base (CXE P w) 1 f fd ["number"] pE:=by
 refine okN F (k:=0) zd (fun vs H Q E h=> ?_) (fun cdv A outer s H vs Q E hr h=> ?_)
 ·obtain⟨n,rfl,_⟩:=h
  rfl
 ·obtain⟨n,rfl,h⟩:=h
  refine'⟨_,?main,?rest⟩
  case main=>
   refine' i0 ?c1 ?c2
   case' c1=>refine' jI ?c3 ?c4 jh
   case' c3=>exact ja (OpR.f0 mO) (pvF 0) iU (je _)
   case' c4=>refine' iY ?c5
   case' c5=>refine' jg ?c6
   case' c6=>exact vC (UnR.f qy) iU
   case' c2=>refine' i0 ?c7 ?c8
   case' c7=>refine' jI ?c9 ?c10 jh
   case' c9=>exact ja (OpR.f0 pU) (pvF 0) iU (je _)
   case' c10=>refine' iY ?c11
   case' c11=>exact jg iU
   case' c8=>refine' iY ?c12
   case' c12=>exact jg iU
  case rest=>
   walk_at "ST"
   walk_at "RD"
   unfold sgn at h;split
   ·rename_i z
    rw[if_pos z] at h;exact h
   ·rename_i z
    rw[if_neg z] at h;split
    ·rename_i z
     rw[if_pos z] at h;exact h
    ·rename_i z
     rw[if_neg z] at h;exact h
theorem sc_point_of:FnScope ["x","y","w","common"] ["x","y","w"] (iW s_point_of):=⟨rfl,rfl,rfl,by decide+kernel,rfl,by decide+kernel,by decide+kernel⟩
theorem ok_point_of{C:Cz}{f:Addr}{fd:FuncData}(F:Fun K "point_of" "point_of" s_point_of f fd)(T:Txt K mg C)(F_divisor:FnB P w K mg base (CXE P w) 1 "divisor" ["one","other"] kh)(F_sign:FnB P w K mg base (CXE P w) 1 "sign" ["number"] pE):FnOk P w K mg base (CXE P w) 2 f fd ["x","y","w"] kN:=by
 refine okN F (k:=1) sc_point_of (fun vs H Q E h=> ?_) (fun cdv A outer s H vs Q E hr h=> ?_)
 ·obtain⟨x,y,u,rfl,_⟩:=h
  rfl
 ·obtain⟨x,y,u,rfl,h⟩:=h
  refine'⟨_,?main,?rest⟩
  case main=>
   refine' i0 ?c1 ?c2
   case' c1=>refine' jI ?c3 ?c4 jh
   case' c3=>exact ja jX (pvF 2) iU (je _)
   case' c4=>exact iY kf
   case' c2=>refine' i0 ?c5 ?c6
   case' c5=>refine' jt (i:=3) ?c7 ?c8 ?c9 ?c10
   case c7=>exact sc_point_of.nd
   case c8=>exact rfl
   case c9=>exact(aS rfl)
   case' c10=>refine' i8 ?c11 ?c12 ?c13
   case c11=>exact(OpR.f jf)
   case' c12=>refine' jm F_divisor (hr.mono (by decide)) rfl i9 ?c14
   case' c14=>refine' iT ?c15 ?c16
   case' c15=>refine' jm F_divisor (hr.mono (by decide)) rfl i9 ?c17
   case' c17=>refine' iT (pvF 2) ?c18
   case' c18=>exact iT (pvF 0) iV
   case' c16=>exact iT (pvF 1) iV
   case' c13=>refine' jm F_sign (hr.mono (by decide)) rfl i9 ?c19
   case' c19=>exact iT (pvF 2) iV
   case' c6=>refine' iY ?c20
   case' c20=>refine' jg ?c21
   case' c21=>refine' jA ?c22
   case' c22=>refine' iT (i8 (OpR.f jW) (pvF 0) (pvF 3)) ?c23
   case' c23=>refine' iT (i8 (OpR.f jW) (pvF 1) (pvF 3)) ?c24
   case' c24=>exact iT (i8 (OpR.f jW) (pvF 2) (pvF 3)) iV
  case rest=>
   obtain⟨hw,hb,h⟩:=h
   walk_at "ST"
   rw[Al]
   o_head ⟨kh,pE,hw,rI⟩
   have hc:com x y u=(aA (aA u x) y:Int)*sgn u:=rfl
   rw[<-hc];have h1:com x y u≠0:=yR hw
   have h2:Bd 9000 (com x y u):=by
    refine Bd.mono (m:=8000) ?_ (by decide);have:=(wt x y u hw).2.2
    exact bJ (gJ (by omega) (eQ.mpr this)) hb
   refine⟨.inl (.inr ?_),h1,h2,h1,h2,h1,h2,by decide,fun p hp=>h p _ _ _ hp (nU hw)⟩;rcases u4 u with e|e|e<;>rw[e]<;>decide
theorem pL:FnScope ["spot"] ["spot"] (iW s_spot_point):=⟨rfl,rfl,rfl,by decide+kernel,rfl,by decide+kernel,by decide+kernel⟩
theorem ok_spot_point{C:Cz}{f:Addr}{fd:FuncData}(F:Fun K "spot_point" "spot_point" s_spot_point f fd)(T:Txt K mg C):FnOk P w K mg base (CXE P w) 1 f fd ["spot"] kb:=by
 refine okN F (k:=0) pL (fun vs H Q E h=> ?_) (fun cdv A outer s H vs Q E hr h=> ?_)
 ·obtain⟨p,a,b,rfl,_⟩:=h
  rfl
 ·obtain⟨p,a,b,rfl,h⟩:=h
  refine'⟨_,?main,?rest⟩
  case main=>
   refine' iY ?c1
   case' c1=>refine' jg ?c2
   case' c2=>refine' jA ?c3
   case' c3=>refine' iT ?c4 ?c5
   case' c4=>exact jj jQ (pvF 0) iU (fun _ _=>rfl)
   case' c5=>refine' iT ?c6 ?c7
   case' c6=>exact jj jQ (pvF 0) iU (fun _ _=>rfl)
   case' c7=>exact iT iU iV
  case rest=>
   obtain⟨hp,h⟩:=h
   walk_at "ST"
   o_head ⟨hp⟩
   exact⟨by decide,h⟩
theorem sc_ahead:FnScope ["one","other","across"] ["one","other"] (iW s_ahead):=⟨rfl,rfl,rfl,by decide+kernel,rfl,by decide+kernel,by decide+kernel⟩
theorem ok_ahead{C:Cz}{f:Addr}{fd:FuncData}(F:Fun K "ahead" "ahead" s_ahead f fd)(T:Txt K mg C):FnOk P w K mg base (CXE P w) 1 f fd ["one","other"] lF:=by
 refine okN F (k:=0) sc_ahead (fun vs H Q E h=> ?_) (fun cdv A outer s H vs Q E hr h=> ?_)
 ·obtain⟨p,q,rfl,_⟩:=h
  rfl
 ·obtain⟨p,q,rfl,h⟩:=h
  refine'⟨_,?main,?rest⟩
  case main=>
   refine' i0 ?c1 ?c2
   case' c1=>refine' jt (i:=2) ?c3 ?c4 ?c5 ?c6
   case c3=>exact sc_ahead.nd
   case c4=>exact rfl
   case c5=>exact(aS rfl)
   case' c6=>refine' i8 ?c7 ?c8 ?c9
   case c7=>exact(OpR.f0 jR)
   case' c8=>refine' i8 (OpR.f jf) ?c10 ?c11
   case' c10=>exact jj jQ (pvF 0) iU (fun _ _=>rfl)
   case' c11=>exact jj jQ (pvF 1) iU (fun _ _=>rfl)
   case' c9=>refine' i8 (OpR.f jf) ?c12 ?c13
   case' c12=>exact jj jQ (pvF 1) iU (fun _ _=>rfl)
   case' c13=>exact jj jQ (pvF 0) iU (fun _ _=>rfl)
   case' c2=>refine' i0 ?c14 ?c15
   case' c14=>refine' jI ?c16 ?c17 jh
   case' c16=>exact ja qQ (pvF 2) iU (je _)
   case' c17=>refine' iY ?c18
   case' c18=>refine' jg ?c19
   case' c19=>exact kG (OpR.f0 mO) (pvF 2) iU (je _)
   case' c15=>refine' iY ?c20
   case' c20=>refine' jg ?c21
   case' c21=>refine' kG ?c22 ?c23 ?c24 ?c25
   case c22=>exact(OpR.f0 mO)
   case' c23=>refine' i8 (OpR.f jf) ?c26 ?c27
   case' c26=>exact jj jQ (pvF 0) iU (fun _ _=>rfl)
   case' c27=>exact jj jQ (pvF 1) iU (fun _ _=>rfl)
   case' c24=>refine' i8 (OpR.f jf) ?c28 ?c29
   case' c28=>exact jj jQ (pvF 1) iU (fun _ _=>rfl)
   case' c29=>exact jj jQ (pvF 0) iU (fun _ _=>rfl)
   case c25=>exact(je _)
  case rest=>
   obtain⟨⟨a,b,c⟩,hp,h⟩:=jy h
   obtain⟨⟨d,e,f⟩,hq,⟨b1,b2,b3⟩,⟨b4,b5,b6⟩,h⟩:=jy h
   replace hp:=pd hp
   replace hq:=pd hq
   dsimp only at hp hq b1 b2 b3 b4 b5 b6 h;walk_at "ST"
   o_head ⟨hp,hq,rI,rI⟩
   refine⟨(by walk_at "CM"),(by walk_at "CM"),?_⟩;unfold oS at h
   by_cases z:a*f-d*c=0
   ·rw[if_neg (by simpa using z)] at h;rw[if_neg (by simpa using z)];exact⟨(by walk_at "CM"),(by walk_at "CM"),h⟩
   ·rw[if_pos (by simpa using z)] at h;rw[if_pos (by simpa using z)];exact h
theorem sc_line_of:FnScope ["a","b","c","common"] ["a","b","c"] (iW s_line_of):=⟨rfl,rfl,rfl,by decide+kernel,rfl,by decide+kernel,by decide+kernel⟩
theorem ok_line_of{C:Cz}{f:Addr}{fd:FuncData}(F:Fun K "line_of" "line_of" s_line_of f fd)(T:Txt K mg C)(F_divisor:FnB P w K mg base (CXE P w) 1 "divisor" ["one","other"] kh):FnOk P w K mg base (CXE P w) 2 f fd ["a","b","c"] lD:=by
 refine okN F (k:=1) sc_line_of (fun vs H Q E h=> ?_) (fun cdv A outer s H vs Q E hr h=> ?_)
 ·obtain⟨a,b,c,rfl,_⟩:=h
  rfl
 ·obtain⟨a,b,c,rfl,h⟩:=h
  refine'⟨_,?main,?rest⟩
  case main=>
   refine' jr ?c1 ?c2
   case' c1=>refine' jI ?c3 ?c4 ?c5
   case' c3=>refine' PW.pt ?c6
   case' c6=>refine' mH ?c7 ?c8
   case' c7=>exact ja jX (pvF 0) iU (je _)
   case' c8=>refine' k8 ?c9
   case' c9=>exact ja jX (pvF 1) iU (je _)
   case' c4=>exact iY kf
   case c5=>exact jh
   case' c2=>refine' i0 ?c10 ?c11
   case' c10=>refine' jt (i:=3) sc_line_of.nd rfl (aS rfl) ?c12
   case' c12=>refine' jm F_divisor (hr.mono (by decide)) rfl i9 ?c13
   case' c13=>refine' iT ?c14 ?c15
   case' c14=>refine' jm F_divisor (hr.mono (by decide)) rfl i9 ?c16
   case' c16=>refine' iT (pvF 0) ?c17
   case' c17=>exact iT (pvF 1) iV
   case' c15=>exact iT (pvF 2) iV
   case' c11=>refine' iY ?c18
   case' c18=>refine' jg ?c19
   case' c19=>refine' jA ?c20
   case' c20=>refine' iT (i8 (OpR.f jW) (pvF 0) (pvF 3)) ?c21
   case' c21=>refine' iT (i8 (OpR.f jW) (pvF 1) (pvF 3)) ?c22
   case' c22=>exact iT (i8 (OpR.f jW) (pvF 2) (pvF 3)) iV
  case rest=>
   obtain⟨hn,⟨b1,b2,b3⟩,h⟩:=h
   walk_at "ST"
   refine⟨fun σ H'=>σ=[some (.int a),some (.int b),some (.int c),none] /\ H'=H,?_,?_⟩
   ·walk_at "RD"
    split
    ·rename_i ea
     split
     ·rename_i eb
      exact absurd ⟨ea,eb⟩ hn
     ·trivial
    ·trivial
   ·rintro σ H' ⟨rfl,rfl⟩
    o_head ⟨kh⟩
    obtain⟨hl,hne⟩:=rY (c:=c) hn
    have hb:Bd 9000 (aA (aA a b) c:Int):=by
     refine Bd.mono (m:=4000) ?_ (by decide);obtain⟨g,hg,ea,eb,ec,eg⟩:=hl.ex
     rw[<-eg]
     by_cases z:a=0
     ·have:b≠0:=fun z'=>hn ⟨z,z'⟩
      exact bJ (gJ (by omega) (eQ.mpr ⟨_,eb⟩)) b2
     ·exact bJ (gJ (by omega) (eQ.mpr ⟨_,ea⟩)) b1
    exact⟨hne,hb,hne,hb,hne,hb,by decide,fun p hp=>h p _ _ _ hp hl⟩
theorem sc_between:FnScope ["one","other","x","y","u","v"] ["one","other"] (iW s_between):=⟨rfl,rfl,rfl,by decide+kernel,rfl,by decide+kernel,by decide+kernel⟩
theorem ok_between{C:Cz}{f:Addr}{fd:FuncData}(F:Fun K "between" "between" s_between f fd)(T:Txt K mg C)(F_line_of:FnB P w K mg base (CXE P w) 2 "line_of" ["a","b","c"] lD):FnOk P w K mg base (CXE P w) 3 f fd ["one","other"] lE:=by
 refine okN F (k:=2) sc_between (fun vs H Q E h=> ?_) (fun cdv A outer s H vs Q E hr h=> ?_)
 ·obtain⟨p,q,rfl,_⟩:=h
  rfl
 ·obtain⟨p,q,rfl,h⟩:=h
  refine'⟨_,?main,?rest⟩
  case main=>
   refine' jr ?c1 ?c2
   case' c1=>refine' jI (ja (rO (K:=K) rfl (Cj hr)) (pvF 0) (pvF 1) (je _)) ?c3 jh
   case' c3=>exact iY kf
   case' c2=>refine' i0 ?c4 ?c5
   case' c4=>refine' k9 (pvF 0) ?c6
   case' c6=>refine' mY (n:=2) rfl ?c7
   case' c7=>refine' iZ (i5 (i:=2) sc_between.nd rfl (aS rfl)) ?c8
   case' c8=>exact iZ (i5 (i:=3) sc_between.nd rfl (aS rfl)) jv
   case' c5=>refine' i0 ?c9 ?c10
   case' c9=>refine' k9 (pvF 1) ?c11
   case' c11=>refine' mY (n:=2) rfl ?c12
   case' c12=>refine' iZ (i5 (i:=4) sc_between.nd rfl (aS rfl)) ?c13
   case' c13=>exact iZ (i5 (i:=5) sc_between.nd rfl (aS rfl)) jv
   case' c10=>refine' iY ?c14
   case' c14=>refine' jg ?c15
   case' c15=>refine' jm ?c16 ?c17 ?c18 ?c19 ?c20
   case c16=>exact F_line_of
   case c17=>exact(hr.mono (by decide))
   case c18=>exact rfl
   case c19=>exact i9
   case' c20=>refine' iT ?c21 ?c22
   case' c21=>exact i8 (OpR.f jf) iU (i8 (OpR.f0 jR) (pvF 4) (pvF 2))
   case' c22=>refine' iT ?c23 ?c24
   case' c23=>exact i8 (OpR.f jf) iU (i8 (OpR.f0 jR) (pvF 5) (pvF 3))
   case' c24=>refine' iT ?c25 iV
   case' c25=>refine' i8 (OpR.f0 jR) ?c26 (i8 (OpR.f jf) (pvF 3) (pvF 3))
   case' c26=>refine' i8 (OpR.f0 jR) ?c27 (i8 (OpR.f jf) (pvF 2) (pvF 2))
   case' c27=>exact i8 (OpR.f0 jG) (i8 (OpR.f jf) (pvF 4) (pvF 4)) (i8 (OpR.f jf) (pvF 5) (pvF 5))
  case rest=>
   obtain⟨⟨a,b⟩,hp,h⟩:=jy h
   obtain⟨⟨d,e⟩,hq,⟨b1,b2⟩,⟨b3,b4⟩,hne,h⟩:=jy h
   replace hp:=uP hp
   replace hq:=uP hq
   dsimp only at hp hq b1 b2 b3 b4;walk_at "ST"
   have hn:¬(a=d /\ b=e):=fun z=>hne (by rw[z.1,z.2])
   refine⟨fun σ H'=>σ=[some (.ref p),some (.ref q),none,none,none,none] /\ H'=H,?_,?_⟩
   ·walk_at "RD"
    refine⟨_,_,oE hp,oE hq,rfl,rfl,?_⟩;rw[tZ,decide_eq_false hn]
    o_head ⟨id⟩
   ·rintro σ H' ⟨rfl,rfl⟩
    o_head ⟨kg,ky,nW,hp,hq,lD,rI,rI,rI,rI,rI,rI⟩
    refine⟨.left (by decide) (by decide),.left (by decide) (by decide),(by walk_at "CM"),(by walk_at "CM"),(by walk_at "CM"),(by walk_at "CM"),fun z=>hn ⟨by omega,by omega⟩,?_,?_,?_,fun t x y z ht hl=> ?_⟩
    ·exact((Bd.of_le (n:=2) 2 (by decide) (by decide) (by decide)).mul (b3.sub b1)).mono (by decide)
    ·exact((Bd.of_le (n:=2) 2 (by decide) (by decide) (by decide)).mul (b4.sub b2)).mono (by decide)
    ·exact((((b3.mul b3).add (b4.mul b4)).sub (b1.mul b1)).sub (b2.mul b2)).mono (by decide)
    ·obtain⟨e1,e2,e3⟩:=rZ hl
     have q:=h t ht
     unfold lnB at q;dsimp only at q;rw[<-e1, <-e2, <-e3] at q;exact q
theorem vg:FnScope ["line","point"] ["line","point"] (iW s_excess):=⟨rfl,rfl,rfl,by decide+kernel,rfl,by decide+kernel,by decide+kernel⟩
theorem ok_excess{C:Cz}{f:Addr}{fd:FuncData}(F:Fun K "excess" "excess" s_excess f fd)(T:Txt K mg C):FnOk P w K mg base (CXE P w) 1 f fd ["line","point"] lZ:=by
 refine okN F (k:=0) vg (fun vs H Q E h=> ?_) (fun cdv A outer s H vs Q E hr h=> ?_)
 ·obtain⟨p,q,rfl,_⟩:=h
  rfl
 ·obtain⟨p,q,rfl,h⟩:=h
  refine'⟨_,?main,?rest⟩
  case main=>
   refine' iY ?c1
   case' c1=>refine' jg ?c2
   case' c2=>refine' i8 ?c3 ?c4 ?c5
   case c3=>exact(OpR.f0 jR)
   case' c4=>refine' i8 ?c6 ?c7 ?c8
   case c6=>exact(OpR.f0 jG)
   case' c7=>refine' i8 (OpR.f jf) ?c9 ?c10
   case' c9=>exact jj jQ (pvF 0) iU (fun _ _=>rfl)
   case' c10=>exact jj jQ (pvF 1) iU (fun _ _=>rfl)
   case' c8=>refine' i8 (OpR.f jf) ?c11 ?c12
   case' c11=>exact jj jQ (pvF 0) iU (fun _ _=>rfl)
   case' c12=>exact jj jQ (pvF 1) iU (fun _ _=>rfl)
   case' c5=>refine' i8 (OpR.f jf) ?c13 ?c14
   case' c13=>exact jj jQ (pvF 0) iU (fun _ _=>rfl)
   case' c14=>exact jj jQ (pvF 1) iU (fun _ _=>rfl)
  case rest=>
   obtain⟨⟨a,b,c⟩,hp,h⟩:=jy h
   obtain⟨⟨d,e,f⟩,hq,⟨b1,b2,b3⟩,⟨b4,b5,b6⟩,h⟩:=jy h
   replace hp:=pd hp
   replace hq:=pd hq
   dsimp only at hp hq b1 b2 b3 b4 b5 b6 h;walk_at "ST"
   o_head ⟨hp,hq,rI,rI⟩
   exact⟨(by walk_at "CM"),(by walk_at "CM"),(by walk_at "CM"),h⟩
theorem sc_check_box:FnScope ["box","x","y","u","v"] ["box"] (iW s_check_box):=⟨rfl,rfl,rfl,by decide+kernel,rfl,by decide+kernel,by decide+kernel⟩
theorem ok_check_box{C:Cz}{f:Addr}{fd:FuncData}(F:Fun K "check_box" "check_box" s_check_box f fd)(T:Txt K mg C):FnOk P w K mg base (CXE P w) 1 f fd ["box"] jT:=by
 refine okN F (k:=0) sc_check_box (fun vs H Q E h=> ?_) (fun cdv A outer s H vs Q E hr h=> ?_)
 ·obtain⟨p,x,y,u,v,rfl,_⟩:=h
  rfl
 ·obtain⟨p,x,y,u,v,rfl,h⟩:=h
  refine'⟨_,?main,?rest⟩
  case main=>
   refine' i0 ?c1 ?c2
   case' c1=>refine' k9 ?c3 ?c4
   case c3=>exact(pvF 0)
   case' c4=>refine' mY (n:=4) rfl ?c5
   case' c5=>refine' iZ (i5 (i:=1) sc_check_box.nd rfl (aS rfl)) ?c6
   case' c6=>refine' iZ (i5 (i:=2) sc_check_box.nd rfl (aS rfl)) ?c7
   case' c7=>refine' iZ (i5 (i:=3) sc_check_box.nd rfl (aS rfl)) ?c8
   case' c8=>exact iZ (i5 (i:=4) sc_check_box.nd rfl (aS rfl)) jv
   case' c2=>refine' iY ?c9
   case' c9=>refine' jI ?c10 ?c11 jh
   case' c10=>refine' PW.pt ?c12
   case' c12=>refine' rK (ja (OpR.f0 ux) (pvF 1) (pvF 3) (je _)) ?c13
   case' c13=>exact nL (ja (OpR.f0 ux) (pvF 2) (pvF 4) (je _))
   case' c11=>exact iY kf
  case rest=>
   obtain⟨hp,h1,h2,h⟩:=h
   walk_at "ST"
   o_head ⟨kg,ky,nW,hp⟩
   rw[if_neg (by omega),if_neg (by omega)];exact h
theorem sc_has_point:FnScope ["box","point","x","y","u","v","across","up","w"] ["box","point"] (iW s_has_point):=⟨rfl,rfl,rfl,by decide+kernel,rfl,by decide+kernel,by decide+kernel⟩
theorem ok_has_point{C:Cz}{f:Addr}{fd:FuncData}(F:Fun K "has_point" "has_point" s_has_point f fd)(T:Txt K mg C):FnOk P w K mg base (CXE P w) 1 f fd ["box","point"] kZ:=by
 refine okN F (k:=0) sc_has_point (fun vs H Q E h=> ?_) (fun cdv A outer s H vs Q E hr h=> ?_)
 ·obtain⟨p,q,x,y,u,v,z,rfl,_⟩:=h
  rfl
 ·obtain⟨p,q,x,y,u,v,z,rfl,h⟩:=h
  refine'⟨_,?main,?rest⟩
  case main=>
   refine' i0 ?c1 ?c2
   case' c1=>refine' k9 ?c3 ?c4
   case c3=>exact(pvF 0)
   case' c4=>refine' mY (n:=4) rfl ?c5
   case' c5=>refine' iZ (i5 (i:=2) sc_has_point.nd rfl (aS rfl)) ?c6
   case' c6=>refine' iZ (i5 (i:=3) sc_has_point.nd rfl (aS rfl)) ?c7
   case' c7=>refine' iZ (i5 (i:=4) sc_has_point.nd rfl (aS rfl)) ?c8
   case' c8=>exact iZ (i5 (i:=5) sc_has_point.nd rfl (aS rfl)) jv
   case' c2=>refine' i0 ?c9 ?c10
   case' c9=>refine' k9 (pvF 1) ?c11
   case' c11=>refine' mY (n:=3) rfl ?c12
   case' c12=>refine' iZ (i5 (i:=6) sc_has_point.nd rfl (aS rfl)) ?c13
   case' c13=>refine' iZ (i5 (i:=7) sc_has_point.nd rfl (aS rfl)) ?c14
   case' c14=>exact iZ (i5 (i:=8) sc_has_point.nd rfl (aS rfl)) jv
   case' c10=>refine' iY ?c15
   case' c15=>refine' jg ?c16
   case' c16=>refine' vI ?c17 ?c18
   case' c17=>exact tF (OpR.f0 uw) (OpR.f0 uw) (i8 (OpR.f jf) (pvF 2) (pvF 8)) (pvF 6) (i8 (OpR.f jf) (pvF 4) (pvF 8))
   case' c18=>refine' vF ?c19
   case' c19=>exact tF (OpR.f0 uw) (OpR.f0 uw) (i8 (OpR.f jf) (pvF 3) (pvF 8)) (pvF 7) (i8 (OpR.f jf) (pvF 5) (pvF 8))
  case rest=>
   obtain⟨hp,hq,⟨b1,b2,b3,b4⟩,b5,h⟩:=h
   walk_at "ST"
   o_head ⟨kg,ky,nW,hp,hq,yC,rI,rI,rI,rI,rI,rI⟩
   refine⟨.of b1 b5 (by decide) (by decide),?_⟩
   by_cases c1:x*z.2.2<=z.1
   ·rw[if_pos c1];refine⟨.of b3 b5 (by decide) (by decide),?_⟩
    by_cases c2:z.1<=u*z.2.2
    ·rw[if_pos c2];refine⟨.of b2 b5 (by decide) (by decide),?_⟩
     by_cases c3:y*z.2.2<=z.2.1
     ·rw[if_pos c3];refine⟨.of b4 b5 (by decide) (by decide),?_⟩;have e:sg x y u v z=decide (z.2.1<=v*z.2.2):=by
       unfold sg
       by_cases c4:z.2.1<=v*z.2.2
       ·rw[decide_eq_true c4,decide_eq_true ⟨c1,c2,c3,c4⟩]
       ·rw[decide_eq_false c4,decide_eq_false (fun q=>c4 q.2.2.2)]
      rw[<-e];exact h
     ·rw[if_neg c3];rw[show sg x y u v z=false from decide_eq_false fun q=>c3 q.2.2.1] at h;exact h
    ·rw[if_neg c2];rw[show sg x y u v z=false from decide_eq_false fun q=>c2 q.2.1] at h;exact h
   ·rw[if_neg c1];rw[show sg x y u v z=false from decide_eq_false fun q=>c1 q.1] at h;exact h
theorem vf:FnScope ["box","spot"] ["box","spot"] (iW s_in_box):=⟨rfl,rfl,rfl,by decide+kernel,rfl,by decide+kernel,by decide+kernel⟩
theorem ok_in_box{C:Cz}{f:Addr}{fd:FuncData}(F:Fun K "in_box" "in_box" s_in_box f fd)(T:Txt K mg C)(F_spot_point:FnB P w K mg base (CXE P w) 1 "spot_point" ["spot"] kb)(F_has_point:FnB P w K mg base (CXE P w) 1 "has_point" ["box","point"] kZ):FnOk P w K mg base (CXE P w) 2 f fd ["box","spot"] lY:=by
 refine okN F (k:=1) vf (fun vs H Q E h=> ?_) (fun cdv A outer s H vs Q E hr h=> ?_)
 ·obtain⟨p,q,x,y,u,v,a,b,rfl,_⟩:=h
  rfl
 ·obtain⟨p,q,x,y,u,v,a,b,rfl,h⟩:=h
  refine'⟨_,?main,?rest⟩
  case main=>
   refine' iY ?c1
   case' c1=>refine' jg ?c2
   case' c2=>refine' jm F_has_point (hr.mono (by decide)) rfl i9 ?c3
   case' c3=>refine' iT (pvF 0) ?c4
   case' c4=>refine' iT ?c5 iV
   case' c5=>refine' jm F_spot_point (hr.mono (by decide)) rfl i9 ?c6
   case' c6=>exact iT (pvF 1) iV
  case rest=>
   obtain⟨hp,hq,hb,hi,h⟩:=h
   walk_at "ST"
   o_head ⟨kb,hq,rI,rI⟩
   refine⟨a,b,rfl,fun t ht=> ?_⟩;refine⟨p,t,x,y,u,v,(a,b,1),rfl,ju ht hp,iX,hb,(Bd.lit (i:=1) (by decide) (by decide)),?_⟩;rw[show sg x y u v (a,b,1)=true from decide_eq_true (by dsimp only;rw[dJ,dJ,dJ,dJ];exact hi)];exact h _ (.upd ht)
theorem oo:FnScope ["spots"] ["spots"] (iW s_check_count):=⟨rfl,rfl,rfl,by decide+kernel,rfl,by decide+kernel,by decide+kernel⟩
theorem ok_check_count{C:Cz}{f:Addr}{fd:FuncData}(F:Fun K "check_count" "check_count" s_check_count f fd)(T:Txt K mg C):FnOk P w K mg base (CXE P w) 1 f fd ["spots"] jM:=by
 refine okN F (k:=0) oo (fun vs H Q E h=> ?_) (fun cdv A outer s H vs Q E hr h=> ?_)
 ·obtain⟨l,xs,rfl,_⟩:=h
  rfl
 ·obtain⟨l,xs,rfl,h⟩:=h
  refine'⟨_,?main,?rest⟩
  case main=>
   refine' iY ?c1
   case' c1=>refine' jI ?c2 ?c3 ?c4
   case' c2=>refine' PW.pt ?c5
   case' c5=>refine' rK ?c6 ?c7
   case' c6=>refine' ja jX ?c8 iU (je _)
   case' c8=>refine' jc jx (by rfl) T.b_len bq ?c9
   case' c9=>exact iT (pvF 0) iV
   case' c7=>refine' nL ?c10
   case' c10=>refine' ja (OpR.f0 pU) ?c11 (xJ rfl T.n_MOST_SPOTS) (je _)
   case' c11=>refine' jc jx (by rfl) T.b_len bq ?c12
   case' c12=>exact iT (pvF 0) iV
   case' c3=>exact iY kf
   case c4=>exact jh
  case rest=>
   obtain⟨hl,h0,h12,h⟩:=h
   walk_at "ST"
   o_head ⟨hl⟩
   rw[if_neg (by omega),if_neg (by omega)];exact h
theorem sc_check_spots:FnScope ["spots","number","spot"] ["spots"] (iW s_check_spots):=⟨rfl,rfl,rfl,by decide+kernel,rfl,by decide+kernel,by decide+kernel⟩
theorem ok_check_spots{C:Cz}{f:Addr}{fd:FuncData}(F:Fun K "check_spots" "check_spots" s_check_spots f fd)(T:Txt K mg C)(F_check_count:FnB P w K mg base (CXE P w) 1 "check_count" ["spots"] jM):FnOk P w K mg base (CXE P w) 2 f fd ["spots"] (w6 K):=by
 refine okN F (k:=1) sc_check_spots (fun vs H Q E h=> ?_) (fun cdv A outer s H vs Q E hr h=> ?_)
 ·obtain⟨l,qs,rs,rfl,_⟩:=h
  rfl
 ·obtain⟨l,qs,rs,rfl,h⟩:=h
  refine'⟨_,?main,?rest⟩
  case main=>
   refine' i0 ?c1 ?c2
   case' c1=>refine' jO ?c3
   case' c3=>refine' jm F_check_count (hr.mono (by decide)) rfl i9 ?c4
   case' c4=>exact iT (pvF 0) iV
   case' c2=>refine' iY ?c5
   case' c5=>refine' kK ?c6 ?c7 ?c8 ?c9 ?c10
   case c6=>exact PassesOwn.never
   case c7=>exact rfl
   case' c8=>refine' pR (K:=K) rfl rfl T.b_enumerate ?c11
   case' c11=>exact iT (pvF 0) iV
   case' c9=>refine' mY (n:=2) rfl ?c12
   case' c12=>refine' iZ (i5 (i:=1) sc_check_spots.nd rfl (aS rfl)) ?c13
   case' c13=>exact iZ (i5 (i:=2) sc_check_spots.nd rfl (aS rfl)) jv
   case' c10=>refine' iY ?c14
   case' c14=>refine' jI ?c15 ?c16 jh
   case' c15=>refine' ja (vL (K:=K) rfl (Ci hr)) (pvF 2) ?c17 (by with_unfolding_all rfl)
   case' c17=>exact jV wG (pvF 0) kr (ko (pvF 1))
   case' c16=>exact iY kf
  case rest=>
   obtain⟨ok,h⟩:=h
   walk_at "ST"
   o_head ⟨jM⟩
   have lq:(qs.map V.ref).length=rs.length:=by rw[ae,ok.at_.1]
   refine⟨_,ok.sp,by rw[lq];exact ok.n0,by rw[lq];exact ok.n12,?_⟩;refine lV (fun a' H1=>a'=l /\ H1=H) ?_ ?_
   ·intro R hR;walk_at "RD"
    exact hR _ _ ⟨rfl,rfl⟩
   ·rintro _ _ ⟨rfl,rfl⟩;refine⟨qs.map V.ref,fun i σ H'=>∃o2 o3:Option V,σ=[some (.ref _),o2,o3] /\ Ext _ H',⟨_,_,rfl,.refl _⟩,?_,?_,?_⟩
    ·rintro i σ H' _ ⟨o2,o3,rfl,x'⟩;exact SqL.of (x' _ _ ok.sp)
    ·rintro i w1 t σ H' hi ⟨o2,o3,rfl,x'⟩ ht;obtain⟨q,hq,rfl⟩:=jz hi
     obtain⟨r,hr1,hr2⟩:=ok.at_.at hq
     have xt:=x'.then (o:= .tup [.int (i:Int),.ref q]) ht
     have et:=iX (H:=H') (a:=t) (o:= .tup [.int (i:Int),.ref q])
     generalize upd H' t (.tup [.int (i:Int),.ref q])=H2 at xt et⊢;have ok2:=ok.ext xt
     o_head ⟨kg,ky,nW,et,ok2.sp,rI,rI,rI,rI,rI,rI,rI⟩
     rw[n5];refine fun s1 h1=> ?_
     have ok4:=ok2.ext (Ext.upd (o:= .lst ((qs.map V.ref).take i)) h1)
     refine⟨t2d r,(rs.take i).map t2d,oE (ju h1 (xt _ _ hr2)),.lst (xs:=(qs.take i).map V.ref) (SqL.of ?_) (tu (ok4.at_.take i)),nH r,nI _,?_,?_⟩
     ·rw[iX,cE]
     ·intro y hy;obtain⟨z',_,rfl⟩:=aw.mp hy
      exact l6 z' r
     ·rw[oG ok.nd hr1];walk_at "RD"
      exact xt.then h1
    ·rintro σ H' ⟨o2,o3,rfl,x'⟩;exact h _ x'
theorem sc_check_box_and_spots:FnScope ["box","spots","number","spot"] ["box","spots"] (iW s_check_box_and_spots):=⟨rfl,rfl,rfl,by decide+kernel,rfl,by decide+kernel,by decide+kernel⟩
theorem ok_check_box_and_spots{C:Cz}{f:Addr}{fd:FuncData}(F:Fun K "check_box_and_spots" "check_box_and_spots" s_check_box_and_spots f fd)(T:Txt K mg C)(F_in_box:FnB P w K mg base (CXE P w) 2 "in_box" ["box","spot"] lY)(F_check_count:FnB P w K mg base (CXE P w) 1 "check_count" ["spots"] jM)(F_check_box:FnB P w K mg base (CXE P w) 1 "check_box" ["box"] jT):FnOk P w K mg base (CXE P w) 3 f fd ["box","spots"] (sX K):=by
 refine okN F (k:=2) sc_check_box_and_spots (fun vs H Q E h=> ?_) (fun cdv A outer s H vs Q E hr h=> ?_)
 ·obtain⟨b,l,x,y,u,v,qs,rs,rfl,_⟩:=h
  rfl
 ·obtain⟨b,l,x,y,u,v,qs,rs,rfl,h⟩:=h
  refine'⟨_,?main,?rest⟩
  case main=>
   refine' i0 ?c1 ?c2
   case' c1=>refine' jO ?c3
   case' c3=>refine' jm F_check_box (hr.mono (by decide)) rfl i9 ?c4
   case' c4=>exact iT (pvF 0) iV
   case' c2=>refine' i0 ?c5 ?c6
   case' c5=>refine' jO ?c7
   case' c7=>refine' jm F_check_count (hr.mono (by decide)) rfl i9 ?c8
   case' c8=>exact iT (pvF 1) iV
   case' c6=>refine' iY ?c9
   case' c9=>refine' kK ?c10 ?c11 ?c12 ?c13 ?c14
   case c10=>exact PassesOwn.never
   case c11=>exact rfl
   case' c12=>refine' pR (K:=K) rfl rfl T.b_enumerate ?c15
   case' c15=>exact iT (pvF 1) iV
   case' c13=>refine' mY (n:=2) rfl ?c16
   case' c16=>refine' iZ (i5 (i:=2) sc_check_box_and_spots.nd rfl (aS rfl)) ?c17
   case' c17=>exact iZ (i5 (i:=3) sc_check_box_and_spots.nd rfl (aS rfl)) jv
   case' c14=>refine' iY ?c18
   case' c18=>refine' jI ?c19 ?c20 ?c21
   case' c19=>refine' PW.pt ?c22
   case' c22=>refine' rK ?c23 ?c24
   case' c23=>refine' tD ?c25
   case' c25=>refine' mD ?c26
   case' c26=>refine' jm F_in_box (hr.mono (by decide)) rfl i9 ?c27
   case' c27=>refine' iT (pvF 0) ?c28
   case' c28=>exact iT (pvF 3) iV
   case' c24=>refine' nL ?c29
   case' c29=>refine' ja (vL (K:=K) rfl (Ci hr)) (pvF 3) ?c30 (by with_unfolding_all rfl)
   case' c30=>exact jV wG (pvF 1) kr (ko (pvF 2))
   case' c20=>exact iY kf
   case c21=>exact jh
  case rest=>
   obtain⟨ok,h⟩:=h
   walk_at "ST"
   o_head ⟨jT,jM,rI,rI⟩
   have z:=ok.sz
   have xu:=ok.xu
   have yv:=ok.yv
   have b4:Bd 2000 x /\ Bd 2000 y /\ Bd 2000 u /\ Bd 2000 v:=⟨ug (by omega) (by omega) 2000,ug (by omega) (by omega) 2000,ug (by omega) (by omega) 2000,ug (by omega) (by omega) 2000⟩
   have lq:(qs.map V.ref).length=rs.length:=by rw[ae,ok.at_.1]
   refine⟨x,y,u,v,ok.bx,xu,yv,_,ok.sp,by rw[lq];exact ok.n0,by rw[lq];exact ok.n12,?_⟩;refine lV (fun a' H1=>a'=l /\ H1=H) ?_ ?_
   ·intro R hR;walk_at "RD"
    exact hR _ _ ⟨rfl,rfl⟩
   ·rintro _ _ ⟨rfl,rfl⟩;refine⟨qs.map V.ref,fun i σ H'=>∃o2 o3:Option V,σ=[some (.ref b),some (.ref _),o2,o3] /\ Ext _ H',⟨_,_,rfl,.refl _⟩,?_,?_,?_⟩
    ·rintro i σ H' _ ⟨o2,o3,rfl,x'⟩;exact SqL.of (x' _ _ ok.sp)
    ·rintro i w1 t σ H' hi ⟨o2,o3,rfl,x'⟩ ht;obtain⟨q,hq,rfl⟩:=jz hi
     obtain⟨r,hr1,hr2⟩:=ok.at_.at hq
     have xt:=x'.then (o:= .tup [.int (i:Int),.ref q]) ht
     have et:=iX (H:=H') (a:=t) (o:= .tup [.int (i:Int),.ref q])
     generalize upd H' t (.tup [.int (i:Int),.ref q])=H2 at xt et⊢;have ok2:=ok.ext xt
     have hin:=ok.ins r (ar hr1)
     o_head ⟨kg,ky,nW,et,lY,rI,rI,rI,rI,rI,rI,rI⟩
     refine⟨_,_,_,_,ok2.bx,r.1,r.2,xt _ _ hr2,b4.1,b4.2.1,b4.2.2.1,b4.2.2.2,hin.1,hin.2.1,hin.2.2.1,hin.2.2.2,fun H3 x3=> ?_⟩;have ok3:=ok2.ext x3
     o_head ⟨ok3.sp⟩
     rw[n5];refine fun s1 h1=> ?_
     have ok4:=ok3.ext (Ext.upd (o:= .lst ((qs.map V.ref).take i)) h1)
     refine⟨t2d r,(rs.take i).map t2d,oE (ju h1 (x3 _ _ (xt _ _ hr2))),.lst (xs:=(qs.take i).map V.ref) (SqL.of ?_) (tu (ok4.at_.take i)),nH r,nI _,?_,?_⟩
     ·rw[iX,cE]
     ·intro y hy;obtain⟨z',_,rfl⟩:=aw.mp hy
      exact l6 z' r
     ·rw[oG ok.nd hr1];walk_at "RD"
      exact xt.trans (x3.then h1)
    ·rintro σ H' ⟨o2,o3,rfl,x'⟩;exact h _ x'
theorem qH:FnScope ["spots","number"] ["spots","number"] (iW s_others_of):=⟨rfl,rfl,rfl,by decide+kernel,rfl,by decide+kernel,by decide+kernel⟩
theorem ok_others_of{C:Cz}{f:Addr}{fd:FuncData}(F:Fun K "others_of" "others_of" s_others_of f fd)(T:Txt K mg C):FnOk P w K mg base (CXE P w) 1 f fd ["spots","number"] nB:=by
 refine okN F (k:=0) qH (fun vs H Q E h=> ?_) (fun cdv A outer s H vs Q E hr h=> ?_)
 ·obtain⟨l,i,xs,rfl,_⟩:=h
  rfl
 ·obtain⟨l,i,xs,rfl,h⟩:=h
  refine'⟨_,?main,?rest⟩
  case main=>
   refine' iY ?c1
   case' c1=>refine' jg ?c2
   case' c2=>refine' uu (CScope.of_ok (dsc:=iW s_others_of) (N0:=["spots","number"]) (N:=["other","number"]) (k:=1) (js:=[1]) rfl rfl (by decide+kernel)) rfl ?c3 ?c4 ?c5 (fun _ _ _ _ _ _=>(pvF 0))
   case' c3=>refine' ls rfl T.b_range ?c6
   case' c6=>refine' iT ?c7 iV
   case' c7=>refine' jc jx (by rfl) T.b_len bq ?c8
   case' c8=>exact iT (pvF 0) iV
   case' c4=>intro _ _ _ _ _ _;exact(i5 (i:=0) (by show bT (["other","number"]:List Str);decide+kernel) rfl (aS rfl))
   case' c5=>intro _ _ _ _ _ _;exact(xH (ja qQ (pvF 0) (pvF 1) (je _)))
  case rest=>
   obtain⟨hl,hn,h⟩:=h
   walk_at "ST"
   walk_at "RD"
   refine qz xs.length (fun R hR=>by o_head ⟨hl⟩;exact hR) (by omega) (fun D k ys H'=>ys=JsV (jD k i) /\ H' D=some (.lst ys) /\ Ext H H') ?_ ?_ ?_ ?_
   ·intro D hD;exact⟨rfl,iX,.upd hD⟩
   ·rintro D k ys H1 _ ⟨rfl,e1,x1⟩;refine⟨e1,?_⟩;unfold JsV;rw[ae];exact lQ k i
   ·rintro D k ys H1 hD hk ⟨rfl,e1,x1⟩;walk_at "RD"
    rw[qO]
    by_cases c:k=i
    ·rw[if_neg (fun z=>z (by omega)),if_neg (by omega)];exact⟨rfl,e1,x1⟩
    ·rw[if_pos (by omega),if_pos (by omega)];refine⟨e1,?_,x1.set hD⟩;unfold JsV;rw[au,b8];rfl
   ·rintro D ys H1 hD ⟨rfl,e1,x1⟩;exact h D H1 x1 hD e1
theorem pM:FnScope ["spots","numbers"] ["spots","numbers"] (iW s_are_unlike):=⟨rfl,rfl,rfl,by decide+kernel,rfl,by decide+kernel,by decide+kernel⟩
theorem ok_are_unlike{C:Cz}{f:Addr}{fd:FuncData}(F:Fun K "are_unlike" "are_unlike" s_are_unlike f fd)(T:Txt K mg C):FnOk P w K mg base (CXE P w) 1 f fd ["spots","numbers"] (nA K):=by
 refine okN F (k:=0) pM (fun vs H Q E h=> ?_) (fun cdv A outer s H vs Q E hr h=> ?_)
 ·obtain⟨l,t,xs,lot,rfl,_⟩:=h
  rfl
 ·obtain⟨l,t,xs,lot,rfl,h⟩:=h
  refine'⟨_,?main,?rest⟩
  case main=>
   refine' i0 ?c1 ?c2
   case' c1=>refine' jI ?c3 ?c4 ?c5
   case' c3=>refine' PW.pt ?c6
   case' c6=>refine' rK ?c7 ?c8
   case' c7=>refine' ja jX ?c9 iU (je _)
   case' c9=>refine' jc jx (by rfl) T.b_len bq ?c10
   case' c10=>exact iT (pvF 1) iV
   case' c8=>refine' nL ?c11
   case' c11=>refine' ja qQ ?c12 ?c13 (je _)
   case' c12=>refine' jc wx (by rfl) T.b_len bq ?c14
   case' c14=>refine' iT ?c15 iV
   case' c15=>refine' jL (wu (K:=K) rfl rfl) (by rfl) T.b_set boot_set ?c16
   case' c16=>exact iT (pvF 1) iV
   case' c13=>refine' jc jx (by rfl) T.b_len bq ?c17
   case' c17=>exact iT (pvF 1) iV
   case' c4=>refine' iY ?c18
   case' c18=>exact jg zt
   case c5=>exact jh
   case' c2=>refine' iY ?c19
   case' c19=>refine' jg ?c20
   case' c20=>refine' vI ?c21 ?c22
   case' c21=>refine' kG (OpR.f0 ux) ?c23 iU (je _)
   case' c23=>refine' jc (kM (K:=K) rfl rfl) (by rfl) T.b_min boot_min ?c24
   case' c24=>exact iT (pvF 1) iV
   case' c22=>refine' vF ?c25
   case' c25=>refine' kG (OpR.f0 mO) ?c26 ?c27 (je _)
   case' c26=>refine' jc (kz (K:=K) rfl rfl) (by rfl) T.b_max boot_max ?c28
   case' c28=>exact iT (pvF 1) iV
   case' c27=>refine' jc jx (by rfl) T.b_len bq ?c29
   case' c29=>exact iT (pvF 0) iV
  case rest=>
   obtain⟨hl,ht,nd,l0,l9,hlt,h⟩:=h
   walk_at "ST"
   o_head ⟨ht,oh,rI,rI⟩
   rw[if_neg (by omega)];refine⟨t,_,rfl,SqL.js ht,by rw[ae];omega,fun p S hp=> ?_⟩;have fm:(firstMet (fun i=>(lot.map fun j:Nat=>(j:Int)).getD i 0) (lot.map fun j:Nat=>(j:Int)).length).length=lot.length:=(oy (xY nd)).trans (ae _)
   rw[fm];have x1:=Ext.upd (o:= .set S lot.length) hp
   refine⟨p,S,lot.length,rfl,iX,by omega,?_⟩
   o_head ⟨x1 _ _ ht,oh,rI,rI⟩
   refine⟨t,_,rfl,SqL.js (x1 _ _ ht),by rw[ae];exact l0,fun M mM _=> ?_⟩;obtain⟨j,_,rfl⟩:=aw.mp mM
   dsimp only;rw[if_pos (by omega)];refine⟨t,_,rfl,SqL.js (x1 _ _ ht),by rw[ae];exact l0,fun M2 mM2 _=> ?_⟩;obtain⟨j2,hj2,rfl⟩:=aw.mp mM2
   o_head ⟨x1 _ _ hl⟩
   rw[decide_eq_true (by have:=hlt j2 hj2;omega)];exact h _ x1
theorem rH:FnScope ["spots"] ["spots"] (iW s_by_place):=⟨rfl,rfl,rfl,by decide+kernel,rfl,by decide+kernel,by decide+kernel⟩
theorem ok_by_place{C:Cz}{f:Addr}{fd:FuncData}(F:Fun K "by_place" "by_place" s_by_place f fd)(T:Txt K mg C)(L_by_place:Cb K f C.lc_by_place)(B_by_place:LamB mg base C.lc_by_place C.lp_by_place):FnOk P w K mg base (CXE P w) 2 f fd ["spots"] (mU K C):=by
 refine CU F L_by_place (k:=1) rH (fun vs H Q E h=> ?_) (fun A outer s H vs Q E hr h=> ?_)
 ·obtain⟨l,qs,rs,rfl,_⟩:=h
  rfl
 ·obtain⟨l,qs,rs,rfl,h⟩:=h
  refine'⟨_,?main,?rest⟩
  case main=>
   refine' iY ?c1
   case' c1=>refine' jg ?c2
   case' c2=>refine' vD (K:=K) (tag:=tg_by_place) (N:=["number","spots"]) (js:=[0]) rfl rfl (by rfl) T.b_sorted boot_sorted hr B_by_place rfl rfl (CScope.of_ok (dsc:=iW s_by_place) (N0:=["spots"]) (N:=["number","spots"]) (k:=1) (js:=[0]) rfl rfl (by decide+kernel)) rfl (by decide+kernel) rfl rfl (fun _ _ _ _ _=>rfl) rfl ?c3 ?c4 rfl rfl
   case' c3=>refine' jL ww (by rfl) T.b_range boot_range ?c5
   case' c5=>refine' iT ?c6 iV
   case' c6=>refine' jc jx (by rfl) T.b_len bq ?c7
   case' c7=>exact iT (pvF 0) iV
   case' c4=>intro _ _ _ _ _ _ _;exact(jj jQ (pvF 1) (pvF 0) (fun _ _=>rfl))
  case rest=>
   obtain⟨hl,hR2,n12,tb,h⟩:=h
   have lq:(qs.map V.ref).length=rs.length:=by rw[ae,hR2.1]
   walk_at "ST"
   o_head ⟨hl,lq,rI,rI⟩
   refine⟨rs.length,rfl,by omega,fun r hr'=> ?_⟩;have x2:=Ext.upd (o:= .rng 0 (rs.length:Int)) hr'
   have er:=iX (H:=H) (a:=r) (o:= .rng 0 (rs.length:Int))
   generalize upd H r (.rng 0 (rs.length:Int))=H2 at x2 er⊢;refine⟨r,rfl,(bg rs.length).map fun j:Nat=>V.int (j:Int),.inr ⟨_,er,rfl⟩,by rw[ae,bC];omega,fun v=>match v with| .int i=>wOf rs i.toNat|_=>[],⟨1,fun x hx=> ?_⟩,x2 _ _ tb,?_,?_⟩
   ·obtain⟨j,_,rfl⟩:=aw.mp hx
    rfl
   ·intro H3 x x3 hx;obtain⟨j,hj,rfl⟩:=aw.mp hx
    have lj:j<rs.length:=by simpa using hj
    obtain⟨r',hr1⟩:∃r',rs[j]? =some r':=⟨_,af lj⟩
    obtain⟨q,hq⟩:∃q,qs[j]? =some q:=⟨_,af (by rw[hR2.1];exact lj)⟩
    have eq:=x3 _ _ (x2 _ _ (hR2.2 j q r' hq hr1))
    dsimp only;rw[x3 _ _ (x2 _ _ hl),kn,i6,jK (j:=j) (v:=V.ref q) (by rw[aC,hq];rfl),i6];refine⟨.refl _,q,rfl,?_⟩;rw[fF,eq];unfold wOf;rw[aR,hr1];rfl
   ·intro D H3 q x3 hD hq eD;obtain⟨pm,pw⟩:=hq
    rw[ae,bC] at pm;have lt:∀i∈q,i<rs.length:=fun i hi=>by simpa using pm.mem_iff.mp hi
    have em:q.map (atV ((bg rs.length).map fun j:Nat=>V.int (j:Int)))=rS q:=by
     unfold rS;rw[cN];exact dQ fun i hi=>n8 (lt i hi)
    rw[em] at eD;refine h D H3 q (x2.trans x3) (x2.none hD) ⟨pm,pw.imp_of_mem fun {a b} ha hb hs=> ?_⟩ eD;unfold SR.sl ltT at hs;rw[n8 (lt a ha),n8 (lt b hb)] at hs;simp only[fF] at hs;rcases hs with g|⟨g,_⟩
    ·exact tL _ _ g
    ·exact g
theorem sc_box_field:FnScope ["box","x","y","u","v"] ["box"] (iW s_box_field):=⟨rfl,rfl,rfl,by decide+kernel,rfl,by decide+kernel,by decide+kernel⟩
theorem ok_box_field{C:Cz}{f:Addr}{fd:FuncData}(F:Fun K "box_field" "box_field" s_box_field f fd)(T:Txt K mg C)(F_check_box:FnB P w K mg base (CXE P w) 1 "check_box" ["box"] jT):FnOk P w K mg base (CXE P w) 2 f fd ["box"] kA:=by
 refine okN F (k:=1) sc_box_field (fun vs H Q E h=> ?_) (fun cdv A outer s H vs Q E hr h=> ?_)
 ·obtain⟨p,x,y,u,v,rfl,_⟩:=h
  rfl
 ·obtain⟨p,x,y,u,v,rfl,h⟩:=h
  refine'⟨_,?main,?rest⟩
  case main=>
   refine' i0 ?c1 ?c2
   case' c1=>refine' jO ?c3
   case' c3=>refine' jm F_check_box (hr.mono (by decide)) rfl i9 ?c4
   case' c4=>exact iT (pvF 0) iV
   case' c2=>refine' i0 ?c5 ?c6
   case' c5=>refine' k9 ?c7 ?c8
   case c7=>exact(pvF 0)
   case' c8=>refine' mY (n:=4) rfl ?c9
   case' c9=>refine' iZ (i5 (i:=1) sc_box_field.nd rfl (aS rfl)) ?c10
   case' c10=>refine' iZ (i5 (i:=2) sc_box_field.nd rfl (aS rfl)) ?c11
   case' c11=>refine' iZ (i5 (i:=3) sc_box_field.nd rfl (aS rfl)) ?c12
   case' c12=>exact iZ (i5 (i:=4) sc_box_field.nd rfl (aS rfl)) jv
   case' c6=>refine' iY ?c13
   case' c13=>refine' jg ?c14
   case' c14=>refine' jA ?c15
   case' c15=>refine' iT ?c16 ?c17
   case' c16=>refine' kD ?c18
   case' c18=>refine' iT ?c19 ?c20
   case' c19=>refine' jA ?c21
   case' c21=>refine' iT (pvF 1) ?c22
   case' c22=>refine' iT (pvF 2) ?c23
   case' c23=>exact iT iU iV
   case' c20=>refine' iT ?c24 ?c25
   case' c24=>refine' jA ?c26
   case' c26=>refine' iT (pvF 3) ?c27
   case' c27=>refine' iT (pvF 2) ?c28
   case' c28=>exact iT iU iV
   case' c25=>refine' iT ?c29 ?c30
   case' c29=>refine' jA ?c31
   case' c31=>refine' iT (pvF 3) ?c32
   case' c32=>refine' iT (pvF 4) ?c33
   case' c33=>exact iT iU iV
   case' c30=>refine' iT ?c34 iV
   case' c34=>refine' jA ?c35
   case' c35=>refine' iT (pvF 1) ?c36
   case' c36=>refine' iT (pvF 4) ?c37
   case' c37=>exact iT iU iV
   case' c17=>refine' iT ?c38 ?c39
   case' c38=>refine' kD ?c40
   case' c40=>refine' iT ?c41 ?c42
   case' c41=>exact vC (UnR.f qy) iU
   case' c42=>refine' iT ?c43 ?c44
   case' c43=>exact vC (UnR.f qy) iU
   case' c44=>refine' iT ?c45 ?c46
   case' c45=>exact vC (UnR.f qy) iU
   case' c46=>refine' iT ?c47 iV
   case' c47=>exact vC (UnR.f qy) iU
   case c39=>exact iV
  case rest=>
   obtain⟨hp,h1,h2,h⟩:=h
   walk_at "ST"
   o_head ⟨jT⟩
   refine⟨_,_,_,_,hp,h1,h2,?_⟩
   o_head ⟨kg,ky,nW,hp⟩
   refine⟨by decide,fun q1 k1=>⟨by decide,fun q2 k2=>⟨by decide,fun q3 k3=>⟨by decide,fun q4 k4=>⟨by decide,fun c kc=>⟨by decide,fun e ke=>⟨by decide,fun t kt=> ?_⟩⟩⟩⟩⟩⟩⟩;have x4:=(((Ext.upd (o:= .tup [.int x,.int y,.int 1]) k1).then (o:= .tup [.int u,.int y,.int 1]) k2).then (o:= .tup [.int u,.int v,.int 1]) k3).then (o:= .tup [.int x,.int v,.int 1]) k4
   have x5:=x4.then (o:= .lst [.ref q1,.ref q2,.ref q3,.ref q4]) kc
   have x6:=x5.then (o:= .lst [.int (-1),.int (-2),.int (-3),.int (-4)]) ke
   refine h t c e [q1,q2,q3,q4] _ (x6.then kt) ⟨x6.none kt,x4.none kc,x5.none ke,i4 iX ke⟩ ⟨iX,ju kt (ju ke iX),⟨rfl,fun i q z a b=> ?_⟩,ju kt iX⟩;have p1:=ju (o:= .tup [.ref c,.ref e]) kt (ju (o:= .lst [.int (-1),.int (-2),.int (-3),.int (-4)]) ke (ju (o:= .lst [.ref q1,.ref q2,.ref q3,.ref q4]) kc (ju (o:= .tup [.int x,.int v,.int 1]) k4 (ju (o:= .tup [.int u,.int v,.int 1]) k3 (ju (o:= .tup [.int u,.int y,.int 1]) k2 (iX (H:=H) (a:=q1) (o:= .tup [.int x,.int y,.int 1])))))))
   have p2:=ju (o:= .tup [.ref c,.ref e]) kt (ju (o:= .lst [.int (-1),.int (-2),.int (-3),.int (-4)]) ke (ju (o:= .lst [.ref q1,.ref q2,.ref q3,.ref q4]) kc (ju (o:= .tup [.int x,.int v,.int 1]) k4 (ju (o:= .tup [.int u,.int v,.int 1]) k3 (iX (a:=q2) (o:= .tup [.int u,.int y,.int 1]))))))
   have p3:=ju (o:= .tup [.ref c,.ref e]) kt (ju (o:= .lst [.int (-1),.int (-2),.int (-3),.int (-4)]) ke (ju (o:= .lst [.ref q1,.ref q2,.ref q3,.ref q4]) kc (ju (o:= .tup [.int x,.int v,.int 1]) k4 (iX (a:=q3) (o:= .tup [.int u,.int v,.int 1])))))
   have p4:=ju (o:= .tup [.ref c,.ref e]) kt (ju (o:= .lst [.int (-1),.int (-2),.int (-3),.int (-4)]) ke (ju (o:= .lst [.ref q1,.ref q2,.ref q3,.ref q4]) kc (iX (a:=q4) (o:= .tup [.int x,.int v,.int 1]))))
   match i,a,b with
   |0,a,b=>cases a;cases b;exact p1
   |1,a,b=>cases a;cases b;exact p2
   |2,a,b=>cases a;cases b;exact p3
   |3,a,b=>cases a;cases b;exact p4
   |i+4,a,b=>cases a
theorem rG:FnScope ["one","other","here","there"] ["one","other","here","there"] (iW s_crossing):=⟨rfl,rfl,rfl,by decide+kernel,rfl,by decide+kernel,by decide+kernel⟩
theorem ok_crossing{C:Cz}{f:Addr}{fd:FuncData}(F:Fun K "crossing" "crossing" s_crossing f fd)(T:Txt K mg C)(F_point_of:FnB P w K mg base (CXE P w) 2 "point_of" ["x","y","w"] kN):FnOk P w K mg base (CXE P w) 3 f fd ["one","other","here","there"] kP:=by
 refine okN F (k:=2) rG (fun vs H Q E h=> ?_) (fun cdv A outer s H vs Q E hr h=> ?_)
 ·obtain⟨p,q,hh,t,a,b,rfl,_⟩:=h
  rfl
 ·obtain⟨p,q,hh,t,a,b,rfl,h⟩:=h
  refine'⟨_,?main,?rest⟩
  case main=>
   refine' iY ?c1
   case' c1=>refine' jg ?c2
   case' c2=>refine' jm ?c3 ?c4 ?c5 ?c6 ?c7
   case c3=>exact F_point_of
   case c4=>exact(hr.mono (by decide))
   case c5=>exact rfl
   case c6=>exact i9
   case' c7=>refine' iT ?c8 ?c9
   case' c8=>refine' i8 (OpR.f0 jR) ?c10 ?c11
   case' c10=>refine' i8 (OpR.f jf) ?c12 (pvF 3)
   case' c12=>exact jj jQ (pvF 0) iU (fun _ _=>rfl)
   case' c11=>refine' i8 (OpR.f jf) ?c13 (pvF 2)
   case' c13=>exact jj jQ (pvF 1) iU (fun _ _=>rfl)
   case' c9=>refine' iT ?c14 ?c15
   case' c14=>refine' i8 (OpR.f0 jR) ?c16 ?c17
   case' c16=>refine' i8 (OpR.f jf) ?c18 (pvF 3)
   case' c18=>exact jj jQ (pvF 0) iU (fun _ _=>rfl)
   case' c17=>refine' i8 (OpR.f jf) ?c19 (pvF 2)
   case' c19=>exact jj jQ (pvF 1) iU (fun _ _=>rfl)
   case' c15=>refine' iT ?c20 iV
   case' c20=>refine' i8 (OpR.f0 jR) ?c21 ?c22
   case' c21=>refine' i8 (OpR.f jf) ?c23 (pvF 3)
   case' c23=>exact jj jQ (pvF 0) iU (fun _ _=>rfl)
   case' c22=>refine' i8 (OpR.f jf) ?c24 (pvF 2)
   case' c24=>exact jj jQ (pvF 1) iU (fun _ _=>rfl)
  case rest=>
   obtain⟨hp,hq,⟨b1,b2,b3⟩,⟨b4,b5,b6⟩,bh,bt,hw,h⟩:=h
   walk_at "ST"
   o_head ⟨hp,hq,kN,rI⟩
   have bw:Bd 8000 (a.2.2*t-b.2.2*hh):=((b3.mul bt).sub (b6.mul bh)).mono (by decide)
   refine⟨.of b1 bt (by decide) (by decide),.of b4 bh (by decide) (by decide),.of b2 bt (by decide) (by decide),.of b5 bh (by decide) (by decide),.of b3 bt (by decide) (by decide),.of b6 bh (by decide) (by decide),hw,bw,fun r x1 y1 w1 hr' k1=> ?_⟩;have k2:=nU (x:=a.1*t-b.1*hh) (y:=a.2.1*t-b.2.1*hh) hw
   obtain⟨e1,e2,e3⟩:=isPt_same k1 k2 hw hw rfl rfl
   rw[e1,e2,e3];exact h r hr'
theorem sc_rest:FnScope ["corners","edges","excesses","number","left","at","corner","following","here","there"] ["corners","edges","excesses","number"] (iW s_rest):=⟨rfl,rfl,rfl,by decide+kernel,rfl,by decide+kernel,by decide+kernel⟩
theorem ok_rest{C:Cz}{f:Addr}{fd:FuncData}(F:Fun K "rest" "rest" s_rest f fd)(T:Txt K mg C)(F_crossing:FnB P w K mg base (CXE P w) 3 "crossing" ["one","other","here","there"] kP):FnOk P w K mg base (CXE P w) 4 f fd ["corners","edges","excesses","number"] (rD K):=by
 refine okN F (k:=3) sc_rest (fun vs H Q E h=> ?_) (fun cdv A outer s H vs Q E hr h=> ?_)
 ·obtain⟨c,e,x,num,qs,l,m,rfl,_⟩:=h
  rfl
 ·obtain⟨c,e,x,num,qs,l,m,rfl,h⟩:=h
  refine'⟨_,?main,?rest⟩
  case main=>
   refine' i0 ?c1 ?c2
   case' c1=>refine' jt (i:=4) sc_rest.nd rfl (aS rfl) ?c3
   case' c3=>exact kD iV
   case' c2=>refine' i0 ?c4 ?c5
   case' c4=>refine' kK ?c6 ?c7 ?c8 ?c9 ?c10
   case c6=>exact PassesOwn.never
   case c7=>exact rfl
   case' c8=>refine' pR (K:=K) rfl rfl T.b_enumerate ?c11
   case' c11=>exact iT (pvF 0) iV
   case' c9=>refine' mY (n:=2) rfl ?c12
   case' c12=>refine' iZ (i5 (i:=5) sc_rest.nd rfl (aS rfl)) ?c13
   case' c13=>exact iZ (i5 (i:=6) sc_rest.nd rfl (aS rfl)) jv
   case' c10=>refine' jr ?c14 ?c15
   case' c14=>refine' jt (i:=7) sc_rest.nd rfl (aS rfl) ?c16
   case' c16=>refine' i8 (OpR.f ly) ?c17 ?c18
   case' c17=>exact i8 (OpR.f0 jG) (pvF 5) iU
   case' c18=>refine' jc jx (by rfl) T.b_len bq ?c19
   case' c19=>exact iT (pvF 0) iV
   case' c15=>refine' jr ?c20 ?c21
   case' c20=>exact jt (i:=8) sc_rest.nd rfl (aS rfl) (jj jQ (pvF 2) (pvF 5) (fun _ _=>rfl))
   case' c21=>refine' jr ?c22 ?c23
   case' c22=>exact jt (i:=9) sc_rest.nd rfl (aS rfl) (jj jQ (pvF 2) (pvF 7) (fun _ _=>rfl))
   case' c23=>refine' jr ?c24 ?c25
   case' c24=>refine' jI ?c26 ?c27 ?c28
   case' c26=>refine' PW.pt ?c29
   case' c29=>refine' rK ?c30 ?c31
   case' c30=>exact ja (OpR.f0 mO) (pvF 8) iU (je _)
   case' c31=>refine' nL ?c32
   case' c32=>refine' PW.pt ?c33
   case' c33=>refine' mH ?c34 ?c35
   case' c34=>exact ja jX (pvF 8) iU (je _)
   case' c35=>refine' k8 ?c36
   case' c36=>exact ja (OpR.f0 uw) (pvF 9) iU (je _)
   case' c27=>refine' iY ?c37
   case' c37=>refine' jO ?c38
   case' c38=>refine' pe_app (pvF 4) ?c39
   case' c39=>refine' iT ?c40 iV
   case' c40=>refine' jA ?c41
   case' c41=>refine' iT (pvF 6) ?c42
   case' c42=>exact iT (jj jQ (pvF 1) (pvF 5) (fun _ _=>rfl)) iV
   case' c28=>refine' iY ?c43
   case' c43=>refine' jI ?c44 ?c45 ?c46
   case' c44=>exact ja jX (pvF 8) iU (je _)
   case' c45=>refine' iY ?c47
   case' c47=>refine' jO ?c48
   case' c48=>refine' pe_app (pvF 4) ?c49
   case' c49=>refine' iT ?c50 iV
   case' c50=>refine' jA ?c51
   case' c51=>refine' iT (pvF 6) ?c52
   case' c52=>exact iT (pvF 3) iV
   case c46=>exact jh
   case' c25=>refine' iY ?c53
   case' c53=>refine' jI ?c54 ?c55 ?c56
   case' c54=>refine' PW.pt ?c57
   case' c57=>refine' mH ?c58 ?c59
   case' c58=>exact ja (OpR.f0 mO) (pvF 8) iU (je _)
   case' c59=>refine' k8 ?c60
   case' c60=>exact ja (OpR.f0 pU) (pvF 9) iU (je _)
   case' c55=>refine' iY ?c61
   case' c61=>refine' jO ?c62
   case' c62=>refine' pe_app ?c63 ?c64
   case c63=>exact(pvF 4)
   case' c64=>refine' iT ?c65 ?c66
   case' c65=>refine' jA ?c67
   case' c67=>refine' iT ?c68 ?c69
   case' c68=>refine' jm F_crossing (hr.mono (by decide)) rfl i9 ?c70
   case' c70=>refine' iT (pvF 6) ?c71
   case' c71=>refine' iT (jj jQ (pvF 0) (pvF 7) (fun _ _=>rfl)) ?c72
   case' c72=>refine' iT (pvF 8) ?c73
   case' c73=>exact iT (pvF 9) iV
   case' c69=>exact iT (pvF 3) iV
   case c66=>exact iV
   case' c56=>refine' iY ?c74
   case' c74=>refine' jI ?c75 ?c76 ?c77
   case' c75=>refine' PW.pt ?c78
   case' c78=>refine' mH ?c79 ?c80
   case' c79=>exact ja (OpR.f0 pU) (pvF 8) iU (je _)
   case' c80=>refine' k8 ?c81
   case' c81=>exact ja (OpR.f0 mO) (pvF 9) iU (je _)
   case' c76=>refine' iY ?c82
   case' c82=>refine' jO ?c83
   case' c83=>refine' pe_app ?c84 ?c85
   case c84=>exact(pvF 4)
   case' c85=>refine' iT ?c86 ?c87
   case' c86=>refine' jA ?c88
   case' c88=>refine' iT ?c89 ?c90
   case' c89=>refine' jm F_crossing (hr.mono (by decide)) rfl i9 ?c91
   case' c91=>refine' iT (pvF 6) ?c92
   case' c92=>refine' iT (jj jQ (pvF 0) (pvF 7) (fun _ _=>rfl)) ?c93
   case' c93=>refine' iT (pvF 8) ?c94
   case' c94=>exact iT (pvF 9) iV
   case' c90=>exact iT (jj jQ (pvF 1) (pvF 5) (fun _ _=>rfl)) iV
   case c87=>exact iV
   case c77=>exact jh
   case' c5=>exact iY (jg (pvF 4))
  case rest=>
   obtain⟨hc,hq,he,hx,hl,bm,l0,l30,h⟩:=h
   walk_at "ST"
   walk_at "RD"
   refine⟨bp _,fun L hL=> ?_⟩;have lq:qs.length=l.length:=by rw[hq.1,ae]
   refine lV (fun a' H1=>a'=c /\ H1=upd H L (.lst [])) ?_ ?_
   ·intro R hR;walk_at "RD"
    exact hR _ _ ⟨rfl,rfl⟩
   ·rintro c' _ ⟨ec,rfl⟩;subst c';refine⟨qs.map V.ref,fun i σ H'=>∃(o5 o6 o7 o8 o9:Option V) (ts:List Addr),σ=[some (.ref c),some (.ref e),some (.ref x),some (.int num),some (.ref L),o5,o6,o7,o8,o9] /\ H' L=some (.lst (ts.map V.ref)) /\ RwAt H' ts (((edges l).take i).flatMap (emit m num)) /\ Ext H H',⟨_,_,_,_,_,[],rfl,iX,⟨rfl,fun i t v a=>by simp at a⟩,.upd hL⟩,?_,?_,?_⟩
    ·rintro i σ H' _ ⟨o5,o6,o7,o8,o9,ts,rfl,eL,rw',x'⟩;exact SqL.of (x' _ _ hc)
    ·rintro i w1 t σ H' hi ⟨o5,o6,o7,o8,o9,ts,rfl,eL,rw',x'⟩ ht;obtain⟨q,hqi,rfl⟩:=jz hi
     have li:i<l.length:=by rw[<-lq];exact(aa.mp hqi).1
     obtain⟨va,hva⟩:∃v,l[i]? =some v:=⟨_,af li⟩
     have lj:(i+1)%l.length<l.length:=Nat.mod_lt _ l0
     obtain⟨vb,hvb⟩:∃v,l[(i+1)%l.length]? =some v:=⟨_,af lj⟩
     obtain⟨qb,hqb⟩:∃q,qs[(i+1)%l.length]? =some q:=⟨_,af (by rw[lq];exact lj)⟩
     have hE:=wb hva hvb
     have ha:=hl va (ar hva)
     have hb:=hl vb (ar hvb)
     have eqa:=hq.2 i q va.1 hqi (by rw[aC,hva];rfl)
     have eqb:=hq.2 _ qb vb.1 hqb (by rw[aC,hvb];rfl)
     have bh:Bd 3000 (ex m va.1):=Bz bm ha.2
     have bt:Bd 3000 (ex m vb.1):=Bz bm hb.2
     have xt:=x'.then (o:= .tup [.int (i:Int),.ref q]) ht
     have et:=iX (H:=H') (a:=t) (o:= .tup [.int (i:Int),.ref q])
     have eLt:=ju (o:= .tup [.int (i:Int),.ref q]) ht eL
     have rwt:=rw'.ext (Ext.upd (o:= .tup [.int (i:Int),.ref q]) ht)
     generalize upd H' t (.tup [.int (i:Int),.ref q])=H2 at xt et eLt rwt⊢
     o_head ⟨kg,ky,nW,et⟩
     refine⟨fun σ H3=>σ=[some (.ref c),some (.ref e),some (.ref x),some (.int num),some (.ref L),some (.int (i:Int)),some (.ref q),some (.int (((i+1)%l.length:Nat):Int)),o8,o9] /\ H3=H2,?_,?_⟩
     ·o_head ⟨xt _ _ hc,ae,rI,rI⟩
      rw[lq];exact⟨by omega,by rw[Int.natCast_emod];rfl⟩
     ·rintro σ H3 ⟨rfl,rfl⟩;have ai:atI ((l.map fun v=>ex m v.1).map V.int) (i:Int)=some (.int (ex m va.1)):=jK (by rw[aC,aC,hva];rfl)
      have aj:atI ((l.map fun v=>ex m v.1).map V.int) (((i+1)%l.length:Nat):Int)=some (.int (ex m vb.1)):=jK (by rw[aC,aC,hvb];rfl)
      have an:atI ((l.map (·.2.2)).map V.int) (i:Int)=some (.int va.2.2):=jK (by rw[aC,aC,hva];rfl)
      have ac:atI (qs.map V.ref) (((i+1)%l.length:Nat):Int)=some (.ref qb):=jK (by rw[aC,hqb];rfl)
      refine⟨fun σ H4=>σ=[some (.ref c),some (.ref e),some (.ref x),some (.int num),some (.ref L),some (.int (i:Int)),some (.ref q),some (.int (((i+1)%l.length:Nat):Int)),some (.int (ex m va.1)),o9] /\ H4=H3,?_,?_⟩
      ·o_head ⟨xt _ _ hx,ai,rI,rI⟩
      ·rintro σ H4 ⟨rfl,rfl⟩;refine⟨fun σ H5=>σ=[some (.ref c),some (.ref e),some (.ref x),some (.int num),some (.ref L),some (.int (i:Int)),some (.ref q),some (.int (((i+1)%l.length:Nat):Int)),some (.int (ex m va.1)),some (.int (ex m vb.1))] /\ H5=H4,?_,?_⟩
       ·o_head ⟨xt _ _ hx,aj,rI,rI⟩
       ·rintro σ H5 ⟨rfl,rfl⟩;have len30:ts.length<=60:=by
         rw[rwt.1];exact yh m num l i l30
        refine⟨fun σ H6=>∃ts':List Addr,σ=[some (.ref c),some (.ref e),some (.ref x),some (.int num),some (.ref L),some (.int (i:Int)),some (.ref q),some (.int (((i+1)%l.length:Nat):Int)),some (.int (ex m va.1)),some (.int (ex m vb.1))] /\ H6 L=some (.lst (ts'.map V.ref)) /\ ts'.length<=61 /\ RwAt H6 ts' (((edges l).take i).flatMap (emit m num)++(if ex m va.1<0∨(ex m va.1=0 /\ ex m vb.1<=0) then[va] else if ex m va.1=0 then[(va.1,m,num)] else[])) /\ Ext H H6,?_,?_⟩
        ·o_head ⟨xt _ _ he,an,eLt,rI⟩
         have one:∀(p:Addr) (v:Vx),v.1=va.1 ->H5 p=none ->kH (lK (upd H5 p (.tup [.ref q,.int v.2.2]) L)) fun xs=>xs.length<1000000 /\ ∃ts':List Addr,HO.lst (xs++[V.ref p])=HO.lst (iO V.ref ts') /\ ts'.length<=61 /\ RwAt (upd (upd H5 p (.tup [.ref q,.int v.2.2])) L (.lst (xs++[V.ref p]))) ts' (((edges l).take i).flatMap (emit m num)++[v]) /\ Ext H (upd (upd H5 p (.tup [.ref q,.int v.2.2])) L (.lst (xs++[V.ref p]))):=by
          intro p v ev hp;obtain⟨A1,A2,A3⟩:=vm (v:=v) hL eLt xt rwt hp (by rw[ev];exact xt _ _ eqa)
          rw[A1,jH,i6];exact⟨by rw[ae];omega,ts++[p],by rw[pZ],by rw[aq];simp only[aX,bo];omega,A2,A3⟩
         by_cases h1:ex m va.1<0
         ·rw[if_pos h1,if_pos (.inl h1)];exact⟨by decide,fun p hp=>one p va rfl hp⟩
         ·rw[if_neg h1]
          by_cases h2:ex m va.1=0
          ·rw[if_pos h2]
           by_cases h3:ex m vb.1<=0
           ·rw[if_pos h3,if_pos (.inr ⟨h2,h3⟩)];exact⟨by decide,fun p hp=>one p va rfl hp⟩
           ·rw[if_neg h3,if_pos h2,if_neg (fun z:_∨_=>z.elim h1 fun z=>h3 z.2),if_pos h2];exact⟨by decide,fun p hp=>one p (va.1,m,num) rfl hp⟩
          ·rw[if_neg h2,if_neg h2,if_neg (fun z:_∨_=>z.elim h1 fun z=>h2 z.1),if_neg h2,aI];exact⟨ts,rfl,by omega,rwt,xt⟩
        ·rintro σ H6 ⟨ts',rfl,eL6,len61,rw6,x6⟩;have el1:((edges l).take (i+1)).flatMap (emit m num)=(((edges l).take i).flatMap (emit m num)++(if ex m va.1<0∨(ex m va.1=0 /\ ex m vb.1<=0) then[va] else if ex m va.1=0 then[(va.1,m,num)] else[]))++(if ex m va.1<0 /\ 0<ex m vb.1 then[(jk va.1 vb.1 (ex m va.1) (ex m vb.1),m,num)] else if 0<ex m va.1 /\ ex m vb.1<0 then[(jk va.1 vb.1 (ex m va.1) (ex m vb.1),va.2)] else[]):=by
          rw[bV,hE,cj,bG];simp only[fw,bH,dG,aI];rfl
         rw[el1];generalize(((edges l).take i).flatMap (emit m num)++(if ex m va.1<0∨(ex m va.1=0 /\ ex m vb.1<=0) then[va] else if ex m va.1=0 then[(va.1,m,num)] else[]))=R1 at rw6⊢
         o_head ⟨x6 _ _ hc,ac,eL6,kP⟩
         have two:∀(H1:Hp) (r p:Addr) (v:Vx),v.1=jk va.1 vb.1 (ex m va.1) (ex m vb.1) ->H6 r=none ->H1=upd H6 r (.tup [.int (jk va.1 vb.1 (ex m va.1) (ex m vb.1)).1,.int (jk va.1 vb.1 (ex m va.1) (ex m vb.1)).2.1,.int (jk va.1 vb.1 (ex m va.1) (ex m vb.1)).2.2]) ->H1 p=none ->kH (lK (upd H1 p (.tup [.ref r,.int v.2.2]) L)) fun xs=>xs.length<1000000 /\ (∃x,some (V.int (ex m vb.1))=x) /\ ∃ts':List Addr,HO.lst (xs++[V.ref p])=HO.lst (iO V.ref ts') /\ RwAt (upd (upd H1 p (.tup [.ref r,.int v.2.2])) L (.lst (xs++[V.ref p]))) ts' (R1++[v]) /\ Ext H (upd (upd H1 p (.tup [.ref r,.int v.2.2])) L (.lst (xs++[V.ref p]))):=by
          intro H1 r p v ev hr eH hp;subst eH;obtain⟨A1,A2,A3⟩:=vm (v:=v) hL (ju hr eL6) (x6.then hr) (rw6.ext (Ext.upd hr)) hp (by rw[ev];exact iX)
          rw[A1,jH,i6];exact⟨by rw[ae];omega,⟨_,rfl⟩,ts'++[p],by rw[pZ],A2,A3⟩
         have nz1:ex m va.1<0 ->0<ex m vb.1 -> ¬va.1.2.2*ex m vb.1-vb.1.2.2*ex m va.1=0:=fun q1 q2=>by
          exact eN (Int.sub_pos_of_lt (Int.lt_trans (bO hb.1 q1) (be ha.1 q2)))
         have nz2:0<ex m va.1 ->ex m vb.1<0 -> ¬va.1.2.2*ex m vb.1-vb.1.2.2*ex m va.1=0:=fun q1 q2=>by
          exact Int.ne_of_lt (Int.sub_neg_of_lt (Int.lt_trans (bO ha.1 q2) (be hb.1 q1)))
         by_cases h1:ex m va.1<0
         ·rw[if_pos h1]
          by_cases h2:0<ex m vb.1
          ·rw[if_pos h2,if_pos ⟨h1,h2⟩];exact⟨va.1,x6 _ _ eqa,vb.1,x6 _ _ eqb,ha.2,hb.2,bh,bt,nz1 h1 h2,fun r hr=>⟨by decide,fun p hp=>two _ r p (_,m,num) rfl hr rfl hp⟩⟩
          ·rw[if_neg h2,if_neg (Int.lt_asymm h1),if_neg fun z=>h2 z.2,if_neg fun z=>Int.lt_asymm h1 z.1,aI];exact⟨⟨_,rfl⟩,ts',rfl,rw6,x6⟩
         ·rw[if_neg h1]
          by_cases h2:0<ex m va.1
          ·rw[if_pos h2]
           by_cases h3:ex m vb.1<0
           ·rw[if_pos h3,if_neg fun z=>h1 z.1,if_pos ⟨h2,h3⟩];refine⟨va.1,x6 _ _ eqa,vb.1,x6 _ _ eqb,ha.2,hb.2,bh,bt,nz2 h2 h3,fun r hr=> ?_⟩;rw[ju hr (x6 _ _ he),kn,i6,an,i6];exact⟨by decide,fun p hp=>two _ r p (_,va.2) rfl hr rfl hp⟩
           ·rw[if_neg h3,if_neg fun z=>h1 z.1,if_neg fun z=>h3 z.2,aI];exact⟨⟨_,rfl⟩,ts',rfl,rw6,x6⟩
          ·rw[if_neg h2,if_neg fun z=>h1 z.1,if_neg fun z=>h2 z.1,aI];exact⟨⟨_,rfl⟩,ts',rfl,rw6,x6⟩
    ·rintro σ H' ⟨o5,o6,o7,o8,o9,ts,rfl,eL,rw',x'⟩;have el:(edges l).take (qs.map V.ref).length=edges l:=by
      rw[ae,lq];exact cc (by rw[lB];exact av _)
     rw[el] at rw';walk_at "RD"
     exact h L ts H' x' hL eL rw'
theorem sc_from_first:FnScope ["rows","first","at","row","turned"] ["rows"] (iW s_from_first):=⟨rfl,rfl,rfl,by decide+kernel,rfl,by decide+kernel,by decide+kernel⟩
theorem ok_from_first{C:Cz}{f:Addr}{fd:FuncData}(F:Fun K "from_first" "from_first" s_from_first f fd)(T:Txt K mg C)(F_ahead:FnB P w K mg base (CXE P w) 1 "ahead" ["one","other"] lF):FnOk P w K mg base (CXE P w) 2 f fd ["rows"] (kO K):=by
 refine okN F (k:=1) sc_from_first (fun vs H Q E h=> ?_) (fun cdv A outer s H vs Q E hr h=> ?_)
 ·obtain⟨t,ts,R,rfl,_⟩:=h
  rfl
 ·obtain⟨t,ts,R,rfl,h⟩:=h
  refine'⟨_,?main,?rest⟩
  case main=>
   refine' i0 ?c1 ?c2
   case' c1=>exact jt (i:=1) sc_from_first.nd rfl (aS rfl) iU
   case' c2=>refine' i0 ?c3 ?c4
   case' c3=>refine' kK ?c5 ?c6 ?c7 ?c8 ?c9
   case c5=>exact PassesOwn.never
   case c6=>exact rfl
   case' c7=>refine' pR (K:=K) rfl rfl T.b_enumerate ?c10
   case' c10=>exact iT (pvF 0) iV
   case' c8=>refine' mY (n:=2) rfl ?c11
   case' c11=>refine' iZ (i5 (i:=2) sc_from_first.nd rfl (aS rfl)) ?c12
   case' c12=>exact iZ (i5 (i:=3) sc_from_first.nd rfl (aS rfl)) jv
   case' c9=>refine' iY ?c13
   case' c13=>refine' jI ?c14 ?c15 ?c16
   case' c14=>refine' mD ?c17
   case' c17=>refine' jm F_ahead (hr.mono (by decide)) rfl i9 ?c18
   case' c18=>refine' iT ?c19 ?c20
   case' c19=>exact jj jQ (pvF 3) iU (fun _ _=>rfl)
   case' c20=>refine' iT ?c21 iV
   case' c21=>exact jj jQ (jj jQ (pvF 0) (pvF 1) (fun _ _=>rfl)) iU (fun _ _=>rfl)
   case' c15=>exact iY (jt (i:=1) sc_from_first.nd rfl (aS rfl) (pvF 2))
   case c16=>exact jh
   case' c4=>refine' jr ?c22 ?c23
   case' c22=>refine' jt (i:=4) sc_from_first.nd rfl (aS rfl) ?c24
   case' c24=>refine' i8 rP ?c25 ?c26
   case' c25=>exact jV wG (pvF 0) (ko (pvF 1)) kr
   case' c26=>exact jV wG (pvF 0) kr (ko (pvF 1))
   case' c23=>refine' iY ?c27
   case' c27=>refine' jg ?c28
   case' c28=>refine' jA ?c29
   case' c29=>refine' iT ?c30 ?c31
   case' c30=>refine' uu (CScope.of_ok (dsc:=iW s_from_first) (N0:=["rows","first","at","row","turned"]) (N:=["row"]) (k:=1) (js:=[]) rfl rfl (by decide+kernel)) rfl (jP (K:=K) rfl (pvF 4)) ?c32 ?c33 ?c34
   case' c32=>intro _ _ _ _ _ _;exact(i5 (i:=0) (by show bT (["row"]:List Str);decide+kernel) rfl (aS rfl))
   case' c33=>intro _ _ _ _ _ _;exact jZ
   case' c34=>intro _ _ _ _ _ _;exact(jj jQ (pvF 0) iU (fun _ _=>rfl))
   case' c31=>refine' iT ?c35 ?c36
   case' c35=>refine' uu (CScope.of_ok (dsc:=iW s_from_first) (N0:=["rows","first","at","row","turned"]) (N:=["row"]) (k:=1) (js:=[]) rfl rfl (by decide+kernel)) rfl (jP (K:=K) rfl (pvF 4)) ?c37 ?c38 ?c39
   case' c37=>intro _ _ _ _ _ _;exact(i5 (i:=0) (by show bT (["row"]:List Str);decide+kernel) rfl (aS rfl))
   case' c38=>intro _ _ _ _ _ _;exact jZ
   case' c39=>intro _ _ _ _ _ _;exact(jj jQ (pvF 0) iU (fun _ _=>rfl))
   case c36=>exact iV
  case rest=>
   obtain⟨ht,rw',hl,l0,l60,h⟩:=h
   have lt:ts.length=R.length:=rw'.1
   walk_at "ST"
   walk_at "RD"
   refine lV (fun a' H1=>a'=t /\ H1=H) ?_ ?_
   ·intro R' hR;walk_at "RD"
    exact hR _ _ ⟨rfl,rfl⟩
   ·rintro t' H1 ⟨et,eH⟩;subst t';subst H1;refine⟨ts.map V.ref,fun i σ H'=>∃(j:Nat) (o2 o3:Option V),σ=[some (.ref t),some (.int (j:Int)),o2,o3,none] /\ j<R.length /\ (∀u,R[j]? =some u -> ∀v∈R.take i,¬Ahd v.1 u.1) /\ Ext H H',⟨0,_,_,rfl,l0,fun u _ v hv=>by simp at hv,.refl _⟩,?_,?_,?_⟩
    ·rintro i σ H' _ ⟨j,o2,o3,rfl,hj,mn,x'⟩;exact SqL.of (x' _ _ ht)
    ·rintro i w1 p σ H' hi ⟨j,o2,o3,rfl,hj,mn,x'⟩ hp;obtain⟨ti,hti,rfl⟩:=jz hi
     have li:i<R.length:=by rw[<-lt];exact(aa.mp hti).1
     obtain⟨vi,hvi⟩:∃v,R[i]? =some v:=⟨_,af li⟩
     obtain⟨vj,hvj⟩:∃v,R[j]? =some v:=⟨_,af hj⟩
     obtain⟨tj,htj⟩:∃v,ts[j]? =some v:=⟨_,af (by rw[lt];exact hj)⟩
     obtain⟨qi,r1,r2⟩:=rw'.2 i ti vi hti hvi
     obtain⟨qj,r3,r4⟩:=rw'.2 j tj vj htj hvj
     have bi:=hl vi (ar hvi)
     have bj:=hl vj (ar hvj)
     have mo:∀{a:P3},B3 601 a ->B3 2000 a:=fun q=>⟨q.1.mono (by decide),q.2.1.mono (by decide),q.2.2.mono (by decide)⟩
     have xt:=x'.then (o:= .tup [.int (i:Int),.ref ti]) hp
     have et:=iX (H:=H') (a:=p) (o:= .tup [.int (i:Int),.ref ti])
     generalize upd H' p (.tup [.int (i:Int),.ref ti])=H2 at xt et⊢
     o_head ⟨kg,ky,nW,et,lF,xt _ _ r1,xt _ _ r2,xt _ _ ht,jK (show(ts.map V.ref)[j]? =some (.ref tj) by rw[aC,htj];rfl),xt _ _ r3,xt _ _ r4,wC⟩;refine⟨mo bi.2,mo bj.2,?_⟩
     by_cases q:Ahd vi.1 vj.1
     ·refine(if_pos q).mpr ⟨i,rfl,li,fun u hu v hv=> ?_,xt⟩;rw[hvi] at hu;cases hu;rw[bV,hvi] at hv;rcases aU.mp hv with hv|hv
      ·exact fun z=>mn vj hvj v hv (z.trans (hl v (cS hv)).1 bi.1 bj.1 q)
      ·rw[fw,bK] at hv;rw[hv];exact Ahd.irr _
     ·refine(if_neg q).mpr ⟨j,rfl,hj,fun u hu v hv=> ?_,xt⟩;rw[hvj] at hu;cases hu;rw[bV,hvi] at hv;rcases aU.mp hv with hv|hv
      ·exact mn vj hvj v hv
      ·rw[fw,bK] at hv;rw[hv];exact q
    ·rintro σ H' ⟨j,o2,o3,rfl,hj,mn,x'⟩;have el:R.take (ts.map V.ref).length=R:=by
      rw[ae,lt];exact bD
     rw[el] at mn;refine⟨fun σ H1=>∃D,σ=[some (.ref t),some (.int (j:Int)),o2,o3,some (.ref D)] /\ H1 D=some (.lst ((rotk j ts).map V.ref)) /\ Ext H H1,?_,?_⟩
     ·o_head ⟨x' _ _ ht,m8,n5,rI⟩
      intro p hp;rw[ju hp (x' _ _ ht),jH,i6];intro p1 hp1;rw[ju hp1 iX,jH,i6];refine⟨by rw[aJ,az,ae];omega,fun p2 hp2=>⟨?_,((x'.then hp).then hp1).then hp2⟩⟩;rw[xn];rfl
     ·rintro σ H1 ⟨D,rfl,eD,x1⟩;have rr:=(rw'.rotk (k:=j) (by omega)).ext x1
      have lr:((rotk j ts).map V.ref).length=(rotk j R).length:=by rw[ae,rr.1]
      have lr':(rotk j R).length=R.length:=xo j R
      walk_at "RD"
      refine j9 (K:=K) (a:=D) (xs:=(rotk j ts).map V.ref) (fun R h=>by walk_at "RD";exact h) (SqL.of eD) (by omega) (fun D' i ys H'=>∃qs':List Addr,ys=qs'.map V.ref /\ H' D'=some (.lst ys) /\ CsAt H' qs' (((rotk j R).take i).map (·.1)) /\ Ext H1 H') ?_ ?_ ?_ ?_
      ·intro D' hD';exact⟨[],rfl,iX,⟨rfl,fun i q z a=>by simp at a⟩,.upd hD'⟩
      ·rintro D' i ys H2 _ ⟨qs',rfl,e2,c2,x2⟩;refine⟨e2,?_,SqL.of (x2 _ _ eD)⟩;rw[ae,c2.1,ae,az];omega
      ·rintro D' i w1 ys H2 hD' hi ⟨qs',rfl,e2,c2,x2⟩;obtain⟨ti,hti,rfl⟩:=jz hi
       have li:i<(rotk j R).length:=by rw[<-rr.1];exact(aa.mp hti).1
       obtain⟨vi,hvi⟩:∃v,(rotk j R)[i]? =some v:=⟨_,af li⟩
       obtain⟨q,r1,r2⟩:=rr.2 i ti vi hti hvi
       o_head ⟨x2 _ _ r1⟩
       refine⟨e2,qs'++[q],by rw[au];rfl,?_,x2.set hD'⟩;rw[bV,hvi,au];exact(c2.snoc (x2 _ _ r2)).setL e2
      ·rintro D' ys H2 hD' ⟨qs',rfl,e2,c2,x2⟩;rw[lr,bD] at c2;have rr2:=rr.ext x2
       refine j9 (K:=K) (a:=D) (xs:=(rotk j ts).map V.ref) (fun R h=>by walk_at "RD";exact h) (SqL.of (x2 _ _ eD)) (by omega) (fun D2 i ys H'=>ys=(((rotk j R).take i).map (·.2.2)).map V.int /\ H' D2=some (.lst ys) /\ Ext H2 H') ?_ ?_ ?_ ?_
       ·intro D2 hD2;exact⟨rfl,iX,.upd hD2⟩
       ·rintro D2 i ys H3 _ ⟨rfl,e3,x3⟩;refine⟨e3,?_,SqL.of (x3 _ _ (x2 _ _ eD))⟩;rw[ae,ae,az];omega
       ·rintro D2 i w1 ys H3 hD2 hi ⟨rfl,e3,x3⟩;obtain⟨ti,hti,rfl⟩:=jz hi
        have li:i<(rotk j R).length:=by rw[<-rr.1];exact(aa.mp hti).1
        obtain⟨vi,hvi⟩:∃v,(rotk j R)[i]? =some v:=⟨_,af li⟩
        obtain⟨q,r1,r2⟩:=rr2.2 i ti vi hti hvi
        o_head ⟨x3 _ _ r1⟩
        refine⟨e3,?_,x3.set hD2⟩;rw[bV,hvi];simp only[iP,au,aD,bI]
       ·rintro D2 ys H3 hD2 ⟨rfl,e3,x3⟩;rw[lr,bD] at e3;refine⟨by decide,fun p hp=> ?_⟩;have xe:=(x2.trans x3).then (o:= .tup [.ref D',.ref D2]) hp
        refine h p D' D2 qs' (rotk j R) _ (x1.trans xe) ⟨(x1.trans (x2.trans x3)).none hp,x1.none hD',(x1.trans x2).none hD2,fun z=>by rw[z,hD2] at e2;cases e2⟩ ⟨iX,ju hp (x3 _ _ e2),(c2.ext x3).ext (Ext.upd hp),ju hp e3⟩ (Rot.of j R) fun v hv u hu=> ?_
        rw[vo hj] at hu;exact mn u hu v hv
theorem sc_cut:FnScope ["field","line","number","corners","edges","excesses"] ["field","line","number"] (iW s_cut):=⟨rfl,rfl,rfl,by decide+kernel,rfl,by decide+kernel,by decide+kernel⟩
theorem ok_cut{C:Cz}{f:Addr}{fd:FuncData}(F:Fun K "cut" "cut" s_cut f fd)(T:Txt K mg C)(F_rest:FnB P w K mg base (CXE P w) 4 "rest" ["corners","edges","excesses","number"] (rD K))(F_from_first:FnB P w K mg base (CXE P w) 2 "from_first" ["rows"] (kO K))(F_excess:FnB P w K mg base (CXE P w) 1 "excess" ["line","point"] lZ):FnOk P w K mg base (CXE P w) 5 f fd ["field","line","number"] (sW K):=by
 refine okN F (k:=4) sc_cut (fun vs H Q E h=> ?_) (fun cdv A outer s H vs Q E hr h=> ?_)
 ·obtain⟨f,ln,num,c,e,qs,l,m,rfl,_⟩:=h
  rfl
 ·obtain⟨f,ln,num,c,e,qs,l,m,rfl,h⟩:=h
  refine'⟨_,?main,?rest⟩
  case main=>
   refine' jr ?c1 ?c2
   case' c1=>refine' k9 (pvF 0) ?c3
   case' c3=>refine' mY (n:=2) rfl ?c4
   case' c4=>refine' iZ (i5 (i:=3) sc_cut.nd rfl (aS rfl)) ?c5
   case' c5=>exact iZ (i5 (i:=4) sc_cut.nd rfl (aS rfl)) jv
   case' c2=>refine' jr ?c6 ?c7
   case' c6=>refine' vv (i:=5) ?c8 ?c9 ?c10 ?c11 ?c12 ?c13 ?c14 ?c15 ?c16
   case c8=>exact(CScope.of_ok (dsc:=iW s_cut) (N0:=["field","line","number","corners","edges","excesses"]) (N:=["corner","line"]) (k:=1) (js:=[1]) rfl rfl (by decide+kernel))
   case c9=>exact rfl
   case c10=>exact(jP (K:=K) rfl (pvF 3))
   case' c11=>intro _ _ _ _ _ _;exact(i5 (i:=0) (by show bT (["corner","line"]:List Str);decide+kernel) rfl (aS rfl))
   case' c12=>intro _ _ _ _ _ _;exact jZ
   case' c13=>intro _ _ _ _ _ _;refine' jm F_excess (hr.mono (by decide)) rfl i9 ?c17
   case' c17=>refine' iT (pvF 1) ?c18
   case' c18=>exact iT (pvF 0) iV
   case c14=>exact sc_cut.nd
   case c15=>exact rfl
   case c16=>exact rfl
   case' c7=>refine' i0 ?c19 ?c20
   case' c19=>refine' jI ?c21 ?c22 ?c23
   case' c21=>refine' ja (OpR.f0 uw) ?c24 iU (je _)
   case' c24=>refine' jc (kz (K:=K) rfl rfl) (by rfl) T.b_max boot_max ?c25
   case' c25=>exact iT (pvF 5) iV
   case' c22=>refine' iY ?c26
   case' c26=>refine' jg ?c27
   case' c27=>refine' jA ?c28
   case' c28=>refine' iT ?c29 ?c30
   case' c29=>refine' jL jU (by rfl) T.b_list boot_list ?c31
   case' c31=>exact iT (pvF 3) iV
   case' c30=>refine' iT ?c32 iV
   case' c32=>refine' jL jU (by rfl) T.b_list boot_list ?c33
   case' c33=>exact iT (pvF 4) iV
   case c23=>exact jh
   case' c20=>refine' i0 ?c34 ?c35
   case' c34=>refine' jI ?c36 ?c37 ?c38
   case' c36=>refine' ja (OpR.f0 ux) ?c39 iU (je _)
   case' c39=>refine' jc (kM (K:=K) rfl rfl) (by rfl) T.b_min boot_min ?c40
   case' c40=>exact iT (pvF 5) iV
   case' c37=>refine' iY ?c41
   case' c41=>exact jg yG
   case c38=>exact jh
   case' c35=>refine' iY ?c42
   case' c42=>refine' jg ?c43
   case' c43=>refine' jm F_from_first (hr.mono (by decide)) rfl i9 ?c44
   case' c44=>refine' iT ?c45 iV
   case' c45=>refine' jm F_rest (hr.mono (by decide)) rfl i9 ?c46
   case' c46=>refine' iT (pvF 3) ?c47
   case' c47=>refine' iT (pvF 4) ?c48
   case' c48=>refine' iT (pvF 5) ?c49
   case' c49=>exact iT (pvF 2) iV
  case rest=>
   obtain⟨hf,hln,hP,hB,bm,l30,hN,hS,hR⟩:=h
   have bc:∀v∈l,0<v.1.2.2 /\ B3 601 v.1:=fun v hv=>⟨hP.pos v hv,mf hP hB hv⟩
   have lq:qs.length=l.length:=by rw[hf.pt.1,ae]
   have l3:=hP.three
   walk_at "ST"
   refine⟨fun σ H1=>σ=[some (.ref f),some (.ref ln),some (.int num),some (.ref c),some (.ref e),none] /\ H1=H,?_,?_⟩
   ·o_head ⟨hf.at_,kg,ky,nW⟩
   ·rintro σ H1 ⟨rfl,eH⟩;subst H1;refine⟨fun σ H1=>∃D,σ=[some (.ref f),some (.ref ln),some (.int num),some (.ref c),some (.ref e),some (.ref D)] /\ H1 D=some (.lst ((l.map fun v=>ex m v.1).map V.int)) /\ Ext H H1,?_,?_⟩
    ·walk_at "RD"
     refine j9 (K:=K) (a:=c) (xs:=qs.map V.ref) (fun R h=>by walk_at "RD";exact h) (SqL.of hf.cs) (by rw[ae];omega) (fun D i ys H'=>ys=((l.take i).map fun v=>ex m v.1).map V.int /\ H' D=some (.lst ys) /\ Ext H H') ?_ ?_ ?_ ?_
     ·intro D hD;exact⟨rfl,iX,.upd hD⟩
     ·rintro D i ys H1 _ ⟨rfl,e1,x1⟩;refine⟨e1,?_,SqL.of (x1 _ _ hf.cs)⟩;rw[ae,ae,az];omega
     ·rintro D i w1 ys H1 hD hi ⟨rfl,e1,x1⟩;obtain⟨q,hq,rfl⟩:=jz hi
      have li:i<l.length:=by rw[<-lq];exact(aa.mp hq).1
      obtain⟨v,hv⟩:∃v,l[i]? =some v:=⟨_,af li⟩
      have eqv:=hf.pt.2 i q v.1 hq (by rw[aC,hv];rfl)
      have bv:=(bc v (ar hv)).2
      o_head ⟨lZ,x1 _ _ hln,x1 _ _ eqv,rI⟩
      refine⟨⟨bm.1.mono (by decide),bm.2.1.mono (by decide),bm.2.2.mono (by decide)⟩,⟨bv.1.mono (by decide),bv.2.1.mono (by decide),bv.2.2.mono (by decide)⟩,e1,?_,x1.set hD⟩;rw[bV,hv];simp only[iP,au,aD,bI];rfl
     ·rintro D ys H1 hD ⟨rfl,e1,x1⟩;rw[ae,lq,bD] at e1;walk_at "RD"
      exact⟨e1,x1⟩
    ·rintro σ H1 ⟨D,rfl,eD,x1⟩;have f1:=hf.ext x1
     walk_at "RD"
     refine⟨D,l.map (fun v=>ex m v.1),rfl,SqL.of eD,by rw[ae];omega,fun M hM hlM=> ?_⟩;obtain⟨u,hu,eu⟩:=aw.mp hM;dsimp only
     by_cases q1:M<=0
     ·rw[if_pos q1,f1.cs,kn,i6];intro p hp;rw[ju hp f1.es,kn,i6];intro p1 hp1;refine⟨by decide,fun p2 hp2=> ?_⟩;have xa:=Ext.upd (o:= .lst (qs.map V.ref)) hp
      have xb:=xa.then (o:= .lst ((l.map (·.2.2)).map V.int)) hp1
      have xc:=xb.then (o:= .tup [.ref p,.ref p1]) hp2
      refine hS p2 p p1 qs _ (x1.trans xc) ⟨x1.none (xb.none hp2),x1.none hp,(x1.trans xa).none hp1,fun z=>by rw[<-z,iX] at hp1;cases hp1⟩ ⟨iX,ju hp2 (ju hp1 iX),f1.pt.ext xc,ju hp2 iX⟩ fun v hv=>f9 (hlM _ (aw.mpr ⟨v,hv,rfl⟩)) q1
     ·rw[if_neg q1];refine⟨D,l.map (fun v=>ex m v.1),rfl,SqL.of eD,by rw[ae];omega,fun M' hM' hlM'=> ?_⟩;obtain⟨u',hu',eu'⟩:=aw.mp hM';dsimp only
      have hp:∃v∈l,0<ex m v.1:=⟨u,hu,by omega⟩
      by_cases q2:0<=M'
      ·rw[if_pos q2];exact hN H1 x1 (fun v hv=>f9 q2 (hlM' _ (aw.mpr ⟨v,hv,rfl⟩))) hp
      ·rw[if_neg q2];have hn:∃v∈l,ex m v.1<0:=⟨u',hu',by omega⟩
       have hP':=md hP m num hp hn
       have hB':=sZ (num:=num) hB bm
       refine⟨c,e,D,num,qs,l,m,rfl,f1.cs,f1.pt,f1.es,eD,bc,bm,by omega,l30,fun t ts H2 x2 ht2 et2 rw2=> ?_⟩;refine⟨t,ts,jB m num l,rfl,et2,rw2,fun v hv=>⟨hP'.pos v hv,mf hP' hB' hv⟩,?_,?_,?_⟩
       ·have:=hP'.three
        omega
       ·have:=wo hP m num hp hn
        omega
       ·intro f' c' e' qs' l' H3 x3 nf ff rr ld;have x12:=x1.trans x2
        exact hR f' c' e' qs' l' H3 (x12.trans x3) ⟨x12.none nf.nf,x12.none nf.nc,x12.none nf.ne,nf.ce⟩ ff hp hn rr ld
theorem sc_cut_each:FnScope ["field","cuts","line","number"] ["field","cuts"] (iW s_cut_each):=⟨rfl,rfl,rfl,by decide+kernel,rfl,by decide+kernel,by decide+kernel⟩
theorem ok_cut_each{C:Cz}{f:Addr}{fd:FuncData}(F:Fun K "cut_each" "cut_each" s_cut_each f fd)(T:Txt K mg C)(F_cut:FnB P w K mg base (CXE P w) 5 "cut" ["field","line","number"] (sW K)):FnOk P w K mg base (CXE P w) 6 f fd ["field","cuts"] (mC K):=by
 refine okN F (k:=5) sc_cut_each (fun vs H Q E h=> ?_) (fun cdv A outer s H vs Q E hr h=> ?_)
 ·obtain⟨f,o,c,e,ps,L,ts,cs,P',NN,rfl,_⟩:=h
  rfl
 ·obtain⟨f,o,c,e,ps,L,ts,cs,P',NN,rfl,h⟩:=h
  refine'⟨_,?main,?rest⟩
  case main=>
   refine' i0 ?c1 ?c2
   case' c1=>refine' kK ?c3 ?c4 ?c5 ?c6 ?c7
   case c3=>exact PassesOwn.never
   case c4=>exact rfl
   case c5=>exact(jP (K:=K) rfl (pvF 1))
   case' c6=>refine' mY (n:=2) rfl ?c8
   case' c8=>refine' iZ (i5 (i:=2) sc_cut_each.nd rfl (aS rfl)) ?c9
   case' c9=>exact iZ (i5 (i:=3) sc_cut_each.nd rfl (aS rfl)) jv
   case' c7=>refine' i0 ?c10 ?c11
   case' c10=>refine' jI ?c12 ?c13 jh
   case' c12=>exact AY (A9 (pvF 0))
   case' c13=>refine' iY ?c14
   case' c14=>exact jg yG
   case' c11=>refine' iY ?c15
   case' c15=>refine' jt (i:=0) sc_cut_each.nd rfl (aS rfl) ?c16
   case' c16=>refine' jm F_cut (hr.mono (by decide)) rfl i9 ?c17
   case' c17=>refine' iT (pvF 0) ?c18
   case' c18=>refine' iT (pvF 2) ?c19
   case' c19=>exact iT (pvF 3) iV
   case' c2=>exact iY (jg (pvF 0))
  case rest=>
   obtain⟨hf,ho,hcs,hP0,hst,hN,h⟩:=h
   walk_at "ST"
   walk_at "RD"
   refine kY (K:=K) (a:=o) (xs:=ts.map V.ref) (fun R h=>by walk_at "RD";exact h) (fun k σ H'=>∃(va:V) (o2 o3:Option V),σ=[some va,some (.ref o),o2,o3] /\ Ext H H' /\ ((va= .non /\ NN)∨∃(f' c' e':Addr) (ps':List Addr) (L':List Vx),va= .ref f' /\ (NewF H f' c' e'∨(k=0 /\ f'=f /\ c'=c /\ e'=e)) /\ FldAt H' f' c' e' ps' L' /\ P' k L')) ⟨_,_,_,rfl,.refl _,.inr ⟨f,c,e,ps,L,rfl,.inr ⟨rfl,rfl,rfl,rfl⟩,hf,hP0⟩⟩ ?_ ?_ ?_
   ·rintro k σ H1 _ ⟨va,o2,o3,rfl,x1,_⟩;exact SqL.of (x1 _ _ ho)
   ·rintro k w1 σ H1 hk ⟨va,o2,o3,rfl,x1,hv⟩;obtain⟨t,ht,rfl⟩:=jz hk
    have li:=(aa.mp ht).1
    obtain⟨w',hw⟩:∃z,cs[k]? =some z:=⟨_,af (by rw[<-hcs.1];exact li)⟩
    obtain⟨q,et,eq⟩:=hcs.2 k t w' ht hw
    o_head ⟨kg,ky,nW,x1 _ _ et⟩
    rcases hv with⟨rfl,nn⟩|⟨f',c',e',ps',L',rfl,nf1,hf1,hP1⟩
    ·walk_at "RD"
     exact hN nn H1 x1
    ·obtain⟨s1,s2,s3,s4,s5,s6,s7⟩:=hst k w' L' hw hP1
     o_head ⟨sW⟩
     refine⟨c',e',ps',L',hf1,w'.1,x1 _ _ eq,s1,s2,s3,s4,?_,?_,?_⟩
     ·intro H2 x2 q1 q2;exact⟨x1.trans x2,s7 q1 q2⟩
     ·intro f2 c2 e2 ps2 H2 x2 nf2 hf2 q1;exact⟨x1.trans x2,c2,e2,⟨x1.none nf2.nf,x1.none nf2.nc,x1.none nf2.ne,nf2.ce⟩,ps2,L',hf2,s5 q1⟩
     ·intro f2 c2 e2 ps2 L2 H2 x2 nf2 hf2 q1 q2 rt ld;exact⟨x1.trans x2,c2,e2,⟨x1.none nf2.nf,x1.none nf2.nc,x1.none nf2.ne,nf2.ce⟩,ps2,L2,hf2,s6 L2 q1 q2 rt ld⟩
   ·rintro σ H1 ⟨va,o2,o3,rfl,x1,hv⟩;walk_at "RD"
    rcases hv with⟨rfl,nn⟩|⟨f',c',e',ps',L',rfl,nf1,hf1,hP1⟩
    ·exact hN nn H1 x1
    ·rw[ae,hcs.1] at hP1 nf1;exact h f' c' e' ps' L' H1 x1 nf1 hf1 hP1
theorem uq:FnScope ["field","spots","number","others"] ["field","spots","number","others"] (iW s_cut_off):=⟨rfl,rfl,rfl,by decide+kernel,rfl,by decide+kernel,by decide+kernel⟩
theorem ok_cut_off{C:Cz}{f:Addr}{fd:FuncData}(F:Fun K "cut_off" "cut_off" s_cut_off f fd)(T:Txt K mg C)(F_between:FnB P w K mg base (CXE P w) 3 "between" ["one","other"] lE)(F_cut_each:FnB P w K mg base (CXE P w) 6 "cut_each" ["field","cuts"] (mC K)):FnOk P w K mg base (CXE P w) 7 f fd ["field","spots","number","others"] (nG K):=by
 refine okN F (k:=6) uq (fun vs H Q E h=> ?_) (fun cdv A outer s H vs Q E hr h=> ?_)
 ·obtain⟨f,l,i,o,b,x,y,u,v,qs,rs,c,e,ps,L,r,j0,js,rfl,_⟩:=h
  rfl
 ·obtain⟨f,l,i,o,b,x,y,u,v,qs,rs,c,e,ps,L,r,j0,js,rfl,h⟩:=h
  refine'⟨_,?main,?rest⟩
  case main=>
   refine' iY ?c1
   case' c1=>refine' jg ?c2
   case' c2=>refine' jm ?c3 ?c4 ?c5 ?c6 ?c7
   case c3=>exact F_cut_each
   case c4=>exact(hr.mono (by decide))
   case c5=>exact rfl
   case c6=>exact i9
   case' c7=>refine' iT ?c8 ?c9
   case c8=>exact(pvF 0)
   case' c9=>refine' iT ?c10 ?c11
   case' c10=>refine' uu (CScope.of_ok (dsc:=iW s_cut_off) (N0:=["field","spots","number","others"]) (N:=["other","spots","number"]) (k:=1) (js:=[1,2]) rfl rfl (by decide+kernel)) rfl (jP (K:=K) rfl (pvF 3)) ?c12 ?c13 ?c14
   case' c12=>intro _ _ _ _ _ _;exact(i5 (i:=0) (by show bT (["other","spots","number"]:List Str);decide+kernel) rfl (aS rfl))
   case' c13=>intro _ _ _ _ _ _;exact jZ
   case' c14=>intro _ _ _ _ _ _;refine' jA ?c15
   case' c15=>refine' iT ?c16 ?c17
   case' c16=>refine' jm F_between (hr.mono (by decide)) rfl i9 ?c18
   case' c18=>refine' iT (jj jQ (pvF 1) (pvF 2) (fun _ _=>rfl)) ?c19
   case' c19=>exact iT (jj jQ (pvF 1) (pvF 0) (fun _ _=>rfl)) iV
   case' c17=>exact iT (pvF 0) iV
   case c11=>exact iV
  case rest=>
   obtain⟨ok,hf,hL,hri,ho,nd,l12,hjs,hj0,h⟩:=h
   have lq:qs.length=rs.length:=ok.at_.1
   obtain⟨qi,hqi⟩:∃q,qs[i]? =some q:=⟨_,af (by rw[lq];exact(aa.mp hri).1)⟩
   have eqi:=ok.at_.2 i qi r hqi hri
   have ai:atI (qs.map V.ref) (i:Int)=some (.ref qi):=jK (by rw[aC,hqi];rfl)
   have br:=ok.b2 (ar hri)
   have lj:(JsV js).length=js.length:=by unfold JsV;rw[ae]
   walk_at "ST"
   walk_at "RD"
   refine j9 (K:=K) (a:=o) (xs:=JsV js) (fun R h=>by walk_at "RD";exact h) (SqL.of ho) (by omega) (fun D k ys H'=>∃ts:List Addr,ys=ts.map V.ref /\ RwAt H' ts ((js.take k).map (BL rs r)) /\ H' D=some (.lst ys) /\ Ext H H') ?_ ?_ ?_ ?_
   ·intro D hD;exact⟨[],rfl,⟨rfl,fun i t v a=>by simp at a⟩,iX,.upd hD⟩
   ·rintro D k ys H1 _ ⟨ts,rfl,r1,e1,x1⟩;refine⟨e1,?_,SqL.of (x1 _ _ ho)⟩;rw[ae,r1.1,ae,az];omega
   ·rintro D k w1 ys H1 hD hk ⟨ts,rfl,r1,e1,x1⟩;obtain⟨j,hj,rfl⟩:=wF hk
    obtain⟨jl,ji,_⟩:=hjs j (ar hj)
    obtain⟨s,hs⟩:∃s,rs[j]? =some s:=⟨_,af jl⟩
    obtain⟨qj,hqj⟩:∃q,qs[j]? =some q:=⟨_,af (by rw[lq];exact jl)⟩
    have eqj:=ok.at_.2 j qj s hqj hs
    have ok1:=ok.ext x1
    have ne:=nodup_ne ok.nd hri hs ji
    have bs:=ok.b2 (ar hs)
    have aj:atI (qs.map V.ref) (j:Int)=some (.ref qj):=jK (by rw[aC,hqj];rfl)
    o_head ⟨ok1.sp,ai,aj,lE,x1 _ _ eqi,x1 _ _ eqj,BM,rI,rI,rI,rI,rI⟩
    refine⟨⟨br.1.mono (by decide),br.2.mono (by decide)⟩,⟨bs.1.mono (by decide),bs.2.mono (by decide)⟩,ne,fun t ht=>⟨by decide,fun t2 ht2=> ?_⟩⟩;have e1':=ju (o:= .tup [.ref t,.int (j:Int)]) ht2 (ju (o:= .tup [.int (lnB r s).1,.int (lnB r s).2.1,.int (lnB r s).2.2]) ht e1)
    refine⟨e1',ts++[t2],by rw[pZ],?_,((x1.then ht).then ht2).set hD⟩;rw[bV,hj,au];refine RwAt.setL (xs:=ts.map V.ref) ?_ e1';refine RwAt.snoc ((r1.ext (Ext.upd ht)).ext (Ext.upd ht2)) (q:=t) ?_ ?_
    ·rw[sJ hs];exact iX
    ·rw[sJ hs];exact ju ht2 iX
   ·rintro D ys H1 hD ⟨ts,rfl,r1,e1,x1⟩;rw[lj,bD] at r1;have ok1:=ok.ext x1
    refine⟨f,D,c,e,ps,L,ts,js.map (BL rs r),fun k l'=>LandOk x y u v rs r (j0++js.take k) l',False,rfl,hf.ext x1,e1,r1,by show LandOk x y u v rs r (j0++js.take 0) L;rw[gz,aI];exact hL,?_,fun z=>z.elim,fun f' c' e' ps' L' H' x' nf hf' hL'=> ?_⟩
    ·intro k w1 L1 hk hL1;rw[aC] at hk;obtain⟨j,hj,rfl⟩:∃j,js[k]? =some j /\ w1=BL rs r j:=by
      cases e:js[k]? with
      |none=>rw[e] at hk;cases hk
      |some q=>rw[e] at hk;exact⟨q,rfl,(aZ.inj hk).symm⟩
     obtain⟨jl,ji,jn⟩:=hjs j (ar hj)
     obtain⟨s,hs⟩:∃s,rs[j]? =some s:=⟨_,af jl⟩
     rw[sJ hs];dsimp only;have ne:=nodup_ne ok.nd hri hs ji
     have bm:B3 300 (lnB r s):=by
      have a1:=ok.ins r (ar hri)
      have a2:=ok.ins s (ar hs)
      have z:=ok.sz
      have b:=Bi (n:=110) (ug (n:=r.1) (by omega) (by omega) 110) (ug (n:=r.2) (by omega) (by omega) 110) (ug (n:=s.1) (by omega) (by omega) 110) (ug (n:=s.2) (by omega) (by omega) 110) ne
      exact⟨b.1.mono (by decide),b.2.1.mono (by decide),b.2.2.mono (by decide)⟩
     have lL:=hL1.len
     rw[aq,az] at lL;have own:=xR hL1 ok.xu ok.yv (ok.ins r (ar hri)) fun j' hj' z=>nodup_ne ok.nd hri z ((aU.mp hj').elim (hj0 j') fun q=>(hjs j' (cS q)).2.1) rfl
     have tk:j0++js.take (k+1)=(j0++js.take k)++[j]:=by
      rw[bV,hj,bG];rfl
     refine⟨hL1.poly,hL1.lnb,bm,by omega,fun q1=> ?_,fun l' q1 q2 rt ld=> ?_,fun q1 _=> ?_⟩
     ·rw[tk];exact vW hL1 hs q1
     ·rw[tk];exact xT hL1 hs (fun z=>(aU.mp z).elim jn (xK nd hj)) bm q1 q2 rt ld
     ·obtain⟨w,hw,lt⟩:=rE hL1.poly own (tG ne)
      have:=q1 w hw
      omega
    ·rw[ae,bD] at hL';refine h f' c' e' ps' L' H' (x1.trans x') ?_ hf' hL';rcases nf with n|n
     ·exact .inl ⟨x1.none n.nf,x1.none n.nc,x1.none n.ne,n.ce⟩
     ·exact .inr (by rw[ae] at n;exact n)
theorem ol:FnScope ["box","spots","number"] ["box","spots","number"] (iW s_land_within):=⟨rfl,rfl,rfl,by decide+kernel,rfl,by decide+kernel,by decide+kernel⟩
theorem ok_land_within{C:Cz}{f:Addr}{fd:FuncData}(F:Fun K "land_within" "land_within" s_land_within f fd)(T:Txt K mg C)(F_others_of:FnB P w K mg base (CXE P w) 1 "others_of" ["spots","number"] nB)(F_box_field:FnB P w K mg base (CXE P w) 2 "box_field" ["box"] kA)(F_cut_off:FnB P w K mg base (CXE P w) 7 "cut_off" ["field","spots","number","others"] (nG K)):FnOk P w K mg base (CXE P w) 8 f fd ["box","spots","number"] (mV K):=by
 refine okN F (k:=7) ol (fun vs H Q E h=> ?_) (fun cdv A outer s H vs Q E hr h=> ?_)
 ·obtain⟨b,l,i,x,y,u,v,qs,rs,r,rfl,_⟩:=h
  rfl
 ·obtain⟨b,l,i,x,y,u,v,qs,rs,r,rfl,h⟩:=h
  refine'⟨_,?main,?rest⟩
  case main=>
   refine' iY ?c1
   case' c1=>refine' jg ?c2
   case' c2=>refine' jm ?c3 ?c4 ?c5 ?c6 ?c7
   case c3=>exact F_cut_off
   case c4=>exact(hr.mono (by decide))
   case c5=>exact rfl
   case c6=>exact i9
   case' c7=>refine' iT ?c8 ?c9
   case' c8=>refine' jm F_box_field (hr.mono (by decide)) rfl i9 ?c10
   case' c10=>exact iT (pvF 0) iV
   case' c9=>refine' iT (pvF 1) ?c11
   case' c11=>refine' iT (pvF 2) ?c12
   case' c12=>refine' iT ?c13 iV
   case' c13=>refine' jm F_others_of (hr.mono (by decide)) rfl i9 ?c14
   case' c14=>refine' iT (pvF 1) ?c15
   case' c15=>exact iT (pvF 2) iV
  case rest=>
   obtain⟨ok,hri,h⟩:=h
   have lq:(qs.map V.ref).length=rs.length:=by rw[ae];exact ok.at_.1
   have n12:=ok.n12
   have z:=ok.sz
   have xu:=ok.xu
   have yv:=ok.yv
   walk_at "ST"
   o_head ⟨kA⟩
   refine⟨x,y,u,v,ok.bx,xu,yv,fun f c e ps H2 x2 nf hf=> ?_⟩;have ok2:=ok.ext x2
   refine⟨l,i,qs.map V.ref,rfl,ok2.sp,by rw[lq];omega,fun D H3 x3 hD eD=> ?_⟩;rw[lq] at eD;have bx:Bd 300 x /\ Bd 300 y /\ Bd 300 u /\ Bd 300 v:=⟨ug (by omega) (by omega) 300,ug (by omega) (by omega) 300,ug (by omega) (by omega) 300,ug (by omega) (by omega) 300⟩
   refine⟨f,l,i,D,b,x,y,u,v,qs,rs,c,e,ps,lO x y u v,r,[],jD rs.length i,rfl,ok2.ext x3,hf.ext x3,xU rs r xu yv bx,hri,eD,pS _ _,by rw[bo,eJ];exact bW (lQ _ _) n12,fun j hj=>⟨(mem_othersL.mp hj).1,(mem_othersL.mp hj).2,by simp⟩,by simp,fun f' c' e' ps' L' H4 x4 nf4 hf4 hL4=> ?_⟩;have x23:=x2.trans x3
   refine h f' c' e' ps' L' H4 (x23.trans x4) ?_ hf4 hL4;rcases nf4 with n|⟨_,rfl,rfl,rfl⟩
   ·exact⟨x23.none n.nf,x23.none n.nc,x23.none n.ne,n.ce⟩
   ·exact nf
theorem qI:FnScope ["box","spots","lot"] ["box","spots","lot"] (iW s_check_lot):=⟨rfl,rfl,rfl,by decide+kernel,rfl,by decide+kernel,by decide+kernel⟩
theorem ok_check_lot{C:Cz}{f:Addr}{fd:FuncData}(F:Fun K "check_lot" "check_lot" s_check_lot f fd)(T:Txt K mg C)(F_are_unlike:FnB P w K mg base (CXE P w) 1 "are_unlike" ["spots","numbers"] (nA K))(F_check_box_and_spots:FnB P w K mg base (CXE P w) 3 "check_box_and_spots" ["box","spots"] (sX K)):FnOk P w K mg base (CXE P w) 4 f fd ["box","spots","lot"] (kQ K):=by
 refine okN F (k:=3) qI (fun vs H Q E h=> ?_) (fun cdv A outer s H vs Q E hr h=> ?_)
 ·obtain⟨b,l,t,x,y,u,v,qs,rs,lot,rfl,_⟩:=h
  rfl
 ·obtain⟨b,l,t,x,y,u,v,qs,rs,lot,rfl,h⟩:=h
  refine'⟨_,?main,?rest⟩
  case main=>
   refine' i0 ?c1 ?c2
   case' c1=>refine' jO ?c3
   case' c3=>refine' jm F_check_box_and_spots (hr.mono (by decide)) rfl i9 ?c4
   case' c4=>refine' iT (pvF 0) ?c5
   case' c5=>exact iT (pvF 1) iV
   case' c2=>refine' iY ?c6
   case' c6=>refine' jI ?c7 ?c8 ?c9
   case' c7=>refine' PW.pt ?c10
   case' c10=>refine' rK ?c11 ?c12
   case' c11=>refine' tD ?c13
   case' c13=>refine' mD ?c14
   case' c14=>refine' jm F_are_unlike (hr.mono (by decide)) rfl i9 ?c15
   case' c15=>refine' iT (pvF 1) ?c16
   case' c16=>exact iT (pvF 2) iV
   case' c12=>refine' nL ?c17
   case' c17=>refine' ja jX ?c18 ?c19 (je _)
   case' c18=>refine' jc jx (by rfl) T.b_len bq ?c20
   case' c20=>exact iT (pvF 2) iV
   case' c19=>refine' jc jx (by rfl) T.b_len bq ?c21
   case' c21=>exact iT (pvF 1) iV
   case' c8=>exact iY kf
   case c9=>exact jh
  case rest=>
   obtain⟨ok,ht,nd,l0,ll,hlt,h⟩:=h
   have n12:=ok.n12
   have lq:(qs.map V.ref).length=rs.length:=by rw[ae,ok.at_.1]
   walk_at "ST"
   o_head ⟨sX⟩
   refine⟨⟨x,y,u,v,qs,rs,ok⟩,fun H0 x0=> ?_⟩;have ok0:=ok.ext x0
   refine⟨l,t,qs.map V.ref,lot,rfl,ok0.sp,x0 _ _ ht,nd,l0,by omega,fun j hj=>by rw[lq];exact hlt j hj,fun H1 x1=> ?_⟩
   o_head ⟨x1 _ _ (x0 _ _ ht),x1 _ _ ok0.sp,oh,lq⟩
   rw[if_neg (by omega)];exact h _ (x0.trans x1)
theorem om:FnScope ["one","other"] ["one","other"] (iW s_edge_before):=⟨rfl,rfl,rfl,by decide+kernel,rfl,by decide+kernel,by decide+kernel⟩
theorem ok_edge_before{C:Cz}{f:Addr}{fd:FuncData}(F:Fun K "edge_before" "edge_before" s_edge_before f fd)(T:Txt K mg C)(F_ahead:FnB P w K mg base (CXE P w) 1 "ahead" ["one","other"] lF):FnOk P w K mg base (CXE P w) 2 f fd ["one","other"] (y6 K):=by
 refine okN F (k:=1) om (fun vs H Q E h=> ?_) (fun cdv A outer s H vs Q E hr h=> ?_)
 ·obtain⟨p,q,z,z2,rfl,_⟩:=h
  rfl
 ·obtain⟨p,q,z,z2,rfl,h⟩:=h
  refine'⟨_,?main,?rest⟩
  case main=>
   refine' i0 ?c1 ?c2
   case' c1=>refine' jI ?c3 ?c4 ?c5
   case' c3=>refine' ja (rO (K:=K) rfl (Cj hr)) ?c6 ?c7 (je _)
   case' c6=>exact jj jQ (pvF 0) iU (fun _ _=>rfl)
   case' c7=>exact jj jQ (pvF 1) iU (fun _ _=>rfl)
   case' c4=>refine' iY ?c8
   case' c8=>refine' jg ?c9
   case' c9=>refine' jm F_ahead (hr.mono (by decide)) rfl i9 ?c10
   case' c10=>refine' iT ?c11 ?c12
   case' c11=>exact jj jQ (pvF 0) iU (fun _ _=>rfl)
   case' c12=>refine' iT ?c13 iV
   case' c13=>exact jj jQ (pvF 1) iU (fun _ _=>rfl)
   case c5=>exact jh
   case' c2=>refine' iY ?c14
   case' c14=>refine' jg ?c15
   case' c15=>refine' jm F_ahead (hr.mono (by decide)) rfl i9 ?c16
   case' c16=>refine' iT ?c17 ?c18
   case' c17=>exact jj jQ (pvF 0) iU (fun _ _=>rfl)
   case' c18=>refine' iT ?c19 iV
   case' c19=>exact jj jQ (pvF 1) iU (fun _ _=>rfl)
  case rest=>
   obtain⟨⟨s1,e1,p1,p2,p3⟩,⟨s2,e2,q1,q2,q3⟩,⟨_,b1,b2⟩,⟨_,b3,b4⟩,h⟩:=h
   walk_at "ST"
   o_head ⟨p1,q1,lF,p2,p3,q2,q3,rI,rI,rI,rI,rI⟩
   refine⟨_,_,tz p2,tz q2,qF _,qF _,?_⟩;rw[BB];dsimp only;have hq:∀b:Bool,b=decide (EB z z2) ->Q (.bl b) H:=fun b e=>by rw[e];exact h
   clear h
   by_cases c:z.1=z2.1
   ·have h:decide (Ahd z.2.1 z2.2.1)=decide (EB z z2):=decide_eq_decide.mpr (by unfold EB;rw[if_pos c])
    rw[if_pos (show id (decide (z.1=z2.1))=true from decide_eq_true c)];rw[p1,k7,i6,show atI [V.ref s1,V.ref e1,V.int z.2.2.1,V.int z.2.2.2] 1=some (V.ref e1) from rfl,i6,q1,k7,i6,show atI [V.ref s2,V.ref e2,V.int z2.2.2.1,V.int z2.2.2.2] 1=some (V.ref e2) from rfl,i6];refine⟨_,rfl,_,rfl,?_⟩;rw[p3,q3];refine⟨b2,b4,?_⟩;rw[rq z.2.1 z2.2.1];exact hq _ h
   ·have h:decide (Ahd z.1 z2.1)=decide (EB z z2):=decide_eq_decide.mpr (by unfold EB;rw[if_neg c])
    rw[if_neg (show¬id (decide (z.1=z2.1))=true from fun g=>c (of_decide_eq_true g))];rw[p1,k7,i6,uI,i6,q1,k7,i6,uI,i6];refine⟨_,rfl,_,rfl,?_⟩;rw[p2,q2];refine⟨b1,b3,?_⟩;rw[rq z.1 z2.1];exact hq _ h
theorem sc_ordered:FnScope ["things","before","told","thing","at"] ["things","before"] (iW s_ordered):=⟨rfl,rfl,rfl,by decide+kernel,rfl,by decide+kernel,by decide+kernel⟩
theorem ok_ordered{C:Cz}{f:Addr}{fd:FuncData}(F:Fun K "ordered" "ordered" s_ordered f fd)(T:Txt K mg C)(F_edge_before:FnB P w K mg base (CXE P w) 2 "edge_before" ["one","other"] (y6 K)):FnOk P w K mg base (CXE P w) 3 f fd ["things","before"] (lC K C):=by
 refine okN F (k:=2) sc_ordered (fun vs H Q E h=> ?_) (fun cdv A outer s H vs Q E hr h=> ?_)
 ·obtain⟨l,ts,zs,rfl,_⟩:=h
  rfl
 ·obtain⟨l,ts,zs,rfl,h⟩:=h
  refine'⟨_,?main,?rest⟩
  case main=>
   refine' jr ?c1 ?c2
   case' c1=>refine' jt (i:=2) sc_ordered.nd rfl (aS rfl) ?c3
   case' c3=>exact kD iV
   case' c2=>refine' i0 ?c4 ?c5
   case' c4=>refine' kK ?c6 ?c7 ?c8 ?c9 ?c10
   case c6=>exact PassesOwn.never
   case c7=>exact rfl
   case c8=>exact(jP (K:=K) rfl (pvF 0))
   case c9=>exact(i5 (i:=3) sc_ordered.nd rfl (aS rfl))
   case' c10=>refine' i0 ?c11 ?c12
   case' c11=>refine' jt (i:=4) sc_ordered.nd rfl (aS rfl) ?c13
   case' c13=>refine' jc jx (by rfl) T.b_len bq ?c14
   case' c14=>exact iT (pvF 2) iV
   case' c12=>refine' i0 ?c15 ?c16
   case' c15=>refine' pN ?c17 ?c18 ?c19
   case c17=>exact PassesOwn.never
   case' c18=>refine' PW.pt ?c20
   case' c20=>refine' mH ?c21 ?c22
   case' c21=>exact ja (OpR.f0 pU) (pvF 4) iU (je _)
   case' c22=>refine' k8 ?c23
   case' c23=>refine' mD ?c24
   case' c24=>refine' A7 F_edge_before T.g_edge_before (hr.mono (by decide)) (pvF 1) i9 ?c25
   case' c25=>refine' iT (pvF 3) ?c26
   case' c26=>refine' iT ?c27 iV
   case' c27=>refine' jj jQ (pvF 2) ?c28 (fun _ _=>rfl)
   case' c28=>exact i8 (OpR.f0 jR) (pvF 4) iU
   case' c19=>refine' iY ?c29
   case' c29=>exact A0 (i:=4) sc_ordered.nd rfl (aS rfl) iU Bp
   case' c16=>refine' iY ?c30
   case' c30=>refine' jO ?c31
   case' c31=>refine' zp (pvF 2) ?c32
   case' c32=>refine' iT (pvF 4) ?c33
   case' c33=>exact iT (pvF 3) iV
   case' c5=>exact iY (jg (pvF 2))
  case rest=>
   obtain⟨hl,hR0,hb,ln,h⟩:=h
   have lt:(ts.map V.ref).length=ts.length:=ae _
   walk_at "ST"
   refine⟨fun σ H'=>∃D:Addr,σ=[some (.ref l),some (.ref C.edge_before),some (.ref D),none,none] /\ Ext H H' /\ H D=none /\ H' D=some (.lst []),?_,?_⟩
   ·walk_at "RD"
    exact⟨by decide,fun D hD=>⟨.upd hD,hD⟩⟩
   rintro σ H1 ⟨D,rfl,x1,nD,eD⟩;refine kY (K:=K) (a:=l) (xs:=ts.map V.ref) (fun R hR=>by walk_at "RD";exact hR) (fun i σ H'=>∃(us:List Addr) (ws:List Rw) (o3 o4:Option V),σ=[some (.ref l),some (.ref C.edge_before),some (.ref D),o3,o4] /\ Ext H H' /\ H' D=some (.lst (us.map V.ref)) /\ RwsAt H' us ws /\ ws.Perm (zs.take i) /\ Ah ws) ⟨[],[],_,_,rfl,x1,eD,⟨rfl,fun i t z a=>by simp at a⟩,gB _,fH⟩ ?_ ?_ ?_
   ·rintro i σ H2 _ ⟨us,ws,o3,o4,rfl,x2,eD2,ra,pm,so⟩;exact SqL.of (x2 _ _ hl)
   rotate_left
   ·rintro σ H2 ⟨us,ws,o3,o4,rfl,x2,eD2,ra,pm,so⟩;rw[lt,hR0.1,bD] at pm;walk_at "RD"
    exact h D us ws H2 x2 nD eD2 ra pm so
   rintro i v σ H2 hi ⟨us,ws,o3,o4,rfl,x2,eD2,ra,pm,so⟩;obtain⟨t,ht,rfl⟩:=jz hi
   have il:=(aa.mp ht).1
   obtain⟨z,hz,rz⟩:=hR0.at ht
   have bz:=hb z (ar hz)
   have lu:us.length<=900:=by have:=pm.length_eq;rw[az] at this;rw[ra.1];omega
   have rt:=rz.ext x2
   have lw:us.length=ws.length:=ra.1
   have bw:∀w∈ws,yz w:=fun w hw=>hb w (cS (pm.mem_iff.mp hw))
   have lU:(us.map V.ref).length=us.length:=ae _
   o_head ⟨eD2,lU,rI,rI⟩
   refine⟨fun k σ H'=>k<=us.length /\ (∀w∈ws.drop k,EB z w) /\ σ=[some (.ref l),some (.ref C.edge_before),some (.ref D),some (.ref t),some (.int (k:Int))] /\ H'=H2,⟨us.length,av _,fun w hw=>(by rw[lw,ik] at hw;cases hw),rfl,rfl⟩,?_⟩;rintro k σ H3 ⟨ku,up,rfl,rfl⟩;have done:∀k:Nat,k<=us.length ->(∀w∈ws.drop k,EB z w) ->(k=0∨∃w,ws[k-1]? =some w /\ ¬EB z w) ->Ext H (upd H3 D (.lst ((us.map V.ref).take k++[.ref t]++(us.map V.ref).drop k))) /\ ∃x:List Addr,HO.lst ((us.map V.ref).take k++[.ref t]++(us.map V.ref).drop k)=HO.lst (x.map V.ref) /\ ∃y:List Rw,RwsAt (upd H3 D (.lst ((us.map V.ref).take k++[.ref t]++(us.map V.ref).drop k))) x y /\ y.Perm (zs.take (i+1)) /\ Ah y:=fun k ku up dn=>by
    refine⟨x2.set nD,us.take k++[t]++us.drop k,by rw[au,au,cE,cV];rfl,ws.take k++[z]++ws.drop k,?_,?_,y4 so bz.1 (fun w hw=>(bw w hw).1) (by omega) up dn⟩
    ·have r0:=((ra.take k).app (.one rt)).app (ra.drop k)
     refine⟨r0.1,fun i t z a b=> ?_⟩;obtain⟨s,e,g1,g2,g3⟩:=r0.2 i t z a b
     exact⟨s,e,(i7 (lA g1 eD2 (by intro z;cases z))).trans g1,(i7 (lA g2 eD2 (by intro z;cases z))).trans g2,(i7 (lA g3 eD2 (by intro z;cases z))).trans g3⟩
    ·rw[dA,hz];refine List.Perm.trans ?_ (pm.append_right _);rw[bG];refine(List.perm_append_comm_assoc _ _ _).trans ?_;rw[cq];exact gs
   have ia:qg (us.map V.ref).length (k:Int)=k:=by unfold qg;rw[if_neg (by omega),lU];omega
   o_head ⟨eD2⟩
   by_cases c0:0<(k:Int)
   rotate_left
   ·rw[if_neg c0,ia];exact⟨by omega,by omega,by omega,⟨_,rfl⟩,done k ku up (.inl (by omega))⟩
   rw[if_pos c0];obtain⟨j,rfl⟩:∃j,k=j+1:=⟨k-1,by omega⟩
   obtain⟨u,hu⟩:∃u,us[j]? =some u:=⟨_,af (by omega)⟩
   obtain⟨w,hw,rw'⟩:=ra.at hu
   rw[show((j+1:Nat):Int)-1=((j:Nat):Int) by omega,jK (j:=j) (v:=V.ref u) (by rw[aC,hu];rfl),i6];refine⟨t,u,z,w,rfl,rt,rw',bz,bw w (ar hw),?_⟩;dsimp only
   by_cases b:EB z w
   rotate_left
   ·rw[decide_eq_false b,if_neg (by decide),eD2,jH,i6,ia];exact⟨rfl,by omega,by omega,by omega,⟨_,rfl⟩,done (j+1) ku up (.inr ⟨w,hw,b⟩)⟩
   ·rw[decide_eq_true b,if_pos rfl];refine⟨fun σ H'=>σ=[some (.ref l),some (.ref C.edge_before),some (.ref D),some (.ref t),some (.int (j:Int))] /\ H'=H3,?_,?_⟩
    ·rintro σ H4 ⟨rfl,rfl⟩;refine⟨j,by omega,by omega,fun w' hw'=> ?_,rfl,rfl⟩;rw[bU (show j<ws.length by omega)] at hw';rcases ao.mp hw' with g|g
     ·rw[g,(aa.mp hw).2];exact b
     ·exact up w' g
    ·refine⟨.int ((j+1:Nat):Int),rfl,?_⟩;refine⟨((j+1:Nat):Int),1,rfl,rfl,?_⟩;show [some (V.ref l),some (V.ref C.edge_before),some (V.ref D),some (V.ref t),some (V.int (((j+1:Nat):Int)-1))]=[some (V.ref l),some (V.ref C.edge_before),some (V.ref D),some (V.ref t),some (V.int (j:Int))] /\ H3=H3
     rw[show((j+1:Nat):Int)-1=(j:Int) by omega];exact⟨rfl,rfl⟩
theorem sc_seam:FnScope ["box","spots","lot","rows","number","corners","edges","start","end","called"] ["box","spots","lot"] (iW s_seam):=⟨rfl,rfl,rfl,by decide+kernel,rfl,by decide+kernel,by decide+kernel⟩
theorem ok_seam{C:Cz}{f:Addr}{fd:FuncData}(F:Fun K "seam" "seam" s_seam f fd)(T:Txt K mg C)(F_ordered:FnB P w K mg base (CXE P w) 3 "ordered" ["things","before"] (lC K C))(F_land_within:FnB P w K mg base (CXE P w) 8 "land_within" ["box","spots","number"] (mV K))(F_check_lot:FnB P w K mg base (CXE P w) 4 "check_lot" ["box","spots","lot"] (kQ K)):FnOk P w K mg base (CXE P w) 9 f fd ["box","spots","lot"] (rC K C):=by
 refine okN F (k:=8) sc_seam (fun vs H Q E h=> ?_) (fun cdv A outer s H vs Q E hr h=> ?_)
 ·obtain⟨b,l,t,x,y,u,v,qs,rs,lot,rfl,_⟩:=h
  rfl
 ·obtain⟨b,l,t,x,y,u,v,qs,rs,lot,rfl,h⟩:=h
  refine'⟨_,?main,?rest⟩
  case main=>
   refine' jr ?c1 ?c2
   case' c1=>refine' jO ?c3
   case' c3=>refine' jm F_check_lot (hr.mono (by decide)) rfl i9 ?c4
   case' c4=>refine' iT (pvF 0) ?c5
   case' c5=>refine' iT (pvF 1) ?c6
   case' c6=>exact iT (pvF 2) iV
   case' c2=>refine' jr ?c7 ?c8
   case' c7=>refine' jt (i:=3) sc_seam.nd rfl (aS rfl) ?c9
   case' c9=>exact kD iV
   case' c8=>refine' jr ?c10 ?c11
   case' c10=>refine' kK ?c12 ?c13 ?c14 ?c15 ?c16
   case c12=>exact PassesOwn.never
   case c13=>exact rfl
   case c14=>exact(jP (K:=K) rfl (pvF 2))
   case c15=>exact(i5 (i:=4) sc_seam.nd rfl (aS rfl))
   case' c16=>refine' jr ?c17 ?c18
   case' c17=>refine' k9 ?c19 ?c20
   case' c19=>refine' jm F_land_within (hr.mono (by decide)) rfl i9 ?c21
   case' c21=>refine' iT (pvF 0) ?c22
   case' c22=>refine' iT (pvF 1) ?c23
   case' c23=>exact iT (pvF 4) iV
   case' c20=>refine' mY (n:=2) rfl ?c24
   case' c24=>refine' iZ (i5 (i:=5) sc_seam.nd rfl (aS rfl)) ?c25
   case' c25=>exact iZ (i5 (i:=6) sc_seam.nd rfl (aS rfl)) jv
   case' c18=>refine' iY ?c26
   case' c26=>refine' kK ?c27 ?c28 ?c29 ?c30 ?c31
   case c27=>exact PassesOwn.never
   case c28=>exact rfl
   case' c29=>refine' zl (K:=K) rfl rfl T.b_zip ?c32
   case' c32=>refine' iT ?c33 ?c34
   case c33=>exact(pvF 5)
   case' c34=>refine' iT ?c35 ?c36
   case' c35=>refine' i8 rP ?c37 ?c38
   case' c37=>refine' jV wG (pvF 5) ?c39 kr
   case' c39=>exact ko iU
   case' c38=>refine' jV wG (pvF 5) kr ?c40
   case' c40=>exact ko iU
   case' c36=>exact iT (pvF 6) iV
   case' c30=>refine' mY (n:=3) rfl ?c41
   case' c41=>refine' iZ (i5 (i:=7) sc_seam.nd rfl (aS rfl)) ?c42
   case' c42=>refine' iZ (i5 (i:=8) sc_seam.nd rfl (aS rfl)) ?c43
   case' c43=>exact iZ (i5 (i:=9) sc_seam.nd rfl (aS rfl)) jv
   case' c31=>refine' iY ?c44
   case' c44=>refine' jI ?c45 ?c46 ?c47
   case' c45=>refine' PW.pt ?c48
   case' c48=>refine' mH ?c49 ?c50
   case' c49=>exact ja (OpR.f0 ux) (pvF 9) iU (je _)
   case' c50=>exact k8 (ja (pT (K:=K) rfl) (pvF 9) (pvF 2) (by with_unfolding_all rfl))
   case' c46=>refine' iY ?c51
   case' c51=>refine' jO ?c52
   case' c52=>refine' pe_app (pvF 3) ?c53
   case' c53=>refine' iT ?c54 iV
   case' c54=>refine' jA ?c55
   case' c55=>refine' iT (pvF 7) ?c56
   case' c56=>refine' iT (pvF 8) ?c57
   case' c57=>refine' iT (pvF 4) ?c58
   case' c58=>exact iT (pvF 9) iV
   case c47=>exact jh
   case' c11=>refine' iY ?c59
   case' c59=>refine' jg ?c60
   case' c60=>refine' jm F_ordered (hr.mono (by decide)) rfl i9 ?c61
   case' c61=>refine' iT (pvF 3) ?c62
   case' c62=>exact iT (vH (v:=V.ref C.edge_before) rfl T.g_edge_before rfl) iV
  case rest=>
   obtain⟨ok,ht,nd,l0,ll,hlt,h⟩:=h
   have n12:=ok.n12
   have lq:(qs.map V.ref).length=rs.length:=by rw[ae,ok.at_.1]
   walk_at "ST"
   refine⟨fun σ H'=>σ=[some (.ref b),some (.ref l),some (.ref t),none,none,none,none,none,none,none] /\ Ext H H',?_,?_⟩
   ·o_head ⟨kQ⟩
    exact⟨x,y,u,v,qs,rs,ok,lot,ht,nd,l0,ll,hlt,fun H' x'=>x'⟩
   rintro σ H1 ⟨rfl,x1⟩;refine⟨fun σ H'=>∃D:Addr,σ=[some (.ref b),some (.ref l),some (.ref t),some (.ref D),none,none,none,none,none,none] /\ Ext H H' /\ H D=none /\ H' D=some (.lst []),?_,?_⟩
   ·walk_at "RD"
    exact⟨by decide,fun D hD=>⟨x1.then hD,x1.none hD⟩⟩
   rintro σ H2 ⟨D,rfl,x2,nD,eD⟩;refine⟨fun σ H'=>∃(us:List Addr) (Lf:Nat ->List Vx) (o4 o5 o6 o7 o8 o9:Option V),σ=[some (.ref b),some (.ref l),some (.ref t),some (.ref D),o4,o5,o6,o7,o8,o9] /\ Ext H (del H' D) /\ H' D=some (.lst (us.map V.ref)) /\ RwsAt (del H' D) us (jY lot Lf lot) /\ j4 x y u v rs Lf lot /\ us.length<=900,?_,?_⟩
   rotate_left
   ·rintro σ H3 ⟨us,Lf,o4,o5,o6,o7,o8,o9,rfl,x3,eD3,ra,lf,lu⟩;have x3':Ext H H3:=x3.trans (mF _ _)
    have ra3:=ra.ext (mF H3 D)
    have rb:∀z∈jY lot Lf lot,yz z:=fun z hz=>by
     obtain⟨n,hn,hz'⟩:=cQ.mp hz
     obtain⟨r,hr',lo⟩:=lf n hn
     exact xj ok.xu ok.yv ok.nd ok.ins hn hr' lo z hz'
    o_head ⟨lC⟩
    refine⟨us,eD3,jY lot Lf lot,ra3,rb,lu,fun E ws' ws H4 x4 nE eE rw4 pm so=> ?_⟩;exact h E ws' ws Lf H4 (x3'.trans x4) (x3'.none nE) eE rw4 pm so lf (fun z hz=>rb z (pm.mem_iff.mp hz)) (by rw[rw4.1,pm.length_eq, <-ra.1];exact lu)
   refine kY (K:=K) (a:=t) (xs:=JsV lot) (fun R hR=>by walk_at "RD";exact hR) (fun i σ H'=>∃(us:List Addr) (Lf:Nat ->List Vx) (o4 o5 o6 o7 o8 o9:Option V),σ=[some (.ref b),some (.ref l),some (.ref t),some (.ref D),o4,o5,o6,o7,o8,o9] /\ Ext H (del H' D) /\ H' D=some (.lst (us.map V.ref)) /\ RwsAt (del H' D) us (jY lot Lf (lot.take i)) /\ j4 x y u v rs Lf (lot.take i) /\ us.length<=30*i) ⟨[],fun _=>[],_,_,_,_,_,_,rfl,?_,eD,⟨rfl,fun i t z a=>by simp at a⟩,fun n hn=>(by simp at hn),bp _⟩ ?_ ?_ ?_
   ·exact fun z o hz=>(oM (i4 hz nD)).trans (x2 _ _ hz)
   ·rintro i σ H3 _ ⟨us,Lf,o4,o5,o6,o7,o8,o9,rfl,x3,eD3,ra,lf,lu⟩;exact SqL.of ((x3.trans (mF _ _)) _ _ ht)
   rotate_left
   ·rintro σ H3 ⟨us,Lf,o4,o5,o6,o7,o8,o9,rfl,x3,eD3,ra,lf,lu⟩;rw[oh] at lu;rw[oh,bD] at ra lf;exact⟨us,Lf,_,_,_,_,_,_,rfl,x3,eD3,ra,lf,by omega⟩
   rintro i w1 σ H3 hi ⟨us,Lf,o4,o5,o6,o7,o8,o9,rfl,x3,eD3,ra,lf,lu⟩;obtain⟨n,hn,rfl⟩:=wF hi
   have mn:=ar hn
   have nl:=hlt n mn
   have nk:n∉lot.take i:=fun g=>by
    obtain⟨j,hj⟩:=bF g
    have lj:=(aa.mp hj).1
    rw[az] at lj;rw[bu (by omega)] at hj;obtain⟨l1,f1⟩:=aa.mp hj
    obtain⟨l2,f2⟩:=aa.mp hn
    have:=(cJ nd).mp (f1.trans f2.symm)
    omega
   have tk:lot.take (i+1)=lot.take i++[n]:=by rw[dA,hn];rfl
   obtain⟨r,hr'⟩:∃r,rs[n]? =some r:=⟨_,af nl⟩
   have x3':Ext H H3:=x3.trans (mF _ _)
   walk_at "RD"
   refine⟨fun σ H'=>∃(f c e:Addr) (ps:List Addr) (L:List Vx),σ=[some (.ref b),some (.ref l),some (.ref t),some (.ref D),some (.int (n:Int)),some (.ref c),some (.ref e),o7,o8,o9] /\ Ext H3 H' /\ NewF H3 f c e /\ FldAt H' f c e ps L /\ LandOk x y u v rs r (jD rs.length n) L,?_,?_⟩
   ·o_head ⟨mV⟩
    refine⟨n,rfl,x,y,u,v,qs,rs,ok.ext x3',r,hr',fun f c e ps L H4 x4 nf fa lo=> ?_⟩
    o_head ⟨kg,ky,nW,fa.at_⟩
    exact⟨x4,f,nf,ps,L,fa,lo⟩
   rintro σ H4 ⟨f,c,e,ps,L,rfl,x4,nf,fa,lo⟩;have eD4:=x4 _ _ eD3
   have nc:c≠D:=(i4 eD3 nf.nc).symm
   have ne:e≠D:=(i4 eD3 nf.ne).symm
   have fG:=fa.delD eD4 nc ne
   have xG:=(x3.trans (wf (D:=D) x4))
   have sG:=ra.ext (wf (D:=D) x4)
   have lps:ps.length=L.length:=by have:=fa.pt.1;rwa [ae] at this
   have lL:=lo.len
   have lo2:=lQ rs.length n
   refine uR (fun a1 a2 a3 H'=>a1=c /\ a3=e /\ H' a2=some (.lst ((ps.drop 1++ps.take 1).map V.ref)) /\ a2≠D /\ Ext H4 H') (fun R hR=> ?_) ?_
   ·o_head ⟨fa.cs⟩
    intro a1 k1;generalize hG:upd H4 a1 _=G1;have y1:=zy hG k1
    have g1:=zA hG
    clear hG;rw[y1 _ _ fa.cs,jH,i6];intro a2 k2;generalize hG:upd G1 a2 _=G2;have y2:=zy hG k2
    have g2:=zA hG
    clear hG;rw[y2 _ _ g1,jH,i6];have c1:ua (ps.map V.ref) (some 1) none=(ps.map V.ref).drop 1:=m8 _ 1
    have c2:ua (ps.map V.ref) none (some 1)=(ps.map V.ref).take 1:=n5 _ 1
    rw[c1,c2];refine⟨by rw[aJ,az,ae];omega,?_⟩;intro a3 k3;generalize hG:upd G2 a3 _=G3;have y3:=zy hG k3
    have g3:=zA hG
    clear hG;exact hR c a3 e G3 ⟨rfl,rfl,by rw[g3,au,cV,cE],(i4 (y2 _ _ (y1 _ _ eD4)) k3).symm,y1.trans (y2.trans y3)⟩
   rintro a1 a2 a3 H5 ⟨rfl,rfl,e2,n2,x5⟩;have x5D:=wf (D:=D) x5
   refine⟨ps.map V.ref,(ps.drop 1++ps.take 1).map V.ref,(L.map (·.2.2)).map V.int,fun k σ H'=>∃(us:List Addr) (o7 o8 o9:Option V),σ=[some (.ref b),some (.ref l),some (.ref t),some (.ref D),some (.int (n:Int)),some (.ref a1),some (.ref a3),o7,o8,o9] /\ Ext (del H5 D) (del H' D) /\ H' D=some (.lst (us.map V.ref)) /\ RwsAt (del H' D) us (jY lot Lf (lot.take i)++((uK L).take k).filterMap (ur lot n)) /\ us.length<=30*i+k,
    by rw[ae,ae,aq,aJ,az];omega,by rw[ae,ae,ae,lps],⟨us,_,_,_,rfl,.refl _,x5 _ _ eD4,(by rw[gz,List.filterMap_nil,aI];exact sG.ext x5D),by omega⟩,?_,?_,?_⟩
   ·rintro k σ H6 _ ⟨us,o7,o8,o9,rfl,x6,eD6,sk6,lu⟩;have xx:=x6.trans (mF H6 D)
    exact⟨SqL.of (xx _ _ (x5D _ _ fG.cs)),SqL.of (xx _ _ ((oM n2).trans e2)),SqL.of (xx _ _ (x5D _ _ fG.es))⟩
   rotate_left
   ·rintro σ H6 ⟨us,o7,o8,o9,rfl,x6,eD6,sk6,lu⟩;rw[ae,lps] at lu sk6;rw[<-wR L,bD] at sk6;refine⟨⟨_,_,_,_,_,_,rfl⟩,xG.trans (x5D.trans x6),us,eD6,fun m=>if m=n then L else Lf m,?_,?_,by omega⟩
    ·rw[tk,u6 nk];exact sk6
    ·rw[tk];exact rX lf nk hr' lo
   rintro k vx vy vz tt σ H6 hx hy hz ⟨us,o7,o8,o9,rfl,x6,eD6,sk6,lu⟩ htt;obtain⟨q1,hq1,rfl⟩:=jz hx
   obtain⟨q2,hq2,rfl⟩:=jz hy
   rw[aC,aC] at hz;obtain⟨nm,hnm,rfl⟩:=df.mp hz
   obtain⟨w,hw,rfl⟩:=df.mp hnm
   obtain⟨w2,hw2,htr⟩:=yX hw
   have tk2:((uK L).take (k+1)).filterMap (ur lot n)=((uK L).take k).filterMap (ur lot n)++(ur lot n (w.1,w2.1,w.2.2)).toList:=by
    rw[dA,htr,List.filterMap_append]
    congr 1
   have xt:=Ext.upd (o:= .tup [.ref q1,.ref q2,.int w.2.2]) htt
   have et:=iX (H:=H6) (a:=tt) (o:= .tup [.ref q1,.ref q2,.int w.2.2])
   generalize upd H6 tt (.tup [.ref q1,.ref q2,.int w.2.2])=H7 at xt et⊢;have xt':=wf (D:=D) xt
   have sk7:=sk6.ext xt'
   have eD7:=xt _ _ eD6
   have x67:=x6.trans xt'
   o_head ⟨kg,ky,nW,et⟩
   by_cases c0:0<=w.2.2
   rotate_left
   ·rw[if_neg c0];refine⟨x67,us,eD7,?_,by omega⟩;rw[tk2,show ur lot n (w.1,w2.1,w.2.2)=none from if_neg (fun o=>c0 o.1)];simp only[gK,aI];exact sk7
   rw[if_pos c0];obtain⟨m,hm⟩:∃m:Nat,w.2.2=(m:Int):=⟨w.2.2.toNat,by omega⟩
   have ht7:H7 t=some (.lst (JsV lot)):=(xG.trans (x5D.trans (x67.trans (mF H7 D)))) _ _ ht
   refine⟨t,JsV lot,rfl,.inl (SqL.of ht7),rfl,Cp lot,?_⟩;dsimp only;rw[if_pos rfl,hm,Bq]
   by_cases cm:m∈lot
   ·rw[decide_eq_true cm,if_neg (by decide)];refine⟨x67,us,eD7,?_,by omega⟩;rw[tk2,show ur lot n (w.1,w2.1,w.2.2)=none from if_neg (fun o=>o.2 m cm hm)];simp only[gK,aI];exact sk7
   rw[decide_eq_false cm,if_pos (by decide)];refine⟨by rw[eD7];rfl,by decide,fun p hp=> ?_⟩;have xp:=Ext.upd (o:= .tup [.ref q1,.ref q2,.int (n:Int),.int (m:Int)]) hp
   have ep:=iX (H:=H7) (a:=p) (o:= .tup [.ref q1,.ref q2,.int (n:Int),.int (m:Int)])
   generalize upd H7 p (.tup [.ref q1,.ref q2,.int (n:Int),.int (m:Int)])=H8 at xp ep⊢;have eD8:=xp _ _ eD7
   rw[eD8,jH,i6];have nlL:=(aa.mp hw).1
   have ilL:=(aa.mp hn).1
   have xD:=(wf (D:=D) xp).trans (yl H8 D (.lst (us.map V.ref++[.ref p])))
   have pD:p≠D:=lA ep eD8 (by intro z;cases z)
   have ep':del (upd H8 D (.lst (us.map V.ref++[.ref p]))) D p=some (.tup [.ref q1,.ref q2,.int (n:Int),.int (m:Int)]):=(oM pD).trans ((i7 pD).trans ep)
   have big:=x5D.trans (x67.trans xD)
   have c1:del H4 D q1=some (.tup [.int w.1.1,.int w.1.2.1,.int w.1.2.2]):=fG.pt.2 k q1 w.1 hq1 (by rw[aC,hw];rfl)
   have c2:del H4 D q2=some (.tup [.int w2.1.1,.int w2.1.2.1,.int w2.1.2.2]):=by
    have e1:(L.map (·.1)).drop 1++(L.map (·.1)).take 1=(L.drop 1++L.take 1).map (·.1):=by rw[au,cV,cE]
    have r:=fG.pt.rot1.2 k q2 w2.1 hq2 (by rw[e1,aC,hw2];rfl)
    exact r
   refine⟨by rw[ae];omega,x67.trans xD,us++[p],by rw[au];rfl,?_,by rw[aq];show _+1<=_;omega⟩;rw[tk2,show ur lot n (w.1,w2.1,w.2.2)=some (w.1,w2.1,(n:Int),w.2.2) from if_pos ⟨c0,fun j hj e=>cm (by have e':w.2.2=(j:Int):=e;rw[show m=j by omega];exact hj)⟩, <-bG];refine(sk7.ext xD).app (.one ⟨q1,q2,?_,big _ _ c1,big _ _ c2⟩);show _=some (HO.tup [V.ref q1,V.ref q2,V.int (n:Int),V.int w.2.2])
   rw[hm];exact ep'
theorem sc_halves:FnScope ["spots","order","half"] ["spots"] (iW s_halves):=⟨rfl,rfl,rfl,by decide+kernel,rfl,by decide+kernel,by decide+kernel⟩
theorem ok_halves{C:Cz}{f:Addr}{fd:FuncData}(F:Fun K "halves" "halves" s_halves f fd)(T:Txt K mg C)(F_by_place:FnB P w K mg base (CXE P w) 2 "by_place" ["spots"] (mU K C))(F_check_spots:FnB P w K mg base (CXE P w) 2 "check_spots" ["spots"] (w6 K)):FnOk P w K mg base (CXE P w) 3 f fd ["spots"] (nF K C):=by
 refine okN F (k:=2) sc_halves (fun vs H Q E h=> ?_) (fun cdv A outer s H vs Q E hr h=> ?_)
 ·obtain⟨l,qs,rs,rfl,_⟩:=h
  rfl
 ·obtain⟨l,qs,rs,rfl,h⟩:=h
  refine'⟨_,?main,?rest⟩
  case main=>
   refine' jr ?c1 ?c2
   case' c1=>refine' jO ?c3
   case' c3=>refine' jm F_check_spots (hr.mono (by decide)) rfl i9 ?c4
   case' c4=>exact iT (pvF 0) iV
   case' c2=>refine' i0 ?c5 ?c6
   case' c5=>refine' jI ?c7 ?c8 jh
   case' c7=>refine' ja jX ?c9 iU (je _)
   case' c9=>refine' jc jx (by rfl) T.b_len bq ?c10
   case' c10=>exact iT (pvF 0) iV
   case' c8=>exact iY kf
   case' c6=>refine' i0 ?c11 ?c12
   case' c11=>refine' jt (i:=1) sc_halves.nd rfl (aS rfl) ?c13
   case' c13=>refine' jm F_by_place (hr.mono (by decide)) rfl i9 ?c14
   case' c14=>exact iT (pvF 0) iV
   case' c12=>refine' i0 ?c15 ?c16
   case' c15=>refine' jt (i:=2) sc_halves.nd rfl (aS rfl) ?c17
   case' c17=>refine' i8 (OpR.f jW) ?c18 iU
   case' c18=>refine' jc jx (by rfl) T.b_len bq ?c19
   case' c19=>exact iT (pvF 0) iV
   case' c16=>refine' iY ?c20
   case' c20=>refine' jg ?c21
   case' c21=>refine' jA ?c22
   case' c22=>refine' iT ?c23 ?c24
   case' c23=>refine' jc (oR (K:=K) rfl) (by rfl) T.b_sorted boot_sorted ?c25
   case' c25=>refine' iT ?c26 iV
   case' c26=>exact jV wG (pvF 1) kr (ko (pvF 2))
   case' c24=>refine' iT ?c27 iV
   case' c27=>refine' jc (oR (K:=K) rfl) (by rfl) T.b_sorted boot_sorted ?c28
   case' c28=>refine' iT ?c29 iV
   case' c29=>exact jV wG (pvF 1) (ko (pvF 2)) kr
  case rest=>
   obtain⟨ok,n2,tb,h⟩:=h
   have lq:(qs.map V.ref).length=rs.length:=by rw[ae,ok.at_.1]
   have n12:=ok.n12
   walk_at "ST"
   refine⟨fun σ H'=>σ=[some (.ref l),none,none] /\ Ext H H',?_,?_⟩
   ·o_head ⟨w6⟩
    exact⟨⟨qs,rs,ok⟩,fun H' x=>x⟩
   rintro σ H1 ⟨rfl,x1⟩;have ok1:=ok.ext x1
   have hl1:=ok1.sp
   o_head ⟨hl1,lq,mU,rI⟩
   rw[if_neg (by omega)];refine⟨qs,rfl,rs,ok1.at_,n12,x1 _ _ tb,fun O H2 q x2 hO pq eO=> ?_⟩;have lqq:q.length=rs.length:=by have:=pq.1.length_eq;rwa [bC] at this
   rw[x2 _ _ hl1,kn,i6,eO,jH,i6,lq];have ef:((rs.length:Nat):Int).fdiv 2=((rs.length /2:Nat):Int):=by rw[fk _ (by decide)];omega
   rw[ef];intro p1 h1;have e1:ua (rS q) none (some ((rs.length /2:Nat):Int))=((q.take (rs.length /2)).map fun i:Nat=>(i:Int)).map V.int:=by rw[n5];unfold rS;rw[cE,cE]
   have e2:ua (rS q) (some ((rs.length /2:Nat):Int)) none=((q.drop (rs.length /2)).map fun i:Nat=>(i:Int)).map V.int:=by rw[m8];unfold rS;rw[cV,cV]
   rw[e1];refine⟨p1,_,rfl,SqL.of iX,by rw[ae,az];omega,fun a A ha pA sA=> ?_⟩;obtain⟨lo,rfl,plo,_⟩:=qC pA sA
   have y1:=(Ext.upd (o:= .lst (((q.take (rs.length /2)).map fun i:Nat=>(i:Int)).map V.int)) h1).then (o:= .lst ((lo.map fun j:Nat=>(j:Int)).map V.int)) ha
   have ea:=iX (H:=upd H2 p1 (.lst (((q.take (rs.length /2)).map fun i:Nat=>(i:Int)).map V.int))) (a:=a) (o:= .lst ((lo.map fun j:Nat=>(j:Int)).map V.int))
   generalize upd (upd H2 p1 (.lst (((q.take (rs.length /2)).map fun i:Nat=>(i:Int)).map V.int))) a (.lst ((lo.map fun j:Nat=>(j:Int)).map V.int))=H3 at y1 ea⊢;rw[y1 _ _ eO,jH,i6,e2];intro p2 h2;have y2:=Ext.upd (o:= .lst (((q.drop (rs.length /2)).map fun i:Nat=>(i:Int)).map V.int)) h2
   refine⟨p2,_,rfl,SqL.of iX,by rw[ae,aJ];omega,fun b B hb pB sB=>⟨by decide,fun t ht=> ?_⟩⟩;obtain⟨hi,rfl,phi,_⟩:=qC pB sB
   refine h t a b lo hi _ (((x1.trans x2).trans y1).trans ((y2.then hb).then ht)) iX (ju ht (ju hb (ju h2 (by rw[ea,sL])))) (ju ht (by rw[iX,sL])) (zR ok.nd pq (by omega) (by omega) plo phi)
theorem qJ:FnScope ["_law_script"] ["_law_script"] (iW s__law_feed):=⟨rfl,rfl,rfl,by decide+kernel,rfl,by decide+kernel,by decide+kernel⟩
theorem ok__law_feed{C:Cz}{f:Addr}{fd:FuncData}(F:Fun K "_law_feed" "_law_feed" s__law_feed f fd)(T:Txt K mg C):FnOk P w K mg base (CXE P w) 1 f fd ["_law_script"] (pF K):=by
 refine okN F (k:=0) qJ (fun vs H Q E h=> ?_) (fun cdv A outer s H vs Q E hr h=> ?_)
 ·obtain⟨a,ns,rfl,_⟩:=h
  rfl
 ·obtain⟨a,ns,rfl,h⟩:=h
  refine'⟨_,?main,?rest⟩
  case main=>
   refine' iY ?c1
   case' c1=>refine' jg ?c2
   case' c2=>refine' zq ?c3 rfl rfl (by decide) (by decide)
   case' c3=>refine' pO kB ?c4 ?c5
   case' c4=>refine' jL jU (by rfl) T.b_list boot_list ?c6
   case' c6=>refine' iT ?c7 iV
   case' c7=>refine' jV (xf (K:=K) rfl) (pvF 0) kr ?c8
   case' c8=>exact ko iU
   case' c5=>refine' pO kB iU ?c9
   case' c9=>exact pO kB iU zj
  case rest=>
   obtain⟨hS,hl,h⟩:=h
   walk_at "ST"
   walk_at "RD"
   intro p hp;refine⟨a,_,rfl,(Ext.upd hp).sqL hS,fun l1 h1=> ?_⟩;walk_at "RD"
   intro l2 h2;have e1:ua (ns.map V.int) none (some 63)=(ns.take 63).map V.int:=by
    have:=n5 (ns.map V.int) 63
    rw[<-cE] at this;exact this
   refine⟨ju h2 (ju h1 iX),[(Sum.inr "cells",.ref l2),(Sum.inr "at",.int 0),(Sum.inr "left",.int 0)],rfl,(by show 3<=15;decide),?_⟩
   rw[e1] at h2⊢;refine h p l2 _ ((((Ext.upd (o:= .dK []) hp).then h1).then h2).set hp) hp ⟨ns.take 63,0,0,iX,?_,by rw[az];omega,av _⟩;rw[i7 (i4 (ju h1 iX) h2).symm];exact iX
theorem sc__law_draw:FnScope ["_law_feed_here","_law_many","_law_found","_law_at","_law_cell","_law_number"] ["_law_feed_here","_law_many"] (iW s__law_draw):=⟨rfl,rfl,rfl,by decide+kernel,rfl,by decide+kernel,by decide+kernel⟩
theorem ok__law_draw{C:Cz}{f:Addr}{fd:FuncData}(F:Fun K "_law_draw" "_law_draw" s__law_draw f fd)(T:Txt K mg C):FnOk P w K mg base (CXE P w) 1 f fd ["_law_feed_here","_law_many"] jC:=by
 refine okN F (k:=0) sc__law_draw (fun vs H Q E h=> ?_) (fun cdv A outer s H vs Q E hr h=> ?_)
 ·obtain⟨p,m,c,b,rfl,_⟩:=h
  rfl
 ·obtain⟨p,m,c,b,rfl,h⟩:=h
  refine'⟨_,?main,?rest⟩
  case main=>
   refine' i0 ?c1 ?c2
   case' c1=>refine' jI ?c3 ?c4 ?c5
   case' c3=>refine' ja (OpR.f0 pU) ?c6 iU (je _)
   case' c6=>exact mI (mQ hr) (pvF 0) kB (fun _ _=>rfl)
   case' c4=>refine' i0 ?c7 ?c8
   case' c7=>refine' jt (i:=2) sc__law_draw.nd rfl (aS rfl) ?c9
   case' c9=>refine' i8 (OpR.f ly) ?c10 (pvF 1)
   case' c10=>exact mI (mQ hr) (pvF 0) kB (fun _ _=>rfl)
   case' c8=>refine' i0 ?c11 ?c12
   case' c11=>refine' vw (mQ hr) (pvF 0) kB ?c13 rfl
   case' c13=>refine' i8 (OpR.f jW) ?c14 (pvF 1)
   case' c14=>exact mI (mQ hr) (pvF 0) kB (fun _ _=>rfl)
   case' c12=>exact iY (jg (pvF 2))
   case c5=>exact jh
   case' c2=>refine' i0 ?c15 ?c16
   case' c15=>refine' jt (i:=3) sc__law_draw.nd rfl (aS rfl) ?c17
   case' c17=>exact mI (mQ hr) (pvF 0) kB (fun _ _=>rfl)
   case' c16=>refine' i0 ?c18 ?c19
   case' c18=>refine' vw (mQ hr) (pvF 0) kB ?c20 rfl
   case' c20=>exact i8 (OpR.f0 jG) (pvF 3) iU
   case' c19=>refine' i0 (jt (i:=4) sc__law_draw.nd rfl (aS rfl) (pvF 3)) ?c21
   case' c21=>refine' i0 ?c22 ?c23
   case' c22=>refine' jI ?c24 ?c25 ?c26
   case' c24=>refine' ja (OpR.f0 pU) ?c27 iU (je _)
   case' c27=>refine' jc jx (by rfl) T.b_len bq ?c28
   case' c28=>refine' iT ?c29 iV
   case' c29=>exact mI (mQ hr) (pvF 0) kB (fun _ _=>rfl)
   case' c25=>refine' iY ?c30
   case' c30=>refine' jt (i:=4) ?c31 ?c32 ?c33 ?c34
   case c31=>exact sc__law_draw.nd
   case c32=>exact rfl
   case c33=>exact(aS rfl)
   case' c34=>refine' jj jQ ?c35 ?c36 (fun _ _=>rfl)
   case' c35=>exact mI (mQ hr) (pvF 0) kB (fun _ _=>rfl)
   case' c36=>refine' i8 (OpR.f ly) (pvF 3) ?c37
   case' c37=>refine' jc jx (by rfl) T.b_len bq ?c38
   case' c38=>refine' iT ?c39 iV
   case' c39=>exact mI (mQ hr) (pvF 0) kB (fun _ _=>rfl)
   case c26=>exact jh
   case' c23=>refine' i0 ?c40 ?c41
   case' c40=>refine' jI ?c42 ?c43 ?c44
   case' c42=>refine' PW.pt ?c45
   case' c45=>refine' mH ?c46 ?c47
   case' c46=>refine' ja (OpR.f0 ux) (pvF 4) ?c48 (je _)
   case' c48=>exact i8 (OpR.f zu) iU iU
   case' c47=>refine' k8 ?c49
   case' c49=>refine' ja (OpR.f0 mO) (pvF 3) ?c50 (je _)
   case' c50=>refine' jc jx (by rfl) T.b_len bq ?c51
   case' c51=>refine' iT ?c52 iV
   case' c52=>exact mI (mQ hr) (pvF 0) kB (fun _ _=>rfl)
   case' c43=>refine' i0 ?c53 ?c54
   case' c53=>exact vw (mQ hr) (pvF 0) kB (i8 (OpR.f jW) (pvF 4) (pvF 1)) rfl
   case' c54=>refine' iY ?c55
   case' c55=>exact jg (i8 (OpR.f ly) (pvF 4) (pvF 1))
   case c44=>exact jh
   case' c41=>refine' i0 ?c56 ?c57
   case' c56=>refine' jt (i:=5) ?c58 ?c59 ?c60 ?c61
   case c58=>exact sc__law_draw.nd
   case c59=>exact rfl
   case c60=>exact(aS rfl)
   case' c61=>refine' i8 ?c62 ?c63 ?c64
   case c62=>exact(OpR.f ly)
   case' c63=>refine' i8 ?c65 ?c66 ?c67
   case c65=>exact(OpR.f jf)
   case' c66=>refine' i8 ?c68 ?c69 ?c70
   case c68=>exact(OpR.f0 jG)
   case' c69=>refine' i8 (OpR.f0 jG) ?c71 ?c72
   case' c71=>refine' i8 (OpR.f0 jG) ?c73 ?c74
   case' c73=>exact i8 (OpR.f ly) (pvF 4) iU
   case' c74=>refine' i8 (OpR.f jf) ?c75 (pvF 3)
   case' c75=>exact i8 (OpR.f jf) iU (pvF 3)
   case' c72=>exact i8 (OpR.f jf) iU (pvF 3)
   case c70=>exact iU
   case c67=>exact iU
   case c64=>exact iU
   case' c57=>refine' iY ?c76
   case' c76=>refine' jg ?c77
   case' c77=>refine' i8 ?c78 ?c79 ?c80
   case c78=>exact(OpR.f ly)
   case' c79=>refine' i8 ?c81 ?c82 ?c83
   case c81=>exact(OpR.f jW)
   case' c82=>refine' i8 ?c84 ?c85 ?c86
   case c84=>exact(OpR.f ly)
   case' c85=>refine' i8 (OpR.f jf) ?c87 iU
   case' c87=>refine' i8 (OpR.f ly) ?c88 iU
   case' c88=>refine' i8 (OpR.f0 jG) ?c89 ?c90
   case' c89=>exact i8 (OpR.f jf) (pvF 5) iU
   case' c90=>exact i8 (OpR.f jf) iU (pvF 3)
   case c86=>exact iU
   case c83=>exact iU
   case c80=>exact(pvF 1)
  case rest=>
   obtain⟨⟨ns,n,l,e1,e2,hl,hn⟩,hb,h0,h1,h⟩:=h
   walk_at "ST"
   have hcp:c≠p:=lA e2 e1 (by intro z;cases z)
   have e2x:∀kvs,upd H p (.dK kvs) c=some (.lst (ns.map V.int)):=fun kvs=>(i7 hcp).trans e2
   have kp:∀kvs q o,q≠p ->H q=some o ->upd H p (.dK kvs) q=some o:=fun kvs q o hq e=>(i7 hq).trans e
   have bm:Bd 9000 m:=Bd.of_le 100000 (by omega) (by omega) (by decide)
   o_head ⟨e1,zV,Cq,yf,ye,uC,e2x,yV,ae,rI,rI,rI⟩
   by_cases hL:0<l
   ·rw[if_pos hL];refine⟨h0,by omega,bm,h _ _ (cF _ (by omega)) (b7 _ h0) ⟨⟨ns,n,_,iX,e2x _,hl,by omega⟩,kp _⟩⟩
   ·rw[if_neg hL]
    by_cases hL2:0<(ns.length:Int)
    ·rw[if_pos hL2];refine⟨hL2,?_⟩;obtain⟨x,hx,_⟩:=Ad (xs:=ns) (k:=(n:Int)) (by omega)
     rw[hx];walk_at "RD"
     repeat' split
     all_goals first
      |exact⟨by omega,bm,h0,h _ _ (cF _ (by omega)) (b7 _ h0) ⟨⟨ns,n+1,_,iX,e2x _,hl,by omega⟩,kp _⟩⟩
      |exact⟨.left (by decide) (by decide),.right (by omega) (by omega),.left (by decide) (by decide),.right (by decide) (by decide),.right (by decide) (by decide),.left (by decide) (by decide),.right (by decide) (by decide),Bd.lit (by decide) (by decide),h0,h _ _ (cF _ (by omega)) (b7 _ h0) ⟨⟨ns,n+1,_,iX,e2x _,hl,by omega⟩,kp _⟩⟩
    ·rw[if_neg hL2];split
     ·split
      ·exact⟨by omega,bm,h0,h _ _ (cF _ (by omega)) (b7 _ h0) ⟨⟨ns,n+1,_,iX,e2x _,hl,by omega⟩,kp _⟩⟩
      ·exact⟨.left (by decide) (by decide),.right (by omega) (by omega),.left (by decide) (by decide),.right (by decide) (by decide),.right (by decide) (by decide),.left (by decide) (by decide),.right (by decide) (by decide),Bd.lit (by decide) (by decide),h0,h _ _ (cF _ (by omega)) (b7 _ h0) ⟨⟨ns,n+1,_,iX,e2x _,hl,by omega⟩,kp _⟩⟩
     ·exact⟨.left (by decide) (by decide),.right (by omega) (by omega),.left (by decide) (by decide),.right (by decide) (by decide),.right (by decide) (by decide),.left (by decide) (by decide),.right (by decide) (by decide),Bd.lit (by decide) (by decide),h0,h _ _ (cF _ (by omega)) (b7 _ h0) ⟨⟨ns,n+1,_,iX,e2x _,hl,by omega⟩,kp _⟩⟩
theorem sc__law_great:FnScope ["_law_feed_here","_law_pieces","_law_number","_law_k"] ["_law_feed_here","_law_pieces"] (iW s__law_great):=⟨rfl,rfl,rfl,by decide+kernel,rfl,by decide+kernel,by decide+kernel⟩
theorem ok__law_great{C:Cz}{f:Addr}{fd:FuncData}(F:Fun K "_law_great" "_law_great" s__law_great f fd)(T:Txt K mg C)(F__law_draw:FnB P w K mg base (CXE P w) 1 "_law_draw" ["_law_feed_here","_law_many"] jC):FnOk P w K mg base (CXE P w) 2 f fd ["_law_feed_here","_law_pieces"] mW:=by
 refine okN F (k:=1) sc__law_great (fun vs H Q E h=> ?_) (fun cdv A outer s H vs Q E hr h=> ?_)
 ·obtain⟨p,k,c,b,rfl,_⟩:=h
  rfl
 ·obtain⟨p,k,c,b,rfl,h⟩:=h
  refine'⟨_,?main,?rest⟩
  case main=>
   refine' i0 ?c1 ?c2
   case' c1=>exact jt (i:=2) sc__law_great.nd rfl (aS rfl) iU
   case' c2=>refine' i0 ?c3 ?c4
   case' c3=>refine' kK ?c5 ?c6 ?c7 ?c8 ?c9
   case c5=>exact PassesOwn.never
   case c6=>exact rfl
   case' c7=>refine' ls rfl T.b_range ?c10
   case' c10=>exact iT (pvF 1) iV
   case c8=>exact(i5 (i:=3) sc__law_great.nd rfl (aS rfl))
   case' c9=>refine' iY ?c11
   case' c11=>refine' jt (i:=2) sc__law_great.nd rfl (aS rfl) ?c12
   case' c12=>refine' i8 (OpR.f0 jG) ?c13 ?c14
   case' c13=>exact i8 (OpR.f jf) (pvF 2) iU
   case' c14=>refine' jm F__law_draw (hr.mono (by decide)) rfl i9 ?c15
   case' c15=>refine' iT (pvF 0) ?c16
   case' c16=>exact iT iU iV
   case' c4=>exact iY (jg (pvF 2))
  case rest=>
   obtain⟨hF,hb,hk,h⟩:=h
   walk_at "ST"
   walk_at "RD"
   refine uj k (fun R hR=>by walk_at "RD";exact hR) (by omega) (fun i σ H'=>∃(r:Int) (o3:Option V),σ=[some (.ref p),some (.int k),some (.int r),o3] /\ 0<=r /\ r<100000^i /\ DX c (b+i) p H H') ⟨0,_,rfl,by decide,by decide,.refl hF⟩ ?_ ?_
   ·rintro i σ H' hi ⟨r,o3,rfl,r0,r1,dx⟩
    o_head ⟨jC⟩
    refine⟨.right (by decide) (by decide),_,_,dx.feed,by omega,fun r' H2 a1 a2 d2=> ?_⟩;refine⟨by omega,?_,dx.trans (d2.mono (by omega))⟩;rw[fv];generalize(100000:Int)^i=N at r1⊢;omega
   ·rintro σ H' ⟨r,o3,rfl,r0,r1,dx⟩;walk_at "RD"
    exact h r H' r0 r1 dx
theorem sc__law_scale:FnScope ["_law_feed_here","_law_way"] ["_law_feed_here"] (iW s__law_scale):=⟨rfl,rfl,rfl,by decide+kernel,rfl,by decide+kernel,by decide+kernel⟩
theorem ok__law_scale{C:Cz}{f:Addr}{fd:FuncData}(F:Fun K "_law_scale" "_law_scale" s__law_scale f fd)(T:Txt K mg C)(F__law_great:FnB P w K mg base (CXE P w) 2 "_law_great" ["_law_feed_here","_law_pieces"] mW)(F__law_draw:FnB P w K mg base (CXE P w) 1 "_law_draw" ["_law_feed_here","_law_many"] jC):FnOk P w K mg base (CXE P w) 3 f fd ["_law_feed_here"] mT:=by
 refine okN F (k:=2) sc__law_scale (fun vs H Q E h=> ?_) (fun cdv A outer s H vs Q E hr h=> ?_)
 ·obtain⟨p,c,b,rfl,_⟩:=h
  rfl
 ·obtain⟨p,c,b,rfl,h⟩:=h
  refine'⟨_,?main,?rest⟩
  case main=>
   refine' i0 ?c1 ?c2
   case' c1=>refine' jt (i:=1) sc__law_scale.nd rfl (aS rfl) ?c3
   case' c3=>refine' jm F__law_draw (hr.mono (by decide)) rfl i9 ?c4
   case' c4=>refine' iT (pvF 0) ?c5
   case' c5=>exact iT iU iV
   case' c2=>refine' i0 ?c6 ?c7
   case' c6=>refine' jI ?c8 ?c9 ?c10
   case' c8=>exact ja (OpR.f0 mO) (pvF 1) iU (je _)
   case' c9=>refine' iY ?c11
   case' c11=>refine' jg ?c12
   case' c12=>refine' jA ?c13
   case' c13=>refine' iT iU ?c14
   case' c14=>refine' iT iU ?c15
   case' c15=>exact iT iU iV
   case c10=>exact jh
   case' c7=>refine' i0 ?c16 ?c17
   case' c16=>refine' jI ?c18 ?c19 ?c20
   case' c18=>exact ja jX (pvF 1) iU (je _)
   case' c19=>refine' iY ?c21
   case' c21=>refine' jg ?c22
   case' c22=>refine' jA ?c23
   case' c23=>refine' iT ?c24 ?c25
   case' c24=>refine' i8 (OpR.f0 jG) iU ?c26
   case' c26=>refine' jm F__law_draw (hr.mono (by decide)) rfl i9 ?c27
   case' c27=>refine' iT (pvF 0) ?c28
   case' c28=>exact iT iU iV
   case' c25=>refine' iT ?c29 ?c30
   case' c29=>refine' i8 (OpR.f0 jR) ?c31 iU
   case' c31=>refine' jm F__law_draw (hr.mono (by decide)) rfl i9 ?c32
   case' c32=>refine' iT (pvF 0) ?c33
   case' c33=>exact iT iU iV
   case' c30=>refine' iT ?c34 iV
   case' c34=>refine' i8 (OpR.f0 jR) ?c35 iU
   case' c35=>refine' jm F__law_draw (hr.mono (by decide)) rfl i9 ?c36
   case' c36=>refine' iT (pvF 0) ?c37
   case' c37=>exact iT iU iV
   case c20=>exact jh
   case' c17=>refine' iY ?c38
   case' c38=>refine' jg ?c39
   case' c39=>refine' jA ?c40
   case' c40=>refine' iT ?c41 ?c42
   case' c41=>refine' i8 (OpR.f0 jG) iU ?c43
   case' c43=>refine' jm F__law_great (hr.mono (by decide)) rfl i9 ?c44
   case' c44=>refine' iT (pvF 0) ?c45
   case' c45=>exact iT iU iV
   case' c42=>refine' iT ?c46 ?c47
   case' c46=>refine' i8 ?c48 ?c49 ?c50
   case c48=>exact(OpR.f0 jR)
   case' c49=>refine' jm F__law_great (hr.mono (by decide)) rfl i9 ?c51
   case' c51=>refine' iT (pvF 0) ?c52
   case' c52=>exact iT iU iV
   case' c50=>refine' jm F__law_great (hr.mono (by decide)) rfl i9 ?c53
   case' c53=>refine' iT (pvF 0) ?c54
   case' c54=>exact iT iU iV
   case' c47=>refine' iT ?c55 ?c56
   case' c55=>refine' i8 ?c57 ?c58 ?c59
   case c57=>exact(OpR.f0 jR)
   case' c58=>refine' jm F__law_great (hr.mono (by decide)) rfl i9 ?c60
   case' c60=>refine' iT (pvF 0) ?c61
   case' c61=>exact iT iU iV
   case' c59=>refine' jm F__law_great (hr.mono (by decide)) rfl i9 ?c62
   case' c62=>refine' iT (pvF 0) ?c63
   case' c63=>exact iT iU iV
   case c56=>exact iV
  case rest=>
   obtain⟨hF,hb,h⟩:=h
   walk_at "ST"
   o_head ⟨jC⟩
   refine⟨c,b,hF,by omega,fun r H1 a1 a2 d1=> ?_⟩;split
   ·refine⟨by decide,fun t ht=> ?_⟩;exact h t _ _ _ _ ((d1.upd ht).mono (by omega)) iX (by decide) (by decide) (by decide)
   ·split
    ·refine⟨c,_,d1.feed,by omega,fun r2 H2 a3 a4 d2=>⟨c,_,d2.feed,by omega,fun r3 H3 a5 a6 d3=>⟨c,_,d3.feed,by omega,fun r4 H4 a7 a8 d4=>⟨by decide,fun t ht=> ?_⟩⟩⟩⟩;exact h t _ _ _ _ ((((((d1.trans d2).trans d3).trans d4)).upd ht).mono (by omega)) iX (by omega) (by omega) (by omega)
    ·have p4:(100000:Int)^4=10^20:=by decide
     have p5:(100000:Int)^5=10^25:=by decide
     o_head ⟨mW⟩
     refine⟨4,rfl,c,_,d1.feed,by omega,by decide,fun r2 H2 a3 a4 d2=>⟨5,rfl,c,_,d2.feed,by omega,by decide,fun r3 H3 a5 a6 d3=>⟨5,rfl,c,_,d3.feed,by omega,by decide,fun r4 H4 a7 a8 d4=>⟨5,rfl,c,_,d4.feed,by omega,by decide,fun r5 H5 a9 a10 d5=>⟨5,rfl,c,_,d5.feed,by omega,by decide,fun r6 H6 a11 a12 d6=>⟨by decide,fun t ht=> ?_⟩⟩⟩⟩⟩⟩;rw[p4] at a4;rw[p5] at a6 a8 a10 a12;exact h t _ _ _ _ ((((((((d1.trans d2).trans d3).trans d4).trans d5).trans d6)).upd ht).mono (by omega)) iX (by omega) (by omega) (by omega)
theorem sc__law_spot:FnScope ["_law_feed_here","_law_style","_law_k"] ["_law_feed_here","_law_style"] (iW s__law_spot):=⟨rfl,rfl,rfl,by decide+kernel,rfl,by decide+kernel,by decide+kernel⟩
theorem ok__law_spot{C:Cz}{f:Addr}{fd:FuncData}(F:Fun K "_law_spot" "_law_spot" s__law_spot f fd)(T:Txt K mg C)(F__law_draw:FnB P w K mg base (CXE P w) 1 "_law_draw" ["_law_feed_here","_law_many"] jC):FnOk P w K mg base (CXE P w) 2 f fd ["_law_feed_here","_law_style"] pz:=by
 refine okN F (k:=1) sc__law_spot (fun vs H Q E h=> ?_) (fun cdv A outer s H vs Q E hr h=> ?_)
 ·obtain⟨p,st,c,b,rfl,_⟩:=h
  rfl
 ·obtain⟨p,st,c,b,rfl,h⟩:=h
  refine'⟨_,?main,?rest⟩
  case main=>
   refine' i0 ?c1 ?c2
   case' c1=>refine' jI ?c3 ?c4 ?c5
   case' c3=>exact ja jX (pvF 1) iU (je _)
   case' c4=>refine' iY ?c6
   case' c6=>refine' jg ?c7
   case' c7=>refine' jA ?c8
   case' c8=>refine' iT ?c9 ?c10
   case' c9=>refine' jm F__law_draw (hr.mono (by decide)) rfl i9 ?c11
   case' c11=>refine' iT (pvF 0) ?c12
   case' c12=>exact iT iU iV
   case' c10=>refine' iT ?c13 iV
   case' c13=>refine' jm F__law_draw (hr.mono (by decide)) rfl i9 ?c14
   case' c14=>refine' iT (pvF 0) ?c15
   case' c15=>exact iT iU iV
   case c5=>exact jh
   case' c2=>refine' i0 ?c16 ?c17
   case' c16=>refine' jI ?c18 ?c19 ?c20
   case' c18=>exact ja jX (pvF 1) iU (je _)
   case' c19=>refine' iY ?c21
   case' c21=>refine' jg ?c22
   case' c22=>refine' jA ?c23
   case' c23=>refine' iT ?c24 ?c25
   case' c24=>refine' jm F__law_draw (hr.mono (by decide)) rfl i9 ?c26
   case' c26=>refine' iT (pvF 0) ?c27
   case' c27=>exact iT iU iV
   case' c25=>refine' iT ?c28 iV
   case' c28=>refine' jm F__law_draw (hr.mono (by decide)) rfl i9 ?c29
   case' c29=>refine' iT (pvF 0) ?c30
   case' c30=>exact iT iU iV
   case c20=>exact jh
   case' c17=>refine' i0 ?c31 ?c32
   case' c31=>refine' jt (i:=2) sc__law_spot.nd rfl (aS rfl) ?c33
   case' c33=>refine' jm F__law_draw (hr.mono (by decide)) rfl i9 ?c34
   case' c34=>refine' iT (pvF 0) ?c35
   case' c35=>exact iT iU iV
   case' c32=>refine' i0 ?c36 ?c37
   case' c36=>refine' jI ?c38 ?c39 ?c40
   case' c38=>exact ja jX (pvF 1) iU (je _)
   case' c39=>refine' iY ?c41
   case' c41=>refine' jg ?c42
   case' c42=>refine' jA ?c43
   case' c43=>refine' l5 ?c44 ?c45
   case' c44=>refine' jj ?c46 ?c47 ?c48 ?c49
   case c46=>exact jQ
   case' c47=>refine' kD ?c50
   case' c50=>refine' iT ?c51 ?c52
   case c51=>exact iU
   case' c52=>refine' iT ?c53 ?c54
   case c53=>exact iU
   case' c54=>refine' iT ?c55 ?c56
   case c55=>exact iU
   case' c56=>refine' iT ?c57 ?c58
   case c57=>exact iU
   case' c58=>refine' iT ?c59 ?c60
   case c59=>exact iU
   case' c60=>refine' iT ?c61 ?c62
   case c61=>exact iU
   case' c62=>refine' iT ?c63 ?c64
   case c63=>exact iU
   case' c64=>refine' iT ?c65 ?c66
   case c65=>exact iU
   case' c66=>refine' iT iU ?c67
   case' c67=>refine' iT iU ?c68
   case' c68=>refine' iT iU ?c69
   case' c69=>exact iT iU iV
   case c48=>exact(pvF 2)
   case c49=>exact(fun _ _=>rfl)
   case' c45=>refine' l5 ?c70 ?c71
   case' c70=>refine' jj ?c72 ?c73 ?c74 ?c75
   case c72=>exact jQ
   case' c73=>refine' kD ?c76
   case' c76=>refine' iT ?c77 ?c78
   case c77=>exact iU
   case' c78=>refine' iT ?c79 ?c80
   case c79=>exact iU
   case' c80=>refine' iT ?c81 ?c82
   case c81=>exact iU
   case' c82=>refine' iT ?c83 ?c84
   case c83=>exact iU
   case' c84=>refine' iT ?c85 ?c86
   case c85=>exact iU
   case' c86=>refine' iT ?c87 ?c88
   case c87=>exact iU
   case' c88=>refine' iT ?c89 ?c90
   case c89=>exact iU
   case' c90=>refine' iT ?c91 ?c92
   case c91=>exact iU
   case' c92=>refine' iT iU ?c93
   case' c93=>refine' iT iU ?c94
   case' c94=>refine' iT iU ?c95
   case' c95=>exact iT iU iV
   case c74=>exact(pvF 2)
   case c75=>exact(fun _ _=>rfl)
   case c71=>exact iV
   case c40=>exact jh
   case' c37=>refine' iY ?c96
   case' c96=>refine' jg ?c97
   case' c97=>refine' jj ?c98 ?c99 ?c100 ?c101
   case c98=>exact jQ
   case' c99=>refine' kD ?c102
   case' c102=>refine' iT ?c103 ?c104
   case' c103=>refine' jA ?c105
   case' c105=>refine' iT (pvF 2) ?c106
   case' c106=>exact iT iU iV
   case' c104=>refine' iT ?c107 ?c108
   case' c107=>refine' jA ?c109
   case' c109=>refine' iT iU ?c110
   case' c110=>exact iT (pvF 2) iV
   case' c108=>refine' iT ?c111 iV
   case' c111=>refine' jA ?c112
   case' c112=>refine' iT (pvF 2) ?c113
   case' c113=>exact iT (pvF 2) iV
   case' c100=>exact i8 (OpR.f0 jR) (pvF 1) iU
   case c101=>exact(fun _ _=>rfl)
  case rest=>
   obtain⟨hF,hb,s0,s5,h⟩:=h
   walk_at "ST"
   o_head ⟨jC⟩
   split
   ·refine⟨c,b,hF,by omega,fun r1 H1 a1 a2 d1=>⟨c,_,d1.feed,by omega,fun r2 H2 a3 a4 d2=>⟨by decide,fun t ht=> ?_⟩⟩⟩;exact h t _ _ _ (((d1.trans d2).upd ht).mono (by omega)) iX (by omega) (by omega)
   ·split
    ·refine⟨c,b,hF,by omega,fun r1 H1 a1 a2 d1=>⟨c,_,d1.feed,by omega,fun r2 H2 a3 a4 d2=>⟨by decide,fun t ht=> ?_⟩⟩⟩;exact h t _ _ _ (((d1.trans d2).upd ht).mono (by omega)) iX (by omega) (by omega)
    ·refine⟨c,b,hF,by omega,fun r1 H1 a1 a2 d1=> ?_⟩;split
     ·obtain⟨x,hx,mx⟩:=yT (xs:=[10,9,8,5,2,1,0,1,2,5,8,9]) a1 a2
      obtain⟨y,hy,my⟩:=yT (xs:=[5,8,9,10,9,8,5,2,1,0,1,2]) a1 a2
      have bx:∀x∈([10,9,8,5,2,1,0,1,2,5,8,9]:List Int),0<=x /\ x<=12:=by decide
      have bY:∀x∈([5,8,9,10,9,8,5,2,1,0,1,2]:List Int),0<=x /\ x<=12:=by decide
      simp only[aD,bI] at hx hy;refine⟨by decide,fun t1 h1=> ?_⟩;rw[hx,i6];refine⟨by decide,fun t2 h2=> ?_⟩;rw[hy,i6];exact⟨by decide,fun t3 h3=>h t3 x y _ ((((d1.upd h1).upd h2).upd h3).mono (by omega)) iX (bx x mx) (bY y my)⟩
     ·refine⟨by decide,fun t1 h1=>⟨by decide,fun t2 h2=>⟨by decide,fun t3 h3=>⟨by decide,fun t4 h4=> ?_⟩⟩⟩⟩;have dd:=((((d1.upd (o:= .tup [.int r1,.int 4]) h1).upd (o:= .tup [.int 5,.int r1]) h2).upd (o:= .tup [.int r1,.int r1]) h3).upd (o:= .lst [.ref t1,.ref t2,.ref t3]) h4).mono (show b+1<=b+2 by omega)
      have:st=3∨st=4∨st=5:=by omega
      rcases this with rfl|rfl|rfl
      ·exact h t1 _ _ _ dd (ju h4 (ju h3 (ju h2 iX))) (by omega) (by omega)
      ·exact h t2 _ _ _ dd (ju h4 (ju h3 iX)) (by omega) (by omega)
      ·exact h t3 _ _ _ dd (ju h4 iX) (by omega) (by omega)
theorem sc__law_dozen:FnScope ["_law_feed_here","_law_way","_law_found","_law_k","_law_at"] ["_law_feed_here"] (iW s__law_dozen):=⟨rfl,rfl,rfl,by decide+kernel,rfl,by decide+kernel,by decide+kernel⟩
theorem ok__law_dozen{C:Cz}{f:Addr}{fd:FuncData}(F:Fun K "_law_dozen" "_law_dozen" s__law_dozen f fd)(T:Txt K mg C)(F__law_draw:FnB P w K mg base (CXE P w) 1 "_law_draw" ["_law_feed_here","_law_many"] jC):FnOk P w K mg base (CXE P w) 2 f fd ["_law_feed_here"] mX:=by
 refine okN F (k:=1) sc__law_dozen (fun vs H Q E h=> ?_) (fun cdv A outer s H vs Q E hr h=> ?_)
 ·obtain⟨p,c,b,rfl,_⟩:=h
  rfl
 ·obtain⟨p,c,b,rfl,h⟩:=h
  refine'⟨_,?main,?rest⟩
  case main=>
   refine' i0 ?c1 ?c2
   case' c1=>refine' jt (i:=1) sc__law_dozen.nd rfl (aS rfl) ?c3
   case' c3=>refine' jm F__law_draw (hr.mono (by decide)) rfl i9 ?c4
   case' c4=>refine' iT (pvF 0) ?c5
   case' c5=>exact iT iU iV
   case' c2=>refine' i0 ?c6 ?c7
   case' c6=>refine' jt (i:=2) sc__law_dozen.nd rfl (aS rfl) ?c8
   case' c8=>exact kD iV
   case' c7=>refine' jr ?c9 ?c10
   case' c9=>refine' kK ?c11 ?c12 ?c13 ?c14 ?c15
   case c11=>exact PassesOwn.never
   case c12=>exact rfl
   case' c13=>refine' ls rfl T.b_range ?c16
   case' c16=>refine' iT ?c17 iV
   case' c17=>refine' i8 (OpR.f0 jG) iU ?c18
   case' c18=>refine' jm F__law_draw (hr.mono (by decide)) rfl i9 ?c19
   case' c19=>refine' iT (pvF 0) ?c20
   case' c20=>exact iT iU iV
   case c14=>exact(i5 (i:=3) sc__law_dozen.nd rfl (aS rfl))
   case' c15=>refine' iY ?c21
   case' c21=>refine' jI ?c22 ?c23 ?c24
   case' c22=>exact ja jX (pvF 1) iU (je _)
   case' c23=>refine' iY ?c25
   case' c25=>refine' jO ?c26
   case' c26=>refine' pe_app ?c27 ?c28
   case c27=>exact(pvF 2)
   case' c28=>refine' iT ?c29 ?c30
   case' c29=>refine' jA ?c31
   case' c31=>refine' iT ?c32 ?c33
   case' c32=>exact i8 (OpR.f ly) (pvF 3) iU
   case' c33=>refine' iT ?c34 iV
   case' c34=>exact i8 (OpR.f jW) (pvF 3) iU
   case c30=>exact iV
   case' c24=>refine' iY ?c35
   case' c35=>refine' jI ?c36 ?c37 ?c38
   case' c36=>exact ja jX (pvF 1) iU (je _)
   case' c37=>refine' iY ?c39
   case' c39=>refine' jO ?c40
   case' c40=>refine' pe_app ?c41 ?c42
   case c41=>exact(pvF 2)
   case' c42=>refine' iT ?c43 ?c44
   case' c43=>refine' jA ?c45
   case' c45=>refine' l5 ?c46 ?c47
   case' c46=>refine' jj ?c48 ?c49 ?c50 ?c51
   case c48=>exact jQ
   case' c49=>refine' kD ?c52
   case' c52=>refine' iT ?c53 ?c54
   case c53=>exact iU
   case' c54=>refine' iT ?c55 ?c56
   case c55=>exact iU
   case' c56=>refine' iT ?c57 ?c58
   case c57=>exact iU
   case' c58=>refine' iT ?c59 ?c60
   case c59=>exact iU
   case' c60=>refine' iT ?c61 ?c62
   case c61=>exact iU
   case' c62=>refine' iT ?c63 ?c64
   case c63=>exact iU
   case' c64=>refine' iT ?c65 ?c66
   case c65=>exact iU
   case' c66=>refine' iT ?c67 ?c68
   case c67=>exact iU
   case' c68=>refine' iT iU ?c69
   case' c69=>refine' iT iU ?c70
   case' c70=>refine' iT iU ?c71
   case' c71=>exact iT iU iV
   case c50=>exact(pvF 3)
   case c51=>exact(fun _ _=>rfl)
   case' c47=>refine' l5 ?c72 ?c73
   case' c72=>refine' jj ?c74 ?c75 ?c76 ?c77
   case c74=>exact jQ
   case' c75=>refine' kD ?c78
   case' c78=>refine' iT ?c79 ?c80
   case c79=>exact iU
   case' c80=>refine' iT ?c81 ?c82
   case c81=>exact iU
   case' c82=>refine' iT ?c83 ?c84
   case c83=>exact iU
   case' c84=>refine' iT ?c85 ?c86
   case c85=>exact iU
   case' c86=>refine' iT ?c87 ?c88
   case c87=>exact iU
   case' c88=>refine' iT ?c89 ?c90
   case c89=>exact iU
   case' c90=>refine' iT ?c91 ?c92
   case c91=>exact iU
   case' c92=>refine' iT ?c93 ?c94
   case c93=>exact iU
   case' c94=>refine' iT iU ?c95
   case' c95=>refine' iT iU ?c96
   case' c96=>refine' iT iU ?c97
   case' c97=>exact iT iU iV
   case c76=>exact(pvF 3)
   case c77=>exact(fun _ _=>rfl)
   case c73=>exact iV
   case c44=>exact iV
   case' c38=>refine' iY ?c98
   case' c98=>refine' jO ?c99
   case' c99=>refine' pe_app ?c100 ?c101
   case c100=>exact(pvF 2)
   case' c101=>refine' iT ?c102 ?c103
   case' c102=>refine' jA ?c104
   case' c104=>refine' iT ?c105 ?c106
   case c105=>exact(pvF 3)
   case' c106=>refine' l5 ?c107 ?c108
   case' c107=>refine' jj ?c109 ?c110 ?c111 ?c112
   case c109=>exact jQ
   case' c110=>refine' kD ?c113
   case' c113=>refine' iT iU ?c114
   case' c114=>refine' iT ?c115 iV
   case' c115=>refine' jm F__law_draw (hr.mono (by decide)) rfl i9 ?c116
   case' c116=>refine' iT (pvF 0) ?c117
   case' c117=>exact iT iU iV
   case' c111=>exact i8 (OpR.f0 jR) (pvF 1) iU
   case c112=>exact(fun _ _=>rfl)
   case c108=>exact iV
   case c103=>exact iV
   case' c10=>refine' i0 ?c118 ?c119
   case' c118=>refine' jt (i:=4) sc__law_dozen.nd rfl (aS rfl) ?c120
   case' c120=>refine' jm F__law_draw (hr.mono (by decide)) rfl i9 ?c121
   case' c121=>refine' iT (pvF 0) ?c122
   case' c122=>refine' iT ?c123 iV
   case' c123=>refine' jc jx (by rfl) T.b_len bq ?c124
   case' c124=>exact iT (pvF 2) iV
   case' c119=>refine' iY ?c125
   case' c125=>refine' jg ?c126
   case' c126=>refine' i8 rP ?c127 ?c128
   case' c127=>exact jV wG (pvF 2) (ko (pvF 4)) kr
   case' c128=>exact jV wG (pvF 2) kr (ko (pvF 4))
  case rest=>
   obtain⟨hF,hb,h⟩:=h
   walk_at "ST"
   o_head ⟨jC⟩
   refine⟨c,b,hF,by omega,fun way H1 w1 w2 d1=> ?_⟩;refine⟨by decide,fun L hL=> ?_⟩;have dL:=d1.upd (o:= .lst []) hL
   have nLp:=d1.feed.ne hL
   refine⟨fun σ H'=>∃(qs:List Addr) (rs:List P2) (o3:Option V),σ=[some (.ref p),some (.int way),some (.ref L),o3,none] /\ H' L=some (.lst (qs.map V.ref)) /\ R2At H' qs rs /\ (∀i r,rs[i]? =some r ->DzOk way i r) /\ 10<=rs.length /\ rs.length<=12 /\ DX c (b+14) p H H',?_,?_⟩
   ·refine nt (fun n H'=>10<=n /\ n<=12 /\ H' L=some (.lst []) /\ DX c (b+2) p H H') ?_ ?_
    ·intro R hR
     o_head ⟨jC⟩
     refine⟨c,_,dL.feed,by omega,fun r H2 a1 a2 d2=> ?_⟩;have:=hR (10+r.toNat) H2 ⟨by omega,by omega,d2.keep _ _ nLp iX,dL.trans d2⟩
     rw[show((10+r.toNat:Nat):Int)=10+r by omega] at this;exact this
    ·rintro n H2 ⟨n10,n12,eL,d2⟩;refine⟨by omega,fun i σ H'=>∃(qs:List Addr) (rs:List P2) (o3:Option V),σ=[some (.ref p),some (.int way),some (.ref L),o3,none] /\ H' L=some (.lst (qs.map V.ref)) /\ R2At H' qs rs /\ (∀i r,rs[i]? =some r ->DzOk way i r) /\ rs.length=i /\ DX c (b+2+i) p H H',⟨[],[],_,rfl,eL,⟨rfl,fun i q z a=>by simp at a⟩,fun i r a=>by simp at a,rfl,d2⟩,?_,?_⟩
     ·rintro i σ H3 hi ⟨qs,rs,o3,rfl,eL,r2,dz,rfl,d3⟩;have lq:=r2.1
      have fin:∀(H4:Hp) (t:Addr) (x y:Int),DX c (b+2+(rs.length+1)) p H H4 ->H4 L=some (.lst (qs.map V.ref)) ->R2At H4 qs rs ->H4 t=none ->DzOk way rs.length (x,y) ->
        kH (lK (upd H4 t (.tup [.int x,.int y]) L)) fun xs=>xs.length<1000000 /\ ∃qs',HO.lst (xs++[.ref t])=HO.lst (qs'.map V.ref) /\ ∃rs',R2At (upd (upd H4 t (.tup [.int x,.int y])) L (.lst (xs++[.ref t]))) qs' rs' /\ (∀i r,rs'[i]? =some r ->DzOk way i r) /\ rs'.length=rs.length+1 /\ DX c (b+2+(rs.length+1)) p H (upd (upd H4 t (.tup [.int x,.int y])) L (.lst (xs++[.ref t]))):=by
       intro H4 t x y d4 e4 r4 ht hz;have e':=ju (o:= .tup [.int x,.int y]) ht e4
       rw[e',jH,i6];refine⟨by rw[ae];omega,qs++[t],by rw[au];rfl,rs++[(x,y)],R2At.setL ((r4.ext (Ext.upd ht)).append (R2At.one (r:=(x,y)) iX)) e',fun i r' hi'=> ?_,by rw[aq];rfl,(d4.upd ht).set (d1.none hL) hF⟩
       by_cases hlt:i<rs.length
       ·rw[aQ hlt] at hi';exact dz i r' hi'
       ·have:i=rs.length:=by
         have:=(aa.mp hi').1
         rw[aq] at this;simp only[aX,bo] at this;omega
        subst this;rw[aH (av _),Nat.sub_self] at hi';cases hi';exact hz
      have cs:((0:Int)+(rs.length:Int))=(rs.length:Int):=b8 _
      have d3':=d3.mono (show b+2+rs.length<=b+2+(rs.length+1) by omega)
      by_cases w0:way=0
      ·subst w0
       o_head ⟨eL⟩
       refine⟨by decide,fun t ht=> ?_⟩;rw[cs,fk _ (by decide)];exact fin H3 t _ _ d3' eL r2 ht (by unfold DzOk;rw[if_pos rfl])
      ·by_cases w1:way=1
       ·subst w1;obtain⟨x,hx,mx⟩:=atI_get (xs:=dzX) (n:=rs.length) (by show rs.length<12;omega)
        obtain⟨y,hy,my⟩:=atI_get (xs:=dzY) (n:=rs.length) (by show rs.length<12;omega)
        simp only[dzX,aD,bI] at hx;simp only[dzY,aD,bI] at hy
        o_head ⟨eL,cs,hx,hy⟩
        refine⟨by decide,fun t1 h1=>⟨by decide,fun t2 h2=>⟨by decide,fun t3 h3=> ?_⟩⟩⟩;have xx:Ext H3 _:=(Ext.upd (o:= .lst [.int 10,.int 9,.int 8,.int 5,.int 2,.int 1,.int 0,.int 1,.int 2,.int 5,.int 8,.int 9]) h1).then (o:= .lst [.int 5,.int 8,.int 9,.int 10,.int 9,.int 8,.int 5,.int 2,.int 1,.int 0,.int 1,.int 2]) h2
        exact fin _ t3 x y (d3'.ext xx) (xx _ _ eL) (r2.ext xx) h3 (by unfold DzOk;rw[if_neg (by decide),if_pos rfl];exact⟨mx,my⟩)
       ·have:way=2∨way=3:=by omega
        rcases this with rfl|rfl
        ·o_head ⟨eL,jC,cs,rI⟩
         refine⟨c,_,d3.feed,by omega,fun r H4 a1 a2 d4=>⟨by decide,fun t1 h1=>⟨by decide,fun t2 h2=> ?_⟩⟩⟩;have xx:=Ext.upd (o:= .lst [.int 4,.int r]) h1
         exact fin _ t2 _ _ (((d3.trans d4).ext xx).mono (by omega)) (xx _ _ (d4.keep _ _ nLp eL)) ((r2.dx d3.feed d4).ext xx) h2 (by unfold DzOk;rw[if_neg (by decide),if_neg (by decide)];exact⟨rfl,show(0:Int)<=4 by decide,show(4:Int)<=10 by decide⟩)
        ·o_head ⟨eL,jC,cs,rI⟩
         refine⟨c,_,d3.feed,by omega,fun r H4 a1 a2 d4=>⟨by decide,fun t1 h1=>⟨by decide,fun t2 h2=> ?_⟩⟩⟩;have xx:=Ext.upd (o:= .lst [.int 4,.int r]) h1
         exact fin _ t2 _ _ (((d3.trans d4).ext xx).mono (by omega)) (xx _ _ (d4.keep _ _ nLp eL)) ((r2.dx d3.feed d4).ext xx) h2 (by unfold DzOk;rw[if_neg (by decide),if_neg (by decide)];exact⟨rfl,a1,by dsimp only;omega⟩)
     ·rintro σ H3 ⟨qs,rs,o3,rfl,eL,r2,dz,rfl,d3⟩;exact⟨qs,rs,o3,rfl,eL,r2,dz,n10,n12,d3.mono (by omega)⟩
   ·rintro σ H2 ⟨qs,rs,o3,rfl,eL,r2,dz,l10,l12,d2⟩;have lq:(qs.map V.ref).length=rs.length:=by rw[ae,r2.1]
    o_head ⟨eL,lq,jC,rI⟩
    refine⟨c,_,d2.feed,by omega,by omega,by omega,fun r H3 a1 a2 d3=> ?_⟩;obtain⟨k,rfl⟩:=fP a1
    have eL3:=d3.keep _ _ nLp eL
    rw[eL3,jH,i6,m8];intro t1 h1;rw[ju h1 eL3,jH,i6,n5];intro t2 h2;rw[ju h2 iX,jH,i6];refine⟨by rw[aJ,az,ae,r2.1];omega,fun t3 h3=> ?_⟩;have dd:=((((d2.trans d3).upd (o:= .lst ((qs.map V.ref).drop k)) h1).upd (o:= .lst ((qs.map V.ref).take k)) h2)).upd (o:= .lst ((qs.map V.ref).drop k++(qs.map V.ref).take k)) h3
    have xx:=((Ext.upd (o:= .lst ((qs.map V.ref).drop k)) h1).then (o:= .lst ((qs.map V.ref).take k)) h2).then (o:= .lst ((qs.map V.ref).drop k++(qs.map V.ref).take k)) h3
    have r3:=(r2.dx d2.feed d3).ext xx
    have h3':=(d2.trans d3).none (((Ext.upd (o:= .lst ((qs.map V.ref).drop k)) h1).then (o:= .lst ((qs.map V.ref).take k)) h2).none h3)
    refine h t3 (qs.drop k++qs.take k) (rs.drop k++rs.take k) _ (dd.mono (by omega)) h3' (by rw[iX,au,cV,cE]) ((r3.drop k).append (r3.take k)) (vO (rQ dz fun i j r hi hj=>DzOk.inj (by omega) (by omega)) k) ?_ ?_ ?_
    ·rw[aq,aJ,az];omega
    ·rw[aq,aJ,az];omega
    ·intro r hr';have hm:r∈rs:=by
      rcases aU.mp hr' with q|q
      ·exact e8 q
      ·exact cS q
     obtain⟨i,hi⟩:=bF hm
     exact(dz i r hi).bd (by have:=(aa.mp hi).1;omega)
theorem sc__law_spots:FnScope ["_law_feed_here","_law_least","_law_most","_law_style","_law_found","_law_k","_law_kind","_law_spot_here"] ["_law_feed_here","_law_least","_law_most"] (iW s__law_spots):=⟨rfl,rfl,rfl,by decide+kernel,rfl,by decide+kernel,by decide+kernel⟩
theorem ok__law_spots{C:Cz}{f:Addr}{fd:FuncData}(F:Fun K "_law_spots" "_law_spots" s__law_spots f fd)(T:Txt K mg C)(F__law_draw:FnB P w K mg base (CXE P w) 1 "_law_draw" ["_law_feed_here","_law_many"] jC)(F__law_spot:FnB P w K mg base (CXE P w) 2 "_law_spot" ["_law_feed_here","_law_style"] pz)(F__law_dozen:FnB P w K mg base (CXE P w) 2 "_law_dozen" ["_law_feed_here"] mX):FnOk P w K mg base (CXE P w) 3 f fd ["_law_feed_here","_law_least","_law_most"] (mS K):=by
 refine okN F (k:=2) sc__law_spots (fun vs H Q E h=> ?_) (fun cdv A outer s H vs Q E hr h=> ?_)
 ·obtain⟨p,n0,m0,c,b,rfl,_⟩:=h
  rfl
 ·obtain⟨p,n0,m0,c,b,rfl,h⟩:=h
  refine'⟨_,?main,?rest⟩
  case main=>
   refine' jr ?c1 ?c2
   case' c1=>refine' jI ?c3 ?c4 ?c5
   case' c3=>refine' PW.pt ?c6
   case' c6=>refine' mH ?c7 ?c8
   case' c7=>exact ja (OpR.f0 pU) (pvF 2) iU (je _)
   case' c8=>refine' k8 ?c9
   case' c9=>refine' ja jX ?c10 iU (je _)
   case' c10=>refine' jm F__law_draw (hr.mono (by decide)) rfl i9 ?c11
   case' c11=>refine' iT (pvF 0) ?c12
   case' c12=>exact iT iU iV
   case' c4=>refine' iY ?c13
   case' c13=>refine' jg ?c14
   case' c14=>refine' jm F__law_dozen (hr.mono (by decide)) rfl i9 ?c15
   case' c15=>exact iT (pvF 0) iV
   case c5=>exact jh
   case' c2=>refine' i0 ?c16 ?c17
   case' c16=>refine' jt (i:=3) sc__law_spots.nd rfl (aS rfl) ?c18
   case' c18=>refine' jm F__law_draw (hr.mono (by decide)) rfl i9 ?c19
   case' c19=>refine' iT (pvF 0) ?c20
   case' c20=>exact iT iU iV
   case' c17=>refine' i0 ?c21 ?c22
   case' c21=>refine' jt (i:=4) sc__law_spots.nd rfl (aS rfl) ?c23
   case' c23=>exact kD iV
   case' c22=>refine' jr ?c24 ?c25
   case' c24=>refine' kK ?c26 ?c27 ?c28 ?c29 ?c30
   case c26=>exact PassesOwn.never
   case c27=>exact rfl
   case' c28=>refine' ls rfl T.b_range ?c31
   case' c31=>refine' iT ?c32 ?c33
   case' c32=>refine' i8 (OpR.f0 jG) (pvF 1) ?c34
   case' c34=>refine' jm F__law_draw (hr.mono (by decide)) rfl i9 ?c35
   case' c35=>refine' iT (pvF 0) ?c36
   case' c36=>refine' iT ?c37 iV
   case' c37=>exact i8 (OpR.f0 jG) (i8 (OpR.f0 jR) (pvF 2) (pvF 1)) iU
   case c33=>exact iV
   case c29=>exact(i5 (i:=5) sc__law_spots.nd rfl (aS rfl))
   case' c30=>refine' i0 (jt (i:=6) sc__law_spots.nd rfl (aS rfl) (pvF 3)) ?c38
   case' c38=>refine' jr ?c39 ?c40
   case' c39=>refine' jI ?c41 ?c42 ?c43
   case' c41=>exact ja jX (pvF 3) iU (je _)
   case' c42=>refine' iY ?c44
   case' c44=>refine' jt (i:=6) sc__law_spots.nd rfl (aS rfl) ?c45
   case' c45=>refine' jm F__law_draw (hr.mono (by decide)) rfl i9 ?c46
   case' c46=>refine' iT (pvF 0) ?c47
   case' c47=>exact iT iU iV
   case c43=>exact jh
   case' c40=>refine' i0 ?c48 ?c49
   case' c48=>refine' jt (i:=7) sc__law_spots.nd rfl (aS rfl) ?c50
   case' c50=>refine' jm F__law_spot (hr.mono (by decide)) rfl i9 ?c51
   case' c51=>refine' iT (pvF 0) ?c52
   case' c52=>exact iT (pvF 6) iV
   case' c49=>refine' iY ?c53
   case' c53=>refine' jI (ja (uv (K:=K) rfl (Ci hr)) (pvF 7) (pvF 4) (by with_unfolding_all rfl)) ?c54 jh
   case' c54=>refine' iY ?c55
   case' c55=>refine' jO ?c56
   case' c56=>refine' pe_app (pvF 4) ?c57
   case' c57=>exact iT (pvF 7) iV
   case' c25=>refine' i0 ?c58 ?c59
   case' c58=>refine' pN ?c60 ?c61 ?c62
   case c60=>exact PassesOwn.never
   case' c61=>refine' ja (OpR.f0 mO) ?c63 (pvF 1) (je _)
   case' c63=>refine' jc jx (by rfl) T.b_len bq ?c64
   case' c64=>exact iT (pvF 4) iV
   case' c62=>refine' iY ?c65
   case' c65=>refine' jO ?c66
   case' c66=>refine' pe_app ?c67 ?c68
   case c67=>exact(pvF 4)
   case' c68=>refine' iT ?c69 ?c70
   case' c69=>refine' jA ?c71
   case' c71=>refine' iT ?c72 ?c73
   case' c72=>refine' i8 ?c74 ?c75 ?c76
   case c74=>exact(OpR.f0 jG)
   case c75=>exact iU
   case' c76=>refine' jc ?c77 ?c78 ?c79 ?c80 ?c81
   case c77=>exact(kz (K:=K) rfl rfl)
   case c78=>exact(by rfl)
   case c79=>exact T.b_max
   case c80=>exact boot_max
   case' c81=>refine' iT ?c82 ?c83
   case' c82=>refine' uu (CScope.of_ok (dsc:=iW s__law_spots) (N0:=["_law_feed_here","_law_least","_law_most","_law_style","_law_found","_law_k","_law_kind","_law_spot_here"]) (N:=["_law_x","_law_y"]) (k:=2) (js:=[]) rfl rfl (by decide+kernel)) rfl (jP (K:=K) rfl (pvF 4)) ?c84 ?c85 (fun _ _ _ _ _ _=>(pvF 0))
   case' c84=>intro _ _ _ _ _ _;refine' mY (n:=2) rfl ?c86
   case' c86=>refine' iZ (i5 (i:=0) (by show bT (["_law_x","_law_y"]:List Str);decide+kernel) rfl (aS rfl)) ?c87
   case' c87=>exact iZ (i5 (i:=1) (by show bT (["_law_x","_law_y"]:List Str);decide+kernel) rfl (aS rfl)) jv
   case' c85=>intro _ _ _ _ _ _;exact jZ
   case c83=>exact iV
   case' c73=>refine' iT ?c88 iV
   case' c88=>refine' jj jQ ?c89 iU (fun _ _=>rfl)
   case' c89=>exact jj jQ (pvF 4) iU (fun _ _=>rfl)
   case c70=>exact iV
   case' c59=>exact iY (jg (pvF 4))
  case rest=>
   obtain⟨hF,hb,h1,h6,hnm,hm,h⟩:=h
   walk_at "ST"
   refine⟨fun σ H'=>σ=[some (.ref p),some (.int n0),some (.int m0),none,none,none,none,none] /\ DX c (b+1) p H H',?_,?_⟩
   ·o_head ⟨jC,mX,rI,rI⟩
    split
    ·refine⟨c,_,hF,by omega,fun r H1 a1 a2 d1=> ?_⟩;split
     ·refine⟨c,_,d1.feed,by omega,fun D qs rs H2 d2 hD eD r2 nd l10 l12 bd=> ?_⟩;exact h D qs rs H2 ((d1.trans d2).mono (by omega)) (d1.none hD) eD r2 nd (by omega) l12 fun r hr'=>by have:=bd r hr';omega
     ·exact d1
    ·exact(DX.refl hF).mono (by omega)
   ·rintro σ H1 ⟨rfl,d1⟩
    o_head ⟨jC⟩
    refine⟨c,_,d1.feed,by omega,fun st H2 s1 s2 d2=>⟨by decide,fun L hL=> ?_⟩⟩;have dL:=(d1.trans d2).upd (o:= .lst []) hL
    have hL0:=(d1.trans d2).none hL
    have nLp:=d2.feed.ne hL
    refine⟨fun σ H'=>∃(qs:List Addr) (rs:List P2) (o5 o6 o7:Option V),σ=[some (.ref p),some (.int n0),some (.int m0),some (.int st),some (.ref L),o5,o6,o7] /\ H' L=some (.lst (qs.map V.ref)) /\ R2At H' qs rs /\ rs.Nodup /\ 0<rs.length /\ rs.length<=12 /\ WBd 12 rs /\ DX c (b+50) p H H',?_,?_⟩
    ·refine nt (fun n H'=>n0<=n /\ n<=m0 /\ H' L=some (.lst []) /\ DX c (b+4) p H H') ?_ ?_
     ·intro R hR
      o_head ⟨jC⟩
      refine⟨c,_,dL.feed,by omega,by omega,by omega,fun r H3 a1 a2 d3=> ?_⟩;have:=hR (n0+r.toNat) H3 ⟨by omega,by omega,d3.keep _ _ nLp iX,(dL.trans d3).mono (by omega)⟩
      rw[show((n0+r.toNat:Nat):Int)=n0+r by omega] at this;exact this
     ·rintro n H3 ⟨n1,n2,eL,d3⟩;refine⟨by omega,fun i σ H'=>∃(qs:List Addr) (rs:List P2) (o5 o6 o7:Option V),σ=[some (.ref p),some (.int n0),some (.int m0),some (.int st),some (.ref L),o5,o6,o7] /\ H' L=some (.lst (qs.map V.ref)) /\ R2At H' qs rs /\ rs.Nodup /\ (0<i ->0<rs.length) /\ rs.length<=i /\ WBd 12 rs /\ DX c (b+4+3*i) p H H',⟨[],[],_,_,_,rfl,eL,⟨rfl,fun i q z a=>by simp at a⟩,gC,fun z=>absurd z (ci _),av _,fun r hr'=>absurd hr' ay,d3⟩,?_,?_⟩
      ·rintro i σ H4 hi ⟨qs,rs,o5,o6,o7,rfl,eL,r2,nd,z0,li,bd,d4⟩;walk_at "RD"
       refine⟨fun σ H'=>∃kd:Int,σ=[some (.ref p),some (.int n0),some (.int m0),some (.int st),some (.ref L),some (.int (0+(i:Int))),some (.int kd),o7] /\ 0<=kd /\ kd<=5 /\ H' L=some (.lst (qs.map V.ref)) /\ R2At H' qs rs /\ DX c (b+4+3*i+1) p H H',?_,?_⟩
       ·o_head ⟨jC⟩
        split
        ·exact⟨c,_,d4.feed,by omega,fun r H5 a1 a2 d5=>⟨a1,by omega,d5.keep _ _ nLp eL,r2.dx d4.feed d5,d4.trans d5⟩⟩
        ·exact⟨s1,by omega,eL,r2,d4.mono (by omega)⟩
       ·rintro σ H5 ⟨kd,rfl,k0,k5,eL,r2,d5⟩
        o_head ⟨pz⟩
        refine⟨c,_,d5.feed,by omega,k0,k5,fun t x y H6 d6 et hx hy=> ?_⟩;have eL6:=d6.keep _ _ nLp eL
        have r6:=r2.dx d5.feed d6
        refine⟨t2d (x,y),rs.map t2d,oE et,.lst (SqL.of eL6) (tu r6),nH _,nI _,fun y' hy'=> ?_,?_⟩
        ·obtain⟨z,_,rfl⟩:=aw.mp hy'
         exact l6 _ _
        ·rw[Br];dsimp only;have d56:=d5.trans d6
         by_cases hm':(x,y)∈rs
         ·rw[decide_eq_true hm',if_neg (by simp)];exact⟨⟨_,rfl⟩,qs,eL6,rs,r6,nd,fun _=>List.length_pos_of_mem hm',by omega,bd,d56.mono (by omega)⟩
         ·rw[decide_eq_false hm',if_pos (by simp),eL6,jH,i6];refine⟨rfl,by rw[ae,r6.1];omega,⟨_,rfl⟩,qs++[t],by rw[au];rfl,rs++[(x,y)],(r6.append (R2At.one et)).setL eL6,nodup_snoc nd hm',fun _=>by rw[aq];exact Nat.succ_pos _,?_,bd.snoc ⟨hx,hy⟩,(d56.mono (by omega)).set hL0 hF⟩;rw[aq];show _+1<=_
          omega
      ·rintro σ H4 ⟨qs,rs,o5,o6,o7,rfl,eL,r2,nd,z0,li,bd,d4⟩;exact⟨qs,rs,o5,o6,o7,rfl,eL,r2,nd,z0 (by omega),by omega,bd,d4.mono (by omega)⟩
    ·rintro σ H3 ⟨qs,rs,o5,o6,o7,rfl,eL,r2,nd,z0,li,bd,d3⟩;walk_at "RD"
     refine⟨fun m σ H'=>∃(qs:List Addr) (rs:List P2),σ=[some (.ref p),some (.int n0),some (.int m0),some (.int st),some (.ref L),o5,o6,o7] /\ H' L=some (.lst (qs.map V.ref)) /\ R2At H' qs rs /\ rs.Nodup /\ 0<rs.length /\ rs.length<=12 /\ WBd (12+rs.length) rs /\ DX c (b+50) p H H' /\ m=12-rs.length,⟨_,qs,rs,rfl,eL,r2,nd,z0,li,bd.mono (by omega),d3,rfl⟩,?_⟩;rintro m σ H4 ⟨qs,rs,rfl,eL,r2,nd,z0,li,bd,d4,rfl⟩;have lq:(qs.map V.ref).length=rs.length:=by rw[ae,r2.1]
     o_head ⟨eL,lq,rI,rI⟩
     by_cases hlt:(rs.length:Int)<n0
     ·rw[if_pos hlt];refine⟨fun σ' H'=>∃(qs':List Addr) (rs':List P2),σ'=[some (.ref p),some (.int n0),some (.int m0),some (.int st),some (.ref L),o5,o6,o7] /\ H' L=some (.lst (qs'.map V.ref)) /\ R2At H' qs' rs' /\ rs'.Nodup /\ 0<rs'.length /\ rs'.length<=12 /\ WBd (12+rs'.length) rs' /\ DX c (b+50) p H H' /\ rs'.length=rs.length+1,?_,?_⟩
      ·rintro σ' H' ⟨qs',rs',rfl,g1,g2,g3,g4,g5,g6,g7,g8⟩;exact⟨12-rs'.length,by omega,rfl,qs',g1,rs',g2,g3,g4,g5,g6,g7,rfl⟩
      ·refine j9 (K:=K) (a:=L) (xs:=qs.map V.ref) (fun R h=>by walk_at "RD";exact h) (SqL.of eL) (by omega) (fun D i ys H'=>ys=((rs.take i).map (·.1)).map V.int /\ H' D=some (.lst ys) /\ Ext H4 H') ?_ ?_ ?_ ?_
       ·intro D hD;exact⟨rfl,iX,.upd hD⟩
       ·rintro D i ys H5 _ ⟨rfl,e5,x5⟩;refine⟨e5,?_,SqL.of (x5 _ _ eL)⟩;rw[ae,ae,az];omega
       ·rintro D i w1 ys H5 hD hi ⟨rfl,e5,x5⟩;obtain⟨q,hq,rfl⟩:=jz hi
        obtain⟨r,hr1,hr2⟩:=r2.at hq
        o_head ⟨kg,ky,nW,x5 _ _ hr2⟩
        refine⟨e5,?_,x5.set hD⟩;rw[bV,hr1,au,au];rfl
       ·rintro D ys H5 hD ⟨rfl,e5,x5⟩;rw[lq,bD] at e5;refine⟨D,rs.map (·.1),rfl,SqL.of e5,by rw[ae];exact z0,fun M hM hmax=> ?_⟩;obtain⟨r0,hr0⟩:∃r,rs[0]? =some r:=⟨_,af z0⟩
        obtain⟨q0,hq0⟩:∃q,qs[0]? =some q:=⟨_,af (by rw[r2.1];exact z0)⟩
        have e0:=x5 _ _ (r2.2 0 q0 r0 hq0 hr0)
        have a0:atI (qs.map V.ref) 0=some (.ref q0):=jK (j:=0) (by rw[aC,hq0];rfl)
        o_head ⟨x5 _ _ eL,a0,e0,rI⟩
        refine⟨by decide,fun t ht=> ?_⟩;have e6:=ju (o:= .tup [.int (1+M),.int r0.2]) ht (x5 _ _ eL)
        rw[e6,jH,i6];have nin:(1+M,r0.2)∉rs:=fun z=>by
         have:=hmax (1+M) (aw.mpr ⟨_,z,rfl⟩)
         omega
        obtain⟨rM,hrM,eM⟩:=aw.mp hM
        have bM:=bd rM hrM
        have b0:=bd r0 (ar hr0)
        have ll:(rs++[(1+M,r0.2)]).length=rs.length+1:=by rw[aq];rfl
        have W:WBd (12+((rs++[(1+M,r0.2)]).length:Int)) (rs++[(1+M,r0.2)]):=by
         rw[ll];exact(bd.mono (by omega)).snoc ⟨by dsimp only;omega,by dsimp only;omega⟩
        refine⟨by rw[ae,r2.1];omega,qs++[t],by rw[au];rfl,rs++[(1+M,r0.2)],((((r2.ext x5).ext (Ext.upd ht)).append (R2At.one (r:=(1+M,r0.2)) iX)).setL e6),nodup_snoc nd nin,by omega,by omega,W,((d4.ext x5).upd ht).set hL0 hF,ll⟩
     ·rw[if_neg hlt];exact h L qs rs H4 (d4.mono (by omega)) hL0 eL r2 nd (by omega) li (bd.mono (by omega))
theorem sc__law_world:FnScope ["_law_feed_here","_law_least","_law_most","_law_small","_law_times","_law_right","_law_up","_law_edge","_law_xs","_law_ys","_law_wide","_law_high","_law_box"] ["_law_feed_here","_law_least","_law_most"] (iW s__law_world):=⟨rfl,rfl,rfl,by decide+kernel,rfl,by decide+kernel,by decide+kernel⟩
theorem ok__law_world{C:Cz}{f:Addr}{fd:FuncData}(F:Fun K "_law_world" "_law_world" s__law_world f fd)(T:Txt K mg C)(F__law_draw:FnB P w K mg base (CXE P w) 1 "_law_draw" ["_law_feed_here","_law_many"] jC)(F__law_scale:FnB P w K mg base (CXE P w) 3 "_law_scale" ["_law_feed_here"] mT)(F__law_spots:FnB P w K mg base (CXE P w) 3 "_law_spots" ["_law_feed_here","_law_least","_law_most"] (mS K)):FnOk P w K mg base (CXE P w) 4 f fd ["_law_feed_here","_law_least","_law_most"] (mR K):=by
 refine okN F (k:=3) sc__law_world (fun vs H Q E h=> ?_) (fun cdv A outer s H vs Q E hr h=> ?_)
 ·obtain⟨p,n0,m0,c,b,rfl,_⟩:=h
  rfl
 ·obtain⟨p,n0,m0,c,b,rfl,h⟩:=h
  refine'⟨_,?main,?rest⟩
  case main=>
   refine' i0 ?c1 ?c2
   case' c1=>refine' jt (i:=3) sc__law_world.nd rfl (aS rfl) ?c3
   case' c3=>refine' jm F__law_spots (hr.mono (by decide)) rfl i9 ?c4
   case' c4=>refine' iT (pvF 0) ?c5
   case' c5=>refine' iT (pvF 1) ?c6
   case' c6=>exact iT (pvF 2) iV
   case' c2=>refine' jr ?c7 ?c8
   case' c7=>refine' k9 ?c9 ?c10
   case' c9=>refine' jm F__law_scale (hr.mono (by decide)) rfl i9 ?c11
   case' c11=>exact iT (pvF 0) iV
   case' c10=>refine' mY (n:=3) rfl ?c12
   case' c12=>refine' iZ (i5 (i:=4) sc__law_world.nd rfl (gR rfl)) ?c13
   case' c13=>refine' iZ (i5 (i:=5) sc__law_world.nd rfl (gR rfl)) ?c14
   case' c14=>exact iZ (i5 (i:=6) sc__law_world.nd rfl (gR rfl)) jv
   case' c8=>refine' jr ?c15 ?c16
   case' c15=>refine' vv (i:=7) ?c17 ?c18 ?c19 ?c20 ?c21 ?c22 ?c23 ?c24 ?c25
   case c17=>exact(CScope.of_ok (dsc:=iW s__law_world) (N0:=["_law_feed_here","_law_least","_law_most","_law_small","_law_times","_law_right","_law_up","_law_edge","_law_xs","_law_ys","_law_wide","_law_high","_law_box"]) (N:=["_law_k","_law_feed_here"]) (k:=1) (js:=[0]) rfl rfl (by decide+kernel))
   case c18=>exact rfl
   case' c19=>refine' ls rfl T.b_range ?c26
   case' c26=>exact iT iU iV
   case' c20=>intro _ _ _ _ _ _;exact(i5 (i:=0) (by show bT (["_law_k","_law_feed_here"]:List Str);decide+kernel) rfl (aS rfl))
   case' c21=>intro _ _ _ _ _ _;exact jZ
   case' c22=>intro _ _ _ _ _ _;refine' jj ?c27 ?c28 ?c29 ?c30
   case c27=>exact jQ
   case' c28=>refine' kD ?c31
   case' c31=>refine' iT iU ?c32
   case' c32=>refine' iT iU ?c33
   case' c33=>refine' iT iU ?c34
   case' c34=>exact iT iU iV
   case' c29=>refine' jm F__law_draw (hr.mono (by decide)) rfl i9 ?c35
   case' c35=>refine' iT (pvF 1) ?c36
   case' c36=>exact iT iU iV
   case c30=>exact(fun _ _=>rfl)
   case c23=>exact sc__law_world.nd
   case c24=>exact rfl
   case c25=>exact rfl
   case' c16=>refine' jr ?c37 ?c38
   case' c37=>refine' vv (i:=8) ?c39 ?c40 ?c41 ?c42 ?c43 ?c44 ?c45 ?c46 ?c47
   case c39=>exact(CScope.of_ok (dsc:=iW s__law_world) (N0:=["_law_feed_here","_law_least","_law_most","_law_small","_law_times","_law_right","_law_up","_law_edge","_law_xs","_law_ys","_law_wide","_law_high","_law_box"]) (N:=["_law_x","_law_y"]) (k:=2) (js:=[]) rfl rfl (by decide+kernel))
   case c40=>exact rfl
   case c41=>exact(jP (K:=K) rfl (pvF 3))
   case' c42=>intro _ _ _ _ _ _;refine' mY (n:=2) rfl ?c48
   case' c48=>refine' iZ (i5 (i:=0) (by show bT (["_law_x","_law_y"]:List Str);decide+kernel) rfl (aS rfl)) ?c49
   case' c49=>exact iZ (i5 (i:=1) (by show bT (["_law_x","_law_y"]:List Str);decide+kernel) rfl (aS rfl)) jv
   case' c43=>intro _ _ _ _ _ _;exact jZ
   case c44=>exact(fun _ _ _ _ _ _=>(pvF 0))
   case c45=>exact sc__law_world.nd
   case c46=>exact rfl
   case c47=>exact rfl
   case' c38=>refine' jr ?c50 ?c51
   case' c50=>refine' vv (i:=9) ?c52 ?c53 ?c54 ?c55 ?c56 ?c57 ?c58 ?c59 ?c60
   case c52=>exact(CScope.of_ok (dsc:=iW s__law_world) (N0:=["_law_feed_here","_law_least","_law_most","_law_small","_law_times","_law_right","_law_up","_law_edge","_law_xs","_law_ys","_law_wide","_law_high","_law_box"]) (N:=["_law_x","_law_y"]) (k:=2) (js:=[]) rfl rfl (by decide+kernel))
   case c53=>exact rfl
   case c54=>exact(jP (K:=K) rfl (pvF 3))
   case' c55=>intro _ _ _ _ _ _;refine' mY (n:=2) rfl ?c61
   case' c61=>refine' iZ (i5 (i:=0) (by show bT (["_law_x","_law_y"]:List Str);decide+kernel) rfl (aS rfl)) ?c62
   case' c62=>exact iZ (i5 (i:=1) (by show bT (["_law_x","_law_y"]:List Str);decide+kernel) rfl (aS rfl)) jv
   case' c56=>intro _ _ _ _ _ _;exact jZ
   case c57=>exact(fun _ _ _ _ _ _=>(pvF 1))
   case c58=>exact sc__law_world.nd
   case c59=>exact rfl
   case c60=>exact rfl
   case' c51=>refine' jr ?c63 ?c64
   case' c63=>refine' jt (i:=10) ?c65 ?c66 ?c67 ?c68
   case c65=>exact sc__law_world.nd
   case c66=>exact rfl
   case c67=>exact(aS rfl)
   case' c68=>refine' i8 ?c69 ?c70 ?c71
   case c69=>exact(OpR.f0 jG)
   case' c70=>refine' i8 (OpR.f0 jG) ?c72 ?c73
   case' c72=>refine' jc (kz (K:=K) rfl rfl) (by rfl) T.b_max boot_max ?c74
   case' c74=>exact iT (pvF 8) iV
   case' c73=>exact jj jQ (pvF 7) iU (fun _ _=>rfl)
   case' c71=>refine' jL ?c75 ?c76 ?c77 ?c78 ?c79
   case c75=>exact rj
   case c76=>exact(by rfl)
   case c77=>exact T.b_int
   case c78=>exact boot_int
   case' c79=>refine' iT ?c80 ?c81
   case' c80=>refine' kG ?c82 ?c83 ?c84 ?c85
   case c82=>exact jX
   case' c83=>refine' i8 (OpR.f0 jG) ?c86 ?c87
   case' c86=>refine' jc (kz (K:=K) rfl rfl) (by rfl) T.b_max boot_max ?c88
   case' c88=>exact iT (pvF 8) iV
   case' c87=>exact jj jQ (pvF 7) iU (fun _ _=>rfl)
   case' c84=>refine' i8 (OpR.f0 jR) ?c89 ?c90
   case' c89=>refine' jc (kM (K:=K) rfl rfl) (by rfl) T.b_min boot_min ?c91
   case' c91=>exact iT (pvF 8) iV
   case' c90=>exact jj jQ (pvF 7) iU (fun _ _=>rfl)
   case c85=>exact(je _)
   case c81=>exact iV
   case' c64=>refine' jr ?c92 ?c93
   case' c92=>refine' jt (i:=11) ?c94 ?c95 ?c96 ?c97
   case c94=>exact sc__law_world.nd
   case c95=>exact rfl
   case c96=>exact(aS rfl)
   case' c97=>refine' i8 ?c98 ?c99 ?c100
   case c98=>exact(OpR.f0 jG)
   case' c99=>refine' i8 (OpR.f0 jG) ?c101 ?c102
   case' c101=>refine' jc (kz (K:=K) rfl rfl) (by rfl) T.b_max boot_max ?c103
   case' c103=>exact iT (pvF 9) iV
   case' c102=>exact jj jQ (pvF 7) iU (fun _ _=>rfl)
   case' c100=>refine' jL ?c104 ?c105 ?c106 ?c107 ?c108
   case c104=>exact rj
   case c105=>exact(by rfl)
   case c106=>exact T.b_int
   case c107=>exact boot_int
   case' c108=>refine' iT ?c109 ?c110
   case' c109=>refine' kG ?c111 ?c112 ?c113 ?c114
   case c111=>exact jX
   case' c112=>refine' i8 (OpR.f0 jG) ?c115 ?c116
   case' c115=>refine' jc (kz (K:=K) rfl rfl) (by rfl) T.b_max boot_max ?c117
   case' c117=>exact iT (pvF 9) iV
   case' c116=>exact jj jQ (pvF 7) iU (fun _ _=>rfl)
   case' c113=>refine' i8 (OpR.f0 jR) ?c118 ?c119
   case' c118=>refine' jc (kM (K:=K) rfl rfl) (by rfl) T.b_min boot_min ?c120
   case' c120=>exact iT (pvF 9) iV
   case' c119=>exact jj jQ (pvF 7) iU (fun _ _=>rfl)
   case c114=>exact(je _)
   case c110=>exact iV
   case' c93=>refine' jr ?c121 ?c122
   case' c121=>refine' jt (i:=12) ?c123 ?c124 ?c125 ?c126
   case c123=>exact sc__law_world.nd
   case c124=>exact rfl
   case c125=>exact(aS rfl)
   case' c126=>refine' jA ?c127
   case' c127=>refine' iT ?c128 ?c129
   case' c128=>refine' i8 (OpR.f0 jG) ?c130 (pvF 5)
   case' c130=>refine' i8 (OpR.f jf) ?c131 (pvF 4)
   case' c131=>refine' i8 (OpR.f0 jR) ?c132 ?c133
   case' c132=>refine' jc (kM (K:=K) rfl rfl) (by rfl) T.b_min boot_min ?c134
   case' c134=>exact iT (pvF 8) iV
   case' c133=>exact jj jQ (pvF 7) iU (fun _ _=>rfl)
   case' c129=>refine' iT ?c135 ?c136
   case' c135=>refine' i8 (OpR.f0 jG) ?c137 (pvF 6)
   case' c137=>refine' i8 (OpR.f jf) ?c138 (pvF 4)
   case' c138=>refine' i8 (OpR.f0 jR) ?c139 ?c140
   case' c139=>refine' jc (kM (K:=K) rfl rfl) (by rfl) T.b_min boot_min ?c141
   case' c141=>exact iT (pvF 9) iV
   case' c140=>exact jj jQ (pvF 7) iU (fun _ _=>rfl)
   case' c136=>refine' iT ?c142 ?c143
   case' c142=>exact i8 (OpR.f0 jG) (i8 (OpR.f jf) (pvF 10) (pvF 4)) (pvF 5)
   case' c143=>refine' iT ?c144 iV
   case' c144=>exact i8 (OpR.f0 jG) (i8 (OpR.f jf) (pvF 11) (pvF 4)) (pvF 6)
   case' c122=>refine' iY ?c145
   case' c145=>refine' jg ?c146
   case' c146=>refine' jA ?c147
   case' c147=>refine' iT ?c148 ?c149
   case c148=>exact(pvF 12)
   case' c149=>refine' iT ?c150 ?c151
   case' c150=>refine' uu (CScope.of_ok (dsc:=iW s__law_world) (N0:=["_law_feed_here","_law_least","_law_most","_law_small","_law_times","_law_right","_law_up","_law_edge","_law_xs","_law_ys","_law_wide","_law_high","_law_box"]) (N:=["_law_x","_law_y","_law_right","_law_up","_law_times"]) (k:=2) (js:=[5,6,4]) rfl rfl (by decide+kernel)) rfl (jP (K:=K) rfl (pvF 3)) ?c152 ?c153 ?c154
   case' c152=>intro _ _ _ _ _ _;refine' mY (n:=2) rfl ?c155
   case' c155=>refine' iZ (i5 (i:=0) (by show bT (["_law_x","_law_y","_law_right","_law_up","_law_times"]:List Str);decide+kernel) rfl (aS rfl)) ?c156
   case' c156=>exact iZ (i5 (i:=1) (by show bT (["_law_x","_law_y","_law_right","_law_up","_law_times"]:List Str);decide+kernel) rfl (aS rfl)) jv
   case' c153=>intro _ _ _ _ _ _;exact jZ
   case' c154=>intro _ _ _ _ _ _;refine' jA ?c157
   case' c157=>refine' iT ?c158 ?c159
   case' c158=>exact i8 (OpR.f0 jG) (i8 (OpR.f jf) (pvF 0) (pvF 4)) (pvF 2)
   case' c159=>refine' iT ?c160 iV
   case' c160=>exact i8 (OpR.f0 jG) (i8 (OpR.f jf) (pvF 1) (pvF 4)) (pvF 3)
   case c151=>exact iV
  case rest=>
   obtain⟨hF,hb,h1,h6,hnm,hm,h⟩:=h
   walk_at "ST"
   o_head ⟨mS⟩
   refine⟨n0,rfl,m0,rfl,c,b,hF,by omega,h1,h6,hnm,hm,fun L qs rs H1 d1 hL eL r2 nd l0 l12 bd=> ?_⟩;have lq:(qs.map V.ref).length=rs.length:=by rw[ae,r2.1]
   have nLp:=d1.feed.lst eL
   refine⟨fun σ H'=>∃m r u:Int,σ=[some (.ref p),some (.int n0),some (.int m0),some (.ref L),some (.int m),some (.int r),some (.int u),none,none,none,none,none,none] /\ H' L=some (.lst (qs.map V.ref)) /\ R2At H' qs rs /\ (1<=m /\ m<=10^20) /\ (-(10^25)<=r /\ r<=10^25) /\ (-(10^25)<=u /\ u<=10^25) /\ DX c (b+85) p H H',?_,?_⟩
   ·o_head ⟨mT⟩
    refine⟨c,_,d1.feed,by omega,fun t m r u H2 d2 et hm' hr' hu=> ?_⟩
    o_head ⟨kg,ky,nW,et⟩
    exact⟨d2.keep _ _ nLp eL,r2.dx d1.feed d2,hm'.1,hm'.2,hr'.1,hr'.2,hu.1,hu.2,(d1.trans d2).mono (by omega)⟩
   ·rintro σ H2 ⟨m,r,u,rfl,eL,r2,⟨m1,m2⟩,hr',hu,d2⟩;refine⟨fun σ H'=>∃(E:Addr) (e0 e1 e2 e3:Int),σ=[some (.ref p),some (.int n0),some (.int m0),some (.ref L),some (.int m),some (.int r),some (.int u),some (.ref E),none,none,none,none,none] /\ H' E=some (.lst [.int e0,.int e1,.int e2,.int e3]) /\ ((0<=e0 /\ e0<=7) /\ (0<=e1 /\ e1<=7) /\ (0<=e2 /\ e2<=7) /\ (0<=e3 /\ e3<=7)) /\ H' L=some (.lst (qs.map V.ref)) /\ R2At H' qs rs /\ DX c (b+90) p H H',?_,?_⟩
    ·walk_at "RD"
     refine qz 4 (fun R h=>h) (by decide) (fun D i ys H'=>H' D=some (.lst ys) /\ ys.length=i /\ D≠p /\ (∀v∈ys,∃e:Int,v= .int e /\ 0<=e /\ e<=7) /\ DX c (b+85+i) p H2 H') ?_ ?_ ?_ ?_
     ·intro D hD;exact⟨iX,rfl,d2.feed.ne hD,fun v hv=>absurd hv ay,(DX.refl d2.feed).upd hD⟩
     ·rintro D i ys H3 _ ⟨e3,l3,_⟩;exact⟨e3,by omega⟩
     ·rintro D i ys H3 hD hi ⟨e3,l3,nD,hv,d3⟩
      o_head ⟨jC⟩
      refine⟨by decide,fun t ht=>⟨c,_,d3.feed.upd ht,by omega,fun k H4 a1 a2 d4=> ?_⟩⟩;have et:=d4.keep t _ (d3.feed.ne ht) iX
      have eD:=d4.keep D _ nD (ju ht e3)
      obtain⟨x,hx,hp1,hp2⟩:=yp (a:=0) (b:=1) (c:=0) (d:=7) (fun x=>0<=x /\ x<=7) (by decide) (by decide) (by decide) (by decide) a1 a2
      o_head ⟨et,hx,rI,rI⟩
      refine⟨eD,by rw[aq,l3];rfl,nD,fun v hv'=> ?_,(((d3.upd ht).trans d4).mono (by omega)).set hD d2.feed⟩;rcases aU.mp hv' with q|q
      ·exact hv v q
      ·exact⟨x,by simpa using q,hp1,hp2⟩
     ·rintro D ys H3 hD ⟨e3,l3,nD,hv,d3⟩;obtain⟨e0,e1,e2,e3',rfl,f0,f1,f2,f3⟩:=v8 l3 hv
      walk_at "RD"
      exact⟨e0,e1,e2,e3',e3,f0.1,f0.2,f1.1,f1.2,f2.1,f2.2,f3.1,f3.2,d3.keep _ _ (d2.feed.lst eL) eL,r2.dx d2.feed d3,(d2.trans d3).mono (by omega)⟩
    ·rintro σ H3 ⟨E,e0,e1,e2,e3,rfl,eE,⟨f0,f1,f2,f3⟩,eL,r2,d3⟩;refine⟨fun σ H'=>∃X:Addr,σ=[some (.ref p),some (.int n0),some (.int m0),some (.ref L),some (.int m),some (.int r),some (.int u),some (.ref E),some (.ref X),none,none,none,none] /\ H' X=some (.lst ((rs.map (·.1)).map V.int)) /\ Ext H3 H',?_,?_⟩
     ·walk_at "RD"
      refine j9 (K:=K) (a:=L) (xs:=qs.map V.ref) (fun R h=>by walk_at "RD";exact h) (SqL.of eL) (by rw[lq];omega) (fun D i ys H'=>ys=((rs.take i).map (·.1)).map V.int /\ H' D=some (.lst ys) /\ Ext H3 H') ?_ ?_ ?_ ?_
      ·intro D hD;exact⟨rfl,iX,.upd hD⟩
      ·rintro D i ys H5 _ ⟨rfl,e5,x5⟩;refine⟨e5,?_,SqL.of (x5 _ _ eL)⟩;rw[ae,ae,az];omega
      ·rintro D i w1 ys H5 hD hi ⟨rfl,e5,x5⟩;obtain⟨q,hq,rfl⟩:=jz hi
       obtain⟨z,hr1,hr2⟩:=r2.at hq
       o_head ⟨kg,ky,nW,x5 _ _ hr2⟩
       refine⟨e5,?_,x5.set hD⟩;rw[bV,hr1,au,au];rfl
      ·rintro D ys H5 hD ⟨rfl,e5,x5⟩;rw[lq,bD] at e5;walk_at "RD"
       exact⟨e5,x5⟩
     ·rintro σ H4 ⟨X,rfl,eX,x4⟩;replace eL:=x4 _ _ eL
      replace r2:=r2.ext x4
      refine⟨fun σ H'=>∃Y:Addr,σ=[some (.ref p),some (.int n0),some (.int m0),some (.ref L),some (.int m),some (.int r),some (.int u),some (.ref E),some (.ref X),some (.ref Y),none,none,none] /\ H' Y=some (.lst ((rs.map (·.2)).map V.int)) /\ Ext H4 H',?_,?_⟩
      ·walk_at "RD"
       refine j9 (K:=K) (a:=L) (xs:=qs.map V.ref) (fun R h=>by walk_at "RD";exact h) (SqL.of eL) (by rw[lq];omega) (fun D i ys H'=>ys=((rs.take i).map (·.2)).map V.int /\ H' D=some (.lst ys) /\ Ext H4 H') ?_ ?_ ?_ ?_
       ·intro D hD;exact⟨rfl,iX,.upd hD⟩
       ·rintro D i ys H5 _ ⟨rfl,e5,x5⟩;refine⟨e5,?_,SqL.of (x5 _ _ eL)⟩;rw[ae,ae,az];omega
       ·rintro D i w1 ys H5 hD hi ⟨rfl,e5,x5⟩;obtain⟨q,hq,rfl⟩:=jz hi
        obtain⟨z,hr1,hr2⟩:=r2.at hq
        o_head ⟨kg,ky,nW,x5 _ _ hr2⟩
        refine⟨e5,?_,x5.set hD⟩;rw[bV,hr1,au,au];rfl
       ·rintro D ys H5 hD ⟨rfl,e5,x5⟩;rw[lq,bD] at e5;walk_at "RD"
        exact⟨e5,x5⟩
      ·rintro σ H5 ⟨Y,rfl,eY,x5⟩;replace eL:=x5 _ _ eL
       replace r2:=r2.ext x5
       replace eX:=x5 _ _ eX
       replace eE:=x5 _ _ (x4 _ _ eE)
       have n1:0<(rs.map (·.1)).length:=by rw[ae];omega
       have n2:0<(rs.map (·.2)).length:=by rw[ae];omega
       have mx:∀M,M∈rs.map (·.1) ->0<=M /\ M<=24:=fun M hM=>by
        obtain⟨z,hz,rfl⟩:=aw.mp hM
        exact(bd z hz).1
       have my:∀M,M∈rs.map (·.2) ->0<=M /\ M<=12:=fun M hM=>by
        obtain⟨z,hz,rfl⟩:=aw.mp hM
        exact(bd z hz).2
       refine⟨fun σ H'=>∃wd:Int,σ=[some (.ref p),some (.int n0),some (.int m0),some (.ref L),some (.int m),some (.int r),some (.int u),some (.ref E),some (.ref X),some (.ref Y),some (.int wd),none,none] /\ H'=H5 /\ (∀a∈rs.map (·.1),a<=wd) /\ (∀N∈rs.map (·.1),(∀a∈rs.map (·.1),N<=a) ->N-e0<wd) /\ wd<=40,?_,?_⟩
       ·o_head ⟨eE⟩
        refine⟨X,_,rfl,SqL.of eX,n1,fun M hM hmax=> ?_⟩
        o_head ⟨eE⟩
        refine⟨X,_,rfl,SqL.of eX,n1,fun M2 hM2 hmax2=> ?_⟩
        o_head ⟨eE⟩
        refine⟨X,_,rfl,SqL.of eX,n1,fun N hN hmin=> ?_⟩
        o_head ⟨eE⟩
        have e12:M2=M:=by have:=hmax M2 hM2;have:=hmax2 M hM;omega
        subst e12;have bM:=mx M2 hM
        refine⟨fun a ha=> ?_,fun N' hN' hmin'=> ?_,?_⟩
        ·have:=hmax a ha
         split<;>omega
        ·have:=hmin' N hN
         have:=hmin N' hN'
         have:=hmax N' hN'
         split<;>omega
        ·split<;>omega
       ·rintro σ H6 ⟨wd,rfl,rfl,wmax,wmin,w40⟩;refine⟨fun σ H'=>∃hg:Int,σ=[some (.ref p),some (.int n0),some (.int m0),some (.ref L),some (.int m),some (.int r),some (.int u),some (.ref E),some (.ref X),some (.ref Y),some (.int wd),some (.int hg),none] /\ H'=H6 /\ (∀a∈rs.map (·.2),a<=hg) /\ (∀N∈rs.map (·.2),(∀a∈rs.map (·.2),N<=a) ->N-e1<hg) /\ hg<=40,?_,?_⟩
        ·o_head ⟨eE⟩
         refine⟨Y,_,rfl,SqL.of eY,n2,fun M hM hmax=> ?_⟩
         o_head ⟨eE⟩
         refine⟨Y,_,rfl,SqL.of eY,n2,fun M2 hM2 hmax2=> ?_⟩
         o_head ⟨eE⟩
         refine⟨Y,_,rfl,SqL.of eY,n2,fun N hN hmin=> ?_⟩
         o_head ⟨eE⟩
         have e12:M2=M:=by have:=hmax M2 hM2;have:=hmax2 M hM;omega
         subst e12;have bM:=my M2 hM
         refine⟨fun a ha=> ?_,fun N' hN' hmin'=> ?_,?_⟩
         ·have:=hmax a ha
          split<;>omega
         ·have:=hmin' N hN
          have:=hmin N' hN'
          have:=hmax N' hN'
          split<;>omega
         ·split<;>omega
        ·rintro σ H7 ⟨hg,rfl,rfl,hgmax,hgmin,h40⟩;have b70:Bd 70 m:=Bd.of_le (10^20) (by omega) (by omega) (by decide)
         have sm:∀k:Int,-10<=k ->k<=50 ->Bd 10 k:=fun k a1 a2=>Bd.of_le 50 (by omega) (by omega) (by decide)
         have xpos:∀z∈rs,0<=wd:=fun z hz=>by have:=wmax z.1 (aw.mpr ⟨z,hz,rfl⟩);have:=bd z hz;omega
         have z0:∃z,z∈rs:=by
          obtain⟨z,hz⟩:∃z,rs[0]? =some z:=⟨_,af (by omega)⟩
          exact⟨z,ar hz⟩
         obtain⟨zz,hzz⟩:=z0
         have w0:=xpos zz hzz
         have g0:0<=hg:=by have:=hgmax zz.2 (aw.mpr ⟨zz,hzz,rfl⟩);have:=bd zz hzz;omega
         refine⟨fun σ H'=>∃(B:Addr) (N N':Int),σ=[some (.ref p),some (.int n0),some (.int m0),some (.ref L),some (.int m),some (.int r),some (.int u),some (.ref E),some (.ref X),some (.ref Y),some (.int wd),some (.int hg),some (.ref B)] /\ H' B=some (.tup [.int ((N-e0)*m+r),.int ((N'-e1)*m+u),.int (wd*m+r),.int (hg*m+u)]) /\ Ext H7 H' /\ (N∈rs.map (·.1) /\ ∀a∈rs.map (·.1),N<=a) /\ (N'∈rs.map (·.2) /\ ∀a∈rs.map (·.2),N'<=a),?_,?_⟩
         ·o_head ⟨eE⟩
          refine⟨X,_,rfl,SqL.of eX,n1,fun N hN hmin=> ?_⟩;have bN:=mx N hN
          o_head ⟨eE⟩
          refine⟨.of (sm _ (by omega) (by omega)) b70 (by decide) (by decide),?_⟩;refine⟨Y,_,rfl,SqL.of eY,n2,fun N' hN' hmin'=> ?_⟩;have bN':=my N' hN'
          o_head ⟨eE⟩
          refine⟨.of (sm _ (by omega) (by omega)) b70 (by decide) (by decide),.of (sm _ (by omega) (by omega)) b70 (by decide) (by decide),.of (sm _ (by omega) (by omega)) b70 (by decide) (by decide),by decide,fun B hB=> ?_⟩;exact⟨N,N',rfl,.upd hB,hN,hmin,hN',hmin'⟩
         ·rintro σ H8 ⟨B,N,N',rfl,eB,x8,⟨hN,hmin⟩,hN',hmin'⟩;have bN:=mx N hN
          have bN':=my N' hN'
          walk_at "RD"
          refine j9 (K:=K) (a:=L) (xs:=qs.map V.ref) (fun R h=>by walk_at "RD";exact h) (SqL.of (x8 _ _ eL)) (by rw[lq];omega) (fun D i ys H'=>∃qs':List Addr,ys=qs'.map V.ref /\ R2At H' qs' ((rs.take i).map fun z=>(z.1*m+r,z.2*m+u)) /\ H' D=some (.lst ys) /\ Ext H8 H') ?_ ?_ ?_ ?_
          ·intro D hD;exact⟨[],rfl,⟨rfl,fun i q z a=>by simp at a⟩,iX,.upd hD⟩
          ·rintro D i ys H9 _ ⟨qs',rfl,r9,e9,x9⟩;refine⟨e9,?_,SqL.of (x9 _ _ (x8 _ _ eL))⟩;rw[ae,r9.1,ae,az];omega
          ·rintro D i w1 ys H9 hD hi ⟨qs',rfl,r9,e9,x9⟩;obtain⟨q,hq,rfl⟩:=jz hi
           obtain⟨z,hr1,hr2⟩:=r2.at hq
           have bz:=bd z (ar hr1)
           o_head ⟨kg,ky,nW,x9 _ _ (x8 _ _ hr2)⟩
           refine⟨.of (sm _ (by omega) (by omega)) b70 (by decide) (by decide),.of (sm _ (by omega) (by omega)) b70 (by decide) (by decide),by decide,fun t ht=> ?_⟩;have e9':=ju (o:= .tup [.int (z.1*m+r),.int (z.2*m+u)]) ht e9
           refine⟨e9',qs'++[t],by rw[au];rfl,?_,(x9.then ht).set hD⟩;rw[bV,hr1,au];exact((r9.ext (Ext.upd ht)).append (R2At.one (r:=(z.1*m+r,z.2*m+u)) iX)).setL e9'
          ·rintro D ys H9 hD ⟨qs',rfl,r9,e9,x9⟩;rw[lq,bD] at r9;refine⟨by decide,fun t ht=> ?_⟩;have xt:=x9.trans (Ext.upd (o:= .tup [.ref B,.ref D]) ht)
           have xa:=((x4.trans x5).trans x8).trans xt
           have q1:=xi (k:=N-e0) (by omega) (by omega) m1 m2
           have q2:=xi (k:=N'-e1) (by omega) (by omega) m1 m2
           have q3:=xi (k:=wd) (by omega) (by omega) m1 m2
           have q4:=xi (k:=hg) (by omega) (by omega) m1 m2
           refine h t B D ((N-e0)*m+r) ((N'-e1)*m+u) (wd*m+r) (hg*m+u) qs' (rs.map fun z=>(z.1*m+r,z.2*m+u)) _ (d3.ext xa) iX ⟨xt _ _ eB,ju ht e9,r9.ext (Ext.upd ht),AR (wmin N hN hmin) m1,AR (hgmin N' hN' hmin') m1,?_,xM nd m1,by rw[ae];omega,by rw[ae];exact l12,by omega⟩ (by rw[ae];exact l0) (by omega) (by omega);intro w' hw';obtain⟨z,hz,rfl⟩:=aw.mp hw'
           have k1:=hmin z.1 (aw.mpr ⟨z,hz,rfl⟩)
           have k2:=hmin' z.2 (aw.mpr ⟨z,hz,rfl⟩)
           have k3:=wmax z.1 (aw.mpr ⟨z,hz,rfl⟩)
           have k4:=hgmax z.2 (aw.mpr ⟨z,hz,rfl⟩)
           exact⟨xh (by omega) m1,xh k3 m1,xh (by omega) m1,xh k4 m1⟩
theorem sc__law_rises:FnScope ["_law_start","_law_end","_law_low","_law_high"] ["_law_start","_law_end"] (iW s__law_rises):=⟨rfl,rfl,rfl,by decide+kernel,rfl,by decide+kernel,by decide+kernel⟩
theorem ok__law_rises{C:Cz}{f:Addr}{fd:FuncData}(F:Fun K "_law_rises" "_law_rises" s__law_rises f fd)(T:Txt K mg C):FnOk P w K mg base (CXE P w) 1 f fd ["_law_start","_law_end"] lX:=by
 refine okN F (k:=0) sc__law_rises (fun vs H Q E h=> ?_) (fun cdv A outer s H vs Q E hr h=> ?_)
 ·obtain⟨p,q,z,w,rfl,_⟩:=h
  rfl
 ·obtain⟨p,q,z,w,rfl,h⟩:=h
  refine'⟨_,?main,?rest⟩
  case main=>
   refine' i0 ?c1 ?c2
   case' c1=>refine' jt (i:=2) sc__law_rises.nd rfl (aS rfl) ?c3
   case' c3=>refine' i8 (OpR.f jf) ?c4 ?c5
   case' c4=>exact jj jQ (pvF 0) iU (fun _ _=>rfl)
   case' c5=>exact jj jQ (pvF 1) iU (fun _ _=>rfl)
   case' c2=>refine' i0 ?c6 ?c7
   case' c6=>refine' jt (i:=3) sc__law_rises.nd rfl (aS rfl) ?c8
   case' c8=>refine' i8 (OpR.f jf) ?c9 ?c10
   case' c9=>exact jj jQ (pvF 1) iU (fun _ _=>rfl)
   case' c10=>exact jj jQ (pvF 0) iU (fun _ _=>rfl)
   case' c7=>refine' i0 ?c11 ?c12
   case' c11=>refine' jI (ja qQ (pvF 2) (pvF 3) (je _)) ?c13 jh
   case' c13=>refine' iY ?c14
   case' c14=>exact jg (kG (OpR.f0 mO) (pvF 2) (pvF 3) (je _))
   case' c12=>refine' iY ?c15
   case' c15=>refine' jg ?c16
   case' c16=>refine' kG ?c17 ?c18 ?c19 ?c20
   case c17=>exact(OpR.f0 mO)
   case' c18=>refine' i8 (OpR.f jf) ?c21 ?c22
   case' c21=>exact jj jQ (pvF 1) iU (fun _ _=>rfl)
   case' c22=>exact jj jQ (pvF 0) iU (fun _ _=>rfl)
   case' c19=>refine' i8 (OpR.f jf) ?c23 ?c24
   case' c23=>exact jj jQ (pvF 0) iU (fun _ _=>rfl)
   case' c24=>exact jj jQ (pvF 1) iU (fun _ _=>rfl)
   case c20=>exact(je _)
  case rest=>
   obtain⟨hp,hq,⟨b1,b2,b3⟩,⟨b4,b5,b6⟩,h⟩:=h
   unfold oT at h;walk_at "ST"
   o_head ⟨hp,hq,rI,rI⟩
   refine⟨(by walk_at "CM"),(by walk_at "CM"),?_⟩
   by_cases c:z.2.1*w.2.2=w.2.1*z.2.2
   ·rw[if_neg (fun g=>g c)] at h;rw[if_neg (fun g=>g c)];exact⟨(by walk_at "CM"),(by walk_at "CM"),h⟩
   ·rw[if_pos c] at h;rw[if_pos c];exact h
theorem sc_law:FnScope ["_law_script","_law_feed_here","_law_box","_law_spots_here","_law_low","_law_high","_law_ours","_law_others","_law_start","_law_end","_law_one","_law_other","_law_back"] ["_law_script"] (iW s_law):=⟨rfl,rfl,rfl,by decide+kernel,rfl,by decide+kernel,by decide+kernel⟩
theorem ok_law{C:Cz}{f:Addr}{fd:FuncData}(F:Fun K "law" "law" s_law f fd)(T:Txt K mg C)(F__law_rises:FnB P w K mg base (CXE P w) 1 "_law_rises" ["_law_start","_law_end"] lX)(F_seam:FnB P w K mg base (CXE P w) 9 "seam" ["box","spots","lot"] (rC K C))(F_halves:FnB P w K mg base (CXE P w) 3 "halves" ["spots"] (nF K C))(F__law_world:FnB P w K mg base (CXE P w) 4 "_law_world" ["_law_feed_here","_law_least","_law_most"] (mR K))(F__law_feed:FnB P w K mg base (CXE P w) 1 "_law_feed" ["_law_script"] (pF K)):FnOk P w K mg base (CXE P w) 10 f fd ["_law_script"] (sV K C.lp_by_place):=by
 refine okN F (k:=9) sc_law (fun vs H Q E h=> ?_) (fun cdv A outer s H vs Q E hr h=> ?_)
 ·obtain⟨a,ns,rfl,_⟩:=h
  rfl
 ·obtain⟨a,ns,rfl,h⟩:=h
  refine'⟨_,?main,?rest⟩
  case main=>
   refine' i0 ?c1 ?c2
   case' c1=>refine' jt (i:=1) sc_law.nd rfl (aS rfl) ?c3
   case' c3=>refine' jm F__law_feed (hr.mono (by decide)) rfl i9 ?c4
   case' c4=>exact iT (pvF 0) iV
   case' c2=>refine' jr ?c5 ?c6
   case' c5=>refine' k9 ?c7 ?c8
   case' c7=>refine' jm F__law_world (hr.mono (by decide)) rfl i9 ?c9
   case' c9=>refine' iT (pvF 1) ?c10
   case' c10=>refine' iT iU ?c11
   case' c11=>exact iT iU iV
   case' c8=>refine' mY (n:=2) rfl ?c12
   case' c12=>refine' iZ (i5 (i:=2) sc_law.nd rfl (aS rfl)) ?c13
   case' c13=>exact iZ (i5 (i:=3) sc_law.nd rfl (aS rfl)) jv
   case' c6=>refine' jr ?c14 ?c15
   case' c14=>refine' k9 ?c16 ?c17
   case' c16=>refine' jm F_halves (hr.mono (by decide)) rfl i9 ?c18
   case' c18=>refine' iT ?c19 iV
   case' c19=>refine' jL jU (by rfl) T.b_list boot_list ?c20
   case' c20=>exact iT (pvF 3) iV
   case' c17=>refine' mY (n:=2) rfl ?c21
   case' c21=>refine' iZ (i5 (i:=4) sc_law.nd rfl (aS rfl)) ?c22
   case' c22=>exact iZ (i5 (i:=5) sc_law.nd rfl (aS rfl)) jv
   case' c15=>refine' jr ?c23 ?c24
   case' c23=>refine' jt (i:=6) ?c25 ?c26 ?c27 ?c28
   case c25=>exact sc_law.nd
   case c26=>exact rfl
   case c27=>exact(aS rfl)
   case' c28=>refine' jm ?c29 ?c30 ?c31 ?c32 ?c33
   case c29=>exact F_seam
   case c30=>exact(hr.mono (by decide))
   case c31=>exact rfl
   case c32=>exact i9
   case' c33=>refine' iT ?c34 ?c35
   case c34=>exact(pvF 2)
   case' c35=>refine' iT ?c36 ?c37
   case' c36=>refine' jL jU (by rfl) T.b_list boot_list ?c38
   case' c38=>exact iT (pvF 3) iV
   case' c37=>refine' iT ?c39 iV
   case' c39=>refine' jL jU (by rfl) T.b_list boot_list ?c40
   case' c40=>exact iT (pvF 4) iV
   case' c24=>refine' jr ?c41 ?c42
   case' c41=>refine' jt (i:=7) ?c43 ?c44 ?c45 ?c46
   case c43=>exact sc_law.nd
   case c44=>exact rfl
   case c45=>exact(aS rfl)
   case' c46=>refine' jm ?c47 ?c48 ?c49 ?c50 ?c51
   case c47=>exact F_seam
   case c48=>exact(hr.mono (by decide))
   case c49=>exact rfl
   case c50=>exact i9
   case' c51=>refine' iT ?c52 ?c53
   case c52=>exact(pvF 2)
   case' c53=>refine' iT ?c54 ?c55
   case' c54=>refine' jL jU (by rfl) T.b_list boot_list ?c56
   case' c56=>exact iT (pvF 3) iV
   case' c55=>refine' iT ?c57 iV
   case' c57=>refine' jL jU (by rfl) T.b_list boot_list ?c58
   case' c58=>exact iT (pvF 5) iV
   case' c42=>refine' jr ?c59 ?c60
   case' c59=>refine' kK ?c61 ?c62 ?c63 ?c64 ?c65
   case c61=>exact PassesOwn.never
   case c62=>exact rfl
   case c63=>exact(jP (K:=K) rfl (pvF 6))
   case' c64=>refine' mY (n:=4) rfl ?c66
   case' c66=>refine' iZ (i5 (i:=8) sc_law.nd rfl (aS rfl)) ?c67
   case' c67=>refine' iZ (i5 (i:=9) sc_law.nd rfl (aS rfl)) ?c68
   case' c68=>refine' iZ (i5 (i:=10) sc_law.nd rfl (aS rfl)) ?c69
   case' c69=>exact iZ (i5 (i:=11) sc_law.nd rfl (aS rfl)) jv
   case' c65=>refine' iY ?c70
   case' c70=>refine' jI ?c71 ?c72 ?c73
   case' c71=>refine' PW.pt ?c74
   case' c74=>refine' rK ?c75 ?c76
   case' c75=>refine' tD ?c77
   case' c77=>refine' mD ?c78
   case' c78=>refine' jm F__law_rises (hr.mono (by decide)) rfl i9 ?c79
   case' c79=>refine' iT (pvF 8) ?c80
   case' c80=>exact iT (pvF 9) iV
   case' c76=>refine' nL ?c81
   case' c81=>exact ja (Bb (K:=K) rfl (Nat.lt_of_succ_lt (mQ hr))) (jj jQ (pvF 3) (pvF 10) (fun _ _=>rfl)) (jj jQ (pvF 3) (pvF 11) (fun _ _=>rfl)) (je _)
   case' c72=>refine' iY ?c82
   case' c82=>exact jg zt
   case c73=>exact jh
   case' c60=>refine' jr ?c83 ?c84
   case' c83=>refine' kK ?c85 ?c86 ?c87 ?c88 ?c89
   case c85=>exact PassesOwn.never
   case c86=>exact rfl
   case c87=>exact(jP (K:=K) rfl (pvF 7))
   case' c88=>refine' mY (n:=4) rfl ?c90
   case' c90=>refine' iZ (i5 (i:=8) sc_law.nd rfl (aS rfl)) ?c91
   case' c91=>refine' iZ (i5 (i:=9) sc_law.nd rfl (aS rfl)) ?c92
   case' c92=>refine' iZ (i5 (i:=10) sc_law.nd rfl (aS rfl)) ?c93
   case' c93=>exact iZ (i5 (i:=11) sc_law.nd rfl (aS rfl)) jv
   case' c89=>refine' iY ?c94
   case' c94=>refine' jI ?c95 ?c96 ?c97
   case' c95=>refine' tD ?c98
   case' c98=>refine' mD ?c99
   case' c99=>refine' jm F__law_rises (hr.mono (by decide)) rfl i9 ?c100
   case' c100=>refine' iT (pvF 9) ?c101
   case' c101=>exact iT (pvF 8) iV
   case' c96=>refine' iY ?c102
   case' c102=>exact jg zt
   case c97=>exact jh
   case' c84=>refine' jr ?c103 ?c104
   case' c103=>refine' vv (i:=12) ?c105 ?c106 ?c107 ?c108 ?c109 ?c110 ?c111 ?c112 ?c113
   case c105=>exact(CScope.of_ok (dsc:=iW s_law) (N0:=["_law_script","_law_feed_here","_law_box","_law_spots_here","_law_low","_law_high","_law_ours","_law_others","_law_start","_law_end","_law_one","_law_other","_law_back"]) (N:=["_law_start","_law_end","_law_one","_law_other"]) (k:=4) (js:=[]) rfl rfl (by decide+kernel))
   case c106=>exact rfl
   case c107=>exact(jP (K:=K) rfl (pvF 7))
   case' c108=>intro _ _ _ _ _ _;refine' mY (n:=4) rfl ?c114
   case' c114=>refine' iZ (i5 (i:=0) (by show bT (["_law_start","_law_end","_law_one","_law_other"]:List Str);decide+kernel) rfl (aS rfl)) ?c115
   case' c115=>refine' iZ (i5 (i:=1) (by show bT (["_law_start","_law_end","_law_one","_law_other"]:List Str);decide+kernel) rfl (aS rfl)) ?c116
   case' c116=>refine' iZ (i5 (i:=2) (by show bT (["_law_start","_law_end","_law_one","_law_other"]:List Str);decide+kernel) rfl (aS rfl)) ?c117
   case' c117=>exact iZ (i5 (i:=3) (by show bT (["_law_start","_law_end","_law_one","_law_other"]:List Str);decide+kernel) rfl (aS rfl)) jv
   case' c109=>intro _ _ _ _ _ _;exact jZ
   case' c110=>intro _ _ _ _ _ _;refine' jA ?c118
   case' c118=>refine' iT (pvF 1) ?c119
   case' c119=>refine' iT (pvF 0) ?c120
   case' c120=>refine' iT (pvF 3) ?c121
   case' c121=>exact iT (pvF 2) iV
   case c111=>exact sc_law.nd
   case c112=>exact rfl
   case c113=>exact rfl
   case' c104=>refine' iY ?c122
   case' c122=>refine' jg ?c123
   case' c123=>refine' vI ?c124 ?c125
   case' c124=>refine' kG (OpR.f0 pU) ?c126 iU (je _)
   case' c126=>refine' jc jx (by rfl) T.b_len bq ?c127
   case' c127=>exact iT (pvF 6) iV
   case' c125=>refine' vF ?c128
   case' c128=>refine' kG (rO (K:=K) rfl (Cj hr)) ?c129 ?c130 (je _)
   case' c129=>refine' jc (oQ (K:=K) rfl rfl hr.units) (by rfl) T.b_sorted boot_sorted ?c131
   case' c131=>exact iT (pvF 12) iV
   case' c130=>refine' jc (oQ (K:=K) rfl rfl hr.units) (by rfl) T.b_sorted boot_sorted ?c132
   case' c132=>exact iT (pvF 6) iV
  case rest=>
   obtain⟨hS,hl,tb,h⟩:=h
   walk_at "ST"
   o_head ⟨pF⟩
   refine⟨ns,hS,hl,fun p c H0 x0 hp0 hF0=> ?_⟩;refine⟨fun σ H'=>∃(b l:Addr) (x y u v:Int) (qs:List Addr) (rs:List P2),σ=[some (.ref a),some (.ref p),some (.ref b),some (.ref l),none,none,none,none,none,none,none,none,none] /\ SpOk H' b l x y u v qs rs /\ 2<=rs.length /\ H' C.lp_by_place=some (.tbl tg_by_place),?_,?_⟩
   ·o_head ⟨mR⟩
    refine⟨2,rfl,9,rfl,c,0,hF0,by decide,by decide,by decide,by decide,by decide,fun t b l x y u v qs rs H1 d1 et ok n2 bx by'=> ?_⟩
    o_head ⟨kg,ky,nW,et⟩
    have tb1:=x0 _ _ tb
    have np:C.lp_by_place≠p:=by
     obtain⟨_,_,_,g,_⟩:=hF0
     exact lA tb1 g (by intro z;cases z)
    exact⟨x,y,u,v,⟨qs,rs,ok,n2,d1.keep _ _ np tb1⟩⟩
   rintro σ H1 ⟨b,l,x,y,u,v,qs,rs,rfl,ok1,n2,tb1⟩;have lq:(qs.map V.ref).length=rs.length:=by rw[ae,ok1.at_.1]
   have n12:=ok1.n12
   have xu:=ok1.xu
   have yv:=ok1.yv
   have ndR:=ok1.nd
   have ins:=ok1.ins
   have fresh:∀{H':Hp} {D:Addr},SpOk H' b l x y u v qs rs ->H' D=none ->SpOk (upd H' D (.lst (qs.map V.ref))) b D x y u v qs rs:=fun {H' D} o hD=>by
    have o':=o.ext (Ext.upd (o:= .lst (qs.map V.ref)) hD)
    exact⟨o'.bx,iX,o'.at_,o'.xu,o'.yv,o'.ins,o'.nd,o'.n0,o'.n12,o'.sz⟩
   refine⟨fun σ H'=>∃(lo hi:Addr) (A B:List Nat),σ=[some (.ref a),some (.ref p),some (.ref b),some (.ref l),some (.ref lo),some (.ref hi),none,none,none,none,none,none,none] /\ Ext H1 H' /\ H' lo=some (.lst (JsV A)) /\ H' hi=some (.lst (JsV B)) /\ HalfOk rs A B,?_,?_⟩
   ·o_head ⟨ok1.sp⟩
    intro l' hl';have x':=Ext.upd (o:= .lst (qs.map V.ref)) hl'
    refine⟨l',qs,rs,rfl,(fresh ok1 hl').lp,n2,x' _ _ tb1,fun t a1 b1 A B H2 x2 et ea eb ho=> ?_⟩
    o_head ⟨kg,ky,nW,et⟩
    exact⟨x'.trans x2,A,ea,B,eb,ho⟩
   rintro σ H2 ⟨lo,hi,A,B,rfl,x2,elo,ehi,ho⟩;have ok2:=ok1.ext x2
   have seamS:∀{H':Hp} {t:Addr} {lot:List Nat},SpOk H' b l x y u v qs rs ->H' t=some (.lst (JsV lot)) ->True:=fun _ _=>trivial
   refine⟨fun σ H'=>∃(D:Addr) (us:List Addr) (ws:List Rw) (Lf:Nat ->List Vx),σ=[some (.ref a),some (.ref p),some (.ref b),some (.ref l),some (.ref lo),some (.ref hi),some (.ref D),none,none,none,none,none,none] /\ Ext H2 H' /\ H' D=some (.lst (us.map V.ref)) /\ RwsAt H' us ws /\ ws.Perm (jY A Lf A) /\ j4 x y u v rs Lf A /\ ∀z∈ws,yz z,?_,?_⟩
   ·o_head ⟨ok2.sp⟩
    intro l' hl';rw[ju hl' elo,kn,i6];intro t' ht';have xx:=(Ext.upd (o:= .lst (qs.map V.ref)) hl').then (o:= .lst (JsV A)) ht'
    refine⟨b,l',t',x,y,u,v,qs,rs,A,rfl,(fresh ok2 hl').ext (Ext.upd ht'),iX,ho.n1,ho.l1,ho.s1,ho.lt1,fun D us ws Lf H' x' _ eD ra pm so lf rb _=>⟨D,rfl,xx.trans x',us,eD,ws,ra,Lf,pm,lf,rb⟩⟩
   rintro σ H3 ⟨D,us,ws,Lf,rfl,x3,eD,ra,pm,lf,rb⟩;have ok3:=ok2.ext x3
   refine⟨fun σ H'=>∃(E:Addr) (us2:List Addr) (ws2:List Rw) (Lg:Nat ->List Vx),σ=[some (.ref a),some (.ref p),some (.ref b),some (.ref l),some (.ref lo),some (.ref hi),some (.ref D),some (.ref E),none,none,none,none,none] /\ Ext H3 H' /\ H' E=some (.lst (us2.map V.ref)) /\ RwsAt H' us2 ws2 /\ ws2.Perm (jY B Lg B) /\ j4 x y u v rs Lg B /\ ∀z∈ws2,yz z,?_,?_⟩
   ·o_head ⟨ok3.sp⟩
    intro l' hl';rw[ju hl' (x3 _ _ ehi),kn,i6];intro t' ht';have xx:=(Ext.upd (o:= .lst (qs.map V.ref)) hl').then (o:= .lst (JsV B)) ht'
    refine⟨b,l',t',x,y,u,v,qs,rs,B,rfl,(fresh ok3 hl').ext (Ext.upd ht'),iX,ho.n2,ho.l2,ho.s2,ho.lt2,fun D us ws Lf H' x' _ eD ra pm so lf rb _=>⟨D,rfl,xx.trans x',us,eD,ws,ra,Lf,pm,lf,rb⟩⟩
   rintro σ H4 ⟨E,us2,ws2,Lg,rfl,x4,eE,ra2,pm2,lg,rb2⟩;have ok4:=ok3.ext x4
   have eD4:=x4 _ _ eD
   have ra4:=ra.ext x4
   have w64:ws.length<64:=by rw[pm.length_eq];exact vc xu yv ndR ins n12 ho.n1 ho.lt1 lf
   have w64b:ws2.length<64:=by rw[pm2.length_eq];exact vc xu yv ndR ins n12 ho.n2 ho.lt2 lg
   have swp:=u9 xu yv ndR ins ho lf lg pm pm2
   have facts:∀z∈ws,∃n m r s,RowF rs A z n m r s:=fun z hz=>by
    obtain⟨n,m,r,s,F,_⟩:=xg xu yv ndR ins (fun n hn=>hn) lf (pm.mem_iff.mp hz)
    exact⟨n,m,r,s,F⟩
   refine⟨fun σ H'=>∃o8 o9 o10 o11:Option V,σ=[some (.ref a),some (.ref p),some (.ref b),some (.ref l),some (.ref lo),some (.ref hi),some (.ref D),some (.ref E),o8,o9,o10,o11,none] /\ Ext H4 H',?_,?_⟩
   ·refine kY (K:=K) (a:=D) (xs:=us.map V.ref) (fun R hR=>by walk_at "RD";exact hR) (fun k σ H'=>∃o8 o9 o10 o11:Option V,σ=[some (.ref a),some (.ref p),some (.ref b),some (.ref l),some (.ref lo),some (.ref hi),some (.ref D),some (.ref E),o8,o9,o10,o11,none] /\ Ext H4 H') ⟨_,_,_,_,rfl,.refl _⟩ ?_ ?_ ?_
    ·rintro k σ H5 _ ⟨o8,o9,o10,o11,rfl,x5⟩;exact SqL.of (x5 _ _ eD4)
    rotate_left
    ·rintro σ H5 ⟨o8,o9,o10,o11,rfl,x5⟩;exact⟨_,_,_,_,rfl,x5⟩
    rintro k w1 σ H5 hk ⟨o8,o9,o10,o11,rfl,x5⟩;obtain⟨t,ht,rfl⟩:=jz hk
    obtain⟨z,hz,⟨q1,q2,e1,e2,e3⟩⟩:=(ra4.ext x5).at ht
    have mz:=ar hz
    obtain⟨n,m,r,s,F⟩:=facts z mz
    obtain⟨_,bz1,bz2⟩:=rb z mz
    obtain⟨ri,ge⟩:=qK ho F
    have ok5:=ok4.ext x5
    obtain⟨qn,hqn⟩:∃q,qs[n]? =some q:=⟨_,af (by rw[ok1.at_.1];exact(aa.mp F.hn).1)⟩
    obtain⟨qm,hqm⟩:∃q,qs[m]? =some q:=⟨_,af (by rw[ok1.at_.1];exact(aa.mp F.hm).1)⟩
    have an:atI (qs.map V.ref) (n:Int)=some (.ref qn):=jK (by rw[aC,hqn];rfl)
    have am:atI (qs.map V.ref) (m:Int)=some (.ref qm):=jK (by rw[aC,hqm];rfl)
    rw[F.en,F.em] at e1
    o_head ⟨kg,ky,nW,e1,lX,ok5.sp,an,am,rI,rI,rI,rI⟩
    refine⟨z.1,e2,z.2.1,e3,bz1,bz2,?_⟩;rw[ri,if_neg (by decide)];refine⟨qn,qm,[r.1,r.2],[s.1,s.2],rfl,rfl,SqT.of (ok5.at_.2 n qn r hqn F.hn),SqT.of (ok5.at_.2 m qm s hqm F.hm),?_⟩;rw[ge];show(if false=true then _ else _)
    rw[if_neg (by decide)];exact x5
   rintro σ H5 ⟨o8,o9,o10,o11,rfl,x5⟩;have eE5:=x5 _ _ eE
   have ra5:=ra2.ext x5
   have lw2:us2.length=ws2.length:=ra2.1
   refine⟨fun σ H'=>∃o8 o9 o10 o11:Option V,σ=[some (.ref a),some (.ref p),some (.ref b),some (.ref l),some (.ref lo),some (.ref hi),some (.ref D),some (.ref E),o8,o9,o10,o11,none] /\ Ext H5 H',?_,?_⟩
   ·refine kY (K:=K) (a:=E) (xs:=us2.map V.ref) (fun R hR=>by walk_at "RD";exact hR) (fun k σ H'=>∃o8 o9 o10 o11:Option V,σ=[some (.ref a),some (.ref p),some (.ref b),some (.ref l),some (.ref lo),some (.ref hi),some (.ref D),some (.ref E),o8,o9,o10,o11,none] /\ Ext H5 H') ⟨_,_,_,_,rfl,.refl _⟩ ?_ ?_ ?_
    ·rintro k σ H6 _ ⟨o8,o9,o10,o11,rfl,x6⟩;exact SqL.of (x6 _ _ eE5)
    rotate_left
    ·rintro σ H6 ⟨o8,o9,o10,o11,rfl,x6⟩;exact⟨_,_,_,_,rfl,x6⟩
    rintro k w1 σ H6 hk ⟨o8,o9,o10,o11,rfl,x6⟩;obtain⟨t,ht,rfl⟩:=jz hk
    obtain⟨z,hz,⟨q1,q2,e1,e2,e3⟩⟩:=(ra5.ext x6).at ht
    have mz:=ar hz
    obtain⟨n,m,r,s,F⟩:=facts (swR z) (swp.mem_iff.mp (fh mz))
    obtain⟨_,bz1,bz2⟩:=rb2 z mz
    obtain⟨ri,_⟩:=qK ho F
    replace ri:oT z.2.1 z.1=true:=ri
    o_head ⟨kg,ky,nW,e1,lX,rI,rI,rI,rI,rI,rI,rI⟩
    refine⟨z.2.1,e3,z.1,e2,bz2,bz1,?_⟩;rw[ri,if_neg (by decide)];exact x6
   rintro σ H6 ⟨o8,o9,o10,o11,rfl,x6⟩;have eE6:=x6 _ _ eE5
   have ra6:=ra5.ext x6
   refine⟨fun σ H'=>∃(G:Addr) (us3:List Addr),σ=[some (.ref a),some (.ref p),some (.ref b),some (.ref l),some (.ref lo),some (.ref hi),some (.ref D),some (.ref E),o8,o9,o10,o11,some (.ref G)] /\ Ext H6 H' /\ H' G=some (.lst (us3.map V.ref)) /\ RwsAt H' us3 (ws2.map swR),?_,?_⟩
   ·walk_at "RD"
    refine j9 (K:=K) (a:=E) (xs:=us2.map V.ref) (fun R h=>by walk_at "RD";exact h) (SqL.of eE6) (by rw[ae];omega) (fun G i ys H'=>∃us3:List Addr,ys=us3.map V.ref /\ RwsAt H' us3 ((ws2.take i).map swR) /\ H' G=some (.lst ys) /\ Ext H6 H') ?_ ?_ ?_ ?_
    ·intro G hG;exact⟨[],rfl,⟨rfl,fun i t z a=>by simp at a⟩,iX,.upd hG⟩
    ·rintro G i ys H7 _ ⟨us3,rfl,r3,e7,x7⟩;refine⟨e7,?_,SqL.of (x7 _ _ eE6)⟩;rw[ae,r3.1,ae,az];omega
    ·rintro G i w1 ys H7 hG hi ⟨us3,rfl,r3,e7,x7⟩;obtain⟨t,ht,rfl⟩:=jz hi
     obtain⟨z,hz,⟨q1,q2,e1,e2,e3⟩⟩:=(ra6.ext x7).at ht
     o_head ⟨kg,ky,nW,e1⟩
     refine⟨by decide,fun P hP=>⟨ju hP e7,us3++[P],by rw[au];rfl,?_,(x7.then hP).set hG⟩⟩;rw[dA,hz,au];have xP:=Ext.upd (o:= .tup [.ref q2,.ref q1,.int z.2.2.2,.int z.2.2.1]) hP
     have eG:=ju (o:= .tup [.ref q2,.ref q1,.int z.2.2.2,.int z.2.2.1]) hP e7
     have r0:=(r3.ext xP).app (.one (p:=P) (z:=swR z) ⟨q2,q1,iX,xP _ _ e3,xP _ _ e2⟩)
     refine⟨r0.1,fun i t z a b=> ?_⟩;obtain⟨s,e,g1,g2,g3⟩:=r0.2 i t z a b
     exact⟨s,e,(i7 (lA g1 eG (by intro z;cases z))).trans g1,(i7 (lA g2 eG (by intro z;cases z))).trans g2,(i7 (lA g3 eG (by intro z;cases z))).trans g3⟩
    ·rintro G ys H7 hG ⟨us3,rfl,r3,e7,x7⟩;rw[ae,lw2,bD] at r3;exact⟨G,rfl,x7,us3,e7,r3⟩
   rintro σ H7 ⟨G,us3,rfl,x7,eG,r3⟩;have eD7:=x7 _ _ (x6 _ _ (x5 _ _ eD4))
   have ra7:=(ra4.ext x5).ext (x6.trans x7)
   have lws:(us.map V.ref).length=ws.length:=by rw[ae,ra.1]
   have some0:0<ws.length:=by
    obtain⟨hh,hhm⟩:∃h,h∈B:=by
     cases B with
     |nil=>exact absurd ho.l2 (ci _)
     |cons x B=>exact⟨x,aY⟩
    have ne:=u5 xu yv ndR ins lf ho.l1 (ho.lt2 hh hhm) (fun g=>(ho.part hh (ho.lt2 hh hhm)).mp g hhm)
    rw[pm.length_eq];exact Nat.pos_of_ne_zero fun e=>ne (List.eq_nil_of_length_eq_zero e)
   o_head ⟨eD7,lws,rI,rI⟩
   rw[if_pos (by omega)];refine⟨G,us3.map V.ref,Bw H7,rfl,SqL.of eG,by rw[ae,r3.1,ae];exact w64b,fun v hv=> ?_,fun S q hS hq=> ?_⟩
   ·obtain⟨j,hj⟩:=bF hv
    obtain⟨t',ht',rfl⟩:=jz hj
    obtain⟨z,_,rz⟩:=r3.at ht'
    exact vn rz
   obtain⟨us1,ws1,e1,r1,p1,s1⟩:=qD r3 hq
   rw[e1];have xS:=Ext.upd (o:= .lst (us1.map V.ref)) hS
   have eS:=iX (H:=H7) (a:=S) (o:= .lst (us1.map V.ref))
   generalize upd H7 S (.lst (us1.map V.ref))=H8 at xS eS⊢;have ra8:=ra7.ext xS
   refine⟨D,us.map V.ref,Bw H8,rfl,SqL.of (xS _ _ eD7),by rw[lws];exact w64,fun v hv=> ?_,fun S2 q2 hS2 hq2=> ?_⟩
   ·obtain⟨j,hj⟩:=bF hv
    obtain⟨t',ht',rfl⟩:=jz hj
    obtain⟨z,_,rz⟩:=ra8.at ht'
    exact vn rz
   obtain⟨us4,ws4,e2,r2,p2,s2⟩:=qD ra8 hq2
   rw[e2];have same:ws1=ws4:=w4 (p1.trans (swp.trans p2.symm)) s1 s2
   subst same;have xS2:=Ext.upd (o:= .lst (us4.map V.ref)) hS2
   refine⟨.list (ws1.map rwD),.list (ws1.map rwD),.lst (SqL.of (xS2 _ _ eS)) (rJ ((r1.ext xS).ext xS2)),.lst (SqL.of iX) (rJ (r2.ext xS2)),oB _,oB _,?_⟩;rw[zW (vh _) rfl];exact h _
end
end LW
namespace LW
open PySem L2 MA PyProof.Rows
theorem mP{us:List Value}(h:us.length=1):∃u0,us=[u0]:=by
 obtain _|⟨u0,us⟩:=us
 ·cases h
 cases us with
 |nil=>exact⟨u0,rfl⟩
 |cons a r=>simp at h
theorem lM{us:List Value}(h:us.length=2):∃u0 u1,us=[u0,u1]:=by
 obtain _|⟨u0,us⟩:=us
 ·cases h
 obtain _|⟨u1,us⟩:=us
 ·cases h
 cases us with
 |nil=>exact⟨u0,u1,rfl⟩
 |cons a r=>simp at h
theorem qV{us:List Value}(h:us.length=3):∃u0 u1 u2,us=[u0,u1,u2]:=by
 obtain _|⟨u0,us⟩:=us
 ·cases h
 obtain _|⟨u1,us⟩:=us
 ·cases h
 obtain _|⟨u2,us⟩:=us
 ·cases h
 cases us with
 |nil=>exact⟨u0,u1,u2,rfl⟩
 |cons a r=>simp at h
theorem zG{us:List Value}(h:us.length=4):∃u0 u1 u2 u3,us=[u0,u1,u2,u3]:=by
 obtain _|⟨u0,us⟩:=us
 ·cases h
 obtain _|⟨u1,us⟩:=us
 ·cases h
 obtain _|⟨u2,us⟩:=us
 ·cases h
 obtain _|⟨u3,us⟩:=us
 ·cases h
 cases us with
 |nil=>exact⟨u0,u1,u2,u3,rfl⟩
 |cons a r=>simp at h
theorem all_mk:AllMk:=by
 intro l w K h mg fa X G hfa f_divisor od_divisor an_divisor sl_divisor oc_divisor kV_divisor dc_divisor pm_divisor cd_divisor ct_divisor f_sign od_sign an_sign sl_sign oc_sign kV_sign dc_sign pm_sign cd_sign ct_sign f_point_of od_point_of an_point_of sl_point_of oc_point_of kV_point_of dc_point_of pm_point_of cd_point_of ct_point_of f_spot_point od_spot_point an_spot_point sl_spot_point oc_spot_point kV_spot_point dc_spot_point pm_spot_point cd_spot_point ct_spot_point f_ahead od_ahead an_ahead sl_ahead oc_ahead kV_ahead dc_ahead pm_ahead cd_ahead ct_ahead f_line_of od_line_of an_line_of sl_line_of oc_line_of kV_line_of dc_line_of pm_line_of cd_line_of ct_line_of f_between od_between an_between sl_between oc_between kV_between dc_between pm_between cd_between ct_between f_excess od_excess an_excess sl_excess oc_excess kV_excess dc_excess pm_excess cd_excess ct_excess f_check_box od_check_box an_check_box sl_check_box oc_check_box kV_check_box dc_check_box pm_check_box cd_check_box ct_check_box f_has_point od_has_point an_has_point sl_has_point oc_has_point kV_has_point dc_has_point pm_has_point cd_has_point ct_has_point f_in_box od_in_box an_in_box sl_in_box oc_in_box kV_in_box dc_in_box pm_in_box cd_in_box ct_in_box f_check_count od_check_count an_check_count sl_check_count oc_check_count kV_check_count dc_check_count pm_check_count cd_check_count ct_check_count f_check_spots od_check_spots an_check_spots sl_check_spots oc_check_spots kV_check_spots dc_check_spots pm_check_spots cd_check_spots ct_check_spots f_check_box_and_spots od_check_box_and_spots an_check_box_and_spots sl_check_box_and_spots oc_check_box_and_spots kV_check_box_and_spots dc_check_box_and_spots pm_check_box_and_spots cd_check_box_and_spots ct_check_box_and_spots f_others_of od_others_of an_others_of sl_others_of oc_others_of kV_others_of dc_others_of pm_others_of cd_others_of ct_others_of f_are_unlike od_are_unlike an_are_unlike sl_are_unlike oc_are_unlike kV_are_unlike dc_are_unlike pm_are_unlike cd_are_unlike ct_are_unlike f_by_place od_by_place an_by_place sl_by_place oc_by_place kV_by_place dc_by_place pm_by_place cd_by_place ct_by_place f_box_field od_box_field an_box_field sl_box_field oc_box_field kV_box_field dc_box_field pm_box_field cd_box_field ct_box_field f_crossing od_crossing an_crossing sl_crossing oc_crossing kV_crossing dc_crossing pm_crossing cd_crossing ct_crossing f_rest od_rest an_rest sl_rest oc_rest kV_rest dc_rest pm_rest cd_rest ct_rest f_from_first od_from_first an_from_first sl_from_first oc_from_first kV_from_first dc_from_first pm_from_first cd_from_first ct_from_first f_cut od_cut an_cut sl_cut oc_cut kV_cut dc_cut pm_cut cd_cut ct_cut f_cut_each od_cut_each an_cut_each sl_cut_each oc_cut_each kV_cut_each dc_cut_each pm_cut_each cd_cut_each ct_cut_each f_cut_off od_cut_off an_cut_off sl_cut_off oc_cut_off kV_cut_off dc_cut_off pm_cut_off cd_cut_off ct_cut_off f_land_within od_land_within an_land_within sl_land_within oc_land_within kV_land_within dc_land_within pm_land_within cd_land_within ct_land_within f_check_lot od_check_lot an_check_lot sl_check_lot oc_check_lot kV_check_lot dc_check_lot pm_check_lot cd_check_lot ct_check_lot f_edge_before od_edge_before an_edge_before sl_edge_before oc_edge_before kV_edge_before dc_edge_before pm_edge_before cd_edge_before ct_edge_before f_ordered od_ordered an_ordered sl_ordered oc_ordered kV_ordered dc_ordered pm_ordered cd_ordered ct_ordered f_seam od_seam an_seam sl_seam oc_seam kV_seam dc_seam pm_seam cd_seam ct_seam f_halves od_halves an_halves sl_halves oc_halves kV_halves dc_halves pm_halves cd_halves ct_halves f__law_feed od__law_feed an__law_feed sl__law_feed oc__law_feed kV__law_feed dc__law_feed pm__law_feed cd__law_feed ct__law_feed f__law_draw od__law_draw an__law_draw sl__law_draw oc__law_draw kV__law_draw dc__law_draw pm__law_draw cd__law_draw ct__law_draw f__law_great od__law_great an__law_great sl__law_great oc__law_great kV__law_great dc__law_great pm__law_great cd__law_great ct__law_great f__law_scale od__law_scale an__law_scale sl__law_scale oc__law_scale kV__law_scale dc__law_scale pm__law_scale cd__law_scale ct__law_scale f__law_spot od__law_spot an__law_spot sl__law_spot oc__law_spot kV__law_spot dc__law_spot pm__law_spot cd__law_spot ct__law_spot f__law_dozen od__law_dozen an__law_dozen sl__law_dozen oc__law_dozen kV__law_dozen dc__law_dozen pm__law_dozen cd__law_dozen ct__law_dozen f__law_spots od__law_spots an__law_spots sl__law_spots oc__law_spots kV__law_spots dc__law_spots pm__law_spots cd__law_spots ct__law_spots f__law_world od__law_world an__law_world sl__law_world oc__law_world kV__law_world dc__law_world pm__law_world cd__law_world ct__law_world f__law_rises od__law_rises an__law_rises sl__law_rises oc__law_rises kV__law_rises dc__law_rises pm__law_rises cd__law_rises ct__law_rises f_law od_law an_law sl_law oc_law kV_law dc_law pm_law cd_law ct_law tk_MOST_SPOTS cda_by_place tp_by_place cod_by_place cvs_by_place csl_by_place cfi_by_place cft_by_place cfg_by_place ctt_by_place cfl_by_place ctx_by_place cif_by_place a_divisor l_divisor c_divisor k_divisor a_sign l_sign c_sign k_sign a_point_of l_point_of c_point_of k_point_of a_spot_point l_spot_point c_spot_point k_spot_point a_ahead l_ahead c_ahead k_ahead a_line_of l_line_of c_line_of k_line_of a_between l_between c_between k_between a_excess l_excess c_excess k_excess a_check_box l_check_box c_check_box k_check_box a_has_point l_has_point c_has_point k_has_point a_in_box l_in_box c_in_box k_in_box a_check_count l_check_count c_check_count k_check_count a_check_spots l_check_spots c_check_spots k_check_spots a_check_box_and_spots l_check_box_and_spots c_check_box_and_spots k_check_box_and_spots a_others_of l_others_of c_others_of k_others_of a_are_unlike l_are_unlike c_are_unlike k_are_unlike a_by_place l_by_place c_by_place k_by_place a_box_field l_box_field c_box_field k_box_field a_crossing l_crossing c_crossing k_crossing a_rest l_rest c_rest k_rest a_from_first l_from_first c_from_first k_from_first a_cut l_cut c_cut k_cut a_cut_each l_cut_each c_cut_each k_cut_each a_cut_off l_cut_off c_cut_off k_cut_off a_land_within l_land_within c_land_within k_land_within a_check_lot l_check_lot c_check_lot k_check_lot a_edge_before l_edge_before c_edge_before k_edge_before a_ordered l_ordered c_ordered k_ordered a_seam l_seam c_seam k_seam a_halves l_halves c_halves k_halves a__law_feed l__law_feed c__law_feed k__law_feed a__law_draw l__law_draw c__law_draw k__law_draw a__law_great l__law_great c__law_great k__law_great a__law_scale l__law_scale c__law_scale k__law_scale a__law_spot l__law_spot c__law_spot k__law_spot a__law_dozen l__law_dozen c__law_dozen k__law_dozen a__law_spots l__law_spots c__law_spots k__law_spots a__law_world l__law_world c__law_world k__law_world a__law_rises l__law_rises c__law_rises k__law_rises a_law l_law c_law k_law z_abs z_enumerate z_int z_len z_list z_max z_min z_range z_set z_sorted z_zip a_MOST_SPOTS t0_by_place t1_by_place t2_by_place t3_by_place t4_by_place t5_by_place t6_by_place t7_by_place t8_by_place t9_by_place;have e:=hfa.symm.trans (aL X G a_law)
 cases e;have T:Txt K mg ⟨f_edge_before,cda_by_place,tp_by_place⟩:=⟨bS X G z_abs,bS X G z_enumerate,bS X G z_int,bS X G z_len,bS X G z_list,bS X G z_max,bS X G z_min,bS X G z_range,bS X G z_set,bS X G z_sorted,bS X G z_zip,aL X G a_edge_before,⟨_,aL X G a_MOST_SPOTS⟩⟩
 have U_divisor:=jw (st:=s_divisor) l_divisor c_divisor k_divisor
 have B_divisor:=U_divisor.binds (ps:=["one","other"]) fun _ _ _ _ _ _ us hl=>by obtain⟨u0,u1,rfl⟩:=lM hl;rfl
 have U_sign:=jw (st:=s_sign) l_sign c_sign k_sign
 have B_sign:=U_sign.binds (ps:=["number"]) fun _ _ _ _ _ _ us hl=>by obtain⟨u0,rfl⟩:=mP hl;rfl
 have U_point_of:=jw (st:=s_point_of) l_point_of c_point_of k_point_of
 have B_point_of:=U_point_of.binds (ps:=["x","y","w"]) fun _ _ _ _ _ _ us hl=>by obtain⟨u0,u1,u2,rfl⟩:=qV hl;rfl
 have U_spot_point:=jw (st:=s_spot_point) l_spot_point c_spot_point k_spot_point
 have B_spot_point:=U_spot_point.binds (ps:=["spot"]) fun _ _ _ _ _ _ us hl=>by obtain⟨u0,rfl⟩:=mP hl;rfl
 have U_ahead:=jw (st:=s_ahead) l_ahead c_ahead k_ahead
 have B_ahead:=U_ahead.binds (ps:=["one","other"]) fun _ _ _ _ _ _ us hl=>by obtain⟨u0,u1,rfl⟩:=lM hl;rfl
 have U_line_of:=jw (st:=s_line_of) l_line_of c_line_of k_line_of
 have B_line_of:=U_line_of.binds (ps:=["a","b","c"]) fun _ _ _ _ _ _ us hl=>by obtain⟨u0,u1,u2,rfl⟩:=qV hl;rfl
 have U_between:=jw (st:=s_between) l_between c_between k_between
 have B_between:=U_between.binds (ps:=["one","other"]) fun _ _ _ _ _ _ us hl=>by obtain⟨u0,u1,rfl⟩:=lM hl;rfl
 have U_excess:=jw (st:=s_excess) l_excess c_excess k_excess
 have B_excess:=U_excess.binds (ps:=["line","point"]) fun _ _ _ _ _ _ us hl=>by obtain⟨u0,u1,rfl⟩:=lM hl;rfl
 have U_check_box:=jw (st:=s_check_box) l_check_box c_check_box k_check_box
 have B_check_box:=U_check_box.binds (ps:=["box"]) fun _ _ _ _ _ _ us hl=>by obtain⟨u0,rfl⟩:=mP hl;rfl
 have U_has_point:=jw (st:=s_has_point) l_has_point c_has_point k_has_point
 have B_has_point:=U_has_point.binds (ps:=["box","point"]) fun _ _ _ _ _ _ us hl=>by obtain⟨u0,u1,rfl⟩:=lM hl;rfl
 have U_in_box:=jw (st:=s_in_box) l_in_box c_in_box k_in_box
 have B_in_box:=U_in_box.binds (ps:=["box","spot"]) fun _ _ _ _ _ _ us hl=>by obtain⟨u0,u1,rfl⟩:=lM hl;rfl
 have U_check_count:=jw (st:=s_check_count) l_check_count c_check_count k_check_count
 have B_check_count:=U_check_count.binds (ps:=["spots"]) fun _ _ _ _ _ _ us hl=>by obtain⟨u0,rfl⟩:=mP hl;rfl
 have U_check_spots:=jw (st:=s_check_spots) l_check_spots c_check_spots k_check_spots
 have B_check_spots:=U_check_spots.binds (ps:=["spots"]) fun _ _ _ _ _ _ us hl=>by obtain⟨u0,rfl⟩:=mP hl;rfl
 have U_check_box_and_spots:=jw (st:=s_check_box_and_spots) l_check_box_and_spots c_check_box_and_spots k_check_box_and_spots
 have B_check_box_and_spots:=U_check_box_and_spots.binds (ps:=["box","spots"]) fun _ _ _ _ _ _ us hl=>by obtain⟨u0,u1,rfl⟩:=lM hl;rfl
 have U_others_of:=jw (st:=s_others_of) l_others_of c_others_of k_others_of
 have B_others_of:=U_others_of.binds (ps:=["spots","number"]) fun _ _ _ _ _ _ us hl=>by obtain⟨u0,u1,rfl⟩:=lM hl;rfl
 have U_are_unlike:=jw (st:=s_are_unlike) l_are_unlike c_are_unlike k_are_unlike
 have B_are_unlike:=U_are_unlike.binds (ps:=["spots","numbers"]) fun _ _ _ _ _ _ us hl=>by obtain⟨u0,u1,rfl⟩:=lM hl;rfl
 have U_by_place:=jw (st:=s_by_place) l_by_place c_by_place k_by_place
 have B_by_place:=U_by_place.binds (ps:=["spots"]) fun _ _ _ _ _ _ us hl=>by obtain⟨u0,rfl⟩:=mP hl;rfl
 have U_box_field:=jw (st:=s_box_field) l_box_field c_box_field k_box_field
 have B_box_field:=U_box_field.binds (ps:=["box"]) fun _ _ _ _ _ _ us hl=>by obtain⟨u0,rfl⟩:=mP hl;rfl
 have U_crossing:=jw (st:=s_crossing) l_crossing c_crossing k_crossing
 have B_crossing:=U_crossing.binds (ps:=["one","other","here","there"]) fun _ _ _ _ _ _ us hl=>by obtain⟨u0,u1,u2,u3,rfl⟩:=zG hl;rfl
 have U_rest:=jw (st:=s_rest) l_rest c_rest k_rest
 have B_rest:=U_rest.binds (ps:=["corners","edges","excesses","number"]) fun _ _ _ _ _ _ us hl=>by obtain⟨u0,u1,u2,u3,rfl⟩:=zG hl;rfl
 have U_from_first:=jw (st:=s_from_first) l_from_first c_from_first k_from_first
 have B_from_first:=U_from_first.binds (ps:=["rows"]) fun _ _ _ _ _ _ us hl=>by obtain⟨u0,rfl⟩:=mP hl;rfl
 have U_cut:=jw (st:=s_cut) l_cut c_cut k_cut
 have B_cut:=U_cut.binds (ps:=["field","line","number"]) fun _ _ _ _ _ _ us hl=>by obtain⟨u0,u1,u2,rfl⟩:=qV hl;rfl
 have U_cut_each:=jw (st:=s_cut_each) l_cut_each c_cut_each k_cut_each
 have B_cut_each:=U_cut_each.binds (ps:=["field","cuts"]) fun _ _ _ _ _ _ us hl=>by obtain⟨u0,u1,rfl⟩:=lM hl;rfl
 have U_cut_off:=jw (st:=s_cut_off) l_cut_off c_cut_off k_cut_off
 have B_cut_off:=U_cut_off.binds (ps:=["field","spots","number","others"]) fun _ _ _ _ _ _ us hl=>by obtain⟨u0,u1,u2,u3,rfl⟩:=zG hl;rfl
 have U_land_within:=jw (st:=s_land_within) l_land_within c_land_within k_land_within
 have B_land_within:=U_land_within.binds (ps:=["box","spots","number"]) fun _ _ _ _ _ _ us hl=>by obtain⟨u0,u1,u2,rfl⟩:=qV hl;rfl
 have U_check_lot:=jw (st:=s_check_lot) l_check_lot c_check_lot k_check_lot
 have B_check_lot:=U_check_lot.binds (ps:=["box","spots","lot"]) fun _ _ _ _ _ _ us hl=>by obtain⟨u0,u1,u2,rfl⟩:=qV hl;rfl
 have U_edge_before:=jw (st:=s_edge_before) l_edge_before c_edge_before k_edge_before
 have B_edge_before:=U_edge_before.binds (ps:=["one","other"]) fun _ _ _ _ _ _ us hl=>by obtain⟨u0,u1,rfl⟩:=lM hl;rfl
 have U_ordered:=jw (st:=s_ordered) l_ordered c_ordered k_ordered
 have B_ordered:=U_ordered.binds (ps:=["things","before"]) fun _ _ _ _ _ _ us hl=>by obtain⟨u0,u1,rfl⟩:=lM hl;rfl
 have U_seam:=jw (st:=s_seam) l_seam c_seam k_seam
 have B_seam:=U_seam.binds (ps:=["box","spots","lot"]) fun _ _ _ _ _ _ us hl=>by obtain⟨u0,u1,u2,rfl⟩:=qV hl;rfl
 have U_halves:=jw (st:=s_halves) l_halves c_halves k_halves
 have B_halves:=U_halves.binds (ps:=["spots"]) fun _ _ _ _ _ _ us hl=>by obtain⟨u0,rfl⟩:=mP hl;rfl
 have U__law_feed:=jw (st:=s__law_feed) l__law_feed c__law_feed k__law_feed
 have B__law_feed:=U__law_feed.binds (ps:=["_law_script"]) fun _ _ _ _ _ _ us hl=>by obtain⟨u0,rfl⟩:=mP hl;rfl
 have U__law_draw:=jw (st:=s__law_draw) l__law_draw c__law_draw k__law_draw
 have B__law_draw:=U__law_draw.binds (ps:=["_law_feed_here","_law_many"]) fun _ _ _ _ _ _ us hl=>by obtain⟨u0,u1,rfl⟩:=lM hl;rfl
 have U__law_great:=jw (st:=s__law_great) l__law_great c__law_great k__law_great
 have B__law_great:=U__law_great.binds (ps:=["_law_feed_here","_law_pieces"]) fun _ _ _ _ _ _ us hl=>by obtain⟨u0,u1,rfl⟩:=lM hl;rfl
 have U__law_scale:=jw (st:=s__law_scale) l__law_scale c__law_scale k__law_scale
 have B__law_scale:=U__law_scale.binds (ps:=["_law_feed_here"]) fun _ _ _ _ _ _ us hl=>by obtain⟨u0,rfl⟩:=mP hl;rfl
 have U__law_spot:=jw (st:=s__law_spot) l__law_spot c__law_spot k__law_spot
 have B__law_spot:=U__law_spot.binds (ps:=["_law_feed_here","_law_style"]) fun _ _ _ _ _ _ us hl=>by obtain⟨u0,u1,rfl⟩:=lM hl;rfl
 have U__law_dozen:=jw (st:=s__law_dozen) l__law_dozen c__law_dozen k__law_dozen
 have B__law_dozen:=U__law_dozen.binds (ps:=["_law_feed_here"]) fun _ _ _ _ _ _ us hl=>by obtain⟨u0,rfl⟩:=mP hl;rfl
 have U__law_spots:=jw (st:=s__law_spots) l__law_spots c__law_spots k__law_spots
 have B__law_spots:=U__law_spots.binds (ps:=["_law_feed_here","_law_least","_law_most"]) fun _ _ _ _ _ _ us hl=>by obtain⟨u0,u1,u2,rfl⟩:=qV hl;rfl
 have U__law_world:=jw (st:=s__law_world) l__law_world c__law_world k__law_world
 have B__law_world:=U__law_world.binds (ps:=["_law_feed_here","_law_least","_law_most"]) fun _ _ _ _ _ _ us hl=>by obtain⟨u0,u1,u2,rfl⟩:=qV hl;rfl
 have U__law_rises:=jw (st:=s__law_rises) l__law_rises c__law_rises k__law_rises
 have B__law_rises:=U__law_rises.binds (ps:=["_law_start","_law_end"]) fun _ _ _ _ _ _ us hl=>by obtain⟨u0,u1,rfl⟩:=lM hl;rfl
 have U_law:=jw (st:=s_law) l_law c_law k_law
 have TK_by_place:TabK K "by_place" f_by_place cda_by_place tp_by_place:=⟨a_by_place,⟨_,_,_,_,l_by_place,t0_by_place⟩,⟨_,_,_,_,_,_,_,_,_,t1_by_place,rfl,rfl,t2_by_place,t3_by_place,t4_by_place,t5_by_place,t6_by_place,t7_by_place⟩,t8_by_place,t9_by_place⟩
 refine⟨fun z hz=> ?_,?_⟩
 ·simp only[ao,ay,or_false] at hz;subst hz;exact⟨_,_,_,by simp,TK_by_place⟩
 refine⟨aK "law" "law" (jd s_law) (jb s_law) (iW s_law) .none kV_law dc_law pm_law an_law cd_law ct_law,fun s v=> .of_eq rfl,fun base X1 G1 B1=> ?_⟩;have F_divisor:FnB l.prog w K mg base (CXE l.prog w) 1 "divisor" ["one","other"] kh:= .of (ok_divisor U_divisor T) (aL X G a_divisor) k_divisor B_divisor
 have F_sign:FnB l.prog w K mg base (CXE l.prog w) 1 "sign" ["number"] pE:= .of (ok_sign U_sign T) (aL X G a_sign) k_sign B_sign
 have F_point_of:FnB l.prog w K mg base (CXE l.prog w) 2 "point_of" ["x","y","w"] kN:= .of (ok_point_of U_point_of T F_divisor F_sign) (aL X G a_point_of) k_point_of B_point_of
 have F_spot_point:FnB l.prog w K mg base (CXE l.prog w) 1 "spot_point" ["spot"] kb:= .of (ok_spot_point U_spot_point T) (aL X G a_spot_point) k_spot_point B_spot_point
 have F_ahead:FnB l.prog w K mg base (CXE l.prog w) 1 "ahead" ["one","other"] lF:= .of (ok_ahead U_ahead T) (aL X G a_ahead) k_ahead B_ahead
 have F_line_of:FnB l.prog w K mg base (CXE l.prog w) 2 "line_of" ["a","b","c"] lD:= .of (ok_line_of U_line_of T F_divisor) (aL X G a_line_of) k_line_of B_line_of
 have F_between:FnB l.prog w K mg base (CXE l.prog w) 3 "between" ["one","other"] lE:= .of (ok_between U_between T F_line_of) (aL X G a_between) k_between B_between
 have F_excess:FnB l.prog w K mg base (CXE l.prog w) 1 "excess" ["line","point"] lZ:= .of (ok_excess U_excess T) (aL X G a_excess) k_excess B_excess
 have F_check_box:FnB l.prog w K mg base (CXE l.prog w) 1 "check_box" ["box"] jT:= .of (ok_check_box U_check_box T) (aL X G a_check_box) k_check_box B_check_box
 have F_has_point:FnB l.prog w K mg base (CXE l.prog w) 1 "has_point" ["box","point"] kZ:= .of (ok_has_point U_has_point T) (aL X G a_has_point) k_has_point B_has_point
 have F_in_box:FnB l.prog w K mg base (CXE l.prog w) 2 "in_box" ["box","spot"] lY:= .of (ok_in_box U_in_box T F_spot_point F_has_point) (aL X G a_in_box) k_in_box B_in_box
 have F_check_count:FnB l.prog w K mg base (CXE l.prog w) 1 "check_count" ["spots"] jM:= .of (ok_check_count U_check_count T) (aL X G a_check_count) k_check_count B_check_count
 have F_check_spots:FnB l.prog w K mg base (CXE l.prog w) 2 "check_spots" ["spots"] (w6 K):= .of (ok_check_spots U_check_spots T F_check_count) (aL X G a_check_spots) k_check_spots B_check_spots
 have F_check_box_and_spots:FnB l.prog w K mg base (CXE l.prog w) 3 "check_box_and_spots" ["box","spots"] (sX K):= .of (ok_check_box_and_spots U_check_box_and_spots T F_in_box F_check_count F_check_box) (aL X G a_check_box_and_spots) k_check_box_and_spots B_check_box_and_spots
 have F_others_of:FnB l.prog w K mg base (CXE l.prog w) 1 "others_of" ["spots","number"] nB:= .of (ok_others_of U_others_of T) (aL X G a_others_of) k_others_of B_others_of
 have F_are_unlike:FnB l.prog w K mg base (CXE l.prog w) 1 "are_unlike" ["spots","numbers"] (nA K):= .of (ok_are_unlike U_are_unlike T) (aL X G a_are_unlike) k_are_unlike B_are_unlike
 have F_by_place:FnB l.prog w K mg base (CXE l.prog w) 2 "by_place" ["spots"] (mU K ⟨f_edge_before,cda_by_place,tp_by_place⟩):= .of (ok_by_place U_by_place T TK_by_place.lf (zK (tag:=tg_by_place) TK_by_place X1 G1 B1 (by simp))) (aL X G a_by_place) k_by_place B_by_place
 have F_box_field:FnB l.prog w K mg base (CXE l.prog w) 2 "box_field" ["box"] kA:= .of (ok_box_field U_box_field T F_check_box) (aL X G a_box_field) k_box_field B_box_field
 have F_crossing:FnB l.prog w K mg base (CXE l.prog w) 3 "crossing" ["one","other","here","there"] kP:= .of (ok_crossing U_crossing T F_point_of) (aL X G a_crossing) k_crossing B_crossing
 have F_rest:FnB l.prog w K mg base (CXE l.prog w) 4 "rest" ["corners","edges","excesses","number"] (rD K):= .of (ok_rest U_rest T F_crossing) (aL X G a_rest) k_rest B_rest
 have F_from_first:FnB l.prog w K mg base (CXE l.prog w) 2 "from_first" ["rows"] (kO K):= .of (ok_from_first U_from_first T F_ahead) (aL X G a_from_first) k_from_first B_from_first
 have F_cut:FnB l.prog w K mg base (CXE l.prog w) 5 "cut" ["field","line","number"] (sW K):= .of (ok_cut U_cut T F_rest F_from_first F_excess) (aL X G a_cut) k_cut B_cut
 have F_cut_each:FnB l.prog w K mg base (CXE l.prog w) 6 "cut_each" ["field","cuts"] (mC K):= .of (ok_cut_each U_cut_each T F_cut) (aL X G a_cut_each) k_cut_each B_cut_each
 have F_cut_off:FnB l.prog w K mg base (CXE l.prog w) 7 "cut_off" ["field","spots","number","others"] (nG K):= .of (ok_cut_off U_cut_off T F_between F_cut_each) (aL X G a_cut_off) k_cut_off B_cut_off
 have F_land_within:FnB l.prog w K mg base (CXE l.prog w) 8 "land_within" ["box","spots","number"] (mV K):= .of (ok_land_within U_land_within T F_others_of F_box_field F_cut_off) (aL X G a_land_within) k_land_within B_land_within
 have F_check_lot:FnB l.prog w K mg base (CXE l.prog w) 4 "check_lot" ["box","spots","lot"] (kQ K):= .of (ok_check_lot U_check_lot T F_are_unlike F_check_box_and_spots) (aL X G a_check_lot) k_check_lot B_check_lot
 have F_edge_before:FnB l.prog w K mg base (CXE l.prog w) 2 "edge_before" ["one","other"] (y6 K):= .of (ok_edge_before U_edge_before T F_ahead) (aL X G a_edge_before) k_edge_before B_edge_before
 have F_ordered:FnB l.prog w K mg base (CXE l.prog w) 3 "ordered" ["things","before"] (lC K ⟨f_edge_before,cda_by_place,tp_by_place⟩):= .of (ok_ordered U_ordered T F_edge_before) (aL X G a_ordered) k_ordered B_ordered
 have F_seam:FnB l.prog w K mg base (CXE l.prog w) 9 "seam" ["box","spots","lot"] (rC K ⟨f_edge_before,cda_by_place,tp_by_place⟩):= .of (ok_seam U_seam T F_ordered F_land_within F_check_lot) (aL X G a_seam) k_seam B_seam
 have F_halves:FnB l.prog w K mg base (CXE l.prog w) 3 "halves" ["spots"] (nF K ⟨f_edge_before,cda_by_place,tp_by_place⟩):= .of (ok_halves U_halves T F_by_place F_check_spots) (aL X G a_halves) k_halves B_halves
 have F__law_feed:FnB l.prog w K mg base (CXE l.prog w) 1 "_law_feed" ["_law_script"] (pF K):= .of (ok__law_feed U__law_feed T) (aL X G a__law_feed) k__law_feed B__law_feed
 have F__law_draw:FnB l.prog w K mg base (CXE l.prog w) 1 "_law_draw" ["_law_feed_here","_law_many"] jC:= .of (ok__law_draw U__law_draw T) (aL X G a__law_draw) k__law_draw B__law_draw
 have F__law_great:FnB l.prog w K mg base (CXE l.prog w) 2 "_law_great" ["_law_feed_here","_law_pieces"] mW:= .of (ok__law_great U__law_great T F__law_draw) (aL X G a__law_great) k__law_great B__law_great
 have F__law_scale:FnB l.prog w K mg base (CXE l.prog w) 3 "_law_scale" ["_law_feed_here"] mT:= .of (ok__law_scale U__law_scale T F__law_great F__law_draw) (aL X G a__law_scale) k__law_scale B__law_scale
 have F__law_spot:FnB l.prog w K mg base (CXE l.prog w) 2 "_law_spot" ["_law_feed_here","_law_style"] pz:= .of (ok__law_spot U__law_spot T F__law_draw) (aL X G a__law_spot) k__law_spot B__law_spot
 have F__law_dozen:FnB l.prog w K mg base (CXE l.prog w) 2 "_law_dozen" ["_law_feed_here"] mX:= .of (ok__law_dozen U__law_dozen T F__law_draw) (aL X G a__law_dozen) k__law_dozen B__law_dozen
 have F__law_spots:FnB l.prog w K mg base (CXE l.prog w) 3 "_law_spots" ["_law_feed_here","_law_least","_law_most"] (mS K):= .of (ok__law_spots U__law_spots T F__law_draw F__law_spot F__law_dozen) (aL X G a__law_spots) k__law_spots B__law_spots
 have F__law_world:FnB l.prog w K mg base (CXE l.prog w) 4 "_law_world" ["_law_feed_here","_law_least","_law_most"] (mR K):= .of (ok__law_world U__law_world T F__law_draw F__law_scale F__law_spots) (aL X G a__law_world) k__law_world B__law_world
 have F__law_rises:FnB l.prog w K mg base (CXE l.prog w) 1 "_law_rises" ["_law_start","_law_end"] lX:= .of (ok__law_rises U__law_rises T) (aL X G a__law_rises) k__law_rises B__law_rises
 exact ok_law U_law T F__law_rises F_seam F_halves F__law_world F__law_feed
end LW
end
theorem PySem.Challenge.cw_nearlands_k44_whole_seam_never_goes_down_holds : PySem.Challenge.rw_nearlands_k44_whole_seam_never_goes_down.Holds := by
 exact LW.early LW.all_mk
