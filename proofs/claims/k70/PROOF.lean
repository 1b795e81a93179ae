import PyProof.Rows.All
import Wide.All
import OpenK.AllK
import Wide.FinOn
import Lean
import PyProof.EqAt
import PyProof.EqKinds
import PyProof.TupleCall
import PyProof.ExcArgsOwn
import PyProof.ExcAttrAll.ValueError
import KE.KTryMore
import PyProof.NsDelKeeps
import PyProof.ExcBaseAll.ValueError
import KE.RegKTryMore
import KE.RegKIsAll
import KE.KRevSl
import PyProof.ZipIter
import PyProof.ExcClass3
import PyProof.ExcInit
import KE.KSuper
import PyProof.DictIter
import KE.KDictIter
import KE.KDictList
import PyProof.EnumStmt
import PyProof.WalksEnum
import PyProof.EnumMake
import PyProof.Rows.EnumRows
import PyProof.Rows.InDataRows
import PyProof.SumWalk
import PyProof.Rows.SeqCalls
import PyProof.WalksMore
import PyProof.Rows.SetFrom
import PyProof.SetRoads
import PyProof.Rows.TupMore
import PyProof.Rows.SortWalk
import PyProof.MaxThree
import PySem.Challenge.RW_nearlands_k70_far_lands_of_few
open List renaming getElem?_eq_getElem → aa, getElem?_eq_some_iff → ad, length_map → ae, mem_of_getElem? → ah, length_append → al, cons_append → am, map_append → au, mem_cons → av, getElem?_map → ax, mem_map → ay, length_take → aC, not_mem_nil → aD, getElem?_append_right → aH, map_cons → aJ, append_nil → aK, getElem?_append_left → aM, nil_append → aN, mem_append_left → aO, mem_append → aR, size_toArray → aS, length_drop → aV, take_length → aW, getElem?_of_mem → aX, replicate → aZ, mem_cons_of_mem → ba, nodup_append → bf, getD_eq_getElem?_getD → bq, replicate_succ → bB, length_cons → bC, take_succ → bD, nodup_cons → bE, getElem?_take_of_lt → bF, append_assoc → bG, mem_append_right → bK, getElem?_zip_eq_some → bL, mem_singleton → bO, length_nil → bQ, map_nil → bR, Nodup → bT, getElem?_eq_none → cg, flatMap_cons → cj, drop_eq_getElem_cons → ck, dropLast_concat_getLast → cr, getElem_inj → cz, lookup_cons → cB, getElem_mem → cE, flatten_cons → cF, flatMap_append → cH, cons → cJ, length_filter_le → cK, map_take → cM, mem_filter → cN, of_mem_zip → cO, forIn_cons → cP, take_of_length_le → cR, mem_cons_self → cT, mem_of_mem_take → cV, getElem?_cons_zero → cZ, getElem?_cons_succ → de, replicate_zero → df, getElem?_drop → dj, find?_cons → dr, mem_iff_getElem? → du, take_append_drop → dA, drop_zero → dJ, mem_flatMap → dN, cons_inj_right → dS, drop_succ_cons → dU, mem_filterMap → dY, getElem?_replicate → dZ, filter_append → ef, set_cons_zero → eh, set_cons_succ → eG, getElem?_set_self → eN, range → eO, length_range → eV, filter → eZ, mem_range → e8, length_singleton → fc, flatMap_nil → fh, getElem?_set_ne → fj, any_cons → fq, filterMap_cons → fz, length → fB, nodup_iff_pairwise_ne → fE, ext_getElem? → fS, map_drop → fT, dropLast → fV, getLast? → fW, drop_eq_nil_of_le → gg, head?_eq_getElem? → gh, length_pos_of_mem → gi, length_replicate → gl, getElem?_toArray → gq, length_zip → gr, reverse → gs, singleton_append → gt, range_succ → gx, mem_iff_getElem → gC, nodup_nil → gF, contains_cons → gM, zip_cons_cons → gO, append_of_mem → gP, take_sublist → gR, foldl → gS, map_map → gZ, all_eq_true → hV, getElem_zip → ii, drop_length → im, any_eq_true → io, filter_cons → ip, foldl_cons → iq, filter_nil → iB, all_cons → iG, map → iK
open PySem.W renaming Frag → ag, nsIn → az, keepIn → aA, codeIn → aB, mg_of → aF, fnOf → aG, findIn → bg, hideAll → bU, Looks → bW, mroIn → bZ, exmOne → b7, mg_none_of → b9, looks_findIn → cy, specialIn → dE, kitAny → dM, looks_mroIn → dP, takesIn → d7, alongIn → d8, excIn → ft, clsIn → fu, hideAll_get → fw, of_hideAll → fF, callWith_K → fG, methodObj → fR, cellsFrom_some → ge, funFrames_hide → gf, OpenLaw → gm, hideAll_none → gA, codeRec_of → gJ, isNs_of_in → gK, tail_of_in → gL, hasDictIn → gT, fnX → iw, exm_one → iy, tailIn → iC, nsOkIn → iD, WalkO → iH
open Int renaming gcd → aE, mul_pos → bp, mul_eq_zero → bu, zero_add → bH, gcd_eq_natAbs_gcd_natAbs → bI, mul_neg_of_pos_of_neg → bV, mul_le_mul_of_nonneg_right → bX, mul_zero → b8, mul_ediv_cancel_left → cf, mul_neg_of_neg_of_pos → cp, emod_lt_of_pos → cv, mul_lt_mul_of_pos_right → cx, le_refl → cG, emod_nonneg → cQ, eq_of_mul_eq_mul_right → cS, le_of_lt → cX, mul_nonneg → dg, mul_one → dl, ne_of_gt → dB, natAbs_dvd_natAbs → dC, dvd_trans → dG, lt_trichotomy → dH, gcd_eq_zero_iff → dQ, mul_nonneg_of_nonpos_of_nonpos → dX, lt_or_gt_of_ne → d9, cast_ofNat_Int → eJ, gcd_dvd_right → eU, zero_mul → fe, gcd_dvd_left → fg, mul_ediv_cancel' → fo, one_pos → fC, ediv_mul_cancel → fD, le_trans → fH, natAbs_natCast → fJ, pow_succ → fL, natAbs_mul → fO, eq_of_mul_eq_mul_left → fQ, eq_ofNat_of_zero_le → fX, neg_fdiv_neg → f6, add_zero → gu, mul_ne_zero → gw, gcd_mul_right → gU, mul_comm → gY, le_total → g9, gcd_mul_left → ie, dvd_coe_gcd → iz, one_mul → iA
open Nat renaming le_refl → aI, ne_of_lt → aQ, lt_of_lt_of_le → aT, lt_of_le_of_lt → aU, le_trans → bJ, lt_irrefl → cI, zero_le → cL, pow_le_pow_right → dI, mod_eq_of_lt → dO, lt_trans → dW, lt_succ_of_lt → eQ, sub_self → fK, zero_add → fM, eq_of_mul_eq_mul_left → fP, le_of_dvd → fY, lt_succ_self → fZ, le_of_lt → gj, not_lt_zero → gy, min_eq_left → gz, lt_or_eq_of_le → gN, lt_trichotomy → gV, ne_of_gt → gW, add_comm → gX, mod_self → hJ, succ_ne_self → hZ, gcd_mul_left → ig, min_eq_right → il, le_succ → ir
open Or renaming inl → aL, inr → fk
open PySem renaming Spec → aP, boot_len → bS, mem_of_lookup → cY, Builtin → fv, wpAt_of_wpAny → gH, call → iE, wpAt → iF, frameOf → iJ, Fin → iM
open Bool renaming false_ne_true → aY, and_eq_true → ci, false_eq_true → cu, not_eq_true' → dF, true_eq_false → eI, and_eq_true_iff → gB, false_and → gD, and_false → gE, eq_iff_iff → iu, false_or → iI, and_true → iL
open Option renaming some → bA, map_some → cm, isSome_iff_exists → cW, map_eq_some_iff → dh, isSome_some → di, join_some → fi, toList_some → fN, toList → gQ, getD_none → hU
open PySem.W.Looks renaming ld → cq
open Prod renaming ext → cU, mk → dR
open PyProof.Rows renaming callWith_type1 → dm
open Array renaming length_toList → gG, append_assoc → gI
set_option Elab.async false
set_option linter.all false
set_option maxRecDepth 100000
namespace L2
open PySem PySem.Spec PyProof.Rows
noncomputable abbrev Key:=Sum Int Str
noncomputable def ue:Key ->Value ->Bool
 | .inl k,v=>Value.isInt k v
 | .inr x,v=>Value.isStrOf x v
noncomputable def BG(w:World):Key ->Int
 | .inl k=>hashInt k
 | .inr x=>hashStr w x
theorem jN:∀{k:Key} {v:Value},ue k v=true ->(∃i t,k=Sum.inl i /\ v=Value.int i t)∨(∃x t,k=Sum.inr x /\ v=Value.str x t)
 | .inl i,v,h=>by
  obtain⟨t,e⟩:=Value.isInt_shape (k:=i) (v:=v) h
  exact .inl ⟨i,t,rfl,e⟩
 | .inr x,v,h=>by
  obtain⟨t,e⟩:=Value.isStrOf_shape (x:=x) (v:=v) h
  exact .inr ⟨x,t,rfl,e⟩
theorem vE(i:Int)(t:Tok):ue (.inl i) (.int i t)=true:=by simp[ue,Value.isInt]
theorem vD(x:Str)(t:Tok):ue (.inr x) (.str x t)=true:=by simp[ue,Value.isStrOf]
theorem AF(a b:Int):decide ((Sum.inl a:Key)=Sum.inl b)=(a==b):=by
 by_cases e:a=b
 ·subst e;simp
 ·have h:¬(Sum.inl a:Key)=Sum.inl b:=fun q=>e (Sum.inl.inj q)
  rw[decide_eq_false h];exact(beq_eq_false_iff_ne.mpr e).symm
theorem AC(a b:Str):decide ((Sum.inr a:Key)=Sum.inr b)=decide (a=b):=by
 by_cases e:a=b
 ·subst e;simp
 ·have h:¬(Sum.inr a:Key)=Sum.inr b:=fun q=>e (Sum.inr.inj q)
  rw[decide_eq_false h,decide_eq_false e]
theorem AE(a:Int)(b:Str):decide ((Sum.inl a:Key)=Sum.inr b)=false:=decide_eq_false (fun q=>nomatch q)
theorem AD(a:Str)(b:Int):decide ((Sum.inr a:Key)=Sum.inl b)=false:=decide_eq_false (fun q=>nomatch q)
noncomputable def jV(prog:Program)(w:World):PySem.KeyKind prog w Key where
 is:=ue
 hash:=BG w
 inj:=fun v a b ha hb=>by
  rcases jN ha with⟨i,t,rfl,rfl⟩|⟨x,t,rfl,rfl⟩
  ·rcases jN hb with⟨j,u,rfl,e⟩|⟨y,u,rfl,e⟩
   ·injection e with e1 _;rw[e1]
   ·exact nomatch e
  ·rcases jN hb with⟨j,u,rfl,e⟩|⟨y,u,rfl,e⟩
   ·exact nomatch e
   ·injection e with e1 _;rw[e1]
 byValue:=fun k v h=>by
  rcases jN h with⟨i,t,rfl,rfl⟩|⟨x,t,rfl,rfl⟩<;>rfl
 pyHash:=fun hv h=>by
  rcases jN hv with⟨i,t,rfl,rfl⟩|⟨x,t,rfl,rfl⟩
  ·exact wpAny_pyHash_int h
  ·exact wpAny_pyHash_str h
 eqBool:=fun hu hv h=>by
  rcases jN hu with⟨i,t,rfl,rfl⟩|⟨x,t,rfl,rfl⟩
  ·rcases jN hv with⟨j,u,rfl,rfl⟩|⟨y,u,rfl,rfl⟩
   ·rw[AF] at h;exact wpAny_eqBool_int h
   ·rw[AE] at h;exact SeqAt.EqAt.int_str i t y u _ _ _ _ h
  ·rcases jN hv with⟨j,u,rfl,rfl⟩|⟨y,u,rfl,rfl⟩
   ·rw[AD] at h;exact SeqAt.EqAt.str_int x t j u _ _ _ _ h
   ·rw[AC] at h;exact wpAny_eqBool_str h
 «strs»:=fun k x t v h=>by
  rcases jN h with⟨i,u,rfl,e⟩|⟨y,u,rfl,e⟩
  ·exact nomatch e
  ·injection e with e1 _
   subst e1;cases v<;>rfl
theorem rO(prog:Program)(w:World)(i:Int)(t:Tok):(jV prog w).is (.inl i) (.int i t)=true:=vE i t
theorem rN(prog:Program)(w:World)(x:Str)(t:Tok):(jV prog w).is (.inr x) (.str x t)=true:=vD x t
end L2
namespace L2
open PySem PySem.Spec PyProof.Rows
inductive V where
 |non|bl (b:Bool)|int (i:Int)|str (x:Str)|byt (b:Array UInt8)|flt (b:UInt64)|ref (a:Addr)|ty (n:String)
 deriving DecidableEq
noncomputable def RelV:V ->Value ->Prop
 | .non,u=>u=Value.none
 | .bl b,u=>u=Value.bool b
 | .int i,u=>∃t,u=Value.int i t
 | .str x,u=>∃t,u=Value.str x t
 | .byt b,u=>∃t,u=Value.bytes b t
 | .flt b,u=>∃t,u=Value.float b t
 | .ref a,u=>u=Value.ref a
 | .ty n,u=>u=Value.type n
noncomputable abbrev Vals:List V ->List Value ->Prop:=Paired RelV
theorem Vals.length{xs:List V}{us:List Value}(r:Vals xs us):xs.length=us.length:=Paired.length r
theorem Vals.get:∀{xs:List V} {us:List Value} {i:Nat} {x:V},Vals xs us ->xs[i]? =some x -> ∃u,us[i]? =some u /\ RelV x u
 |_,_,_,_,.nil,e=>by simp at e
 |_,_,0,_,.cons r _,e=>by simp at e;subst e;exact⟨_,rfl,r⟩
 |_,_,i+1,x,.cons _ t,e=>by
  obtain⟨u,h1,h2⟩:=Vals.get (i:=i) (x:=x) t (by simpa using e)
  exact⟨u,by simpa using h1,h2⟩
theorem Vals.append:∀{xs ys:List V} {us ws:List Value},Vals xs us ->Vals ys ws ->Vals (xs++ys) (us++ws)
 |_,_,_,_,.nil,s=>s
 |_,_,_,_,.cons r t,s=> .cons r (Vals.append t s)
theorem Vals.take:∀{xs:List V} {us:List Value} (n:Nat),Vals xs us ->Vals (xs.take n) (us.take n)
 |_,_,0,_=> .nil
 |_,_,_+1,.nil=> .nil
 |_,_,n+1,.cons r t=> .cons r (Vals.take n t)
theorem Vals.drop:∀{xs:List V} {us:List Value} (n:Nat),Vals xs us ->Vals (xs.drop n) (us.drop n)
 |_,_,0,r=>r
 |_,_,_+1,.nil=> .nil
 |_,_,n+1,.cons _ t=>Vals.drop n t
noncomputable def RelO:Option V ->Option Value ->Prop
 |some v,some u=>RelV v u
 |none,none=>True
 |_,_=>False
noncomputable def KV{κ:Type}:List (κ×V) ->List (κ×Value) ->Prop:=Paired fun(p:κ×V) (q:κ×Value)=>p.1=q.1 /\ RelV p.2 q.2
noncomputable def kV:Key ->V
 | .inl i=> .int i
 | .inr x=> .str x
inductive HO where
 |lst (xs:List V)
 |tup (xs:List V)
 |dK (kvs:List (Key×V))|dT (kvs:List (List Key×V))
 |set (S:Int ->Bool) (n:Nat)
 |ins (C dx:Addr) (fs:List (Str×V))
 |own (x:Addr)
 |xd (fs:List (Str×V))
 |met (f x:Addr)
 |rng (lo hi:Int)
 |frz (o:Obj) (u:HO)
 |tbl (ps:Array Value)
 |ext (φ:Heap ->Prop)
noncomputable abbrev Hp:=Addr ->Option HO
noncomputable def upd(H:Hp)(a:Addr)(o:HO):Hp:=fun b=>if b=a then some o else H b
theorem iQ{H:Hp}{a:Addr}{o:HO}:upd H a o a=some o:=by unfold upd;rw[if_pos rfl]
theorem jd{H:Hp}{a b:Addr}{o:HO}(h:b≠a):upd H a o b=H b:=by unfold upd;rw[if_neg h]
theorem uz{H:Hp}{a:Addr}{o u:HO}:upd (upd H a o) a u=upd H a u:=by
 funext b;unfold upd;split<;>rfl
theorem mR{H:Hp}{a b:Addr}{o u:HO}(h:H a=some o)(h':H b=some u)(d:o≠u):a≠b:=by
 intro e;subst e;rw[h] at h';exact d (bA.inj h')
theorem jm{H:Hp}{a b:Addr}{o:HO}(h:H a=some o)(h':H b=none):a≠b:=by
 intro e;subst e;rw[h] at h';cases h'
section
variable (P:Program) (w:World)
noncomputable def ObjOk(H:Hp)(h:Heap)(a:Addr):HO ->Prop
 | .lst xs=>xs.length<=sizeLine /\ ∃(its:List Value) (n:Nat),Vals xs its /\ h.get? a=some {cls:= .type "list",data:= .seq its.toArray n}
 | .tup xs=>xs.length<=sizeLine /\ ∃its:List Value,Vals xs its /\ IsTup h a its.toArray
 | .dK kvs=>kvs.length<=sizeLine /\ (a==sysModules)=false /\ ∃vs,KV kvs vs /\ h.DictOf (jV P w) a vs
 | .dT kvs=>kvs.length<=sizeLine /\ (a==sysModules)=false /\ ∃xs:List (List Key×Addr×Value),
   Paired (fun(p:List Key×V) (q:List Key×Addr×Value)=>p.1=q.1 /\ H q.2.1=some (.tup (p.1.map kV)) /\ RelV p.2 q.2.2) kvs xs /\
   ∃o es ep,h.get? a=some o /\ o.ExactDict /\ o.data= .dict es ep /\ es.toList=xs.map (entryOfKey (tupleKind (jV P w))) /\ (xs.map (·.1)).Nodup
 | .set S n=>h.SetOf (intKind P w) a S n
 | .ins C dx fs=>H dx=some (.own a) /\ fs.length<=1000 /\ dx≠a /\ h.get? a=some (PySem.W.instObj C dx) /\
   ∃mA,h.Ns1 dx mA /\ (∀f,RelO (fs.lookup f) (mA f)) /\ PySem.Within mA (fs.map (·.1))
 | .own _=>∃o,h.get? a=some o
 | .xd fs=>∃mA,h.Ns1 a mA /\ ∀f,RelO (fs.lookup f) (mA f)
 | .rng lo hi=>∃t u v,h.get? a=some {cls:= .type "range",data:= .fields #[.int lo t,.int hi u,.int 1 v]}
 | .frz o u=>h.get? a=some o /\ ObjOk H h a u
 | .tbl ps=>∃qs:Array Value,h.get? a=some {cls:= .none,data:= .fields qs} /\ (qs= #[]∨∃(c:Addr) (oc:Obj) (l d:Value) (q:Str) (t u:Tok) (vs:Array Value),
   ps= #[l,d,.str q t] /\ qs= #[l,d,.ref c] /\ H c=some (.frz oc (.own 0)) /\ oc.data= .fields vs /\ vs[1]? =some (.str q u))
 | .met f x=>h.get? a=some (fR (.ref f) (.ref x))
 | .ext φ=>φ h /\ (∃o,h.get? a=some o) /\ ∀h1 h2:Heap,φ h1 ->(∀o,h1.get? a=some o ->h2.get? a=some o) ->φ h2
noncomputable def HOk(H:Hp)(h:Heap):Prop:=∀a o,H a=some o ->ObjOk P w H h a o
end
section
variable {P:Program} {w:World} {H H':Hp} {h h':Heap} {a:Addr} {o:HO}
theorem ObjOk.lt(x:ObjOk P w H h a o):a<h.objs.size:=by
 cases o with
 |lst xs=>obtain⟨_,_,_,_,e⟩:=x;exact Heap.lt_size e
 |tup xs=>obtain⟨_,_,_,p⟩:=x;exact p.lt
 |dK kvs=>obtain⟨_,_,_,_,o,_,_,e,_⟩:=x;exact Heap.lt_size e
 |dT kvs=>obtain⟨_,_,_,_,o,_,_,e,_⟩:=x;exact Heap.lt_size e
 |set S n=>obtain⟨o,_,_,_,e,_⟩:=x;exact Heap.lt_size e
 |ins C dx fs=>obtain⟨_,_,_,e,_⟩:=x;exact Heap.lt_size e
 |own y=>obtain⟨_,e⟩:=x;exact Heap.lt_size e
 |xd fs=>obtain⟨_,⟨_,_,_,e,_⟩,_⟩:=x;exact Heap.lt_size e
 |rng lo hi=>obtain⟨_,_,_,e⟩:=x;exact Heap.lt_size e
 |frz ob u=>obtain⟨e,_⟩:=x;exact Heap.lt_size e
 |tbl ps=>obtain⟨_,e,_⟩:=x;exact Heap.lt_size e
 |met f y=>exact Heap.lt_size (show h.get? a=some _ from x)
 |ext φ=>obtain⟨_,⟨_,e⟩,_⟩:=x;exact Heap.lt_size e
theorem Paired.mapP{α β:Type}{F G:α ->β ->Prop}:∀{l₁:List α} {l₂:List β},Paired F l₁ l₂ ->(∀a b,F a b ->G a b) ->Paired G l₁ l₂
 |_,_,.nil,_=> .nil
 |_,_,.cons r t,f=> .cons (f _ _ r) (Paired.mapP t f)
noncomputable def Ae:HO ->Bool
 | .tup _=>true
 | .frz _ _=>true
 |_=>false
noncomputable abbrev AX:={o:HO //Ae o=true}
theorem ObjOk.stay(x:ObjOk P w H h a o)(k:∀b u,(b=a∨H b=some (.own a)) ->h.get? b=some u ->h'.get? b=some u)
  (ho:∀b,H b=some (.own a) ->H' b=some (.own a)) (ht:∀(b:Addr) (xs:AX),H b=some xs.1 ->H' b=some xs.1):ObjOk P w H' h' a o:=by
 induction o with
 |lst xs=>obtain⟨z,its,n,r,e⟩:=x;exact⟨z,its,n,r,k _ _ (.inl rfl) e⟩
 |tup xs=>obtain⟨z,its,r,ob,e,c⟩:=x;exact⟨z,its,r,ob,k _ _ (.inl rfl) e,c⟩
 |dK kvs=>obtain⟨z,y,vs,r,ob,es,ep,e,c⟩:=x;exact⟨z,y,vs,r,ob,es,ep,k _ _ (.inl rfl) e,c⟩
 |dT kvs=>
  obtain⟨z,y,xs,r,ob,es,ep,e,c⟩:=x
  exact⟨z,y,xs,Paired.mapP r fun p q z=>⟨z.1,ht _ ⟨.tup _,rfl⟩ z.2.1,z.2.2⟩,ob,es,ep,k _ _ (.inl rfl) e,c⟩
 |set S n=>obtain⟨ob,es,ep,t,e,c⟩:=x;exact⟨ob,es,ep,t,k _ _ (.inl rfl) e,c⟩
 |ins C dx fs=>
  obtain⟨d,z,ne,e,mA,⟨od,es,ep,e2,c⟩,r⟩:=x
  exact⟨ho _ d,z,ne,k _ _ (.inl rfl) e,mA,⟨od,es,ep,k _ _ (.inr d) e2,c⟩,r⟩
 |own y=>obtain⟨ob,e⟩:=x;exact⟨ob,k _ _ (.inl rfl) e⟩
 |xd fs=>obtain⟨mA,⟨od,es,ep,e,c⟩,r⟩:=x;exact⟨mA,⟨od,es,ep,k _ _ (.inl rfl) e,c⟩,r⟩
 |rng lo hi=>obtain⟨t,u,v,e⟩:=x;exact⟨t,u,v,k _ _ (.inl rfl) e⟩
 |frz ob u ih=>obtain⟨e,q⟩:=x;exact⟨k _ _ (.inl rfl) e,ih q⟩
 |tbl ps=>
  obtain⟨qs,e,z⟩:=x
  refine⟨qs,k _ _ (.inl rfl) e,z.imp id fun⟨c,oc,l,d,q,t,u,vs,e1,e2,e3,e4⟩=>⟨c,oc,l,d,q,t,u,vs,e1,e2,ht c ⟨.frz oc (.own 0),rfl⟩ e3,e4⟩⟩
 |met f y=>
  have e:h.get? a=some (fR (.ref f) (.ref y)):=x
  show h'.get? a=some (fR (.ref f) (.ref y))
  exact k a _ (.inl rfl) e
 |ext φ=>obtain⟨p,⟨o,e⟩,st⟩:=x;exact⟨st _ _ p fun o q=>k _ _ (.inl rfl) q,⟨o,k _ _ (.inl rfl) e⟩,st⟩
theorem HOk.lt(x:HOk P w H h)(e:H a=some o):a<h.objs.size:=(x a o e).lt
theorem HOk.fresh(x:HOk P w H h)(e:h.objs.size<=a):H a=none:=by
 cases q:H a with
 |none=>rfl
 |some u=>exact absurd (aT (x.lt q) e) (cI _)
theorem HOk.kept(x:HOk P w H h)(k:∀b u,h.get? b=some u ->h'.get? b=some u):HOk P w H h':=fun a o e=>
 (x a o e).stay (fun b u _ q=>k b u q) (fun _ q=>q) fun _ _ q=>q
theorem HOk.laid(x:HOk P w H h)(k:∀b u,h.get? b=some u ->h'.get? b=some u)(hp:h.objs.size<=a)(new:ObjOk P w (upd H a o) h' a o):HOk P w (upd H a o) h':=fun b u e=>by
 have hn:=x.fresh hp
 by_cases hb:b=a
 ·subst hb;rw[iQ] at e;cases e;exact new
 ·rw[jd hb] at e;exact(x b u e).stay (fun c v _ q=>k c v q) (fun c q=>by rw[jd (jm q hn)];exact q) fun c xs q=>by rw[jd (jm q hn)];exact q
end
noncomputable def Rd(H:Hp)(a:Addr)(u:HO):Prop:=H a=some u∨∃o,H a=some (.frz o u)
theorem Rd.of{H:Hp}{a:Addr}{u:HO}(h:H a=some u):Rd H a u:= .inl h
theorem Rd.ok{P:Program}{w:World}{H:Hp}{h:Heap}{a:Addr}{u:HO}(r:Rd H a u)(x:HOk P w H h):ObjOk P w H h a u:=by
 rcases r with r|⟨o,r⟩
 ·exact x a u r
 ·obtain⟨_,q⟩:=x a _ r
  exact q
noncomputable def Mut:Option HO ->Prop
 |some (.lst _)=>True
 |some (.dK _)=>True
 |some (.dT _)=>True
 |some (.set _ _)=>True
 |some (.ins _ _ _)=>True
 |some (.ext _)=>True
 |_=>False
section
variable {P:Program} {w:World} {H:Hp} {h h':Heap} {x e:Addr} {o':HO}
theorem HOk.write(ok:HOk P w H h)(mu:Mut (H x))(he:e=x∨H e=some (.own x))(k:∀b u,b≠e ->h.get? b=some u ->h'.get? b=some u)(heo:∃u,h'.get? e=some u)
  (new:ObjOk P w (upd H x o') h' x o'):HOk P w (upd H x o') h':=fun b u q=>by
 have nown:∀c y,H c=some (.own y) ->c≠x:=fun c y r z=>by subst z;rw[r] at mu;exact mu
 have ntup:∀c (xs:AX),H c=some xs.1 ->c≠x:=fun c xs r z=>by
  subst z;rw[r] at mu;obtain⟨o,ho⟩:=xs
  cases o<;>first|exact mu|cases ho
 by_cases hb:b=x
 ·subst hb;rw[iQ] at q;cases q;exact new
 ·rw[jd hb] at q
  by_cases hbe:b=e
  ·have q':H b=some (.own x):=by
    rcases he with z|z
    ·exact absurd (hbe.trans z) hb
    ·rw[hbe];exact z
   rw[q] at q';cases q';obtain⟨v,hv⟩:=heo
   exact⟨v,by rw[hbe];exact hv⟩
  ·refine(ok b u q).stay (fun c v hc r=>k c v ?_ r) (fun c r=>by rw[jd (nown c b r)];exact r) fun c xs r=>by rw[jd (ntup c xs r)];exact r
   rcases hc with rfl|hc
   ·exact hbe
   ·rintro rfl;rcases he with z|z
    ·exact nown c b hc z
    ·rw[hc] at z;cases z;exact hb rfl
end
structure Un(fs ex:List Addr)(H H':Hp)(h h':Heap):Prop where
 keep:∀b o,h.get? b=some o ->H b=none ->b∉fs ->b∉ex ->h'.get? b=some o
 slot:∀b o,h.get? b=some o ->H b=none ->b∈fs ->b∉ex -> ∃sl,h'.get? b=some {o with slots:=sl}
 free:∀b o,h.get? b=some o ->H b=none ->b∉ex ->H' b=none
 there:∀b o,h.get? b=some o ->b∉ex -> ∃o',h'.get? b=some o'
 tups:∀b xs,H b=some (.tup xs) ->H' b=some (.tup xs)
 frzs:∀b o u,H b=some (.frz o u) ->H' b=some (.frz o u)
 tbls:∀b ps,H b=some (.tbl ps) -> ∃more,H' b=some (.tbl (ps++more))
section
variable {fs fs' ex ex':List Addr} {H H1 H2:Hp} {h h1 h2 h':Heap} {a x e:Addr} {o:HO}
theorem Un.any(u:Un fs ex H H1 h h1){b:Addr}{ob:Obj}(q:h.get? b=some ob)(n:H b=none)(hx:b∉ex):∃sl,h1.get? b=some {ob with slots:=sl}:=by
 by_cases hb:b∈fs
 ·exact u.slot b ob q n hb hx
 ·exact⟨ob.slots,u.keep b ob q n hb hx⟩
theorem Un.kept(k:∀b u,h.get? b=some u ->h'.get? b=some u):Un fs ex H H h h':=
 ⟨fun b ob q _ _ _=>k b ob q,fun b ob q _ _ _=>⟨ob.slots,k b ob q⟩,fun _ _ _ n _=>n,fun b ob q _=>⟨ob,k b ob q⟩,fun _ _ q=>q,fun _ _ _ q=>q,fun _ ps q=>⟨#[],by rw[q];simp⟩⟩
theorem Un.refl:Un fs ex H H h h:=Un.kept fun _ _ q=>q
theorem Un.laid(k:∀b u,h.get? b=some u ->h'.get? b=some u)(hp:h.objs.size<=a)(hn:H a=none):Un fs ex H (upd H a o) h h' where
 keep:=fun b u q _ _ _=>k b u q
 slot:=fun b u q _ _ _=>⟨u.slots,k b u q⟩
 free:=fun b u q n _=>by rw[jd (aQ (aT (Heap.lt_size q) hp))];exact n
 there:=fun b u q _=>⟨u,k b u q⟩
 tups:=fun b xs q=>by rw[jd (jm q hn)];exact q
 frzs:=fun b u xs q=>by rw[jd (jm q hn)];exact q
 tbls:=fun b ps q=>⟨#[],by rw[jd (jm q hn),q];simp⟩
theorem Un.write(mu:Mut (H x))(he:e=x∨H e=some (.own x))(k:∀b u,b≠e ->h.get? b=some u ->h'.get? b=some u)(heo:∃u,h'.get? e=some u):Un fs ex H (upd H x o) h h':=by
 have hx:∀b,H b=none ->b≠x:=fun b n z=>by subst z;rw[n] at mu;exact mu
 have hb:∀b,H b=none ->b≠e:=fun b n z=>by
  subst z;rcases he with r|r
  ·exact hx b n r
  ·rw[n] at r;cases r
 have hm:∀b u,H b=some u -> ¬Mut (some u) ->b≠x:=fun b u q nm z=>by subst z;rw[q] at mu;exact nm mu
 refine⟨fun b u q n _ _=>k b u (hb b n) q,fun b u q n _ _=>⟨u.slots,k b u (hb b n) q⟩,fun b u q n _=>by rw[jd (hx b n)];exact n,fun b u q _=> ?_,
  fun b xs q=>by rw[jd (hm b _ q fun z=>z)];exact q,fun b u xs q=>by rw[jd (hm b _ q fun z=>z)];exact q,fun b ps q=>⟨#[],by rw[jd (hm b _ q fun z=>z),q];simp⟩⟩
 by_cases hbe:b=e
 ·subst hbe;exact heo
 ·exact⟨u,k b u hbe q⟩
end
noncomputable def trk(h:Heap)(H:Hp):List Addr:=(eO h.objs.size).filter fun a=>(H a).isSome
noncomputable def wU(h:Heap)(H:Hp):Heap:=bU h (trk h H)
theorem vI(h:Heap)(H:Hp):(wU h H).objs.size=h.objs.size:=PySem.W.hideAll_size _ _
theorem wT{h:Heap}{H:Hp}{b:Addr}{o:Obj}(e:h.get? b=some o)(n:H b=none):(wU h H).get? b=some o:=
 fw _ e fun hm=>by
  have q:(H b).isSome=true:=(cN.mp hm).2
  rw[n] at q;simp at q
theorem yL{h:Heap}{H:Hp}{b:Addr}{o:Obj}(e:(wU h H).get? b=some o):h.get? b=some o /\ H b=none:=by
 have e':h.get? b=some o:=fF (trk h H) e
 refine⟨e',?_⟩;cases q:H b with
 |none=>rfl
 |some x=>
  have hm:b∈trk h H:=cN.mpr ⟨e8.mpr (Heap.lt_size e'),by simp[q]⟩
  have z:(wU h H).get? b=none:=gA (trk h H) hm
  rw[z] at e;cases e
end L2
namespace L2
open PySem PySem.Spec PyProof.Rows
structure Mod(K:ag)(mg:Str ->Option Value)(base:Heap):Prop where
 kin:K.In base
 glob:base.Ns mainGlobals mg
 blt:∃mb,base.Ns builtinsNs mb /\ ∀x:Str,x≠"__name__" ->mb x=bootBuiltins x
 nolimit:base.NoLimit
structure Cx where
 prog:Program
 w:World
 K:ag
 mg:Str ->Option Value
 base:Heap
 A:Around
 N:List Str
 s₀:Shared
 H₀:Hp
 env:Env
 outer:List Env
 stack:List Env
 ex:List Addr
 fn:Str ->Bool
 calm:Bool
 pn:List (Addr×Obj)
 xe:Value ->Shared ->Prop
noncomputable def frs(l:List Env):List Addr:=l.filterMap (·.frame)
noncomputable abbrev Cx.fs(X:Cx):List Addr:=frs X.outer
noncomputable def Vis(sc:Scope)(x:Str):Prop:=sc.names.lookup x=some .local∨sc.names.lookup x=some .cell∨sc.names.lookup x=some .free
noncomputable def Loc(sc:Scope)(x:Str):Prop:=sc.names.lookup x=some .local∨sc.names.lookup x=some .cell
noncomputable def BK(env:Env)(h:Heap)(m:Str ->Option Value)(x:Str)(u:Value):Prop:=
 (env.kindOf x=some .local /\ m x=some u)∨((env.kindOf x=some .cell∨env.kindOf x=some .free) /\ ∃c,env.cells.lookup x=some c /\ h.IsCell c (some u))
structure Cx.Ok(X:Cx):Prop where
 mod:Mod X.K X.mg X.base
 kind:X.env.scope.kind= .function
 glob:X.env.globals=mainGlobals
 blt:X.env.builtins=builtinsNs
 above:X.s₀.heap.objs.size<=X.env.locals
 inj:∀x y c,X.env.cells.lookup x=some c ->X.env.cells.lookup y=some c ->x=y
 has:∀x,(X.env.kindOf x=some .cell∨X.env.kindOf x=some .free) -> ∃c,X.env.cells.lookup x=some c
 cab:∀x c,X.fn x=true ->X.env.cells.lookup x=some c ->X.s₀.heap.objs.size<=c
 hd:X.calm=true ->X.A.handled=none
 frames:X.A.frames=some X.stack
 stk:X.stack=X.outer∨(X.stack=X.env::X.outer /\ X.env.frame=some X.env.locals)
 exf:∀b∈X.ex,b≠X.env.locals /\ ∀x c,X.env.cells.lookup x=some c ->c≠b
 bs:∀b o,X.base.get? b=some o ->X.s₀.heap.get? b=some o /\ X.H₀ b=none
 bsz:X.base.objs.size<=X.s₀.heap.objs.size
 noex:∀b o,X.base.get? b=some o ->b∉X.ex
 exfs:∀b∈X.ex,b∉X.fs
 funs:X.s₀.heap.FunFrames X.base X.outer
 frf:∀b∈X.fs,X.H₀ b=none
structure Inv(X:Cx)(pins:List (Addr×Obj))(σ:List (Option V))(H:Hp)(s:Shared):Prop where
 ok:X.Ok
 os:s.os=X.s₀.os
 bare:AllBare s.gens
 base:Un X.fs X.ex X.H₀ H X.s₀.heap s.heap
 loc:∃m,s.heap.Ns X.env.locals m /\ ∀(i:Nat) (x:Str) (v:V),X.N[i]? =some x ->σ[i]? =some (some v) ->Vis X.env.scope x -> ∃u,RelV v u /\ BK X.env s.heap m x u
 cell:∀x c,X.env.cells.lookup x=some c -> ∃v,s.heap.IsCell c v
 free:H X.env.locals=none
 freeC:∀x c,X.env.cells.lookup x=some c ->H c=none
 pin:∀p∈X.pn++pins,s.heap.get? p.1=some p.2 /\ H p.1=none /\ p.1≠X.env.locals /\ p.1∉X.fs /\ ∀v,p.2.data≠ .cell v
 hok:HOk X.prog X.w H s.heap
 len:σ.length=X.N.length
section
variable {X:Cx} {pins:List (Addr×Obj)} {σ:List (Option V)} {H H':Hp} {s:Shared} {h':Heap}
theorem Cx.Ok.nofr(ok:X.Ok){b:Addr}{o:Obj}(e:X.base.get? b=some o):b∉X.fs:=fun hb=>by
 have:=(ok.funs.mem hb).1
 rw[e] at this;cases this
theorem Inv.bs(I:Inv X pins σ H s):∀b o,X.base.get? b=some o ->s.heap.get? b=some o /\ H b=none:=fun b o e=>
 ⟨I.base.keep b o (I.ok.bs b o e).1 (I.ok.bs b o e).2 (I.ok.nofr e) (I.ok.noex b o e),I.base.free b o (I.ok.bs b o e).1 (I.ok.bs b o e).2 (I.ok.noex b o e)⟩
theorem Inv.bk(I:Inv X pins σ H s):∀b o,X.base.get? b=some o ->s.heap.get? b=some o:=fun b o e=>(I.bs b o e).1
theorem Inv.mod(I:Inv X pins σ H s):Mod X.K X.mg X.base:=I.ok.mod
theorem Inv.kIn(I:Inv X pins σ H s):X.K.In s.heap:=I.ok.mod.kin.keeps I.bk
theorem Inv.lt(I:Inv X pins σ H s):X.env.locals<s.heap.objs.size:=let⟨_,hn,_⟩:=I.loc;hn.lt
theorem Inv.sz(I:Inv X pins σ H s):X.s₀.heap.objs.size<=s.heap.objs.size:=bJ I.ok.above (gj I.lt)
theorem Inv.nofs(I:Inv X pins σ H s){a:Addr}(h:s.heap.objs.size<=a):a∉X.fs:=fun hb=>by
 obtain⟨_,o,ho,_⟩:=I.ok.funs.mem hb
 exact absurd (aT (Heap.lt_size ho) (bJ I.sz h)) (cI _)
theorem Inv.cne(I:Inv X pins σ H s):∀x c,X.env.cells.lookup x=some c ->c≠X.env.locals:=fun x c e z=>by
 obtain⟨v,o,ho,hd⟩:=I.cell x c e
 obtain⟨m,⟨o',es,ep,ho',hd',_⟩,_⟩:=I.loc
 rw[z,ho'] at ho;cases ho;rw[hd'] at hd;cases hd
theorem Inv.funs(I:Inv X pins σ H s):s.heap.FunFrames X.base X.outer:=by
 have all:∀(l:List Env),(∀b∈frs l,b∈X.fs) ->X.s₀.heap.FunFrames X.base l ->s.heap.FunFrames X.base l:=by
  intro l
  induction l with
  |nil=>intro _ _;trivial
  |cons env r ih=>
   intro hs hl;obtain⟨hk,⟨L,o,hf,hn,ho,hd⟩,hr⟩:=hl
   have hL:L∈X.fs:=hs L (by unfold frs;rw[fz,hf];exact cT)
   obtain⟨sl,e⟩:=I.base.slot L o ho (I.ok.frf L hL) hL fun z=>I.ok.exfs L z hL
   exact⟨hk,⟨L,_,hf,hn,e,hd⟩,ih (fun b hb=>hs b (by unfold frs;rw[fz,hf];exact ba _ hb)) hr⟩
 exact all X.outer (fun _ hb=>hb) I.ok.funs
theorem Inv.stack(I:Inv X pins σ H s):s.heap.FunFrames X.base X.stack:=by
 rcases I.ok.stk with e|⟨e,hf⟩
 ·rw[e];exact I.funs
 ·rw[e];obtain⟨m,hn,_⟩:=I.loc
  refine .cons (by rw[I.ok.kind];decide) hf hn ?_ I.funs
  exact Heap.get?_none_of_le (bJ I.ok.bsz I.ok.above)
theorem Inv.stkSub(I:Inv X pins σ H s):∀b∈frs X.stack,b∈X.env.locals::X.fs:=fun b hb=>by
 rcases I.ok.stk with e|⟨e,hf⟩
 ·rw[e] at hb;exact ba _ hb
 ·rw[e] at hb;unfold frs at hb;rw[fz,hf] at hb;exact hb
theorem Inv.stkFree(I:Inv X pins σ H s):∀b∈frs X.stack,H b=none:=fun b hb=>by
 rcases av.mp (I.stkSub b hb) with e|hb
 ·rw[e];exact I.free
 ·obtain⟨_,o,ho,_⟩:=I.ok.funs.mem hb
  exact I.base.free b o ho (I.ok.frf b hb) fun z=>I.ok.exfs b z hb
theorem Inv.step{g':Array GenState}{t':Nat}{d':Drawn}{ch:List Addr}(I:Inv X pins σ H s)
  (hch:∀b∈ch,(b∈X.ex∨X.s₀.heap.objs.size<=b) /\ b≠X.env.locals /\ (∀x c,X.env.cells.lookup x=some c ->c≠b) /\ ∀p∈X.pn++pins,p.1≠b)
  (keep:∀b o,b≠X.env.locals ->b∉X.fs ->b∉ch ->s.heap.get? b=some o ->H b=none ->h'.get? b=some o)
  (slot:∀b o,b≠X.env.locals ->b∈X.fs ->b∉ch ->s.heap.get? b=some o ->H b=none -> ∃sl,h'.get? b=some {o with slots:=sl}) (free:∀b o,b∉ch ->s.heap.get? b=some o ->H b=none ->H' b=none)
  (there:∀b o,b∉ch ->s.heap.get? b=some o -> ∃o',h'.get? b=some o')
  (tups:∀b xs,H b=some (.tup xs) ->H' b=some (.tup xs)) (frzs:∀b o u,H b=some (.frz o u) ->H' b=some (.frz o u)) (tbls:∀b ps,H b=some (.tbl ps) -> ∃more,H' b=some (.tbl (ps++more)))
  (ns:∀m,s.heap.Ns X.env.locals m ->h'.Ns X.env.locals m) (hok:HOk X.prog X.w H' h') (hg:AllBare g'):
  Inv X pins σ H' {s with heap:=h',gens:=g',drawn:=d',toks:=t'}:=by
 have neL:∀b o,X.s₀.heap.get? b=some o ->b≠X.env.locals:=fun b o e=>aQ (aT (Heap.lt_size e) I.ok.above)
 have neC:∀b o,X.s₀.heap.get? b=some o ->b∉X.ex ->b∉ch:=fun b o e hx hb=>by
  rcases(hch b hb).1 with z|z
  ·exact hx z
  ·exact absurd (aT (Heap.lt_size e) z) (cI _)
 have cellK:∀x c,X.env.cells.lookup x=some c -> ∀v,s.heap.IsCell c v ->h'.IsCell c v:=fun x c e v ⟨o,ho,hd⟩=>by
  have nch:c∉ch:=fun z=>(hch c z).2.2.1 x c e rfl
  by_cases hc:c∈X.fs
  ·obtain⟨sl,q⟩:=slot c o (I.cne x c e) hc nch ho (I.freeC x c e)
   exact⟨_,q,hd⟩
  ·exact⟨o,keep c o (I.cne x c e) hc nch ho (I.freeC x c e),hd⟩
 refine⟨I.ok,I.os,hg,⟨fun b o e n hb hx=> ?_,fun b o e n hb hx=> ?_,fun b o e n hx=> ?_,fun b o e hx=> ?_,fun b xs e=>tups b xs (I.base.tups b xs e),fun b o xs e=>frzs b o xs (I.base.frzs b o xs e),fun b ps e=> ?_⟩,?_,fun x c e=> ?_,?_,fun x c e=> ?_,fun p hp=> ?_,hok,I.len⟩
 ·exact keep b o (neL b o e) hb (neC b o e hx) (I.base.keep b o e n hb hx) (I.base.free b o e n hx)
 ·obtain⟨sl,e1⟩:=I.base.slot b o e n hb hx
  obtain⟨sl',e2⟩:=slot b _ (neL b o e) hb (neC b o e hx) e1 (I.base.free b o e n hx)
  exact⟨sl',e2⟩
 ·obtain⟨o',e1⟩:=I.base.there b o e hx
  exact free b o' (neC b o e hx) e1 (I.base.free b o e n hx)
 ·obtain⟨o',e1⟩:=I.base.there b o e hx
  exact there b o' (neC b o e hx) e1
 ·obtain⟨m1,e1⟩:=I.base.tbls b ps e
  obtain⟨m2,e2⟩:=tbls b _ e1
  exact⟨m1++m2,by rw[e2,gI]⟩
 ·obtain⟨m,hn,hl⟩:=I.loc
  refine⟨m,ns m hn,fun i x v e1 e2 e3=> ?_⟩;obtain⟨u,r,l⟩:=hl i x v e1 e2 e3
  refine⟨u,r,?_⟩;rcases l with l|⟨k,c,e,z⟩
  ·exact .inl l
  ·exact .inr ⟨k,c,e,cellK x c e _ z⟩
 ·obtain⟨v,z⟩:=I.cell x c e
  exact⟨v,cellK x c e v z⟩
 ·obtain⟨m,⟨o,_,_,ho,_⟩,_⟩:=I.loc
  exact free _ o (fun z=>(hch _ z).2.1 rfl) ho I.free
 ·obtain⟨v,o,ho,hd⟩:=I.cell x c e
  exact free c o (fun z=>(hch c z).2.2.1 x c e rfl) ho (I.freeC x c e)
 ·obtain⟨e,n,ne,nf,d⟩:=I.pin p hp
  have nch:p.1∉ch:=fun z=>(hch p.1 z).2.2.2 p hp rfl
  exact⟨keep p.1 p.2 ne nf nch e n,free p.1 p.2 nch e n,ne,nf,d⟩
theorem Inv.un{t':Nat}(I:Inv X pins σ H s)(u:Un X.fs [] H H' s.heap h')(hok:HOk X.prog X.w H' h'):Inv X pins σ H' {s with heap:=h',toks:=t'}:=by
 obtain⟨m,⟨o,es,ep,ho,r⟩,_⟩:=id I.loc
 obtain⟨sl,hL⟩:=u.any ho I.free (by simp)
 exact I.step (g':=s.gens) (d':=s.drawn) (ch:=[]) (fun _ z=>nomatch z) (fun b o _ hb _ e n=>u.keep b o e n hb (by simp)) (fun b o _ hb _ e n=>u.slot b o e n hb (by simp)) (fun b o _ e n=>u.free b o e n (by simp)) (fun b o _ e=>u.there b o e (by simp)) u.tups u.frzs u.tbls (fun m' hm=>by
  obtain⟨o',es',ep',ho',r'⟩:=hm
  rw[ho] at ho';cases ho';exact⟨_,es',ep',hL,r'⟩) hok I.bare
theorem Inv.call{g':Array GenState}{t':Nat}{d':Drawn}{ch:List Addr}(I:Inv X pins σ H s)(u:Un (frs X.stack) ch H H' s.heap h')(hok:HOk X.prog X.w H' h')(hg:AllBare g')
  (hch:∀b∈ch,(b∈X.ex∨X.s₀.heap.objs.size<=b) /\ b≠X.env.locals /\ (∀x c,X.env.cells.lookup x=some c ->c≠b) /\ ∀p∈X.pn++pins,p.1≠b):
  Inv X pins σ H' {s with heap:=h',gens:=g',drawn:=d',toks:=t'}:=by
 obtain⟨m,⟨o,es,ep,ho,r⟩,_⟩:=id I.loc
 obtain⟨sl,hL⟩:=u.any ho I.free fun z=>(hch _ z).2.1 rfl
 exact I.step (ch:=ch) hch (fun b o hL hb hc e n=>u.keep b o e n (fun z=>(av.mp (I.stkSub b z)).elim hL hb) hc) (fun b o _ _ hc e n=>u.any e n hc) (fun b o hc e n=>u.free b o e n hc) (fun b o hc e=>u.there b o e hc) u.tups u.frzs u.tbls (fun m' hm=>by
  obtain⟨o',es',ep',ho',r'⟩:=hm
  rw[ho] at ho';cases ho';exact⟨_,es',ep',hL,r'⟩) hok hg
theorem Inv.turned{t':Nat}{it:Addr}(I:Inv X pins σ H s)(k:∀b o,b≠it ->s.heap.get? b=some o ->h'.get? b=some o)(hn:H it=none)(hL:it≠X.env.locals)
  (h1:it∈X.ex∨X.s₀.heap.objs.size<=it) (h2:∀x c,X.env.cells.lookup x=some c ->c≠it) (h3:∀p∈X.pn++pins,p.1≠it):Inv X pins σ H {s with heap:=h',toks:=t'}:=by
 have nit:∀b u,H b=some u ->b≠it:=fun b u e z=>by rw[z,hn] at e;cases e
 refine I.step (g':=s.gens) (d':=s.drawn) (ch:=[it]) (fun b hb=> ?_) (fun b o _ _ hc e _=>k b o (fun z=>hc (by simp[z])) e) (fun b o _ _ hc e _=>⟨o.slots,k b o (fun z=>hc (by simp[z])) e⟩) (fun _ _ _ _ n=>n)
  (fun b o hc e=>⟨o,k b o (fun z=>hc (by simp[z])) e⟩) (fun _ _ e=>e) (fun _ _ _ e=>e) (fun b ps e=>⟨#[],by rw[e];simp⟩) (fun m hm=> ?_) (fun b u e=> ?_) I.bare
 ·have e:b=it:=by simpa using hb
  subst e;exact⟨h1,hL,h2,h3⟩
 ·obtain⟨o,es,ep,ho,r⟩:=hm
  exact⟨o,es,ep,k _ o (Ne.symm hL) ho,r⟩
 ·refine(I.hok b u e).stay (fun c v hc q=>k c v ?_ q) (fun _ q=>q) fun _ _ q=>q
  rcases hc with z|z
  ·rw[z];exact nit b u e
  ·exact nit c _ z
theorem Inv.tok(I:Inv X pins σ H s)(t:Nat):Inv X pins σ H {s with toks:=t}:=I.un (h':=s.heap) (t':=t) Un.refl I.hok
theorem Inv.kept{t':Nat}(I:Inv X pins σ H s)(k:∀b u,s.heap.get? b=some u ->h'.get? b=some u):Inv X pins σ H {s with heap:=h',toks:=t'}:=I.un (Un.kept k) (I.hok.kept k)
theorem Inv.laid{a:Addr}{o:HO}{t':Nat}(I:Inv X pins σ H s)(k:∀b u,s.heap.get? b=some u ->h'.get? b=some u)(hp:s.heap.objs.size<=a)(new:ObjOk X.prog X.w (upd H a o) h' a o):
  Inv X pins σ (upd H a o) {s with heap:=h',toks:=t'}:=I.un (Un.laid k hp (I.hok.fresh hp)) (I.hok.laid k hp new)
theorem Inv.write{x e:Addr}{o:HO}{t':Nat}(I:Inv X pins σ H s)(mu:Mut (H x))(he:e=x∨H e=some (.own x))(k:∀b u,b≠e ->s.heap.get? b=some u ->h'.get? b=some u)(heo:∃u,h'.get? e=some u)
  (new:ObjOk X.prog X.w (upd H x o) h' x o):Inv X pins σ (upd H x o) {s with heap:=h',toks:=t'}:=I.un (Un.write mu he k heo) (I.hok.write mu he k heo new)
theorem Inv.weak{σ':List (Option V)}(I:Inv X pins σ H s)(hl:σ'.length=σ.length)(w:∀(i:Nat) v,σ'[i]? =some (some v) ->σ[i]? =some (some v)):Inv X pins σ' H s:=
 ⟨I.ok,I.os,I.bare,I.base,let⟨m,hn,hl'⟩:=I.loc;⟨m,hn,fun i x v e1 e2 e3=>hl' i x v e1 (w i v e2) e3⟩,I.cell,I.free,I.freeC,I.pin,I.hok,hl.trans I.len⟩
theorem Inv.pins_of{pins':List (Addr×Obj)}(I:Inv X pins σ H s)(h:∀p∈pins',s.heap.get? p.1=some p.2 /\ H p.1=none /\ p.1≠X.env.locals /\ p.1∉X.fs /\ ∀v,p.2.data≠ .cell v):Inv X pins' σ H s:=
 ⟨I.ok,I.os,I.bare,I.base,I.loc,I.cell,I.free,I.freeC,fun p hp=>(aR.mp hp).elim (fun z=>I.pin p (aO _ z)) (h p),I.hok,I.len⟩
theorem pG{N:List Str}(hN:N.Nodup){i j:Nat}{x:Str}(a:N[i]? =some x)(b:N[j]? =some x):i=j:=by
 obtain⟨h1,e1⟩:=ad.mp a
 obtain⟨h2,e2⟩:=ad.mp b
 exact(cz hN).mp (e1.trans e2.symm)
theorem qo{M:Model}{A:Around}{E:Value ->Shared ->Prop}{i:Nat}{x:Str}{v:V}{u:Value}{Q:Unit ->Shared ->Prop}(I:Inv X pins σ H s)(hN:X.N.Nodup)(hi:X.N[i]? =some x)(hx:Loc X.env.scope x)(r:RelV v u)
  (h:∀s',Inv X pins (σ.set i (some v)) H s' ->(∃a,Heap.SameBut a s.heap s'.heap /\ (a=X.env.locals∨X.env.cells.lookup x=some a)) ->Q () s') (hf:X.fn x=true∨X.env.scope.names.lookup x=some .local:=by first|exact .inl rfl|exact .inr rfl|assumption):wpAny M A (storeName X.env x u) Q E s:=by
 obtain⟨m,hn,hl⟩:=id I.loc
 have hcls:(X.env.scope.kind== .class||(X.env.scope.kind== .module&&X.env.locals !=X.env.globals))=false:=by rw[I.ok.kind];rfl
 have hiσ:i<σ.length:=by rw[I.len];exact(ad.mp hi).1
 have cne:=I.cne
 have tracked:∀{a:Addr} {h':Heap},(∃o,s.heap.get? a=some o /\ H a=none) ->Heap.SameBut a s.heap h' ->HOk X.prog X.w H h':=fun {a h'} ha hs b ob e=>by
  obtain⟨_,_,hfree⟩:=ha
  refine(I.hok b ob e).stay (fun c w' hc q=>(hs.2 c ?_).trans q) (fun _ q=>q) fun _ _ q=>q
  rintro rfl;rcases hc with rfl|hc
  ·rw[hfree] at e;cases e
  ·rw[hfree] at hc;cases hc
 rcases hx with hk|hk
 ·refine wpAny_storeName_local hk hn (fun h' hn' hs=> ?_) hcls;obtain⟨oL,_,_,hoL,_⟩:=id hn
  refine h _ ⟨I.ok,I.os,I.bare,⟨fun b o e n hb hx=> ?_,fun b o e n hb hx=> ?_,I.base.free,fun b o e hx=> ?_,I.base.tups,I.base.frzs,I.base.tbls⟩,⟨_,hn',fun j y v' e1 e2 e3=> ?_⟩,fun y c e=> ?_,I.free,I.freeC,fun p hp=> ?_,tracked ⟨oL,hoL,I.free⟩ hs,by simpa using I.len⟩ ⟨_,hs,.inl rfl⟩
  ·exact(hs.2 b (aQ (aT (Heap.lt_size e) I.ok.above))).trans (I.base.keep b o e n hb hx)
  ·obtain⟨sl,e1⟩:=I.base.slot b o e n hb hx
   exact⟨sl,(hs.2 b (aQ (aT (Heap.lt_size e) I.ok.above))).trans e1⟩
  ·obtain⟨o',e1⟩:=I.base.there b o e hx
   exact⟨o',(hs.2 b (aQ (aT (Heap.lt_size e) I.ok.above))).trans e1⟩
  ·by_cases hj:j=i
   ·subst hj;rw[hi] at e1;cases e1;rw[eN hiσ] at e2;cases e2;exact⟨u,r,.inl ⟨hk,by simp⟩⟩
   ·rw[fj (Ne.symm hj)] at e2;obtain⟨u',r',q⟩:=hl j y v' e1 e2 e3
    refine⟨u',r',?_⟩;rcases q with⟨k,e⟩|⟨k,c,e,z⟩
    ·refine .inl ⟨k,?_⟩;have:y≠x:=fun e=>hj (pG hN e1 (e▸hi))
     simp[this,e]
    ·exact .inr ⟨k,c,e,z.sameBut hs (cne y c e)⟩
  ·obtain⟨w',z⟩:=I.cell y c e
   exact⟨w',z.sameBut hs (cne y c e)⟩
  ·obtain⟨e,n,ne,nf,d⟩:=I.pin p hp
   exact⟨(hs.2 p.1 ne).trans e,n,ne,nf,d⟩
 ·have hfn:X.fn x=true:=by
   rcases hf with z|z
   ·exact z
   ·rw[z] at hk;cases hk
  obtain⟨c,hc⟩:=I.ok.has x (.inl hk)
  obtain⟨w',z⟩:=I.cell x c hc
  refine wpAny_storeName_cell I.ok.kind hk hc z (fun h' hc' hs=> ?_);obtain⟨oc,hoc,hocd⟩:=id z
  refine h {s with heap:=h'} ⟨I.ok,I.os,I.bare,⟨fun b o e n hb hx=> ?_,fun b o e n hb hx=> ?_,I.base.free,fun b o e hx=> ?_,I.base.tups,I.base.frzs,I.base.tbls⟩,⟨m,hn.sameBut hs (Ne.symm (cne x c hc)),fun j y v' e1 e2 e3=> ?_⟩,fun y c' e=> ?_,I.free,I.freeC,fun p hp=> ?_,tracked ⟨oc,hoc,I.freeC x c hc⟩ hs,by simpa using I.len⟩ ⟨c,hs,.inr hc⟩
  ·exact(hs.2 b (aQ (aT (Heap.lt_size e) (I.ok.cab x c hfn hc)))).trans (I.base.keep b o e n hb hx)
  ·obtain⟨sl,e1⟩:=I.base.slot b o e n hb hx
   exact⟨sl,(hs.2 b (aQ (aT (Heap.lt_size e) (I.ok.cab x c hfn hc)))).trans e1⟩
  ·obtain⟨o',e1⟩:=I.base.there b o e hx
   exact⟨o',(hs.2 b (aQ (aT (Heap.lt_size e) (I.ok.cab x c hfn hc)))).trans e1⟩
  ·by_cases hj:j=i
   ·subst hj;rw[hi] at e1;cases e1;rw[eN hiσ] at e2;cases e2;exact⟨u,r,.inr ⟨.inl hk,c,hc,hc'⟩⟩
   ·rw[fj (Ne.symm hj)] at e2;obtain⟨u',r',q⟩:=hl j y v' e1 e2 e3
    refine⟨u',r',?_⟩;rcases q with q|⟨k,c',e,z'⟩
    ·exact .inl q
    ·refine .inr ⟨k,c',e,z'.sameBut hs ?_⟩;rintro rfl;exact hj (pG hN e1 (I.ok.inj _ _ _ e hc▸hi))
  ·by_cases hcc:c'=c
   ·subst hcc;exact⟨_,hc'⟩
   ·obtain⟨w2,z2⟩:=I.cell y c' e
    exact⟨w2,z2.sameBut hs hcc⟩
  ·obtain⟨e,n,ne,nf,d⟩:=I.pin p hp
   refine⟨(hs.2 p.1 ?_).trans e,n,ne,nf,d⟩;intro q;rw[q,hoc] at e;have q':oc=p.2:=bA.inj e
   exact d w' (by rw[<-q'];exact hocd)
theorem lZ{M:Model}{A:Around}{E:Value ->Shared ->Prop}{i:Nat}{x:Str}{v:V}{u:Value}{Q:Unit ->Shared ->Prop}(I:Inv X pins σ H s)(hN:X.N.Nodup)(hi:X.N[i]? =some x)(hx:Loc X.env.scope x)(r:RelV v u)
  (h:∀s',Inv X pins (σ.set i (some v)) H s' ->Q () s') (hf:X.fn x=true∨X.env.scope.names.lookup x=some .local:=by first|exact .inl rfl|exact .inr rfl|assumption):wpAny M A (storeName X.env x u) Q E s:=
 qo I hN hi hx r (fun s' I' _=>h s' I') hf
theorem Inv.call'{s':Shared}{ch:List Addr}(I:Inv X pins σ H s)(ho:s'.os=s.os)(u:Un (frs X.stack) ch H H' s.heap s'.heap)(hok:HOk X.prog X.w H' s'.heap)(hg:AllBare s'.gens)
  (hch:∀b∈ch,(b∈X.ex∨X.s₀.heap.objs.size<=b) /\ b≠X.env.locals /\ (∀x c,X.env.cells.lookup x=some c ->c≠b) /\ ∀p∈X.pn++pins,p.1≠b):Inv X pins σ H' s':=by
 obtain⟨h',g',d',t',o'⟩:=s'
 have e:o'=s.os:=ho
 subst e;exact I.call (g':=g') (t':=t') (d':=d') u hok hg hch
end
noncomputable abbrev XK:=Value ->Option Addr ->Hp ->Prop
noncomputable abbrev St:=List (Option V)
noncomputable abbrev VK:=V ->Hp ->Prop
noncomputable abbrev TE:=St ->Hp ->VK ->Prop
noncomputable abbrev TT:=St ->Hp ->(Bool ->Hp ->Prop) ->Prop
noncomputable abbrev TA:=St ->Hp ->(List V ->Hp ->Prop) ->Prop
structure Ends where
 nx:St ->Hp ->Prop
 rt:VK
 bk:St ->Hp ->Prop:=fun _ _=>False
 ct:St ->Hp ->Prop:=fun _ _=>False
noncomputable abbrev TS:=Ends ->St ->Hp ->Prop
noncomputable def EP(X:Cx)(pins:List (Addr×Obj))(σ:St)(Q:VK)(u:Value)(s':Shared):Prop:=∃v H',Inv X pins σ H' s' /\ RelV v u /\ Q v H'
noncomputable def TP(X:Cx)(pins:List (Addr×Obj))(σ:St)(Q:Bool ->Hp ->Prop)(b:Bool)(s':Shared):Prop:=∃H',Inv X pins σ H' s' /\ Q b H'
noncomputable def AP(X:Cx)(pins:List (Addr×Obj))(σ:St)(Q:List V ->Hp ->Prop)(us:List Value)(s':Shared):Prop:=∃vs H',Inv X pins σ H' s' /\ Vals vs us /\ Q vs H'
noncomputable def SP(X:Cx)(pins:List (Addr×Obj))(D:Ends)(f:Flow)(s':Shared):Prop:=
 match f with
 | .next=>∃σ' H',Inv X pins σ' H' s' /\ D.nx σ' H'
 | .brk=>∃σ' H',Inv X pins σ' H' s' /\ D.bk σ' H'
 | .cont=>∃σ' H',Inv X pins σ' H' s' /\ D.ct σ' H'
 | .ret u=>∃v σ' H',Inv X pins σ' H' s' /\ RelV v u /\ D.rt v H'
noncomputable def PE(X:Cx)(e:Expr)(t:TE):Prop:=
 ∀(pins:List (Addr×Obj)) (s:Shared) (σ:St) (H:Hp) (Q:VK),Inv X pins σ H s ->t σ H Q ->wpAny (model X.prog X.w) X.A (eval e X.env) (EP X pins σ Q) X.xe s
noncomputable def PT(X:Cx)(e:Expr)(t:TT):Prop:=
 ∀(pins:List (Addr×Obj)) (s:Shared) (σ:St) (H:Hp) (Q:Bool ->Hp ->Prop),Inv X pins σ H s ->t σ H Q ->wpAny (model X.prog X.w) X.A (isTrue e X.env (eval e X.env)) (TP X pins σ Q) X.xe s
noncomputable def PW(X:Cx)(e:Expr)(t:TT):Prop:=
 ∀(whole:Sem Value) (pins:List (Addr×Obj)) (s:Shared) (σ:St) (H:Hp) (Q:Bool ->Hp ->Prop),Inv X pins σ H s ->t σ H Q ->wpAny (model X.prog X.w) X.A (isTrue e X.env whole) (TP X pins σ Q) X.xe s
theorem PW.pt{X:Cx}{e:Expr}{t:TT}(h:PW X e t):PT X e t:=h _
noncomputable def PA(X:Cx)(es:List Expr)(t:TA):Prop:=
 ∀(pos:Pos) (pins:List (Addr×Obj)) (s:Shared) (σ:St) (H:Hp) (Q:List V ->Hp ->Prop),Inv X pins σ H s ->t σ H Q ->wpAny (model X.prog X.w) X.A (spliced (backTo pos (starEach es X.env))) (AP X pins σ Q) X.xe s
noncomputable def PS(X:Cx)(st:Stmt)(t:TS):Prop:=
 ∀(pins:List (Addr×Obj)) (s:Shared) (σ:St) (H:Hp) (D:Ends),Inv X pins σ H s ->t D σ H ->wpAny (model X.prog X.w) X.A (exec st X.env) (SP X pins D) X.xe s
noncomputable def PSs(X:Cx)(st:List Stmt)(t:TS):Prop:=
 ∀(pins:List (Addr×Obj)) (s:Shared) (σ:St) (H:Hp) (D:Ends),Inv X pins σ H s ->t D σ H ->wpAny (model X.prog X.w) X.A (execs st X.env) (SP X pins D) X.xe s
theorem thn{α:Type}{t:Sem α}{Q Q':α ->Shared ->Prop}{M:Model}{A:Around}{E:Value ->Shared ->Prop}{s:Shared}(h:wpAny M A t Q E s)(hQ:∀a s,Q a s ->Q' a s):wpAny M A t Q' E s:=wpAny_mono h hQ fun _ _ x=>x
end L2
namespace L2
open PySem PySem.Spec PyProof.Rows
section
variable {X:Cx}
noncomputable def zE(i:Nat):TE:=fun σ H Q=>∃v,σ[i]? =some (some v) /\ Q v H
noncomputable def tC(v:V):TE:=fun _ H Q=>Q v H
theorem Ao{i:Nat}{x:Str}{pos:Pos}(hN:X.N[i]? =some x)(hv:Vis X.env.scope x)(hd:(x==("__debug__":Str))=false:=by decide)(hcd:(x==("__classdict__":Str))=false:=by decide):PE X (.Name x pos) (zE i):=by
 intro pins s σ H Q I h;obtain⟨v,e,h⟩:=h
 obtain⟨m,hn,hl⟩:=I.loc
 obtain⟨u,r,l⟩:=hl i x v hN e hv
 have fin:EP X pins σ Q u s:=⟨v,H,I,r,h⟩
 rcases l with⟨hk,hm⟩|⟨hk,c,hc,hcell⟩
 ·exact wpAny_Name (wpAny_loadName_local I.ok.kind hk hn hm fin) hd
 ·rcases hk with hk|hk
  ·exact wpAny_Name (wpAny_loadName_cell I.ok.kind hk hc hcell fin) hd
  ·exact wpAny_Name (wpAny_loadName_free I.ok.kind hk hc hcell fin hcd) hd
theorem iO{i j pos}:PE X (.Constant (.int i) j pos) (tC (.int i)):=fun _ _ _ H _ I h=>wpAny_Constant_int ⟨.int i,H,I.tok _,⟨_,rfl⟩,h⟩
theorem nh{b j pos}:PE X (.Constant (.bool b) j pos) (tC (.bl b)):=fun _ _ _ H _ I h=>Constant_bool ⟨.bl b,H,I,rfl,h⟩
theorem vf{j pos}:PE X (.Constant .none j pos) (tC .non):=fun _ _ _ H _ I h=>Constant_none ⟨.non,H,I,rfl,h⟩
theorem jL{x j pos}:PE X (.Constant (.str x) j pos) (tC (.str x)):=fun _ _ _ H _ I h=>Calls.Constant_str ⟨.str x,H,I.tok _,⟨_,rfl⟩,h⟩
noncomputable def Gl(X:Cx)(x:Str):Prop:=X.env.kindOf x=some .globalImplicit
theorem mT{E:Value ->Shared ->Prop}{pins:List (Addr×Obj)}{s:Shared}{σ:St}{H:Hp}{x:Str}{u:Value}{pos:Pos}{Q:Value ->Shared ->Prop}(I:Inv X pins σ H s)(hg:Gl X x)(hm:X.mg x=some u)(h:Q u s)
  (hd:(x==("__debug__":Str))=false:=by decide):wpAny (model X.prog X.w) X.A (eval (.Name x pos) X.env) Q E s:=
 Calls.Name_function_global I.ok.kind hg (Calls.loadGlobal_global (by rw[I.ok.glob];exact I.mod.glob.keeps I.bk) hm h) hd
theorem sQ{E:Value ->Shared ->Prop}{pins:List (Addr×Obj)}{s:Shared}{σ:St}{H:Hp}{x:Str}{u:Value}{pos:Pos}{Q:Value ->Shared ->Prop}(I:Inv X pins σ H s)(hg:Gl X x)(hm:X.mg x=none)(hv:bootBuiltins x=some u)(h:Q u s)
  (hn:x≠"__name__":=by decide) (hd:(x==("__debug__":Str))=false:=by decide):wpAny (model X.prog X.w) X.A (eval (.Name x pos) X.env) Q E s:=by
 obtain⟨mb,h1,h2⟩:=I.mod.blt
 exact Calls.Name_function_global I.ok.kind hg (Calls.loadGlobal_builtin (by rw[I.ok.glob];exact I.mod.glob.keeps I.bk) hm (by rw[I.ok.blt];exact h1.keeps I.bk) ((h2 x hn).trans hv) h) hd
theorem nV{x:Str}{v:V}{u:Value}{pos:Pos}(hg:Gl X x)(hm:X.mg x=some u)(r:RelV v u)(hd:(x==("__debug__":Str))=false:=by decide):PE X (.Name x pos) (tC v):=
 fun _ _ _ H _ I h=>mT I hg hm ⟨v,H,I,r,h⟩ hd
variable {a b:Expr} {ta tb:TE} {pos:Pos}
noncomputable def PC(X:Cx)(op:CmpOp)(a b:Expr)(t:TE):Prop:=
 ∀(pins:List (Addr×Obj)) (s:Shared) (σ:St) (H:Hp) (Q:VK),Inv X pins σ H s ->t σ H Q ->
  wpAny (model X.prog X.w) X.A (eval a X.env) (fun v s₁=>wpAny (model X.prog X.w) X.A (eval b X.env) (fun u s₂=>wpAny (model X.prog X.w) X.A (compareOp op v u) (EP X pins σ Q) X.xe s₂) X.xe s₁) X.xe s
noncomputable def Ab(ta:TE):TE:=fun σ H Q=>ta σ H fun x H1=>Q (.bl (decide (x= .non))) H1
noncomputable def uG(ta:TE):TE:=fun σ H Q=>ta σ H fun x H1=>Q (.bl (!decide (x= .non))) H1
theorem RelV.none_iff{x:V}{v:Value}(r:RelV x v):(v==Value.none)=decide (x= .non):=by
 cases x with
 |non=>cases r;rfl
 |bl _=>cases r;rfl
 |int _=>obtain⟨t,rfl⟩:=r;rfl
 |str _=>obtain⟨t,rfl⟩:=r;rfl
 |byt _=>obtain⟨t,rfl⟩:=r;rfl
 |flt _=>obtain⟨t,rfl⟩:=r;rfl
 |ref _=>cases r;rfl
 |ty _=>cases r;rfl
theorem At{j pos'}(ha:PE X a ta):PC X .Is a (.Constant .none j pos') (Ab ta):=by
 intro pins s σ H Q I h;refine thn (ha pins s σ H _ I h) fun v s1 ⟨x,H1,I1,r1,q1⟩=> ?_
 exact Constant_none (is_none_gen ⟨.bl _,H1,I1,by rw[r1.none_iff];rfl,q1⟩)
theorem vg{j pos'}(ha:PE X a ta):PC X .IsNot a (.Constant .none j pos') (uG ta):=by
 intro pins s σ H Q I h;refine thn (ha pins s σ H _ I h) fun v s1 ⟨x,H1,I1,r1,q1⟩=> ?_
 exact Constant_none (isnot_none_gen ⟨.bl _,H1,I1,by rw[r1.none_iff];rfl,q1⟩)
noncomputable def tB(t:TE):TT:=fun σ H Q=>t σ H fun x H1=>∃c,x= .bl c /\ Q c H1
theorem u9{op:CmpOp}{t:TE}(h:PC X op a b t)(h1:behindInMarks op b=false:=by first|exact nobehind _ (by decide) (by decide)|rfl):PT X (.Compare a [op] [b] pos) (tB t):=by
 intro pins s σ H Q I hw;refine wpAny_isTrue_Compare1 (thn (h pins s σ H _ I hw) fun v s1 h1=>thn h1 fun u s2 h2=>thn h2 fun c s3 ⟨x,H1,I1,r1,q1⟩=> ?_) h1;obtain⟨d,rfl,q⟩:=q1
 cases r1;exact wpAny_truthy_bool ⟨H1,I1,q⟩
variable {tA tB':TT} {rest:List Expr}
noncomputable def Ad(t u:TT):TT:=fun σ H Q=>t σ H fun c H1=>if c=true then u σ H1 Q else Q false H1
noncomputable def tOr(t u:TT):TT:=fun σ H Q=>t σ H fun c H1=>if c=true then Q true H1 else u σ H1 Q
noncomputable def zY(t:TT):TT:=fun σ H Q=>t σ H fun c H1=>Q (!c) H1
theorem mM(ha:PT X a tA):PW X (.BoolOp .And [a] pos) tA:=by
 intro wh pins s σ H Q I h;refine isTrue_and (thn (ha pins s σ H Q I h) fun c s1 e=> ?_);cases c with
 |true=>exact isTrue_and_nil e
 |false=>exact e
theorem mY(ha:PT X a tA):PW X (.BoolOp .Or [a] pos) tA:=by
 intro wh pins s σ H Q I h;refine isTrue_or (thn (ha pins s σ H Q I h) fun c s1 e=> ?_);cases c with
 |false=>exact isTrue_or_nil e
 |true=>exact e
theorem oE(ha:PT X a tA)(hb:PW X (.BoolOp .And (b::rest) pos) tB'):PW X (.BoolOp .And (a::b::rest) pos) (Ad tA tB'):=by
 intro wh pins s σ H Q I h;refine isTrue_and (thn (ha pins s σ H _ I h) fun c s1 ⟨H1,I1,q1⟩=> ?_);cases c with
 |true=>exact hb wh pins s1 σ H1 Q I1 q1
 |false=>exact⟨H1,I1,q1⟩
theorem ow(ha:PT X a tA)(hb:PW X (.BoolOp .Or (b::rest) pos) tB'):PW X (.BoolOp .Or (a::b::rest) pos) (tOr tA tB'):=by
 intro wh pins s σ H Q I h;refine isTrue_or (thn (ha pins s σ H _ I h) fun c s1 ⟨H1,I1,q1⟩=> ?_);cases c with
 |true=>exact⟨H1,I1,q1⟩
 |false=>exact hb wh pins s1 σ H1 Q I1 q1
theorem u8(ha:PT X a tA):PT X (.UnaryOp .Not a pos) (zY tA):=by
 intro pins s σ H Q I h;exact isTrue_not (ha pins s σ H (fun c H1=>Q (!c) H1) I h)
noncomputable def uK(ta tb:TE):TE:=fun σ H Q=>ta σ H fun x H1=>∃c,x= .bl c /\ if c=true then tb σ H1 Q else Q (.bl false) H1
theorem Ap{op}{t:TE}(h:PE X a t):PE X (.BoolOp op [a] pos) t:=fun pins s σ H Q I hw=>BoolOp_one (h pins s σ H Q I hw)
theorem As(ha:PE X a ta)(hb:PE X (.BoolOp .And (b::rest) pos) tb):PE X (.BoolOp .And (a::b::rest) pos) (uK ta tb):=by
 intro pins s σ H Q I h;refine BoolOp_and (thn (ha pins s σ H _ I h) fun v s1 ⟨x,H1,I1,r1,q1⟩=> ?_);obtain⟨c,rfl,q1⟩:=q1
 cases r1;refine wpAny_truthy_bool ?_;cases c with
 |true=>exact hb pins s1 σ H1 Q I1 q1
 |false=>exact⟨.bl false,H1,I1,rfl,q1⟩
end
end L2
namespace L2
open PySem PySem.Spec PyProof.Rows
noncomputable def SqL(K:ag)(H:Hp)(a:Addr)(xs:List V):Prop:=
 Rd H a (.lst xs)∨
  ∃(o:Obj) (its:Array Value) (n:Nat),K.lookup a=some o /\ o.cls= .type "list" /\ o.dict=none /\ o.data= .seq its n /\ its.size<=sizeLine /\ Vals xs its.toList
noncomputable def SqT(K:ag)(H:Hp)(a:Addr)(xs:List V):Prop:=
 Rd H a (.tup xs)∨
  ∃(o:Obj) (its:Array Value) (n:Nat),K.lookup a=some o /\ o.cls= .type "tuple" /\ o.data= .seq its n /\ its.size<=sizeLine /\ Vals xs its.toList
noncomputable def BJ:Value ->Option V
 | .none=>some .non
 | .bool b=>some (.bl b)
 | .int i _=>some (.int i)
 | .str x _=>some (.str x)
 | .bytes b _=>some (.byt b)
 | .float b _=>some (.flt b)
 | .ref a=>some (.ref a)
 | .type n=>some (.ty n)
 |_=>none
theorem RelV.abs{x:V}{u:Value}(r:RelV x u):BJ u=some x:=by
 cases x with
 |non=>cases r;rfl
 |bl _=>cases r;rfl
 |int _=>obtain⟨t,rfl⟩:=r;rfl
 |str _=>obtain⟨t,rfl⟩:=r;rfl
 |byt _=>obtain⟨t,rfl⟩:=r;rfl
 |flt _=>obtain⟨t,rfl⟩:=r;rfl
 |ref _=>cases r;rfl
 |ty _=>cases r;rfl
theorem RelV.inj{x y:V}{u:Value}(r:RelV x u)(q:RelV y u):x=y:=bA.inj (r.abs.symm.trans q.abs)
theorem Vals.inj:∀{xs ys:List V} {us:List Value},Vals xs us ->Vals ys us ->xs=ys
 |_,_,_,.nil,.nil=>rfl
 |_,_,_,.cons r t,.cons r' t'=>by rw[r.inj r',Vals.inj t t']
section
variable {X:Cx} {pins:List (Addr×Obj)} {σ:St} {H:Hp} {s:Shared} {a:Addr} {xs ys:List V}
theorem SqL.of{K:ag}(h:H a=some (.lst xs)):SqL K H a xs:= .inl (.inl h)
theorem SqT.of{K:ag}(h:H a=some (.tup xs)):SqT K H a xs:= .inl (.inl h)
theorem Inv.list(I:Inv X pins σ H s)(h:SqL X.K H a xs):∃its:List Value,Vals xs its /\ PlainL s.heap a its.toArray /\ xs.length<=sizeLine:=by
 rcases h with h|⟨o,its,n,hk,hc,hd,hs,hz,r⟩
 ·obtain⟨z,its,n,r,e⟩:=h.ok I.hok
  exact⟨its,r,⟨_,n,e,rfl,rfl,rfl⟩,z⟩
 ·refine⟨its.toList,r,⟨o,n,I.kIn a o hk,hc,hd,by simpa using hs⟩,?_⟩;have e:=r.length
  simp only[gG] at e;omega
theorem Inv.tuple(I:Inv X pins σ H s)(h:SqT X.K H a xs):∃its:List Value,Vals xs its /\ IsTup s.heap a its.toArray /\ xs.length<=sizeLine:=by
 rcases h with h|⟨o,its,n,hk,hc,hs,hz,r⟩
 ·obtain⟨z,its,r,p⟩:=h.ok I.hok
  exact⟨its,r,p,z⟩
 ·refine⟨its.toList,r,⟨o,I.kIn a o hk,hc,n,by simpa using hs⟩,?_⟩;have e:=r.length
  simp only[gG] at e;omega
theorem Inv.list_inj(I:Inv X pins σ H s)(h:SqL X.K H a xs)(h':SqL X.K H a ys):xs=ys:=by
 obtain⟨its,r,⟨o,n,e,_,_,d⟩,_⟩:=I.list h
 obtain⟨its',r',⟨o',n',e',_,_,d'⟩,_⟩:=I.list h'
 rw[e] at e';cases e';rw[d] at d'
 injection d' with d1 _
 have:its=its':=by simpa using congrArg Array.toList d1
 subst this;exact r.inj r'
end
noncomputable abbrev Cx.wish(X:Cx)(E:Value ->Shared ->Prop):Cx:={X with xe:=E}
noncomputable abbrev Cx.nox(X:Cx):Cx:=X.wish fun _ _=>False
theorem Cx.Ok.wish{X:Cx}(ok:X.Ok)(E:Value ->Shared ->Prop):(X.wish E).Ok:=
 ⟨ok.mod,ok.kind,ok.glob,ok.blt,ok.above,ok.inj,ok.has,ok.cab,ok.hd,ok.frames,ok.stk,ok.exf,ok.bs,ok.bsz,ok.noex,ok.exfs,ok.funs,ok.frf⟩
theorem Cx.Ok.unwish{X:Cx}{E:Value ->Shared ->Prop}(ok:(X.wish E).Ok):X.Ok:=
 ⟨ok.mod,ok.kind,ok.glob,ok.blt,ok.above,ok.inj,ok.has,ok.cab,ok.hd,ok.frames,ok.stk,ok.exf,ok.bs,ok.bsz,ok.noex,ok.exfs,ok.funs,ok.frf⟩
section
variable {X:Cx} {pins:List (Addr×Obj)} {σ:St} {H:Hp} {s:Shared} {E:Value ->Shared ->Prop}
theorem Inv.wish(I:Inv X pins σ H s)(E:Value ->Shared ->Prop):Inv (X.wish E) pins σ H s:=⟨I.ok.wish E,I.os,I.bare,I.base,I.loc,I.cell,I.free,I.freeC,I.pin,I.hok,I.len⟩
theorem Inv.unwish(I:Inv (X.wish E) pins σ H s):Inv X pins σ H s:=⟨I.ok.unwish,I.os,I.bare,I.base,I.loc,I.cell,I.free,I.freeC,I.pin,I.hok,I.len⟩
theorem SP.unwish{D:Ends}{f:Flow}{s':Shared}(h:SP (X.wish E) pins D f s'):SP X pins D f s':=by
 cases f with
 |next=>obtain⟨σ',H',I,q⟩:=h;exact⟨σ',H',I.unwish,q⟩
 |brk=>obtain⟨σ',H',I,q⟩:=h;exact⟨σ',H',I.unwish,q⟩
 |cont=>obtain⟨σ',H',I,q⟩:=h;exact⟨σ',H',I.unwish,q⟩
 |ret u=>obtain⟨v,σ',H',I,r,q⟩:=h;exact⟨v,σ',H',I.unwish,r,q⟩
theorem PSs.nox{st:List Stmt}{t:TS}(h:PSs X.nox st t):PSs X st t:=fun pins s σ H D I hw=>
 wpAny_mono (h pins s σ H D (I.wish _) hw) (fun _ _ q=>q.unwish) fun _ _ z=>False.elim z
end
section
variable {X:Cx} {st:Stmt} {rest:List Stmt} {t u:TS} {e:Expr} {te:TE} {pos:Pos}
noncomputable def uH:TS:=fun D σ H=>D.nx σ H
noncomputable def zF(t u:TS):TS:=fun D σ H=>t {D with nx:=u D} σ H
theorem jj:PSs X [] uH:=fun _ _ σ H _ I h=>wpAny_execs_nil ⟨σ,H,I,h⟩
theorem iU(h1:PS X st t)(h2:PSs X rest u):PSs X (st::rest) (zF t u):=by
 intro pins s σ H D I h;refine wpAny_execs_cons (thn (h1 pins s σ H {D with nx:=u D} I h) fun f s1 q=> ?_);cases f with
 |next=>
  obtain⟨σ',H',I',q⟩:=q
  exact h2 pins s1 σ' H' D I' q
 |ret v=>exact q
 |brk=>exact q
 |cont=>exact q
theorem iS(h1:PS X st t):PSs X [st] t:=by
 intro pins s σ H D I h;refine wpAny_execs_cons (thn (h1 pins s σ H D I h) fun f s1 q=> ?_);cases f with
 |next=>exact wpAny_execs_nil q
 |ret v=>exact q
 |brk=>exact q
 |cont=>exact q
theorem Inv.quiet{pins:List (Addr×Obj)}{σ:St}{H:Hp}{s:Shared}(I:Inv X pins σ H s):interactive X.env=false:=by simp[interactive,I.ok.kind]
noncomputable def uI(te:TE):TS:=fun D σ H=>te σ H fun _ H1=>D.nx σ H1
theorem jJ(he:PE X e te)(hs:swapsWith e none pos.line X.env=pure false:=by rfl):PS X (.Expr e pos) (uI te):=by
 intro pins s σ H D I h;exact wpAny_Expr_any (thn (he pins s σ H _ I h) fun v s1 ⟨x,H1,I1,r1,q1⟩=>⟨σ,H1,I1,q1⟩) I.quiet hs
noncomputable def zW(te:TE):TS:=fun D σ H=>te σ H D.rt
theorem i9(he:PE X e te):PS X (.Return (some e) pos) (zW te):=by
 intro pins s σ H D I h;exact wpAny_Return_some (thn (he pins s σ H _ I h) fun v s1 ⟨x,H1,I1,r1,q1⟩=>⟨x,σ,H1,I1,r1,q1⟩)
noncomputable def Ac(c:TT)(t u:TS):TS:=fun D σ H=>c σ H fun b H1=>if b=true then t D σ H1 else u D σ H1
theorem jF{c:Expr}{a b:List Stmt}{tc:TT}(hc:PT X c tc)(ha:PSs X a t)(hb:PSs X b u):PS X (.If c a b pos) (Ac tc t u):=by
 intro pins s σ H D I h;refine wpAny_If (thn (hc pins s σ H _ I h) fun d s1 ⟨H1,I1,q1⟩=> ?_);cases d with
 |true=>exact ha pins s1 σ H1 D I1 q1
 |false=>exact hb pins s1 σ H1 D I1 q1
noncomputable def z9:TS:=fun _ _ _=>False
theorem nB:PS X st z9:=fun _ _ _ _ _ _ h=>h.elim
end
noncomputable abbrev TG:=V ->St ->Hp ->(St ->Hp ->Prop) ->Prop
noncomputable abbrev TGs:=List V ->St ->Hp ->(St ->Hp ->Prop) ->Prop
noncomputable def PG(X:Cx)(target:Expr)(t:TG):Prop:=
 ∀(pins:List (Addr×Obj)) (s:Shared) (σ:St) (H:Hp) (v:V) (u:Value) (Q:St ->Hp ->Prop),Inv X pins σ H s ->RelV v u ->t v σ H Q ->
  wpAny (model X.prog X.w) X.A (assign target X.env u) (fun _ s'=>∃σ' H',Inv X pins σ' H' s' /\ Q σ' H') X.xe s
noncomputable def PGs(X:Cx)(ts:List Expr)(t:TGs):Prop:=
 ∀(pins:List (Addr×Obj)) (s:Shared) (σ:St) (H:Hp) (vs:List V) (us:List Value) (Q:St ->Hp ->Prop),Inv X pins σ H s ->Vals vs us ->t vs σ H Q ->
  wpAny (model X.prog X.w) X.A (assignInOrder ((assignEach ts X.env).map (·.2)) us) (fun _ s'=>∃σ' H',Inv X pins σ' H' s' /\ Q σ' H') X.xe s
section
variable {X:Cx} {pos:Pos}
noncomputable def rW(i:Nat):TG:=fun v σ H Q=>Q (σ.set i (some v)) H
theorem iV{i:Nat}{x:Str}(hN:X.N.Nodup)(hi:X.N[i]? =some x)(hx:Loc X.env.scope x)(hf:X.fn x=true∨X.env.scope.names.lookup x=some .local:=by first|exact .inl rfl|exact .inr rfl|assumption):PG X (.Name x pos) (rW i):=by
 intro pins s σ H v u Q I r h;exact wpAny_assign_Name (lZ I hN hi hx r (fun s' I'=>⟨_,H,I',h⟩) hf)
noncomputable def om:TGs:=fun vs σ H Q=>vs=[] /\ Q σ H
noncomputable def kA(t:TG)(u:TGs):TGs:=fun vs σ H Q=>∃v r,vs=v::r /\ t v σ H fun σ' H'=>u r σ' H' Q
theorem yH:PGs X [] om:=by
 intro pins s σ H vs us Q I r h;obtain⟨e,h⟩:=h
 subst e;cases r;exact assignInOrder_nil ⟨σ,H,I,h⟩
theorem wD{e:Expr}{es:List Expr}{t:TG}{u:TGs}(h1:PG X e t)(h2:PGs X es u)
  (hs:(assignEach (e::es) X.env).map (·.2)=assign e X.env::(assignEach es X.env).map (·.2):=by rfl):PGs X (e::es) (kA t u):=by
 intro pins s σ H vs us Q I r h;obtain⟨v,vr,e1,h⟩:=h
 subst e1;cases r with
 |cons r rr=>
  rw[hs];refine assignInOrder_cons (thn (h1 pins s σ H _ _ _ I r h) fun _ s1 ⟨σ1,H1,I1,q1⟩=> ?_);exact h2 pins s1 σ1 H1 _ _ Q I1 rr q1
noncomputable def Bu(K:ag)(n:Nat)(t:TGs):TG:=fun v σ H Q=>∃a xs,v= .ref a /\ SqT K H a xs /\ xs.length=n /\ t xs σ H Q
theorem Am{es:List Expr}{k:Nat}{t:TGs}{n:Nat}(hc:X.calm=true)(h:PGs X es t)
  (hn:(assignEach es X.env).length=n:=by rfl) (hst:(assignEach es X.env).findIdx? (·.1)=none:=by rfl):PG X (.Tuple es k pos) (Bu X.K n t):=by
 intro pins s σ H v u Q I r hw;obtain⟨a,xs,e1,hq,hl,hw⟩:=hw
 subst e1;cases r;obtain⟨its,rv,ht,hz⟩:=I.tuple hq
 refine assign_Tuple_tuple (I.ok.hd hc) ht (by simp[hn, <-hl,rv.length]) hst fun h' hx=> ?_
 have I1:Inv X pins σ H {s with heap:=h'}:=I.kept (t':=s.toks) fun b o e=>hx b o (aQ (Heap.lt_size e)) e
 exact h pins _ σ H xs _ Q I1 (by simpa using rv) hw
noncomputable def yo(te:TE)(g:TG):TS:=fun D σ H=>te σ H fun x H1=>g x σ H1 D.nx
theorem kE{tg e:Expr}{te:TE}{g:TG}(he:PE X e te)(hg:PG X tg g)(hs:swapsWithSole [tg] e pos.line X.env=pure false:=by rfl)(hw:swappedStores [tg] e X.env=pure none:=by rfl)
  (h1:(assignEach [tg] X.env).map (·.2)=[assign tg X.env]:=by rfl):PS X (.Assign [tg] e pos) (yo te g):=by
 intro pins s σ H D I h;refine wpAny_Assign_stores (thn (he pins s σ H _ I h) fun v s1 ⟨x,H1,I1,r1,q1⟩=> ?_) hs hw;rw[h1];exact thn (hg pins s1 σ H1 x v _ I1 r1 q1) fun _ s2 q=>q
theorem jg{i:Nat}{x:Str}{e:Expr}{te:TE}{pos':Pos}(hN:X.N.Nodup)(hi:X.N[i]? =some x)(hx:Loc X.env.scope x)(he:PE X e te)(hs:swapsWith e (some (.Name x pos')) pos.line X.env=pure false:=by rfl)(hf:X.fn x=true∨X.env.scope.names.lookup x=some .local:=by first|exact .inl rfl|exact .inr rfl|assumption):
  PS X (.Assign [.Name x pos'] e pos) (yo te (rW i)):=by
 intro pins s σ H D I h;refine wpAny_Assign_Name (thn (he pins s σ H _ I h) fun v s1 ⟨y,H1,I1,r1,q1⟩=> ?_) hs;exact lZ I1 hN hi hx r1 (fun s2 I2=>⟨_,H1,I2,q1⟩) hf
noncomputable def zX(i j:Nat)(ta:TA):TS:=fun D σ H=>ta σ H fun vs H1=>∃v w,vs=[v,w] /\ D.nx ((σ.set i (some v)).set j (some w)) H1
theorem Al{i j:Nat}{x y:Str}{a b:Expr}{ta:TA}{px py pt:Pos}{kt k2 pt2}(hc:X.calm=true)(hN:X.N.Nodup)(hi:X.N[i]? =some x)(hj:X.N[j]? =some y)(hij:i≠j)
  (hx:X.env.scope.names.lookup x=some .local) (hy:X.env.scope.names.lookup y=some .local) (ha:PA X [a,b] ta)
  (hw:swappedStores [.Tuple [.Name x px,.Name y py] kt pt] (.Tuple [a,b] k2 pt2) X.env=pure (some [x,y]))
  (hs:swapsWithSole [.Tuple [.Name x px,.Name y py] kt pt] (.Tuple [a,b] k2 pt2) pos.line X.env=pure false:=by rfl):
  PS X (.Assign [.Tuple [.Name x px,.Name y py] kt pt] (.Tuple [a,b] k2 pt2) pos) (zX i j ta):=by
 intro pins s σ H D I h;rw[exec_Assign_arm];refine wpAny_bind (wpAny_standAt ?_);rw[hs];refine wpAny_bind (wpAny_pure ?_);rw[if_neg (by decide)];refine wpAny_bind (Tuple_ (thn (ha _ pins s σ H _ I h) fun us s1 ⟨vs,H1,I1,r1,q1⟩=> ?_));obtain⟨v,w,e1,q1⟩:=q1
 subst e1;obtain⟨u1,u2,rfl,rv,rw'⟩:∃u1 u2,us=[u1,u2] /\ RelV v u1 /\ RelV w u2:=by
  cases r1 with
  |cons p q=>
   cases q with
   |cons p' q'=>
    cases q';exact⟨_,_,rfl,p,p'⟩
 refine wpAny_newObj_type ?_ (by show 2<=sizeLine;decide)
 have I2:Inv X pins σ H1 {s1 with heap:=s1.heap.push {cls:= .type "tuple",data:= .seq [u1,u2].toArray}}:=I1.kept (t':=s1.toks) fun b o e=>Heap.get?_push_of_some _ e
 rw[hw];refine wpAny_bind (wpAny_pure ?_);show wpAny (model X.prog X.w) X.A (do rule "assign.swapped-stores";let items<-unpackItems (.ref s1.heap.objs.size) 2 none;assignInOrder [fun v=>bindName X.env y v,fun v=>bindName X.env x v] items.reverse;pure Flow.next) _ _ _
 refine wpAny_bind (wpAny_rule (wpAny_bind (unpackItems_tuple (items:= #[u1,u2]) (I.ok.hd hc) (IsTup.new s1.heap _) fun h' hx'=> ?_)));have I3:=I2.kept (h':=h') (t':=s1.toks) fun b o e=>hx' b o (aQ (Heap.lt_size e)) e
 show wpAny _ _ (assignInOrder [fun v=>bindName X.env y v,fun v=>bindName X.env x v] [u2,u1]>>=fun _=>pure Flow.next) _ _ _
 refine wpAny_bind (assignInOrder_cons (wpAny_bindName (lZ I3 hN hj (.inl hy) rw' (fun s2 I4=> ?_) (.inr hy))));refine assignInOrder_cons (wpAny_bindName (lZ I4 hN hi (.inl hx) rv (fun s3 I5=>assignInOrder_nil (wpAny_pure ?_)) (.inr hx)));rw[List.set_comm _ _ (Ne.symm hij)] at I5;exact⟨_,H1,I5,q1⟩
end
section
variable {X:Cx} {pos:Pos}
noncomputable def zU(c:TT)(tb:TS):TS:=fun D σ H=>∃W:Nat ->St ->Hp ->Prop,(∃m,W m σ H) /\ ∀m σ H,W m σ H ->
 c σ H fun b H1=>if b=true then∃N:St ->Hp ->Prop,(∀σ' H',N σ' H' -> ∃m',m'<m /\ W m' σ' H') /\ tb {D with nx:=N,ct:=N,bk:=D.nx} σ H1 else D.nx σ H1
theorem sK{c:Expr}{body:List Stmt}{tc:TT}{tb:TS}(hp:PassesOwn (model X.prog X.w) X.A X.env X.xe)(hc:PT X c tc)(hb:PSs X body tb):PS X (.While c body [] pos) (zU tc tb):=by
 intro pins s σ H D I h;obtain⟨W,⟨m0,w0⟩,turn⟩:=h
 refine wpAny_While (codeAny_whileLoop (fun n s'=>∃σ' H',Inv X pins σ' H' s' /\ W n σ' H') ?_ m0 ⟨σ,H,I,w0⟩);rintro n s1 ⟨σ1,H1,I1,w1⟩;refine wpAny_passesOwn hp (thn (hc pins s1 σ1 H1 _ I1 (turn n σ1 H1 w1)) fun b s2 ⟨H2,I2,q2⟩=> ?_);cases b with
 |true=>
  obtain⟨N,hN,q2⟩:=q2
  rw[if_pos rfl];refine wpAny_passesOwn hp (thn (hb pins s2 σ1 H2 _ I2 q2) fun f s3 q3=> ?_);cases f with
  |next=>
   obtain⟨σ3,H3,I3,n3⟩:=q3
   obtain⟨m',hm,w3⟩:=hN σ3 H3 n3
   exact⟨m',hm,σ3,H3,I3,w3⟩
  |cont=>
   obtain⟨σ3,H3,I3,n3⟩:=q3
   obtain⟨m',hm,w3⟩:=hN σ3 H3 n3
   exact⟨m',hm,σ3,H3,I3,w3⟩
  |brk=>exact q3
  |ret v=>exact q3
 |false=>
  rw[if_neg aY];exact wpAny_execs_nil ⟨σ1,H2,I2,q2⟩
end
structure It where
 go:Nat ->Hp ->Prop
 yld:Nat ->Hp ->V ->Hp ->Prop
 stop:Nat ->Hp ->Prop
noncomputable def wa(X:Cx)(pins:List (Addr×Obj))(H:Hp)(b:Addr):Prop:=
 H b=none /\ b≠X.env.locals /\ b∉X.fs /\ (b∈X.ex∨X.s₀.heap.objs.size<=b) /\ (∀x c,X.env.cells.lookup x=some c ->c≠b) /\ ∀p∈X.pn++pins,p.1≠b
theorem Inv.fpOk{X:Cx}{pins:List (Addr×Obj)}{σ:St}{H H':Hp}{s:Shared}{b:Addr}(I:Inv X pins σ H s)(hb:s.heap.objs.size<=b)(hn:H' b=none):wa X pins H' b:=by
 refine⟨hn,gW (aT I.lt hb),I.nofs hb,.inr (bJ I.sz hb),fun x c e z=> ?_,fun p hp z=> ?_⟩
 ·obtain⟨v,q⟩:=I.cell x c e
  exact absurd (aT q.lt (by rw[z];exact hb)) (cI _)
 ·exact absurd (aT (Heap.lt_size (I.pin p hp).1) (by rw[z];exact hb)) (cI _)
structure Turn(P:Program)(w:World)(K:ag)(tg:Expr)(J:It)(fp:List Addr)(it:Addr)(tn:Nat ->Heap ->Prop):Prop where
 mem:it∈fp
 obj:∀i h,tn i h -> ∀b∈fp,∃o,h.get? b=some o /\ ∀v,o.data≠ .cell v
 keep:∀i h h',tn i h ->(∀b∈fp,∀o,h.get? b=some o ->h'.get? b=some o) ->tn i h'
 item:∀(X:Cx),X.prog=P ->X.w=w ->X.K=K ->X.calm=true -> ∀(i:Nat) (pins:List (Addr×Obj)) (s:Shared) (σ:St) (H:Hp) (E:Value ->Shared ->Prop),Inv X pins σ H s ->(∀b∈fp,wa X pins H b) ->tn i s.heap ->J.go i H ->
  wpAny (model P w) X.A (pyNext (.ref it)) (fun r s1=>∃u,r=some u /\
   wpAny (model P w) X.A (letOwnedTupleGo tg (.ref it) u) (fun _ s2=>∃x H',Inv X pins σ H' s2 /\ RelV x u /\ J.yld i H x H' /\ tn (i+1) s2.heap /\ ∀b∈fp,H' b=none) E s1) E s
 done:∀(X:Cx),X.prog=P ->X.w=w ->X.K=K ->X.calm=true -> ∀(i:Nat) (pins:List (Addr×Obj)) (s:Shared) (σ:St) (H:Hp) (E:Value ->Shared ->Prop),Inv X pins σ H s ->(∀b∈fp,wa X pins H b) ->tn i s.heap ->J.stop i H ->
  wpAny (model P w) X.A (pyNext (.ref it)) (fun r s1=>r=none /\ Inv X pins σ H s1) E s
 self:∀(A:Around) (i:Nat) (s:Shared) (Q:Value ->Shared ->Prop) (E:Value ->Shared ->Prop),tn i s.heap ->Q (.ref it) s ->wpAny (model P w) A (pyIter (.ref it)) Q E s
noncomputable abbrev TI:=St ->Hp ->(It ->Hp ->Prop) ->Prop
noncomputable def PIE(X:Cx)(pins:List (Addr×Obj))(σ:St)(tg:Expr)(R:It ->Hp ->Prop)(itv:Value)(s2:Shared):Prop:=
 ∃(it:Addr) (fp:List Addr) (tn:Nat ->Heap ->Prop) (J:It) (H':Hp),itv= .ref it /\ Inv X pins σ H' s2 /\ Turn X.prog X.w X.K tg J fp it tn /\ tn 0 s2.heap /\ (∀b∈fp,wa X pins H' b) /\ R J H'
noncomputable def PI(X:Cx)(tg iter:Expr)(wi:TI):Prop:=
 ∀(pins:List (Addr×Obj)) (s:Shared) (σ:St) (H:Hp) (R:It ->Hp ->Prop),Inv X pins σ H s ->wi σ H R ->
  wpAny (model X.prog X.w) X.A (eval iter X.env) (fun v s1=>wpAny (model X.prog X.w) X.A (pyIter v) (PIE X pins σ tg R) X.xe s1) X.xe s
theorem AI{M:Model}{A:Around}{E:Value ->Shared ->Prop}{s:Shared}{tg:Expr}{it:Addr}{u:Value}{o:Obj}{n:String}{vs:Array Value}{Q:Unit ->Shared ->Prop}(ho:s.heap.get? it=some o)(hc:o.cls= .type n)(hd:o.data= .fields vs)
  (hn:["enumerate","zip","dict_itemiterator","dict_reverseitemiterator","odict_iterator","itertools.zip_longest","itertools.pairwise"].contains n=false) (hQ:Q () s):wpAny M A (letOwnedTupleGo tg (.ref it) u) Q E s:=by
 unfold letOwnedTupleGo;cases tg<;>first
  |exact wpAny_pure hQ
  |(cases u<;>first
    |exact wpAny_pure hQ
    |(refine wpAny_bind (wpAny_load ho ?_);rw[hc,hd];show wpAny M A (if(["enumerate","zip","dict_itemiterator","dict_reverseitemiterator","odict_iterator","itertools.zip_longest","itertools.pairwise"].contains n&&vs[0]? ==some (rawInt _))=true then _ else _) Q E s;rw[if_neg (by intro h;rw[hn,gD] at h;cases h)];exact wpAny_pure hQ))
noncomputable def Itl(K:ag)(a:Addr):It:=
 ⟨fun i H=>∃xs x,SqL K H a xs /\ xs[i]? =some x,fun i H x H'=>H'=H /\ ∀xs,SqL K H a xs ->xs[i]? =some x,fun i H=>∃xs,SqL K H a xs /\ xs.length<=i⟩
noncomputable def Itr(lo:Int)(n:Nat):It:=⟨fun i _=>i<n,fun i H x H'=>H'=H /\ x= .int (lo+i),fun i _=>n<=i⟩
theorem uB{P:Program}{w:World}{K:ag}{tg:Expr}(a it:Addr):Turn P w K tg (Itl K a) [it] it (fun i h=>h.IsListIter it a i) where
 mem:=by simp
 obj:=fun i h st b hb=>by
  have e:b=it:=by simpa using hb
  subst e;obtain⟨o,e,c,d⟩:=st
  exact⟨o,e,fun v z=>by rw[d] at z;cases z⟩
 keep:=fun i h h' st k=>st.at fun o e=>k it (by simp) o e
 item:=by
  intro X hP hw hK hc i pins s σ H E I hf st hg;subst hP hw hK;obtain⟨xs,x,hq,hx⟩:=hg
  obtain⟨its,rv,p,hz⟩:=I.list hq
  obtain⟨u,hu,ru⟩:=rv.get hx
  obtain⟨f0,f1,f2,f3,f4,f5⟩:=hf it (by simp)
  refine wpAny_pyNext_list_item st p.isList (x:=u) (by simpa using hu) fun h' st' sb=> ?_
  have I1:Inv X pins σ H {s with heap:=h'}:=I.turned (t':=s.toks) (fun b o hb e=>(sb.2 b hb).trans e) f0 f1 f3 f4 f5
  obtain⟨o,e,c,d⟩:=id st'
  exact⟨u,rfl,AI (s:={s with heap:=h'}) e c d (by decide) ⟨x,H,I1,ru,⟨rfl,fun ys hy=>by rw[I.list_inj hy hq];exact hx⟩,st',fun b hb=>(hf b hb).1⟩⟩
 done:=by
  intro X hP hw hK hc i pins s σ H E I hf st hg;subst hP hw hK;obtain⟨xs,hq,hx⟩:=hg
  obtain⟨its,rv,p,hz⟩:=I.list hq
  obtain⟨f0,f1,f2,f3,f4,f5⟩:=hf it (by simp)
  have hl:=rv.length
  exact wpAny_pyNext_list_end (I.ok.hd hc) st p.isList (by simp;omega) fun h' eb=>⟨rfl,I.turned (t':=s.toks) (fun b o hb e=>eb b o hb e) f0 f1 f3 f4 f5⟩
 self:=fun _ _ _ _ _ st h=>wpAny_pyIter_listiter st h
theorem tS{P:Program}{w:World}{K:ag}{tg:Expr}(it:Addr)(lo:Int)(n:Nat):Turn P w K tg (Itr lo n) [it] it (fun i h=>IsRangeIter h it (lo+(i:Nat)*1) ((n:Int)-(i:Nat)) 1) where
 mem:=by simp
 obj:=fun i h st b hb=>by
  have e:b=it:=by simpa using hb
  subst e;exact⟨_,st,fun v z=>by
   have z':Data.fields _=Data.cell v:=z
   cases z'⟩
 keep:=fun i h h' st k=>k it (by simp) _ st
 item:=by
  intro X hP hw hK hc i pins s σ H E I hf st hg;subst hP hw hK;obtain⟨f0,f1,f2,f3,f4,f5⟩:=hf it (by simp)
  have W:=Walks.range (prog:=X.prog) (w:=X.w) (I.ok.hd hc) it lo 1 n
  refine W.item i s _ _ hg st fun v h' tk hv st' kk=> ?_
  obtain⟨t,rfl⟩:=hv
  have I1:Inv X pins σ H {s with heap:=h',toks:=tk}:=I.turned (fun b o hb e=>kk b o (by simpa using hb) e) f0 f1 f3 f4 f5
  refine⟨_,rfl,AI (s:={s with heap:=h',toks:=tk}) (n:="range_iterator") st' rfl rfl (by decide) ⟨.int (lo+i),H,I1,⟨t,?_⟩,⟨rfl,rfl⟩,st',fun b hb=>(hf b hb).1⟩⟩;rw[dl]
 done:=by
  intro X hP hw hK hc i pins s σ H E I hf st hg;subst hP hw hK;obtain⟨f0,f1,f2,f3,f4,f5⟩:=hf it (by simp)
  exact wpAny_pyNext_range_end (I.ok.hd hc) st (by have:n<=i:=hg;omega) fun h' eb=>⟨rfl,I.turned (t':=s.toks) (fun b o hb e=>eb b o hb e) f0 f1 f3 f4 f5⟩
 self:=fun _ _ _ _ _ st h=>wpAny_pyIter_rangeiter st h
end L2
namespace L2
open PySem PySem.Spec PyProof.Rows
section
variable {X:Cx} {tg:Expr}
noncomputable def rV(K:ag)(tl:TE):TI:=fun σ H R=>tl σ H fun x H1=>∃a,x= .ref a /\ (∃xs,SqL K H1 a xs) /\ R (Itl K a) H1
theorem yG{l:Expr}{tl:TE}(hl:PE X l tl):PI X tg l (rV X.K tl):=by
 intro pins s σ H R I h;refine thn (hl pins s σ H _ I h) fun v s1 ⟨x,H1,I1,r1,q1⟩=> ?_
 obtain⟨a,e,⟨xs,hq⟩,q⟩:=q1
 subst e;cases r1;obtain⟨its,rv,p,hz⟩:=I1.list hq
 refine wpAny_pyIter_list p.isList ?_;refine⟨s1.heap.objs.size,[s1.heap.objs.size],_,_,H1,rfl,I1.kept (t':=s1.toks) fun b o e=>Heap.get?_push_of_some _ e,uB a _,⟨_,Heap.get?_push_size _ rfl,rfl,rfl⟩,fun b hb=> ?_,q⟩;have e:b=s1.heap.objs.size:=by simpa using hb
 subst e;exact I1.fpOk (aI _) (I1.hok.fresh (aI _))
theorem wz{pins:List (Addr×Obj)}{σ:St}{H:Hp}{s:Shared}{R:It ->Hp ->Prop}{E:Value ->Shared ->Prop}{lo hi:Int}{t u v:Tok}{tk:Nat}(I:Inv X pins σ H s)(h1: -(2^62)<=lo)(h2:lo<2^62)(h3: -(2^62)<=hi)(h4:hi<2^62)
  (q:R (Itr lo (hi-lo).toNat) H):wpAny (model X.prog X.w) X.A (pyIter (.ref s.heap.objs.size)) (PIE X pins σ tg R) E {s with heap:=s.heap.push {cls:= .type "range",data:= .fields #[.int lo t,.int hi u,.int 1 v]},toks:=tk}:=by
 refine wpAny_pyIter_range (IsRange.new ..) (small_one h1 h2 h3 h4) ?_;have I1:Inv X pins σ H {s with heap:=s.heap.push {cls:= .type "range",data:= .fields #[.int lo t,.int hi u,.int 1 v]},toks:=tk}:=I.kept fun b o e=>Heap.get?_push_of_some _ e
 refine⟨(s.heap.push {cls:= .type "range",data:= .fields #[.int lo t,.int hi u,.int 1 v]}).objs.size,[(s.heap.push {cls:= .type "range",data:= .fields #[.int lo t,.int hi u,.int 1 v]}).objs.size],_,_,H,rfl,
  I1.kept (t':=tk) fun b o e=>Heap.get?_push_of_some _ e,tS _ lo (hi-lo).toNat,?_,fun b hb=> ?_,q⟩
 ·have e1:lo+((0:Nat):Int)*1=lo:=by simp
  have e2:(((hi-lo).toNat:Nat):Int)-((0:Nat):Int)=Builtin.Range.rangeSize lo hi 1:=by rw[rangeSize_one];split<;>omega
  show IsRangeIter _ _ (lo+((0:Nat):Int)*1) ((((hi-lo).toNat:Nat):Int)-((0:Nat):Int)) 1
  rw[e1,e2];exact Heap.get?_push_size _ rfl
 ·have e:b=(s.heap.push {cls:= .type "range",data:= .fields #[.int lo t,.int hi u,.int 1 v]}).objs.size:=by simpa using hb
  subst e;exact I1.fpOk (aI _) (I1.hok.fresh (aI _))
noncomputable def wS(ta:TA):TI:=fun σ H R=>ta σ H fun vs H1=>∃j:Int,vs=[.int j] /\ -(2^62)<=j /\ j<2^62 /\ R (Itr 0 j.toNat) H1
theorem jK{a:Expr}{ta:TA}{p pos:Pos}(hg:Gl X "range")(hm:X.mg "range"=none)(ha:PA X [a] ta)(hs:starEach [a] X.env=[(false,eval a X.env)]:=by rfl):PI X tg (.Call (.Name "range" p) [a] [] pos) (wS ta):=by
 intro pins s σ H R I h;refine Call_ (sQ I hg hm boot_range (dm (thn (ha pos pins s σ H _ I h) fun us s1 ⟨vs,H1,I1,r1,q1⟩=> ?_) hs rfl));obtain⟨j,e,q1,q2,q⟩:=q1
 subst e;cases r1 with
 |cons r rr=>
  cases rr;obtain⟨t,rfl⟩:=r
  exact call_range_1 (wz I1 (by omega) (by omega) q1 q2 (by simpa using q))
noncomputable def zG(wi:TI)(g:TG)(tb:TS):TS:=fun D σ H=>wi σ H fun J H1=>∃W:Nat ->Nat ->St ->Hp ->Prop,(∃m,W 0 m σ H1) /\ ∀i m σ H,W i m σ H ->
 (J.stop i H /\ D.nx σ H)∨(J.go i H /\ ∃N:St ->Hp ->Prop,(∀σ' H',N σ' H' -> ∃m',m'<m /\ W (i+1) m' σ' H') /\ ∀x H',J.yld i H x H' ->g x σ H' fun σ2 H2=>tb {D with nx:=N,ct:=N,bk:=D.nx} σ2 H2)
noncomputable def qE(fp:List Addr)(h:Heap):List (Addr×Obj):=fp.filterMap fun b=>(h.get? b).map fun o=>(b,o)
theorem lJ{fp:List Addr}{h:Heap}{b:Addr}{o:Obj}(hb:b∈fp)(e:h.get? b=some o):(b,o)∈qE fp h:=dY.mpr ⟨b,hb,by rw[e];rfl⟩
theorem vp{fp:List Addr}{h:Heap}{p:Addr×Obj}(hp:p∈qE fp h):p.1∈fp /\ h.get? p.1=some p.2:=by
 obtain⟨b,hb,e⟩:=dY.mp hp
 cases q:h.get? b with
 |none=>rw[q] at e;cases e
 |some o=>
  rw[q] at e;have e':(b,o)=p:=bA.inj e
  subst e';exact⟨hb,q⟩
theorem Inv.pinned{pins:List (Addr×Obj)}{σ:St}{H:Hp}{s:Shared}{fp:List Addr}(I:Inv X pins σ H s)(hf:∀b∈fp,wa X pins H b)(ho:∀b∈fp,∃o,s.heap.get? b=some o /\ ∀v,o.data≠ .cell v):Inv X (pins++qE fp s.heap) σ H s:=
 I.pins_of fun p hp=>(aR.mp hp).elim (fun z=>I.pin p (bK _ z)) fun z=>by
  obtain⟨hb,e⟩:=vp z
  obtain⟨f0,f1,f2,_⟩:=hf p.1 hb
  obtain⟨o,e',d⟩:=ho p.1 hb
  rw[e] at e';cases e';exact⟨e,f0,f1,f2,d⟩
theorem Inv.unpinned{pins pl:List (Addr×Obj)}{σ:St}{H:Hp}{s:Shared}(I:Inv X (pins++pl) σ H s):Inv X pins σ H s:=I.pins_of fun p hp=>I.pin p (bK _ (aO _ hp))
theorem kD{iter:Expr}{body:List Stmt}{wi:TI}{g:TG}{tb:TS}{pos:Pos}(hp:PassesOwn (model X.prog X.w) X.A X.env X.xe)(hc:X.calm=true)(hi:PI X tg iter wi)(hg:PG X tg g)(hb:PSs X body tb)
  (hs:∀x,foldedSetIterable iter X.env x=pure x:=by intro _;rfl):PS X (.For tg iter body [] pos) (zG wi g tb):=by
 intro pins s σ H D I h;refine wpAny_For (thn (hi pins s σ H _ I h) fun v s1 h1=>thn h1 fun itv s2 h2=> ?_) hs;obtain⟨it,fp,tn,J,H2,e,I2,T,st2,f2,W,⟨m0,w0⟩,turn⟩:=h2
 subst e
 --what stays true of the iterator's objects through the loop
 have stat:∀{H':Hp},(∀b∈fp,H' b=none) -> ∀b∈fp,wa X pins H' b:=fun hn b hb=>⟨hn b hb,(f2 b hb).2⟩
 refine codeAny_forLoop_any (fun n s'=>∃i σ' H',Inv X pins σ' H' s' /\ tn i s'.heap /\ (∀b∈fp,H' b=none) /\ W i n σ' H') ?_ m0 ⟨0,σ,H2,I2,st2,fun b hb=>(f2 b hb).1,w0⟩;rintro n s3 ⟨i,σ3,H3,I3,st3,fr3,w3⟩;rcases turn i n σ3 H3 w3 with⟨stop,qn⟩|⟨go,N,hN,step⟩
 ·refine wpAny_passesOwn hp (thn (T.done X rfl rfl rfl hc i pins s3 σ3 H3 X.xe I3 (stat fr3) st3 stop) fun r s4 ⟨hr,I4⟩=> ?_);subst hr;exact wpAny_execs_nil ⟨σ3,H3,I4,qn⟩
 ·refine wpAny_passesOwn hp (thn (T.item X rfl rfl rfl hc i pins s3 σ3 H3 X.xe I3 (stat fr3) st3 go) fun r s4 ⟨u,hr,h4⟩=> ?_);subst hr;refine wpAny_passesOwn hp (thn h4 fun _ s5 ⟨x,H5,I5,r5,y5,st5,fr5⟩=> ?_);have I5':=I5.pinned (stat fr5) (T.obj _ _ st5)
  refine wpAny_passesOwn hp (thn (hg _ s5 σ3 H5 x u _ I5' r5 (step x H5 y5)) fun _ s6 ⟨σ6,H6,I6,q6⟩=> ?_);refine wpAny_passesOwn hp (thn (hb _ s6 σ6 H6 _ I6 q6) fun f s7 q7=> ?_);have again:∀{σ7:St} {H7:Hp},Inv X (pins++qE fp s5.heap) σ7 H7 s7 ->N σ7 H7 -> ∃m,m<n /\ ∃i σ' H',Inv X pins σ' H' s7 /\ tn i s7.heap /\ (∀b∈fp,H' b=none) /\ W i m σ' H':=fun {σ7 H7} I7 n7=>by
   obtain⟨m',hm,w7⟩:=hN σ7 H7 n7
   refine⟨m',hm,i+1,σ7,H7,I7.unpinned,T.keep _ _ _ st5 fun b hb o e=>(I7.pin (b,o) (bK _ (bK _ (lJ hb e)))).1,fun b hb=> ?_,w7⟩;obtain⟨o,e,d⟩:=T.obj _ _ st5 b hb
   exact(I7.pin (b,o) (bK _ (bK _ (lJ hb e)))).2.1
  cases f with
  |next=>obtain⟨σ7,H7,I7,n7⟩:=q7;exact again I7 n7
  |cont=>obtain⟨σ7,H7,I7,n7⟩:=q7;exact again I7 n7
  |brk=>obtain⟨σ7,H7,I7,q7⟩:=q7;exact⟨σ7,H7,I7.unpinned,q7⟩
  |ret v=>obtain⟨x7,σ7,H7,I7,r7,q7⟩:=q7;exact⟨x7,σ7,H7,I7.unpinned,r7,q7⟩
end
theorem tx{K:ag}{a:Addr}{xs:List V}{g:TG}{tb:TS}{D:Ends}{σ:St}{H:Hp}(Pv:Nat ->St ->Hp ->Prop)(h0:Pv 0 σ H)(hl:∀i σ H,i<=xs.length ->Pv i σ H ->SqL K H a xs)
  (hs:∀i x σ H,xs[i]? =some x ->Pv i σ H ->g x σ H fun σ2 H2=>tb {D with nx:=Pv (i+1),ct:=Pv (i+1),bk:=D.nx} σ2 H2) (hd:∀σ H,Pv xs.length σ H ->D.nx σ H):
  ∃W:Nat ->Nat ->St ->Hp ->Prop,(∃m,W 0 m σ H) /\ ∀i m σ H,W i m σ H ->
   ((Itl K a).stop i H /\ D.nx σ H)∨((Itl K a).go i H /\ ∃N:St ->Hp ->Prop,(∀σ' H',N σ' H' -> ∃m',m'<m /\ W (i+1) m' σ' H') /\ ∀x H',(Itl K a).yld i H x H' ->g x σ H' fun σ2 H2=>tb {D with nx:=N,ct:=N,bk:=D.nx} σ2 H2):=by
 refine⟨fun i m σ H=>m=xs.length-i /\ i<=xs.length /\ Pv i σ H,⟨xs.length,by simp,cL _,h0⟩,?_⟩;rintro i m σ H ⟨rfl,hi,p⟩;have q:=hl i σ H hi p
 by_cases hlt:i<xs.length
 ·refine .inr ⟨⟨xs,xs[i],q,by simp[hlt]⟩,Pv (i+1),fun σ' H' p'=>⟨xs.length-(i+1),by omega,rfl,hlt,p'⟩,fun x H' y=> ?_⟩;obtain⟨e,y⟩:=y
  subst e;exact hs i x σ _ (y xs q) p
 ·have e:i=xs.length:=by omega
  subst e;exact .inl ⟨⟨xs,q,aI _⟩,hd σ H p⟩
theorem qP{lo:Int}{n:Nat}{g:TG}{tb:TS}{D:Ends}{σ:St}{H:Hp}(Pv:Nat ->St ->Hp ->Prop)(h0:Pv 0 σ H)
  (hs:∀i σ H,i<n ->Pv i σ H ->g (.int (lo+i)) σ H fun σ2 H2=>tb {D with nx:=Pv (i+1),ct:=Pv (i+1),bk:=D.nx} σ2 H2) (hd:∀σ H,Pv n σ H ->D.nx σ H):
  ∃W:Nat ->Nat ->St ->Hp ->Prop,(∃m,W 0 m σ H) /\ ∀i m σ H,W i m σ H ->
   ((Itr lo n).stop i H /\ D.nx σ H)∨((Itr lo n).go i H /\ ∃N:St ->Hp ->Prop,(∀σ' H',N σ' H' -> ∃m',m'<m /\ W (i+1) m' σ' H') /\ ∀x H',(Itr lo n).yld i H x H' ->g x σ H' fun σ2 H2=>tb {D with nx:=N,ct:=N,bk:=D.nx} σ2 H2):=by
 refine⟨fun i m σ H=>m=n-i /\ i<=n /\ Pv i σ H,⟨n,by simp,cL _,h0⟩,?_⟩;rintro i m σ H ⟨rfl,hi,p⟩
 by_cases hlt:i<n
 ·refine .inr ⟨hlt,Pv (i+1),fun σ' H' p'=>⟨n-(i+1),by omega,rfl,hlt,p'⟩,fun x H' y=> ?_⟩;obtain⟨e,y⟩:=y
  subst e y;exact hs i σ _ hlt p
 ·have e:i=n:=by omega
  subst e;exact .inl ⟨aI _,hd σ H p⟩
end L2
namespace L2
open PySem PySem.Spec PyProof.Rows
noncomputable abbrev R2:=V ->V ->Hp ->VK ->Prop
noncomputable def OpR(X:Cx)(f:Value ->Value ->Sem Value)(r:R2):Prop:=
 ∀(pins:List (Addr×Obj)) (s:Shared) (σ:St) (H:Hp) (x y:V) (v u:Value) (Q:VK),Inv X pins σ H s ->RelV x v ->RelV y u ->r x y H Q ->
  wpAny (model X.prog X.w) X.A (f v u) (EP X pins σ Q) X.xe s
noncomputable def UnR(X:Cx)(f:Value ->Sem Value)(r:V ->Hp ->VK ->Prop):Prop:=
 ∀(pins:List (Addr×Obj)) (s:Shared) (σ:St) (H:Hp) (x:V) (v:Value) (Q:VK),Inv X pins σ H s ->RelV x v ->r x H Q ->
  wpAny (model X.prog X.w) X.A (f v) (EP X pins σ Q) X.xe s
noncomputable def ol(X:Cx)(f:Value)(r:List V ->Hp ->VK ->Prop):Prop:=
 ∀(pins:List (Addr×Obj)) (s:Shared) (σ:St) (H:Hp) (xs:List V) (us:List Value) (Q:VK),Inv X pins σ H s ->Vals xs us ->r xs H Q ->
  wpAny (model X.prog X.w) X.A (call f us) (EP X pins σ Q) X.xe s
noncomputable def tOp(r:R2)(ta tb:TE):TE:=fun σ H Q=>ta σ H fun x H1=>tb σ H1 fun y H2=>r x y H2 Q
noncomputable def tUn(r:V ->Hp ->VK ->Prop)(ta:TE):TE:=fun σ H Q=>ta σ H fun x H1=>r x H1 Q
noncomputable def rI(C:Int ->Int ->Prop)(g:Int ->Int ->V):R2:=fun x y H Q=>∃i j,x= .int i /\ y= .int j /\ C i j /\ Q (g i j) H
noncomputable def rI0(g:Int ->Int ->V):R2:=fun x y H Q=>∃i j,x= .int i /\ y= .int j /\ Q (g i j) H
noncomputable def rU(g:Int ->V):V ->Hp ->VK ->Prop:=fun x H Q=>∃i,x= .int i /\ Q (g i) H
section
variable {X:Cx} {a b c:Expr} {ta tb tc:TE} {pos:Pos}
theorem Bo(ha:PE X a ta)(hb:PE X b tb){pins:List (Addr×Obj)}{s:Shared}{σ:St}{H:Hp}{R:V ->V ->Hp ->Prop}(I:Inv X pins σ H s)
  (h:ta σ H fun x H1=>tb σ H1 fun y H2=>R x y H2) {Q:Value ->Shared ->Prop} {f:Value ->Value ->Sem Value}
  (hf:∀v u s2 x y H2,Inv X pins σ H2 s2 ->RelV x v ->RelV y u ->R x y H2 ->wpAny (model X.prog X.w) X.A (f v u) Q X.xe s2):
  wpAny (model X.prog X.w) X.A (eval a X.env) (fun v s₁=>wpAny (model X.prog X.w) X.A (eval b X.env) (fun u s₂=>wpAny (model X.prog X.w) X.A (f v u) Q X.xe s₂) X.xe s₁) X.xe s:=by
 refine thn (ha pins s σ H _ I h) fun v s1 ⟨x,H1,I1,r1,q1⟩=> ?_
 refine thn (hb pins s1 σ H1 _ I1 q1) fun u s2 ⟨y,H2,I2,r2,q2⟩=> ?_
 exact hf v u s2 x y H2 I2 r1 r2 q2
theorem iW{op:Operator}{r:R2}(ho:OpR X (binaryOp op) r)(ha:PE X a ta)(hb:PE X b tb):PE X (.BinOp a op b pos) (tOp r ta tb):=by
 intro pins s σ H Q I h;exact wpAny_BinOp (Bo ha hb I h fun v u s2 x y H2 I2 rx ry q=>ho pins s2 σ H2 x y v u Q I2 rx ry q)
theorem pz{op:UnaryOp}{r:V ->Hp ->VK ->Prop}(ho:UnR X (unaryOp op) r)(ha:PE X a ta):PE X (.UnaryOp op a pos) (tUn r ta):=by
 intro pins s σ H Q I h;exact UnaryOp_ (thn (ha pins s σ H _ I h) fun v s1 ⟨x,H1,I1,r1,q1⟩=>ho pins s1 σ H1 x v Q I1 r1 q1)
theorem opI{f:Value ->Value ->Sem Value}{C:Int ->Int ->Prop}{g:Int ->Int ->Int}
  (rule:∀(i j:Int) (t u:Tok) (s:Shared) (Q:Value ->Shared ->Prop) (E:Value ->Shared ->Prop),C i j ->Q (.int (g i j) s.toks) {s with toks:=s.toks+1} ->wpAny (model X.prog X.w) X.A (f (.int i t) (.int j u)) Q E s):
  OpR X f (rI C fun i j=> .int (g i j)):=by
 intro pins s σ H x y v u Q I rx ry h;obtain⟨i,j,rfl,rfl,hc,q⟩:=h
 obtain⟨t,rfl⟩:=rx
 obtain⟨t',rfl⟩:=ry
 exact rule i j t t' s _ _ hc ⟨.int (g i j),H,I.tok _,⟨_,rfl⟩,q⟩
theorem Bt{f:Value ->Value ->Sem Value}{g:Int ->Int ->Int}
  (rule:∀(i j:Int) (t u:Tok) (s:Shared) (Q:Value ->Shared ->Prop) (E:Value ->Shared ->Prop),Q (.int (g i j) s.toks) {s with toks:=s.toks+1} ->wpAny (model X.prog X.w) X.A (f (.int i t) (.int j u)) Q E s):
  OpR X f (rI0 fun i j=> .int (g i j)):=by
 intro pins s σ H x y v u Q I rx ry h;obtain⟨i,j,rfl,rfl,q⟩:=h
 obtain⟨t,rfl⟩:=rx
 obtain⟨t',rfl⟩:=ry
 exact rule i j t t' s _ _ ⟨.int (g i j),H,I.tok _,⟨_,rfl⟩,q⟩
theorem zH{f:Value ->Value ->Sem Value}{g:Int ->Int ->Bool}
  (rule:∀(i j:Int) (t u:Tok) (s:Shared) (Q:Value ->Shared ->Prop) (E:Value ->Shared ->Prop),Q (.bool (g i j)) s ->wpAny (model X.prog X.w) X.A (f (.int i t) (.int j u)) Q E s):
  OpR X f (rI0 fun i j=> .bl (g i j)):=by
 intro pins s σ H x y v u Q I rx ry h;obtain⟨i,j,rfl,rfl,q⟩:=h
 obtain⟨t,rfl⟩:=rx
 obtain⟨t',rfl⟩:=ry
 exact rule i j t t' s _ _ ⟨.bl (g i j),H,I,rfl,q⟩
noncomputable def CMul(i j:Int):Prop:=(-(2^64)<i /\ i<2^64)∨(-(2^64)<j /\ j<2^64)
theorem CMul.ok{i j:Int}(h:CMul i j):IntMulOk i j:=by
 rcases h with⟨h1,h2⟩|⟨h1,h2⟩
 ·exact .of_left (intBits_le_64 h1 h2)
 ·exact .of_right (intBits_le_64 h1 h2)
theorem jA:OpR X (binaryOp .Add) (rI0 fun i j=> .int (i+j)):=Bt fun _ _ _ _ _ _ _ q=>add_int q
theorem jw:OpR X (binaryOp .Sub) (rI0 fun i j=> .int (i-j)):=Bt fun _ _ _ _ _ _ _ q=>sub_int q
theorem lz:OpR X (binaryOp .Mod) (rI (fun _ j=>0<j) fun i j=> .int (i%j)):=opI fun i j _ _ _ _ _ hc q=>by
 have h1:(0:Int)<j:=hc
 exact mod_int' (by omega) (by rw[Int.fmod_eq_emod_of_nonneg i (by omega)];exact q)
theorem unI{f:Value ->Sem Value}{g:Int ->Int}
  (rule:∀(i:Int) (t:Tok) (s:Shared) (Q:Value ->Shared ->Prop) (E:Value ->Shared ->Prop),Q (.int (g i) s.toks) {s with toks:=s.toks+1} ->wpAny (model X.prog X.w) X.A (f (.int i t)) Q E s):
  UnR X f (rU fun i=> .int (g i)):=by
 intro pins s σ H x v Q I rx h;obtain⟨i,rfl,q⟩:=h
 obtain⟨t,rfl⟩:=rx
 exact rule i t s _ _ ⟨.int (g i),H,I.tok _,⟨_,rfl⟩,q⟩
theorem lV:UnR X (unaryOp .USub) (rU fun i=> .int (-i)):=unI fun _ _ _ _ _ q=>neg_int q
end
noncomputable def BA:V ->V ->Bool
 | .non,.non=>true| .non,.int _=>true| .int _,.non=>true| .non,.bl _=>true| .bl _,.non=>true| .non,.str _=>true| .str _,.non=>true
 | .int _,.int _=>true| .bl _,.bl _=>true| .str _,.str _=>true| .byt _,.byt _=>true
 | .int _,.str _=>true| .str _,.int _=>true| .bl _,.str _=>true| .str _,.bl _=>true
 |_,_=>false
noncomputable def rEq:R2:=fun x y H Q=>BA x y=true /\ Q (.bl (decide (x=y))) H
section
variable {X:Cx} {a b c:Expr} {ta tb tc:TE} {pos:Pos}
theorem ni:OpR X (compareOp .Lt) (rI0 fun i j=> .bl (decide (i<j))):=zH fun _ _ _ _ _ _ _ q=>lt_int q
theorem t9:OpR X (compareOp .LtE) (rI0 fun i j=> .bl (decide (i<=j))):=zH fun _ _ _ _ _ _ _ q=>le_int q
theorem pF:OpR X (compareOp .Gt) (rI0 fun i j=> .bl (decide (j<i))):=zH fun _ _ _ _ _ _ _ q=>gt_int q
theorem ub:OpR X (compareOp .GtE) (rI0 fun i j=> .bl (decide (j<=i))):=zH fun _ _ _ _ _ _ _ q=>ge_int q
theorem je(b:Expr){op:CmpOp}(h:op≠ .In:=by decide)(h2:op≠ .NotIn:=by decide):behindInMarks op b=false:=by
 have e1:(op==CmpOp.In)=false:=by cases op<;>first|rfl|exact absurd rfl h
 have e2:(op==CmpOp.NotIn)=false:=by cases op<;>first|rfl|exact absurd rfl h2
 cases b<;>simp[behindInMarks,e1,e2]
theorem lx{op:CmpOp}{r:R2}(ho:OpR X (compareOp op) r)(ha:PE X a ta)(hb:PE X b tb)(hm:behindInMarks op b=false):PE X (.Compare a [op] [b] pos) (tOp r ta tb):=by
 intro pins s σ H Q I h;exact wpAny_Compare1 (Bo ha hb I h fun v u s2 x y H2 I2 rx ry q=>ho pins s2 σ H2 x y v u Q I2 rx ry q) hm
noncomputable def xI(r r':R2)(ta tb tc:TE):TE:=fun σ H Q=>ta σ H fun x H1=>tb σ H1 fun y H2=>r x y H2 fun z H3=>∃k,z= .bl k /\
 (if k=true then tc σ H3 fun w' H4=>r' y w' H4 Q else Q (.bl false) H3)
theorem sM{op op':CmpOp}{r r':R2}(ho:OpR X (compareOp op) r)(ho':OpR X (compareOp op') r')(ha:PE X a ta)(hb:PE X b tb)(hc:PE X c tc)
  (hm:lastMarks [op,op'] [b,c]=false:=by with_unfolding_all rfl):PE X (.Compare a [op,op'] [b,c] pos) (xI r r' ta tb tc):=by
 intro pins s σ H Q I h;refine Compare_chain (thn (ha pins s σ H _ I h) fun v s1 ⟨x,H1,I1,r1,q1⟩=>chain_link (thn (hb pins s1 σ H1 _ I1 q1) fun u s2 ⟨y,H2,I2,r2,q2⟩=>
  thn (ho pins s2 σ H2 x y v u _ I2 r1 r2 q2) fun d s3 ⟨z,H3,I3,r3,k,e,q3⟩=> ?_)) hm
 subst e;cases r3;refine wpAny_truthy_bool ?_;cases k with
 |false=>exact ite_ff ⟨.bl false,H3,I3,rfl,q3⟩
 |true=>exact ite_tt (chain_last (thn (hc pins s3 σ H3 _ I3 q3) fun w' s4 ⟨z',H4,I4,r4,q4⟩=>ho' pins s4 σ H4 y z' u w' Q I4 r2 r4 q4))
theorem vz:(sizeLine:Nat)<2^63:=by rw[sizeLine_eq];decide
theorem rl{x:V}{us:List Value}(r:Vals [x] us):∃u,us=[u] /\ RelV x u:=by
 cases r with
 |cons r1 r2=>cases r2;exact⟨_,rfl,r1⟩
theorem tP:ol X (.builtin "abs") (fun xs H Q=>∃i,xs=[.int i] /\ Q (.int (if i<0 then -i else i)) H):=by
 intro pins s σ H xs us Q I r h;obtain⟨i,rfl,q⟩:=h
 obtain⟨u,rfl,t,rfl⟩:=rl r
 exact call_abs_int fun u tk=>⟨.int (if i<0 then -i else i),H,I.tok _,⟨_,rfl⟩,q⟩
theorem qZ:ol X (.type "int") (fun xs H Q=>(∃i,xs=[.int i] /\ Q (.int i) H)∨∃k,xs=[.bl k] /\ Q (.int (if k then 1 else 0)) H):=by
 intro pins s σ H xs us Q I r h;rcases h with⟨i,rfl,q⟩|⟨k,rfl,q⟩
 ·obtain⟨u,rfl,t,rfl⟩:=rl r
  exact call_int_int ⟨.int i,H,I,⟨_,rfl⟩,q⟩
 ·obtain⟨u,rfl,r1⟩:=rl r
  cases r1;exact call_int_bool ⟨.int (if k then 1 else 0),H,I.tok _,⟨_,rfl⟩,q⟩
end
end L2
namespace L2
open PySem PySem.Spec PyProof.Rows
theorem RelO.some_of{v:V}{o:Option Value}(r:RelO (some v) o):∃u,o=some u /\ RelV v u:=by
 cases o with
 |none=>exact(show False from r).elim
 |some u=>exact⟨u,rfl,r⟩
section
variable {X:Cx} {pins:List (Addr×Obj)} {σ:St} {H:Hp} {s:Shared} {a C dx:Addr} {fs:List (Str×V)} {f:Str} {v:V} {A:Around} {E:Value ->Shared ->Prop}
theorem zr{prog:Program}{w:World}{env:Env}{e:Expr}{f:Str}{pos:Pos}{s:Shared}{Q:Value ->Shared ->Prop}(hb:attributeBase e f env (eval e env)=eval e env)
  (h:wpAny (model prog w) A (eval e env) (fun o s₁=>wpAny (model prog w) A (getAttr o f true) Q E s₁) E s):wpAny (model prog w) A (eval (.Attribute e f pos) env) Q E s:=
 Attribute_any_ h (by rw[arm_eval_Attribute,hb])
end
end L2
namespace L2
open PySem PySem.Spec PyProof.Rows
structure Room(k:Nat)(A:Around):Prop where
 hd:A.handled=none
 dp:A.depth+3*k+5<recursionLimit
 un:A.units+16*k+200<cLine
theorem Room.mono{j k:Nat}{A:Around}(r:Room k A)(h:j<=k):Room j A:=⟨r.hd,by have:=r.dp;omega,by have:=r.un;omega⟩
theorem Room.deeper{k:Nat}{A:Around}(r:Room (k+1) A)(env:Env):Room k (A.deeper env):=
 ⟨r.hd,by have:=r.dp;show A.depth+1+3*k+5<_;omega,by have:=r.un;show A.units+3+16*k+200<_;omega⟩
theorem uc{A:Around}{C:Addr}{us:List Value}{kw:List (Str×Value)}:(A.under (.builtin "type.__call__" ⟨.ref C::us,kw⟩)).depth=A.depth+1:=by
 first|rfl|simp[Around.under,Code.weight,Code.isCreation,Code.isGuard,Code.isCaller,Code.frames,Code.isFrame,guardIds]
theorem Room.depth{k:Nat}{A:Around}(r:Room k A):A.depth<recursionLimit:=by have:=r.dp;omega
theorem Room.units{k:Nat}{A:Around}(r:Room k A):A.units+64<cLine:=by have:=r.un;omega
noncomputable def zZ:TA:=fun _ H Q=>Q [] H
noncomputable def tT(ta:TE)(tr:TA):TA:=fun σ H Q=>ta σ H fun x H1=>tr σ H1 fun xs H2=>Q (x::xs) H2
section
variable {X:Cx} {e:Expr} {es:List Expr} {te:TE} {t:TA} {pos:Pos}
theorem iP:PA X [] zZ:=fun _ _ _ _ H Q I h=>Calls.spliced_nil ⟨[],H,I,.nil,h⟩
theorem iN(ha:PE X e te)(hr:PA X es t)(hs:starEach (e::es) X.env=(false,eval e X.env)::starEach es X.env:=by rfl):PA X (e::es) (tT te t):=by
 intro pos pins s σ H Q I h;rw[hs];show wpAny _ _ (spliced ((false,eval e X.env)::backTo pos (starEach es X.env))) _ _ s
 refine Calls.spliced_cons (thn (ha pins s σ H _ I h) fun u s1 ⟨x,H1,I1,r1,q1⟩=> ?_);exact thn (hr pos pins s1 σ H1 _ I1 q1) fun us s2 ⟨xs,H2,I2,r2,q2⟩=>⟨x::xs,H2,I2,.cons r1 r2,q2⟩
noncomputable def zV(t:TA):TE:=fun σ H Q=>t σ H fun xs H1=>xs.length<=sizeLine /\ ∀p,H1 p=none ->Q (.ref p) (upd H1 p (.tup xs))
noncomputable def Aa(t:TA):TE:=fun σ H Q=>t σ H fun xs H1=>xs.length<=sizeLine /\ ∀p,H1 p=none ->Q (.ref p) (upd H1 p (.lst xs))
theorem jc{x1}(h:PA X es t):PE X (.Tuple es x1 pos) (zV t):=by
 intro pins s σ H Q I hq;refine wpAny_Tuple_spliced (thn (h pos pins s σ H _ I hq) fun us s1 ⟨xs,H1,I1,r,z,q⟩=>⟨by rw[<-r.length];exact z,?_⟩);have hf:H1 s1.heap.objs.size=none:=I1.hok.fresh (aI _)
 refine⟨.ref s1.heap.objs.size,upd H1 s1.heap.objs.size (.tup xs),I1.laid (t':=s1.toks) (fun b u e=>Heap.get?_push_of_some _ e) (aI _) ?_,rfl,q _ hf⟩;exact⟨z,us,r,⟨_,Heap.get?_push_size _ rfl,rfl,_,rfl⟩⟩
theorem jP(h:PA X es t):PE X (.List es pos) (Aa t):=by
 intro pins s σ H Q I hq;refine wpAny_List_spliced (thn (h pos pins s σ H _ I hq) fun us s1 ⟨xs,H1,I1,r,z,q⟩=>⟨by rw[<-r.length];exact z,?_⟩);have hf:H1 s1.heap.objs.size=none:=I1.hok.fresh (aI _)
 refine⟨.ref s1.heap.objs.size,upd H1 s1.heap.objs.size (.lst xs),I1.laid (t':=s1.toks) (fun b u e=>Heap.get?_push_of_some _ e) (aI _) ?_,rfl,q _ hf⟩;exact⟨z,us,0,r,Heap.get?_push_size _ rfl⟩
end
noncomputable abbrev Sp:=List V ->Hp ->VK ->XK ->Prop
noncomputable abbrev CXT:=List Env ->Hp ->Shared ->XK ->Value ->Shared ->Prop
structure Env0(P:Program)(w:World)(K:ag)(mg:Str ->Option Value)(base:Heap)(A:Around)(outer:List Env)(s:Shared)(H:Hp):Prop where
 frames:A.frames=some outer
 mod:Mod K mg base
 bs:∀b o,base.get? b=some o ->s.heap.get? b=some o /\ H b=none
 bsz:base.objs.size<=s.heap.objs.size
 funs:s.heap.FunFrames base outer
 frf:∀b∈frs outer,H b=none
 hok:HOk P w H s.heap
 bare:AllBare s.gens
noncomputable def CE(outer:List Env)(P:Program)(w:World)(H:Hp)(s:Shared)(Q:VK)(u:Value)(s':Shared):Prop:=
 ∃v H',s'.os=s.os /\ AllBare s'.gens /\ Un (frs outer) [] H H' s.heap s'.heap /\ HOk P w H' s'.heap /\ RelV v u /\ Q v H'
noncomputable def CR(CX:CXT)(outer:List Env)(P:Program)(w:World)(H:Hp)(s:Shared)(Q:VK)(E:XK)(r:Result)(s':Shared):Prop:=
 match r with
 | .ok (.ret u)=>CE outer P w H s Q u s'
 | .ok _=>False
 | .error e=>CX outer H s E e s'
structure FnOk(P:Program)(w:World)(K:ag)(mg:Str ->Option Value)(base:Heap)(CX:CXT)(k:Nat)(f:Addr)(fd:FuncData)(ps:List Str)(sp:Sp):Prop where
 len:∀vs H Q E,sp vs H Q E ->vs.length=ps.length
 run:∀(A:Around) (outer:List Env) (s:Shared) (H:Hp) (args:Args) (us:List Value) (vs:List V) (Q:VK) (E:XK),Room k A ->Env0 P w K mg base A outer s H ->BindsTo s fd args (ps.zip us) ->Vals vs us ->sp vs H Q E ->
  codeAny (model P w) A (.call (.ref f) args) (CR CX outer P w H s Q E) s
theorem FnOk.imp{P:Program}{w:World}{K:ag}{mg:Str ->Option Value}{base:Heap}{CX:CXT}{k:Nat}{f:Addr}{fd:FuncData}{ps:List Str}{sp sp':Sp}(F:FnOk P w K mg base CX k f fd ps sp)
  (h:∀vs H Q E,sp' vs H Q E ->sp vs H Q E):FnOk P w K mg base CX k f fd ps sp':=
 ⟨fun vs H Q E q=>F.len vs H Q E (h _ _ _ _ q),fun A outer s H args us vs Q E hr he hb hv hs=>F.run A outer s H args us vs Q E hr he hb hv (h _ _ _ _ hs)⟩
section
variable {X:Cx} {pins:List (Addr×Obj)} {σ:St} {H:Hp} {s s':Shared}
theorem Inv.env0(I:Inv X pins σ H s):Env0 X.prog X.w X.K X.mg X.base X.A X.stack s H:=
 ⟨I.ok.frames,I.ok.mod,I.bs,bJ I.ok.bsz I.sz,I.stack,I.stkFree,I.hok,I.bare⟩
theorem Inv.after{Q:VK}{u:Value}(I:Inv X pins σ H s)(h:CE X.stack X.prog X.w H s Q u s'):EP X pins σ Q u s':=by
 obtain⟨v,H',os,bare,un,hok,r,q⟩:=h
 obtain⟨hh,g,d,t,os'⟩:=s'
 obtain rfl:os'=s.os:=os
 exact⟨v,H',I.call (h':=hh) (g':=g) (d':=d) (t':=t) (ch:=[]) un hok bare (fun b z=>absurd z (by simp)),r,q⟩
end
noncomputable def tU(sp:Sp)(dvs:List V)(E:XK)(t:TA):TE:=fun σ H Q=>t σ H fun vs H1=>sp (vs++dvs) H1 Q E
noncomputable def Binds(K:ag)(fd:FuncData)(ps:List Str)(ds:List Value):Prop:=
 ∀(s:Shared) (us:List Value),K.In s.heap ->(us++ds).length=ps.length ->BindsTo s fd ⟨us,[]⟩ (ps.zip (us++ds))
theorem Binds.all{K:ag}{fd:FuncData}{ps:List Str}(h:∀us:List Value,us.length=ps.length ->bindArgs fd ⟨us,[]⟩=pure (ps.zip us)):Binds K fd ps []:=fun s us _ hl=>by
 rw[aK] at hl⊢;exact .of_eq (h us hl)
noncomputable def rh(CX:CXT)(X:Cx)(E:XK):Prop:=∀(pins:List (Addr×Obj)) (σ:St) (H:Hp) (s:Shared) (e:Value) (s':Shared),Inv X pins σ H s ->CX X.stack H s E e s' ->X.xe e s'
section
variable {X:Cx} {CX:CXT} {k:Nat} {f C:Addr} {fd:FuncData} {ps:List Str} {sp:Sp} {dvs:List V} {ds:List Value} {E:XK} {x m:Str} {p pos apos:Pos} {e o:Expr} {es:List Expr} {ta:TE} {t:TA}
theorem Ai{pins:List (Addr×Obj)}{σ:St}{H:Hp}{s:Shared}{Q:VK}{us:List Value}{vs:List V}(F:FnOk X.prog X.w X.K X.mg X.base CX k f fd ps sp)(hr:Room k X.A)(hb:Binds X.K fd ps ds)(hd:Vals dvs ds)(hx:rh CX X E)
  (I:Inv X pins σ H s) (r:Vals vs us) (h:sp (vs++dvs) H Q E):wpAny (model X.prog X.w) X.A (call (.ref f) us) (EP X pins σ Q) X.xe s:=by
 have r2:Vals (vs++dvs) (us++ds):=r.append hd
 have hl:(us++ds).length=ps.length:=by rw[<-r2.length];exact F.len _ _ _ _ h
 refine wpAny_call (codeAny_mono (F.run X.A X.stack s H ⟨us,[]⟩ (us++ds) (vs++dvs) Q E hr I.env0 (hb s us I.kIn hl) r2 h) fun r s' hq=> ?_);cases r with
 |error e=>exact hx pins σ H s e s' I hq
 |ok fl=>
  cases fl with
  |ret u=>exact I.after hq
  |next=>exact False.elim hq
  |brk=>exact False.elim hq
  |cont=>exact False.elim hq
theorem yK(F:FnOk X.prog X.w X.K X.mg X.base CX k f fd ps sp)(hr:Room k X.A)(hg:Gl X x)(hm:X.mg x=some (.ref f))(hk:aA X.K (.ref f)=true)(hb:Binds X.K fd ps ds)(hd:Vals dvs ds)(hx:rh CX X E)
  (ha:PA X (e::es) t) (hdb:(x==("__debug__":Str))=false:=by decide) (he:starEach (e::es) X.env=(false,eval e X.env)::starEach es X.env:=by rfl) (hpl:(backTo pos (starEach es X.env)).any (·.1)=false:=by rfl):
  PE X (.Call (.Name x p) (e::es) [] pos) (tU sp dvs E t):=by
 intro pins s σ H Q I h;refine wpAny_Call_Name_kw (mT I hg hm ?_ hdb);refine fG (h₀:=X.base) I.ok.mod.kin hk (thn (ha pos pins s σ H _ I h) fun us s1 ⟨vs,H1,I1,r,q⟩=>⟨I1.kIn,?_⟩) he hpl;exact Ai F hr hb hd hx I1 r q
end
structure FnScope(N P:List Str)(sc:Scope):Prop where
 kind:sc.kind= .function
 co:sc.isCoroutine=false
 gen:sc.isGenerator=false
 nd:N.Nodup
 pre:N.take P.length=P
 par:∀x∈P,sc.names.lookup x=some .local∨sc.names.lookup x=some .cell
 nofree:∀y∈sc.names,y.2≠ .free
theorem rd{kindOf:Str ->Option NameKind}{x:Str}:∀{binds:List (Str×Value)} {m:Str ->Option Value},(∀v,(x,v)∉binds) ->bindL kindOf binds m x=m x
 |[],_,_=>rfl
 |(n,v)::r,m,h=>by
  unfold bindL;rw[rd fun w hw=>h w (ba _ hw)];split
  ·have:x≠n:=by rintro rfl;exact h v cT
   simp[this]
  ·rfl
theorem rf{kindOf:Str ->Option NameKind}{x:Str}:∀{binds:List (Str×Value)} {m:Str ->Option Value},(∀v,(x,v)∉binds) ->bindC kindOf binds m x=m x
 |[],_,_=>rfl
 |(n,v)::r,m,h=>by
  unfold bindC;rw[rf fun w hw=>h w (ba _ hw)];split
  ·rfl
  ·have:x≠n:=by rintro rfl;exact h v cT
   simp[this]
theorem re{kindOf:Str ->Option NameKind}{x:Str}{v:Value}:∀{P:List Str} {vs:List Value} {i:Nat} {m:Str ->Option Value},P.Nodup ->P[i]? =some x ->vs[i]? =some v ->kindOf x=some .local ->
  bindL kindOf (P.zip vs) m x=some v
 |[],_,_,_,_,h,_,_=>by simp at h
 |_::_,[],_,_,_,_,h,_=>by simp at h
 |p::P,w::vs,0,m,nd,h1,h2,hk=>by
  simp at h1 h2;subst h1;subst h2;show bindL kindOf ((p,w)::P.zip vs) m p=_
  unfold bindL;rw[rd fun v hv=>(bE.mp nd).1 (cO hv).1,if_pos hk];simp
 |p::P,w::vs,i+1,m,nd,h1,h2,hk=>by
  show bindL kindOf ((p,w)::P.zip vs) m x=_
  unfold bindL;exact re (i:=i) (bE.mp nd).2 (by simpa using h1) (by simpa using h2) hk
theorem rg{kindOf:Str ->Option NameKind}{x:Str}{v:Value}:∀{P:List Str} {vs:List Value} {i:Nat} {m:Str ->Option Value},P.Nodup ->P[i]? =some x ->vs[i]? =some v ->kindOf x≠some .local ->
  bindC kindOf (P.zip vs) m x=some v
 |[],_,_,_,_,h,_,_=>by simp at h
 |_::_,[],_,_,_,_,h,_=>by simp at h
 |p::P,w::vs,0,m,nd,h1,h2,hk=>by
  simp at h1 h2;subst h1;subst h2;show bindC kindOf ((p,w)::P.zip vs) m p=_
  unfold bindC;rw[rf fun v hv=>(bE.mp nd).1 (cO hv).1,if_neg hk];simp
 |p::P,w::vs,i+1,m,nd,h1,h2,hk=>by
  show bindC kindOf ((p,w)::P.zip vs) m x=_
  unfold bindC;exact rg (i:=i) (bE.mp nd).2 (by simpa using h1) (by simpa using h2) hk
noncomputable def start(N:List Str)(vs:List V):St:=vs.map some++aZ (N.length-vs.length) none
noncomputable def lA(CX:CXT)(P:Program)(w:World)(K:ag)(mg:Str ->Option Value)(base:Heap)(N:List Str)(qual:Str)(scope:Scope)(f:Addr)(cd:Value)(A:Around)(outer:List Env)(s:Shared)(H:Hp)(E:XK):Cx where
 prog:=P
 w:=w
 K:=K
 mg:=mg
 base:=base
 A:=A.deeper (envOfC qual scope s.heap.objs.size f cd)
 N:=N
 s₀:=s
 H₀:=H
 env:=envOfC qual scope s.heap.objs.size f cd
 outer:=outer
 stack:=envOfC qual scope s.heap.objs.size f cd::outer
 ex:=[]
 calm:=true
 fn:=fun _=>true
 pn:=[]
 xe:=fun e s'=>wpAny (model P w) (A.deeper (envOfC qual scope s.heap.objs.size f cd)) (leaving (envOfC qual scope s.heap.objs.size f cd) e) (fun _ s''=>CX outer H s E e s'') (fun e' s''=>CX outer H s E e' s'') s'
theorem tO{sc:Scope}{n:Nat}{x:Str}(h:sc.names.lookup x=some .cell):∃c,(cellsFrom n sc.names []).lookup x=some c:=by
 have q:=ge sc.names n [] (.inl h)
 exact cW.mp q
theorem vG{CX:CXT}{P:Program}{w:World}{K:ag}{mg:Str ->Option Value}{base:Heap}{N ps:List Str}{qual:Str}{scope:Scope}{f:Addr}{cd:Value}{A:Around}{outer:List Env}{s s1:Shared}{H:Hp}{E:XK}{us:List Value}{vs:List V}
  (S:FnScope N ps scope) (hd:A.handled=none) (e0:Env0 P w K mg base A outer s H) (hl:vs.length=ps.length) (r:Vals vs us)
  (x:InCallC s s.heap.objs.size (bindL (envOfC qual scope s.heap.objs.size f cd).kindOf (ps.zip us) fun _=>none) (cellsFrom (s.heap.objs.size+1) scope.names []) (bindC (envOfC qual scope s.heap.objs.size f cd).kindOf (ps.zip us) fun _=>none) s1):
  Inv (lA CX P w K mg base N qual scope f cd A outer s H E) [] (start N vs) H s1:=by
 have hpl:ps.length<=N.length:=by have:=congrArg fB S.pre;rw[aC] at this;omega
 obtain⟨h1,tk,rfl,hk⟩:=x.done
 have noA:∀b:Addr,b∉(lA CX P w K mg base N qual scope f cd A outer s H E).ex:=fun b z=>absurd (show b∈([]:List Addr) from z) (by simp)
 refine⟨⟨e0.mod,S.kind,rfl,rfl,aI _,fun y z c h1 h2=> ?_,fun y hy=> ?_,fun y c _ h=> ?_,fun _=>hd,Around.frames_deeper e0.frames,.inr ⟨rfl,rfl⟩,fun b z=>absurd z (noA b),e0.bs,e0.bsz,fun b _ _=>noA b,fun b z=>absurd z (noA b),e0.funs,e0.frf⟩,
  rfl,e0.bare,Un.kept hk,⟨_,x.toInCall.ns,fun i y v h1 h2 h3=> ?_⟩,fun y c h=>⟨_,x.cell y c h⟩,e0.hok.fresh (aI _),fun y c h=> ?_,fun p hp=>absurd (show p∈([]:List (Addr×Obj)) from hp) (by simp),e0.hok.kept hk,?_⟩
 ·exact name_of_addr x.apart (cY h1) (cY h2)
 ·have hy:scope.names.lookup y=some .cell∨scope.names.lookup y=some .free:=hy
  rcases hy with hy|hy
  ·exact tO hy
  ·exact absurd rfl (S.nofree _ (cY hy))
 ·exact gj (x.above y c (cY h))
 ·have hi:i<vs.length:=by
   unfold start at h2
   by_cases hi:i<vs.length
   ·exact hi
   ·rw[aH (by simpa using hi)] at h2;rw[dZ] at h2;split at h2<;>cases h2
  have ha:vs[i]? =some v:=by
   unfold start at h2;rw[aM (by simpa using hi),ax] at h2;cases e:vs[i]? with
   |none=>rw[e] at h2;cases h2
   |some a=>rw[e] at h2;cases h2;rfl
  obtain⟨u,hu,rv⟩:=r.get ha
  have hp:ps[i]? =some y:=by
   rw[<-S.pre,bF (by omega)];exact h1
  have ndP:ps.Nodup:=by rw[<-S.pre];exact S.nd.sublist (gR _ _)
  refine⟨u,rv,?_⟩;rcases S.par y (ah hp) with k|k
  ·exact .inl ⟨k,re ndP hp hu k⟩
  ·obtain⟨c,e⟩:=tO (n:=s.heap.objs.size+1) k
   refine .inr ⟨.inl k,c,e,?_⟩;have q:=x.cell y c e
   rw[rg ndP hp hu (by show scope.names.lookup y≠_;rw[k];decide)] at q
   exact q
 ·exact e0.hok.fresh (gj (x.above y c (cY h)))
 ·unfold start;show _=N.length
  rw[al,ae,gl];omega
theorem Bl{CX:CXT}{P:Program}{w:World}{K:ag}{mg:Str ->Option Value}{base:Heap}{k:Nat}{f:Addr}{name qual:Str}{params:Arguments}{body:List Stmt}{scope:Scope}{dV kV doc pm cdv ct oc:Value}{an od:Option Addr}
  {osl:Array (Option Value)} {N ps:List Str} {sp:Sp} (lk:K.lookup f=some ⟨oc,od,.func (aG name qual params body scope dV kV doc pm an cdv ct),osl⟩) (hcd:aB K cdv qual=true) (S:FnScope N ps scope)
  (len:∀vs H Q E,sp vs H Q E ->vs.length=ps.length)
  (hbody:∀(A:Around) (outer:List Env) (s:Shared) (H:Hp) (vs:List V) (Q:VK) (E:XK),Room k (A.deeper (envOfC qual scope s.heap.objs.size f cdv)) ->sp vs H Q E ->
   ∃t,PSs (lA CX P w K mg base N qual scope f cdv A outer s H E) body t /\ t {nx:=fun _ H'=>Q .non H',rt:=Q} (start N vs) H):
  FnOk P w K mg base CX (k+1) f (aG name qual params body scope dV kV doc pm an cdv ct) ps sp:=by
 refine⟨len,fun A outer s H args us vs Q E hr e0 hb r hsp=> ?_⟩;have hl:=len _ _ _ _ hsp
 have KX:K.In s.heap:=e0.mod.kin.keeps fun b o e=>(e0.bs b o e).1
 have lim:s.heap.NoLimit:=e0.mod.nolimit.keeps fun b o e=>(e0.bs b o e).1
 have hkind:∀y∈ps.zip us,scope.names.lookup y.1=some .local∨(scope.names.lookup y.1=some .cell /\ ((cellsFrom (s.heap.objs.size+1) scope.names []).lookup y.1).isSome=true):=fun⟨n,v⟩ hy=>by
  rcases S.par n (cO hy).1 with q|q
  ·exact .inl q
  ·exact .inr ⟨q,ge _ _ _ (.inl q)⟩
 refine codeAny_call_function hr.depth (KX _ _ lk) rfl S.co S.gen rfl (gJ KX hcd) (hb _ _ _ _ ?_);refine wpAny_newFunctionEnv_cells S.kind hkind fun env he s1 x=> ?_
 subst he;refine⟨lim.keeps x.toInCall.keep,codeAny_func ?_⟩;obtain⟨t,ht,hq⟩:=hbody A outer s H vs Q E (hr.deeper _) hsp
 have I:Inv (lA CX P w K mg base N qual scope f cdv A outer s H E) [] (start N vs) H s1:=vG S hr.hd e0 hl r x
 refine wpAny_mono (ht [] s1 (start N vs) H _ I hq) (fun fl s' hs=> ?_) fun e s' hs=>hs
 have fin:∀{σ':St} {H':Hp} {v:V} {u:Value},Inv (lA CX P w K mg base N qual scope f cdv A outer s H E) [] σ' H' s' ->RelV v u ->Q v H' ->CE outer P w H s Q u s':=
  fun {σ' H' v u} J rv q=>⟨v,H',J.os,J.bare,J.base,J.hok,rv,q⟩
 cases fl with
 |ret u=>
  obtain⟨v,σ',H',J,rv,q⟩:=hs
  exact fin J rv q
 |next=>
  obtain⟨σ',H',J,q⟩:=hs
  exact fin (v:=V.non) (u:=Value.none) J rfl q
 |brk=>
  obtain⟨_,_,_,q⟩:=hs
  exact False.elim q
 |cont=>
  obtain⟨_,_,_,q⟩:=hs
  exact False.elim q
end L2
namespace L2
open PySem PySem.Spec PyProof.Rows
section
variable {X:Cx} {x:Str} {p pos:Pos} {e:Expr} {es:List Expr} {t:TA} {id T:String} {r:List V ->Hp ->VK ->Prop}
noncomputable def tCB(r:List V ->Hp ->VK ->Prop)(t:TA):TE:=fun σ H Q=>t σ H fun vs H1=>r vs H1 Q
theorem jf(hc:ol X (.builtin id) r)(hg:Gl X x)(hm:X.mg x=none)(hv:bootBuiltins x=some (.builtin id))(ha:PA X (e::es) t)(hn:x≠"__name__":=by decide)(hdb:(x==("__debug__":Str))=false:=by decide)
  (he:starEach (e::es) X.env=(false,eval e X.env)::starEach es X.env:=by rfl) (hpl:(backTo pos (starEach es X.env)).any (·.1)=false:=by rfl):PE X (.Call (.Name x p) (e::es) [] pos) (tCB r t):=by
 intro pins s σ H Q I h;refine wpAny_Call_Name_kw (sQ I hg hm hv ?_ hn hdb);exact PyProof.Rows.callWith_builtin1 (thn (ha pos pins s σ H _ I h) fun us s1 ⟨vs,H1,I1,r1,q1⟩=>hc pins s1 σ H1 vs us Q I1 r1 q1) he hpl
theorem j2(hc:ol X (.type T) r)(hg:Gl X x)(hm:X.mg x=none)(hv:bootBuiltins x=some (.type T))(ha:PA X (e::es) t)(hn:x≠"__name__":=by decide)(hdb:(x==("__debug__":Str))=false:=by decide)
  (he:starEach (e::es) X.env=(false,eval e X.env)::starEach es X.env:=by rfl) (hpl:(backTo pos (starEach es X.env)).any (·.1)=false:=by rfl):PE X (.Call (.Name x p) (e::es) [] pos) (tCB r t):=by
 intro pins s σ H Q I h;refine wpAny_Call_Name_kw (sQ I hg hm hv ?_ hn hdb);exact dm (thn (ha pos pins s σ H _ I h) fun us s1 ⟨vs,H1,I1,r1,q1⟩=>hc pins s1 σ H1 vs us Q I1 r1 q1) he hpl
end
end L2
namespace HT
open PySem PyProof.Rows
section
variable {prog:Program} {w:World} {A:Around} {E:Value ->Shared ->Prop} {s:Shared}
noncomputable def sIx(n d:Nat):Option Int ->Nat
 |none=>d
 |some v=>if v<0 then(v+(n:Int)).toNat else min v.toNat n
theorem sIx_none(n d:Nat):sIx n d none=d:=rfl
theorem sIx_nat(n d k:Nat):sIx n d (some (k:Int))=min k n:=by
 show(if(k:Int)<0 then((k:Int)+(n:Int)).toNat else min (k:Int).toNat n)=min k n
 rw[if_neg (by omega),Int.toNat_natCast]
end
end HT
namespace L2
open PySem PySem.Spec PyProof.Rows
noncomputable abbrev TO:=St ->Hp ->(Option Int ->Hp ->Prop) ->Prop
noncomputable def PO(X:Cx)(e:Option Expr)(t:TO):Prop:=
 ∀(pins:List (Addr×Obj)) (s:Shared) (σ:St) (H:Hp) (Q:Option Int ->Hp ->Prop),Inv X pins σ H s ->t σ H Q ->
  wpAny (model X.prog X.w) X.A (evalPart e X.env) (fun u s'=>∃o H',Inv X pins σ H' s' /\ IsPart u o /\ Q o H') X.xe s
noncomputable def nK:TO:=fun _ H Q=>Q none H
noncomputable def uF(t:TE):TO:=fun σ H Q=>t σ H fun x H1=>∃i,x= .int i /\ Q (some i) H1
section
variable {X:Cx} {e:Expr} {te:TE} {lo hi:Option Expr} {tl th:TO} {pos p2:Pos}
theorem kn:PO X none nK:=by
 intro pins s σ H Q I h;rw[evalPart_none];exact wpAny_pure ⟨none,H,I,.none,h⟩
theorem km(h:PE X e te):PO X (some e) (uF te):=by
 intro pins s σ H Q I hw;rw[evalPart_some];refine thn (h pins s σ H _ I hw) fun u s1 ⟨x,H1,I1,r1,q1⟩=> ?_
 obtain⟨i,rfl,q⟩:=q1
 obtain⟨t,rfl⟩:=r1
 exact⟨some i,H1,I1,.int i t,q⟩
noncomputable def SlR(X:Cx)(r:V ->Option Int ->Option Int ->Hp ->VK ->Prop):Prop:=
 ∀(pins:List (Addr×Obj)) (s:Shared) (σ:St) (H:Hp) (x:V) (v vl vu:Value) (lo hi:Option Int) (sl:Addr) (Q:VK),Inv X pins σ H s ->RelV x v ->s.heap.IsSliceOf sl vl vu .none ->IsPart vl lo ->IsPart vu hi ->r x lo hi H Q ->
  ∃T id,typeLookup (.type T) "__getitem__"=pure (some (.builtin id)) /\ s.TypeIs v T /\ wpAny (model X.prog X.w) X.A (getItem v (.ref sl)) (EP X pins σ Q) X.xe s
noncomputable def tSl(r:V ->Option Int ->Option Int ->Hp ->VK ->Prop)(te:TE)(tl th:TO):TE:=fun σ H Q=>te σ H fun x H1=>tl σ H1 fun l H2=>th σ H2 fun u H3=>r x l u H3 Q
theorem jS{r:V ->Option Int ->Option Int ->Hp ->VK ->Prop}(hr:SlR X r)(he:PE X e te)(hl:PO X lo tl)(hu:PO X hi th):PE X (.Subscript e (.Slice lo hi none p2) pos) (tSl r te tl th):=by
 intro pins s σ H Q I h;refine Subscript_ (thn (he pins s σ H _ I h) fun v s1 ⟨x,H1,I1,r1,q1⟩=> ?_);refine wpAny_Slice (thn (hl pins s1 σ H1 _ I1 q1) fun vl s2 ⟨l,H2,I2,pl,q2⟩=>thn (hu pins s2 σ H2 _ I2 q2) fun vu s3 ⟨u,H3,I3,pu,q3⟩=> ?_);rw[evalPart_none];refine wpAny_pure ?_;have I4:Inv X pins σ H3 {s3 with heap:=s3.heap.push {cls:= .type "slice",data:= .fields #[vl,vu,.none]}}:=I3.kept (t':=s3.toks) fun b ob q=>Heap.get?_push_of_some _ q
 obtain⟨T,id,hT,ht,hg⟩:=hr pins {s3 with heap:=s3.heap.push {cls:= .type "slice",data:= .fields #[vl,vu,.none]}} σ H3 x v vl vu l u s3.heap.objs.size Q I4 r1 (Heap.IsSliceOf.new ..) pl pu q3
 show wpAny (model X.prog X.w) X.A (subscriptTail e (.Slice lo hi none p2) v (.ref s3.heap.objs.size)) (EP X pins σ Q) X.xe {s3 with heap:=s3.heap.push {cls:= .type "slice",data:= .fields #[vl,vu,.none]}}
 exact tail_any (ops:=[.ref s3.heap.objs.size,v]) ht hT hg (by with_unfolding_all rfl)
noncomputable def ur(xs:List V)(lo hi:Option Int):List V:=(xs.drop (HT.sIx xs.length 0 lo)).take (HT.sIx xs.length xs.length hi-HT.sIx xs.length 0 lo)
theorem sg(xs:List V)(lo hi:Option Int):(ur xs lo hi).length<=xs.length:=by
 unfold ur;rw[aC,aV];omega
end
end L2
namespace L2
open PySem PySem.Spec PyProof.Rows
noncomputable def ixN(n:Nat)(i:Int):Option Nat:=if 0<=i then(if i<n then some i.toNat else none) else if -(n:Int)<=i then some (i+n).toNat else none
noncomputable def atI{α:Type}(xs:List α)(i:Int):Option α:=(ixN xs.length i).bind fun j=>xs[j]?
theorem yW{n:Nat}{i:Int}{j:Nat}(h:ixN n i=some j):seqIndex? i n=some j /\ j<n /\ -(n:Int)<=i /\ i<n:=by
 unfold ixN at h
 by_cases h0:0<=i
 ·rw[if_pos h0] at h
  by_cases h1:i<n
  ·rw[if_pos h1] at h;have e:i.toNat=j:=bA.inj h
   exact⟨by rw[seqIndex_of h0 h1,e],by omega,by omega,h1⟩
  ·rw[if_neg h1] at h;cases h
 ·rw[if_neg h0] at h
  by_cases h1: -(n:Int)<=i
  ·rw[if_pos h1] at h;have e:(i+n).toNat=j:=bA.inj h
   exact⟨by rw[seqIndex_neg (by omega) h1,e],by omega,h1,by omega⟩
  ·rw[if_neg h1] at h;cases h
theorem atI_get{α:Type}{xs:List α}{i:Int}{v:α}(h:atI xs i=some v):∃j,seqIndex? i xs.length=some j /\ xs[j]? =some v /\ j<xs.length /\ -(xs.length:Int)<=i /\ i<xs.length:=by
 unfold atI at h;cases e:ixN xs.length i with
 |none=>rw[e] at h;cases h
 |some j=>
  rw[e] at h;obtain⟨h1,h2,h3,h4⟩:=yW e
  exact⟨j,h1,h,h2,h3,h4⟩
theorem jz{α:Type}{xs:List α}{j:Nat}{v:α}(h:xs[j]? =some v):atI xs (j:Int)=some v:=by
 have hj:j<xs.length:=(ad.mp h).1
 have e:ixN xs.length (j:Int)=some j:=by
  unfold ixN;rw[if_pos (by omega),if_pos (by omega)];simp
 unfold atI;rw[e];exact h
noncomputable def zx(b:Expr):Prop:=∀o i,subscripted b false o i=operate [o,i] (getItem o i)
noncomputable def IxR(X:Cx)(r:R2):Prop:=
 ∀(value slice:Expr) (pins:List (Addr×Obj)) (s:Shared) (σ:St) (H:Hp) (x y:V) (v u:Value) (Q:VK),Inv X pins σ H s ->RelV x v ->RelV y u ->r x y H Q ->
  subscripted slice false v u=operate [v,u] (getItem v u) ->wpAny (model X.prog X.w) X.A (subscriptTail value slice v u) (EP X pins σ Q) X.xe s
noncomputable def MtR(X:Cx)(id:String)(r:V ->List V ->Hp ->VK ->Prop):Prop:=
 ∀(pins:List (Addr×Obj)) (s:Shared) (σ:St) (H:Hp) (x:V) (xs:List V) (v:Value) (us:List Value) (Q:VK),Inv X pins σ H s ->RelV x v ->Vals xs us ->r x xs H Q ->
  wpAny (model X.prog X.w) X.A (call (.builtin id) (v::us)) (EP X pins σ Q) X.xe s
section
variable {X:Cx} {a b:Expr} {ta tb:TE} {pos:Pos}
theorem i7{r:R2}(hr:IxR X r)(ha:PE X a ta)(hb:PE X b tb)(hs:zx b):PE X (.Subscript a b pos) (tOp r ta tb):=by
 intro pins s σ H Q I h;exact Subscript_ (Bo ha hb I h fun v u s2 x y H2 I2 rx ry q=>hr a b pins s2 σ H2 x y v u Q I2 rx ry q (hs _ _))
noncomputable def BD(K:ag):R2:=fun x y H Q=>∃p xs i v,x= .ref p /\ y= .int i /\ SqL K H p xs /\ atI xs i=some v /\ Q v H
noncomputable def BC(K:ag):R2:=fun x y H Q=>∃p xs i v,x= .ref p /\ y= .int i /\ SqT K H p xs /\ atI xs i=some v /\ Q v H
theorem yV:IxR X (BD X.K):=by
 intro value slice pins s σ H x y v u Q I rx ry h hs;obtain⟨p,xs,i,z,rfl,rfl,hq,he,q⟩:=h
 cases rx;obtain⟨t,rfl⟩:=ry
 obtain⟨its,r,pl,hz⟩:=I.list hq
 obtain⟨j,h1,h2,h3,h4,h5⟩:=atI_get he
 obtain⟨w,ew,rw'⟩:=r.get h2
 have hl:=r.length
 have hn:=vz
 have fin:EP X pins σ Q w s:=⟨z,H,I,rw',q⟩
 by_cases h0:0<=i
 ·have hj:i.toNat=j:=by
   rw[seqIndex_of h0 h5] at h1;exact bA.inj h1
  exact item_listR pl.isList h0 (by omega) (by rw[hj];simpa using ew) fin hs
 ·have hj:(i+(its.toArray.size:Int)).toNat=j:=by
   rw[seqIndex_neg (by omega) h4] at h1;rw[aS, <-hl];exact bA.inj h1
  exact subscriptTail_builtinR (x:=w) pl.isList.typeIs slot_list_getitem.lookup
   (wpAny_getItem_list_neg (Q:=fun r s'=>r=w /\ EP X pins σ Q r s') pl.isList (by omega) (by rw[aS]<;>omega) (by omega) (by rw[hj];simpa using ew) ⟨rfl,fin⟩) hs
theorem AG:IxR X (BC X.K):=by
 intro value slice pins s σ H x y v u Q I rx ry h hs;obtain⟨p,xs,i,z,rfl,rfl,hq,he,q⟩:=h
 cases rx;obtain⟨t,rfl⟩:=ry
 obtain⟨its,r,pl,hz⟩:=I.tuple hq
 obtain⟨j,h1,h2,h3,h4,h5⟩:=atI_get he
 obtain⟨w,ew,rw'⟩:=r.get h2
 have hl:=r.length
 have hn:=vz
 have fin:EP X pins σ Q w s:=⟨z,H,I,rw',q⟩
 exact subscriptTail_builtinR (x:=w) pl.typeIs slot_tuple_getitem.lookup
  (getItem_tuple (j:=j) (Q:=fun r s'=>r=w /\ EP X pins σ Q r s') pl (by omega) (by omega) (by rw[aS, <-hl];exact h1) (by simpa using ew) ⟨rfl,fin⟩) hs
theorem qp(lo hi:Option Int)(n:Nat):(sliceBounds lo hi none n).1=((HT.sIx n 0 lo:Nat):Int) /\ (sliceBounds lo hi none n).2.1=((HT.sIx n n hi:Nat):Int) /\ (sliceBounds lo hi none n).2.2=1:=by
 refine⟨?_,?_,rfl⟩
 ·cases lo with
  |none=>simp[sliceBounds,HT.sIx]
  |some i=>
   simp only[sliceBounds,HT.sIx,hU,show(1:Int)>0 by decide,if_true]
   by_cases h:i<0
   ·simp only[h,if_true]<;>omega
   ·simp only[h,if_false]<;>omega
 ·cases hi with
  |none=>simp[sliceBounds,HT.sIx]
  |some i=>
   simp only[sliceBounds,HT.sIx,hU,show(1:Int)>0 by decide,if_true]
   by_cases h:i<0
   ·simp only[h,if_true]<;>omega
   ·simp only[h,if_false]<;>omega
theorem pd(its:List Value)(lo hi:Option Int):slicePick its.toArray lo hi none=((its.drop (HT.sIx its.length 0 lo)).take (HT.sIx its.length its.length hi-HT.sIx its.length 0 lo)).toArray:=by
 obtain⟨h1,h2,h3⟩:=qp lo hi its.toArray.size
 unfold slicePick;rw[h1,h2,h3];simp only[sliceRange_one,pick_run,aS]<;>rfl
noncomputable def Bs(K:ag):V ->Option Int ->Option Int ->Hp ->VK ->Prop:=fun x lo hi H Q=>∃a xs,x= .ref a /\ SqL K H a xs /\ ∀p,H p=none ->Q (.ref p) (upd H p (.lst (ur xs lo hi)))
theorem uQ:SlR X (Bs X.K):=by
 intro pins s σ H x v vl vu lo hi sl Q I rx hs pl pu h;obtain⟨a,xs,rfl,hx,q⟩:=h
 cases rx;obtain⟨its,r,ht,hz⟩:=I.list hx
 have hlen:=r.length
 refine⟨"list",_,slot_list_getitem.lookup,ht.isList.typeIs,?_⟩;refine wpAny_getItem_list_slice ht.isList hs pl pu .none (by simp) ?_ (by rw[aS]<;>omega)
 rw[pd, <-hlen];refine⟨.ref s.heap.objs.size,_,I.laid (t':=s.toks) (o:= .lst (ur xs lo hi)) (fun b ob q=>Heap.get?_push_of_some _ q) (aI _) ?_,rfl,q _ (I.hok.fresh (aI _))⟩;exact⟨bJ (sg xs lo hi) hz,_,0,(r.drop (HT.sIx xs.length 0 lo)).take (HT.sIx xs.length xs.length hi-HT.sIx xs.length 0 lo),Heap.get?_push_size _ rfl⟩
noncomputable def pZ:V ->Bool
 | .non=>true
 | .bl _=>true
 | .int _=>true
 | .str _=>true
 |_=>false
noncomputable def eqV:V ->V ->Bool
 | .non,.non=>true
 | .bl a,.bl b=>a==b
 | .bl a,.int b=>(if a then 1 else 0)==b
 | .int a,.bl b=>a==(if b then 1 else 0)
 | .int a,.int b=>a==b
 | .str a,.str b=>a==b
 |_,_=>false
theorem AL{A:Around}{s:Shared}{y x:V}{u v:Value}(ry:RelV y u)(rx:RelV x v)(fy:pZ y=true)(fx:pZ x=true):SeqAt.EqAt A s u v (eqV y x):=by
 cases y with
 |non=>
  cases ry;cases x with
  |non=>cases rx;exact SeqAt.EqAt.same _
  |bl b=>cases rx;exact SeqAt.EqAt.none_bool b
  |int b=>obtain⟨t,rfl⟩:=rx;exact SeqAt.EqAt.none_int b t
  |str b=>obtain⟨t,rfl⟩:=rx;exact SeqAt.EqAt.none_str b t
  |_=>exact absurd (show false=true from fx) aY
 |bl a=>
  cases ry;cases x with
  |non=>cases rx;exact SeqAt.EqAt.bool_none a
  |bl b=>cases rx;exact SeqAt.EqAt.bool_bool a b
  |int b=>obtain⟨t,rfl⟩:=rx;exact SeqAt.EqAt.bool_int a b t
  |str b=>obtain⟨t,rfl⟩:=rx;exact SeqAt.EqAt.bool_str a b t
  |_=>exact absurd (show false=true from fx) aY
 |int a=>
  obtain⟨t',rfl⟩:=ry
  cases x with
  |non=>cases rx;exact SeqAt.EqAt.int_none a t'
  |bl b=>cases rx;exact SeqAt.EqAt.int_bool a t' b
  |int b=>obtain⟨t,rfl⟩:=rx;exact SeqAt.EqAt.int_int a t' b t
  |str b=>obtain⟨t,rfl⟩:=rx;exact SeqAt.EqAt.int_str a t' b t
  |_=>exact absurd (show false=true from fx) aY
 |str a=>
  obtain⟨t',rfl⟩:=ry
  cases x with
  |non=>cases rx;exact SeqAt.EqAt.str_none a t'
  |bl b=>cases rx;exact SeqAt.EqAt.str_bool a t' b
  |int b=>obtain⟨t,rfl⟩:=rx;exact SeqAt.EqAt.str_int a t' b t
  |str b=>obtain⟨t,rfl⟩:=rx;exact SeqAt.EqAt.str_str a t' b t
  |_=>exact absurd (show false=true from fx) aY
 |_=>exact absurd (show false=true from fy) aY
noncomputable def eqU(x:V)(u:Value):Bool:=match u with
 | .none=>eqV .non x
 | .bool b=>eqV (.bl b) x
 | .int i _=>eqV (.int i) x
 | .str z _=>eqV (.str z) x
 |_=>false
theorem xW{x y:V}{u:Value}(r:RelV y u)(f:pZ y=true):eqU x u=eqV y x:=by
 cases y with
 |non=>cases r;rfl
 |bl b=>cases r;rfl
 |int i=>obtain⟨t,rfl⟩:=r;rfl
 |str z=>obtain⟨t,rfl⟩:=r;rfl
 |_=>exact absurd (show false=true from f) aY
theorem sj{x:V}:∀{xs:List V} {us:List Value},Vals xs us ->xs.all pZ=true ->us.any (eqU x)=xs.any fun y=>eqV y x
 |_,_,.nil,_=>rfl
 |y::xs,u::us,.cons r t,f=>by
  rw[iG,ci] at f;rw[fq,fq,xW r f.1,sj t f.2]
theorem pI{A:Around}{s:Shared}{x:V}{v:Value}(rx:RelV x v)(fx:pZ x=true):∀{xs:List V} {us:List Value},Vals xs us ->xs.all pZ=true -> ∀u∈us,SeqAt.EqAt A s u v (eqU x u)
 |_,_,.nil,_=>fun u hu=>by cases hu
 |y::xs,u::us,.cons r t,f=>fun u' hu=>by
  rw[iG,ci] at f;rcases av.mp hu with rfl|hu
  ·rw[xW r f.1];exact AL r rx f.1 fx
  ·exact pI rx fx t f.2 u' hu
noncomputable def inV(x:V)(xs:List V):Bool:=xs.any fun y=>eqV y x
noncomputable def rIn(K:ag)(neg:Bool):R2:=fun x y H Q=>∃p xs,y= .ref p /\ (SqL K H p xs∨SqT K H p xs) /\ pZ x=true /\ xs.all pZ=true /\ Q (.bl (if neg then !inV x xs else inV x xs)) H
theorem vn:OpR X (compareOp .In) (rIn X.K false):=by
 intro pins s σ H x y v u Q I rx ry h;obtain⟨p,xs,rfl,hq,fx,fs,q⟩:=h
 cases ry;rcases hq with hq|hq
 ·obtain⟨its,r,pl,hz⟩:=I.list hq
  refine SeqAt.in_listAt (eqU x) pl.isList (fun w hw=>pI rx fx r fs w (by simpa using hw)) ⟨.bl _,H,I,rfl,?_⟩;rw[show its.toArray.any (eqU x)=its.any (eqU x) by simp,sj r fs];exact q
 ·obtain⟨its,r,pl,hz⟩:=I.tuple hq
  refine SeqAt.in_tupleAt (eqU x) pl (fun w hw=>pI rx fx r fs w (by simpa using hw)) ⟨.bl _,H,I,rfl,?_⟩;rw[show its.toArray.any (eqU x)=its.any (eqU x) by simp,sj r fs];exact q
theorem qY:ol X (.builtin "len") (fun xs H Q=>∃p ys,xs=[.ref p] /\ (SqL X.K H p ys∨SqT X.K H p ys) /\ Q (.int ys.length) H):=by
 intro pins s σ H xs us Q I r h;obtain⟨p,ys,rfl,hq,q⟩:=h
 obtain⟨u,rfl,rx⟩:=rl r
 cases rx;have hn:=vz
 rcases hq with hq|hq
 ·obtain⟨its,r',pl,hz⟩:=I.list hq
  have hlen:=r'.length
  exact Calls.call_len_list pl.isList (by simp only[aS]<;>omega) ⟨.int ys.length,H,I.tok _,⟨s.toks+1,by rw[aS,hlen]⟩,q⟩
 ·obtain⟨its,r',pl,hz⟩:=I.tuple hq
  have hlen:=r'.length
  exact len_tuple pl (by simp only[aS]<;>omega) ⟨.int ys.length,H,I.tok _,⟨s.toks+1,by rw[aS,hlen]⟩,q⟩
theorem qX:ol X (.type "list") (fun xs H Q=>∃p ys,xs=[.ref p] /\ (SqL X.K H p ys∨SqT X.K H p ys) /\ ∀l,H l=none ->Q (.ref l) (upd H l (.lst ys))):=by
 intro pins s σ H xs us Q I r h;obtain⟨p,ys,rfl,hq,q⟩:=h
 obtain⟨u,rfl,rx⟩:=rl r
 cases rx;have fin:∀(its:List Value),Vals ys its ->ys.length<=sizeLine -> ∀(h':Heap) (c':Nat),(∀b o',s.heap.get? b=some o' ->h'.get? b=some o') ->
   h'.get? s.heap.objs.size=some {cls:= .type "list",dict:=none,data:= .seq its.toArray c',slots:= #[]} ->EP X pins σ Q (.ref s.heap.objs.size) {s with heap:=h'}:=fun its r' hz h' c' kp e=>
  ⟨.ref s.heap.objs.size,_,I.laid (t':=s.toks) kp (aI _) (show ObjOk X.prog X.w _ h' _ (.lst ys) from⟨hz,its,c',r',e⟩),rfl,q _ (I.hok.fresh (aI _))⟩
 rcases hq with hq|hq
 ·obtain⟨its,r',pl,hz⟩:=I.list hq
  have hlen:=r'.length
  obtain⟨o,ho,hc,n,hd⟩:=pl.isList
  exact call_list_seq p (.inl rfl) ho hc hd (fun h' c' kp e=>fin its r' hz h' c' kp e) (by simp only[aS]<;>omega)
 ·obtain⟨its,r',pl,hz⟩:=I.tuple hq
  have hlen:=r'.length
  obtain⟨o,ho,hc,n,hd⟩:=pl
  exact call_list_seq p (.inr rfl) ho hc hd (fun h' c' kp e=>fin its r' hz h' c' kp e) (by simp only[aS]<;>omega)
noncomputable def tyV(K:ag)(T:String)(x:V)(H:Hp):Prop:=match x with
 | .str _=>T="str"
 | .int _=>T="int"
 | .ref p=>(T="list" /\ ∃xs,SqL K H p xs)∨(T="tuple" /\ ∃o,K.lookup p=some o /\ o.cls= .type "tuple" /\ o.dict=none)∨
   (T="dict" /\ ((∃kvs,H p=some (.dK kvs))∨∃kvs,H p=some (.dT kvs)))∨(T="set" /\ ∃S n,H p=some (.set S n))
 |_=>False
theorem zQ{pins:List (Addr×Obj)}{σ:St}{H:Hp}{s:Shared}{T:String}{x:V}{v:Value}(I:Inv X pins σ H s)(r:RelV x v)(ty:tyV X.K T x H):
  s.TypeIs v T /\ ∀a,v= .ref a -> ∃ob,s.heap.get? a=some ob /\ ob.dict=none:=by
 cases x with
 |str z=>
  obtain⟨t,rfl⟩:=r
  cases(show T="str" from ty);exact⟨typeIs_str s z t,fun _ e=>nomatch e⟩
 |int i=>
  obtain⟨t,rfl⟩:=r
  cases(show T="int" from ty);exact⟨typeIs_int s i t,fun _ e=>nomatch e⟩
 |ref p=>
  cases r;rcases ty with⟨rfl,xs,hq⟩|⟨rfl,o,hk,hc,hd⟩|⟨rfl,hk⟩|⟨rfl,S,n,hk⟩
  ·obtain⟨its,_,pl,_⟩:=I.list hq
   refine⟨pl.isList.typeIs,fun a e=> ?_⟩;cases e;obtain⟨o,n,e,c,hd,_⟩:=pl
   exact⟨o,e,hd⟩
  ·refine⟨⟨o,I.kIn p o hk,hc⟩,fun a e=> ?_⟩;cases e;exact⟨o,I.kIn _ o hk,hd⟩
  ·have z:∃o,s.heap.get? p=some o /\ o.ExactDict:=by
    rcases hk with⟨kvs,hk⟩|⟨kvs,hk⟩
    ·obtain⟨_,_,_,_,o,_,_,e,ex,_⟩:=I.hok p _ hk
     exact⟨o,e,ex⟩
    ·obtain⟨_,_,_,_,o,_,_,e,ex,_⟩:=I.hok p _ hk
     exact⟨o,e,ex⟩
   obtain⟨o,e,ex⟩:=z
   refine⟨⟨o,e,ex.1⟩,fun a e2=> ?_⟩;cases e2;exact⟨o,e,ex.2.1⟩
  ·obtain⟨o,_,_,_,e,ex,_⟩:=I.hok p _ hk
   refine⟨⟨o,e,ex.1⟩,fun a e2=> ?_⟩;cases e2;exact⟨o,e,ex.2.1⟩
 |_=>exact False.elim ty
noncomputable def tBM(K:ag)(T:String)(r:V ->List V ->Hp ->VK ->Prop)(to:TE)(t:TA):TE:=fun σ H Q=>to σ H fun x H1=>tyV K T x H1 /\ t σ H1 fun xs H2=>r x xs H2 Q
variable {o e:Expr} {es:List Expr} {to:TE} {t:TA} {name:Str} {apos cpos:Pos} {T id:String} {r:V ->List V ->Hp ->VK ->Prop}
theorem Bb(pa:PlainAttrs T)(slot:Slot T name id)(hty:typeOf (.builtin id)=pure (.type "method_descriptor"))(hm:MtR X id r)(ho:PE X o to)(ha:PA X (e::es) t)
  (hbase:attributeBase o name X.env (eval o X.env)=eval o X.env:=by rfl)
  (hfew:((backTo cpos (starEach (e::es) X.env)).all (fun x=> !x.1)&&(backToKw cpos (keywordEach [] X.env)).all (fun x=>x.1.isSome)
   &&decide ((e::es).length+([]:List Keyword).length+(if([]:List Keyword).isEmpty then 0 else 1)<30))=true:=by rfl)
  (hline:(apos.endLine==cpos.line)=true:=by rfl) (hs:starEach (e::es) X.env=(false,eval e X.env)::starEach es X.env:=by rfl) (hplain:(backTo cpos (starEach es X.env)).any (·.1)=false:=by rfl):
  PE X (.Call (.Attribute o name apos) (e::es) [] cpos) (tBM X.K T r to t):=by
 intro pins s σ H Q I h;refine wpAny_Call_method_late hbase hfew hline rfl (thn (ho pins s σ H _ I h) fun v s1 ⟨x,H1,I1,r1,ty,q1⟩=> ?_);obtain⟨h1,h2⟩:=zQ I1 r1 ty
 refine⟨T,id,pa,slot,hty,h1,h2,?_⟩;have hA:=ha cpos pins s1 σ H1 _ I1 q1
 rw[hs] at hA⊢;refine Calls.callWith_builtin (by show(false||(backTo cpos (starEach es X.env)).any (·.1))=false;rw[hplain]<;>rfl) (Calls.evalArgs_plain ?_)
 exact thn hA fun us s2 ⟨vs,H2,I2,r2,q2⟩=>hm pins s2 σ H2 x vs v us Q I2 r1 r2 q2
end
end L2
namespace L2
open PySem PySem.Spec PyProof.Rows
noncomputable def MtM(X:Cx)(id:String)(r:V ->List V ->Hp ->VK ->Prop):Prop:=
 ∀(pins:List (Addr×Obj)) (s:Shared) (σ:St) (H:Hp) (x:V) (xs:List V) (v:Value) (us:List Value) (Q:VK),Inv X pins σ H s ->RelV x v ->Vals xs us ->r x xs H Q ->
  wpAny (model X.prog X.w) X.A (call (.builtin id) (v::us)) (EP X pins σ Q) X.xe s
theorem Vals.one:∀{x:V} {us:List Value},Vals [x] us -> ∃u,us=[u] /\ RelV x u
 |_,_,.cons r .nil=>⟨_,rfl,r⟩
theorem Vals.two:∀{x y:V} {us:List Value},Vals [x,y] us -> ∃u v,us=[u,v] /\ RelV x u /\ RelV y v
 |_,_,_,.cons r (.cons q .nil)=>⟨_,_,rfl,r,q⟩
theorem Vals.dropLast{xs:List V}{us:List Value}(h:Vals xs us):Vals xs.dropLast us.dropLast:=by
 induction h with
 |nil=>exact .nil
 |cons r t ih=>
  cases t with
  |nil=>exact .nil
  |cons q t'=>exact .cons r ih
theorem Vals.rep{xs:List V}{us:List Value}(h:Vals xs us):∀k:Nat,Vals (aZ k xs).flatten (aZ k us).flatten
 |0=> .nil
 |k+1=>by
  rw[bB,bB,cF,cF];exact Vals.append h (Vals.rep h k)
theorem qQ(its:List Value):∀(k:Nat) (acc:List Value),
  gS (fun x1 x2=>x1++x2) acc.toArray (aZ k its.toArray)=(acc++(aZ k its).flatten).toArray
 |0,acc=>by simp
 |k+1,acc=>by
  have e:acc.toArray++its.toArray=(acc++its).toArray:=by simp
  have e2:(acc++its)++(aZ k its).flatten=acc++(aZ (k+1) its).flatten:=by
   rw[bB,cF,bG]
  rw[<-e2, <-qQ its k (acc++its), <-e,bB,iq]
section
variable {X:Cx} {pins:List (Addr×Obj)} {σ:St} {H:Hp} {s:Shared} {l b:Addr} {xs ys zs:List V}
theorem Inv.lset{its its':List Value}{n:Nat}{f:Array Value ->Array Value}{t':Nat}(I:Inv X pins σ H s)(hH:H l=some (.lst xs))
  (e:s.heap.get? l=some {cls:= .type "list",data:= .seq its.toArray n}) (hf:f its.toArray=its'.toArray) (hv:Vals ys its') (hz:ys.length<=sizeLine):
  Inv X pins σ (upd H l (.lst ys)) {s with heap:=s.heap.update l (Obj.mapSeq f),toks:=t'}:=by
 have q:=PySem.IsL.update e f
 rw[hf] at q;refine I.write (x:=l) (e:=l) (by rw[hH];exact trivial) (.inl rfl) (fun b' u hb hu=>(Heap.get?_update_other s.heap (Obj.mapSeq f) (Ne.symm hb)).trans hu) ⟨_,q⟩ ?_;exact⟨hz,its',_,hv,q⟩
theorem Inv.lnew{its:List Value}{t':Nat}(I:Inv X pins σ H s)(hv:Vals ys its)(hz:ys.length<=sizeLine):
  Inv X pins σ (upd H s.heap.objs.size (.lst ys)) {s with heap:=s.heap.push {cls:= .type "list",data:= .seq its.toArray},toks:=t'}:=
 I.laid (fun _ _ q=>Heap.get?_push_of_some _ q) (aI _) ⟨hz,its,0,hv,Heap.get?_push_size _ rfl⟩
theorem Inv.fresh(I:Inv X pins σ H s):H s.heap.objs.size=none:=I.hok.fresh (aI _)
theorem Inv.lstM(I:Inv X pins σ H s)(hH:H l=some (.lst xs)):xs.length<=sizeLine /\ ∃(its:List Value) (n:Nat),Vals xs its /\ xs.length=its.length /\ s.heap.get? l=some {cls:= .type "list",data:= .seq its.toArray n}:=by
 obtain⟨z,its,n,r,e⟩:=I.hok l _ hH
 exact⟨z,its,n,r,r.length,e⟩
theorem wG{n:Nat}(h:n<=sizeLine):Builtin.List.listTooLong n=false:=by
 unfold Builtin.List.listTooLong;exact decide_eq_false (by omega)
end
section
variable {X:Cx}
noncomputable def yz:V ->List V ->Hp ->VK ->Prop:=fun x vs H Q=>∃l xs y,x= .ref l /\ vs=[y] /\ H l=some (.lst xs) /\ xs.length<sizeLine /\ Q .non (upd H l (.lst (xs++[y])))
theorem qG:MtM X "list.append" yz:=by
 intro pins s σ H x vs v us Q I rx rv h;obtain⟨l,xs,y,rfl,rfl,hH,hz,q⟩:=h
 cases rx;obtain⟨u,rfl,ru⟩:=rv.one
 obtain⟨z,its,n,r,hl,e⟩:=I.lstM hH
 refine call_meets F.slot_list_append ⟨_,e,rfl⟩ F.entry_list_append (F.args_list_append_2 _ _) (PySem.list_append l its.toArray n u (by rw[aS];omega)) ⟨e,?_⟩;refine⟨.non,_,I.lset (its':=its++[u]) hH e (by simp) (r.append (.cons ru .nil)) ?_,rfl,q⟩;rw[al,fc];omega
noncomputable def BF:R2:=fun x y H Q=>∃l b xs zs,x= .ref l /\ y= .ref b /\ H l=some (.lst xs) /\ H b=some (.lst zs) /\ xs.length+zs.length<=sizeLine /\ ∀p,H p=none ->Q (.ref p) (upd H p (.lst (xs++zs)))
theorem Aw:OpR X (binaryOp .Add) BF:=by
 intro pins s σ H x y v u Q I rx ry h;obtain⟨l,b,xs,zs,rfl,rfl,hH,hB,hz,q⟩:=h
 cases rx;cases ry;obtain⟨z,its,n,r,hl,e⟩:=I.lstM hH
 obtain⟨z2,its2,n2,r2,hl2,e2⟩:=I.lstM hB
 refine PySem.P.add_list e e2 ?_ (by rw[aS,aS];omega);have ea:its.toArray++its2.toArray=(its++its2).toArray:=by simp
 rw[ea];exact⟨.ref _,_,I.lnew (t':=s.toks) (r.append r2) (by rw[al];omega),rfl,q _ I.fresh⟩
noncomputable def BB:R2:=fun x y H Q=>∃l k xs,x= .ref l /\ y= .int k /\ H l=some (.lst xs) /\ -(2^63)<=k /\ k<2^63 /\ xs.length*k.toNat<=sizeLine /\
 ∀p,H p=none ->Q (.ref p) (upd H p (.lst (aZ k.toNat xs).flatten))
theorem nY{α:Type}(xs:List α)(k:Nat):(aZ k xs).flatten.length=k*xs.length:=by
 induction k with
 |zero=>simp
 |succ k ih=>rw[bB,cF,al,ih,Nat.succ_mul,gX]
theorem xR:OpR X (binaryOp .Mult) BB:=by
 intro pins s σ H x y v u Q I rx ry h;obtain⟨l,k,xs,rfl,rfl,hH,h1,h2,hz,q⟩:=h
 cases rx;obtain⟨t,rfl⟩:=ry
 obtain⟨z,its,n,r,hl,e⟩:=I.lstM hH
 have hlen:its.toArray.size*k.toNat<=sizeLine:=by rw[aS, <-hl];exact hz
 have hcap:¬its.toArray.size*k.toNat>(2^63-1) /8:=by
  have:(sizeLine:Nat)<=(2^63-1) /8:=by decide
  omega
 have hfit:¬(!Builtin.List.listFitsIndex k)=true:=by
  rw[fitsIndex_both h1 h2];exact aY
 have hlong:¬Builtin.List.listTooLong (its.toArray.size*k.toNat)=true:=by
  rw[wG hlen];exact aY
 have hnew:gS (fun x1 x2=>x1++x2) #[] (aZ (if its.toArray.isEmpty=true then 0 else k.toNat) its.toArray)=(aZ k.toNat its).flatten.toArray:=by
  have f0:∀m:Nat,gS (fun x1 x2=>x1++x2) #[] (aZ m its.toArray)=(aZ m its).flatten.toArray:=fun m=>by
   have:=qQ its m []
   rw[aN] at this;exact this
  rw[f0];cases its with
  |nil=>simp
  |cons a r'=>rw[if_neg (by simp)]
 refine wpAny_binaryOp_repeat_ref (T:="list") (U:="int") (by decide) ⟨_,e,rfl⟩ (fun s'=>typeIs_int s' k t) noFill_list_mul F.fills_int_mul F.slot_int_rmul repeat_list F.slot_int_index.lookup
  (call_meets F.slot_int_rmul (typeIs_int s k t) F.entry_int_rmul (F.args_int_rmul_2 _ _) (int___rmul___int_list k t l its.toArray n)
   ⟨e,rfl,⟨_,e,rfl⟩,call_meets F.slot_list_mul ⟨_,e,rfl⟩ F.entry_list_mul (F.args_list_mul_2 _ _) (AutoListH.list___mul___list_int_3 l its.toArray n k t hfit hcap hlong) ⟨e,?_⟩⟩)
 rw[hnew];exact⟨.ref _,_,I.lnew (t':=s.toks) (r.rep k.toNat) (by rw[nY,Nat.mul_comm];exact hz),rfl,q _ I.fresh⟩
end
end L2
namespace Att
open PySem PySem.W PySem.Calls PyProof.Rows
theorem nZ{P:Params}{h:Heap}:∀(ns:List Int) (vs:List Value),WellAll P h vs (ns.map WData.int) ->IntsAre vs ns:=by
 intro ns
 induction ns with
 |nil=>
  intro vs w;rw[bR] at w;cases w;exact .nil
 |cons n ns ih=>
  intro vs w;rw[aJ] at w;cases w with
  |cons a b=>
   cases a;exact .cons _ _ (ih _ b)
theorem uS{l:OpenLaw}{n:Nat}(hn:l.most=some n){P:Params}{h:Heap}{args:List WData}{vals:List Value}
  (hpre:l.row.toRowW.claim.pre args=true) (hwl:WellAll P h vals args):
  ∃a vs ns,vals=[Value.ref a] /\ args=[WData.list (ns.map WData.int)] /\ h.get? a=some {cls:= .type "list",data:= .seq vs.toArray} /\ IntsAre vs ns /\ ns.length<=n:=by
 have hsh:WShape.hasAll [] args [.list .int]=true:=(pre_splitW hpre).1
 have hc:l.pre.holds [] {args:=args}=true:=(pre_splitW hpre).2
 obtain⟨d,r,rfl,h1,h2⟩:=hasAllW_cons hsh
 obtain rfl:=hasAllW_nil h2
 obtain⟨xs,rfl,h3⟩:=hasW_list h1
 obtain⟨ns,rfl⟩:=items_int h3
 have hlen:ns.length<=n:=by
  unfold OpenLaw.pre at hc;have h4:(WTm.not (.lt (.lit (.int (n:Int))) (.len (.arg 0)))).holds [] {args:=[.list (ns.map .int)]}=true:=by
   have h4:=(holds_andW hc).1
   rw[hn] at h4;exact h4
  have h5:=condW_of h4 (w_not (w_lt w_lit (w_len_list (w_arg rfl))))
  rw[ae] at h5;refine Nat.le_of_not_lt fun q=> ?_
  have q':(n:Int)<((ns.length:Nat):Int):=by omega
  first
   |(rw[decide_eq_true q'] at h5;exact absurd h5 (by decide))
   |(simp at h5;omega)
 cases hwl with
 |cons w1 w2=>
  cases w2;cases w1 with
  |list ho hall=>exact⟨_,_,ns,rfl,rfl,ho,nZ ns _ hall,hlen⟩
theorem vd(l:OpenLaw)(args:List WData):l.row.toRowW.claim.post args (.bool true) args=true:=
 postW_of (r:=l.row.toRowW) (X:=(true==true))
  (show WShape.has [] (.bool true) .bool=true by first|rfl|decide|simp[WShape.has,WShape.arms,WShape.armsAll])
  (show(WTm.eq .res (.lit (.bool true))).value [] {args:=args,res:=some (.bool true),after:=args}=some (.bool (true==true)) from w_eq_bool (w_res rfl) w_lit) rfl
theorem attach_call{l:OpenLaw}{n:Nat}{q:Program}{loose:List Str}{XP:(Str ->Option Value) ->Heap ->Prop}{YP:World ->Heap ->Prop}{d:DefRec}
  (hn:l.most=some n) (hdf:d.params.defaults=[])
  (call:∀(w:World) (s₀ s₁:Shared) (mg mb:Str ->Option Value) (fa:Addr) (o:Obj) (pm cd doc:Value) (a:Addr) (vs:List Value) (ns:List Int),
   Ground q loose [] XP w s₀ mg mb s₁.heap ->YP w s₁.heap ->
   s₁.heap.get? fa=some o ->o.data= .func (docDef d.name d.params d.body d.scope pm cd doc) ->s₁.heap.CodeRec cd d.name ->mg d.name=some (.ref fa) ->
   s₁.heap.get? a=some {cls:= .type "list",data:= .seq vs.toArray} ->IntsAre vs ns ->ns.length<=n ->s₁.gens= #[] ->
   codeAny (model l.prog w) callerA (.call (.ref fa) ⟨[.ref a],[]⟩) (fun r s'=>r= .ok (.ret (.bool true)) /\ OldK s₁.heap s'.heap /\ s'.os=s₁.os /\ AllBare s'.gens) s₁):
  WalkO q loose XP YP l.row.toRowW d [] (fun f vs=>iE f vs):=by
 intro w s₀ s₁ mg mb G Y fa o pm cd doc dV kV ho hd hcd hD hmg hg args vals as hpre hlay hrd hwl hlo;obtain rfl:dV= .none:=Dflts.none hD hdf
 obtain rfl:kV= .none:=Dflts.noKw hD
 obtain⟨a,vs,ns,rfl,rfl,hobj,hints,hlen⟩:=uS hn hpre hwl
 refine enter_call (codeAny_mono (call w s₀ s₁ mg mb fa o pm cd doc a vs ns G Y ho (fd_plain hd) hcd hmg hobj hints hlen hg) fun r s' hq=> ?_);obtain⟨rfl,h2,h3,h4⟩:=hq
 exact⟨.inl ⟨.bool true,.bool true,[],rfl,fun _=>rfl,.bool true,vd l _,fun _=>⟨List.Pairwise.nil,fun _ hm=>(nomatch hm)⟩⟩,h2,h3,h4⟩
end Att
namespace L2
open PySem PySem.Spec PyProof.Rows
theorem qf:∀{vs:List Value} {ns:List Int},IntsAre vs ns ->Vals (ns.map V.int) vs
 |_,_,.nil=> .nil
 |_,_,.cons n t h=> .cons ⟨t,rfl⟩ (qf h)
noncomputable def Bp(H:Hp):Prop:=∀b,H b=none∨∃o xs,H b=some (.frz o (.lst xs))
theorem wM{P:Program}{w:World}{K:ag}{mg mb:Str ->Option Value}{CX:CXT}{k:Nat}{fa a:Addr}{fd:FuncData}{x:Str}{sp:Sp}{s₁:Shared}{vs:List Value}{ns:List Int}
  (KX:K.In s₁.heap) (hns:s₁.heap.Ns mainGlobals mg) (hb:s₁.heap.Ns builtinsNs mb) (hbb:∀x:Str,x≠"__name__" ->mb x=bootBuiltins x) (hlim:s₁.heap.NoLimit) (hg:s₁.gens= #[])
  (ha:s₁.heap.get? a=some {cls:= .type "list",data:= .seq vs.toArray}) (hi:IntsAre vs ns) (hl:ns.length<=sizeLine) (hr:Room k callerA)
  (F:∀base:Heap,K.In base ->base.Ns mainGlobals mg ->FnOk P w K mg base CX k fa fd [x] sp) (hbind:∀(s:Shared) (u:Value),BindsTo s fd ⟨[u],[]⟩ [(x,u)])
  (hsp:∀H:Hp,Bp H ->SqL K H a (ns.map V.int) ->sp [.ref a] H (fun v _=>v= .bl true) fun _ _ _=>False)
  (hCX:∀H e s',CX [] H s₁ (fun _ _ _=>False) e s' ->False):
  codeAny (model P w) callerA (.call (.ref fa) ⟨[.ref a],[]⟩) (fun r s'=>r= .ok (.ret (.bool true)) /\ OldK s₁.heap s'.heap /\ s'.os=s₁.os /\ AllBare s'.gens) s₁:=by
 have rv:=qf hi
 have lenV:=hi.length
 --from an abstract heap in which nothing but the script may be tracked
 have core:∀H:Hp,Bp H ->SqL K H a (ns.map V.int) ->HOk P w H s₁.heap ->(∀b,H b≠none ->b=a) ->(H a≠none ->K.lookup a=none) ->
   codeAny (model P w) callerA (.call (.ref fa) ⟨[.ref a],[]⟩) (fun r s'=>r= .ok (.ret (.bool true)) /\ OldK s₁.heap s'.heap /\ s'.os=s₁.os /\ AllBare s'.gens) s₁:=by
  intro H hO hS hok hA hK;have base_of:∀{b:Addr} {o:Obj},s₁.heap.get? b=some o ->H b=none ->(wU s₁.heap H).get? b=some o:=fun e n=>wT e n
  have noA:∀{b:Addr} {o:Obj} {es:Array DictEntry} {ep:Nat},s₁.heap.get? b=some o ->o.data= .dict es ep ->H b=none:=fun {b o es ep} e d=>by
   cases q:H b with
   |none=>rfl
   |some u=>
    have e':b=a:=hA b (by rw[q];simp)
    subst e';rw[ha] at e;cases e;have d':Data.seq vs.toArray _=Data.dict es ep:=d
    cases d'
  have nsK:∀{b:Addr} {m:Str ->Option Value},s₁.heap.Ns b m ->(wU s₁.heap H).Ns b m:=fun {b m} ⟨o,es,ep,e,d,r⟩=>⟨o,es,ep,base_of e (noA e d),d,r⟩
  have hKb:K.In (wU s₁.heap H):=fun b o e=>base_of (KX b o e) (by
   cases q:H b with
   |none=>rfl
   |some u=>
    have e':b=a:=hA b (by rw[q];simp)
    subst e';rw[hK (by rw[q];simp)] at e;cases e)
  have hM:Mod K mg (wU s₁.heap H):=⟨hKb,nsK hns,⟨mb,nsK hb,hbb⟩,let⟨mc,h1,h2⟩:=hlim;⟨mc,nsK h1,h2⟩⟩
  have e0:Env0 P w K mg (wU s₁.heap H) callerA [] s₁ H:=⟨rfl,hM,fun b o e=>yL e,Nat.le_of_eq (vI _ _),trivial,fun b hb=>absurd (show b∈([]:List Addr) from hb) (by simp),hok,.of_eq hg⟩
  refine codeAny_mono ((F _ hKb (nsK hns)).run callerA [] s₁ H ⟨[.ref a],[]⟩ [.ref a] [.ref a] _ _ hr e0 (hbind s₁ (.ref a)) (.cons rfl .nil) (hsp H hO hS)) fun r s' h=> ?_
  cases r with
  |error e=>exact(hCX H e s' h).elim
  |ok fl=>
   cases fl with
   |next=>exact False.elim h
   |brk=>exact False.elim h
   |cont=>exact False.elim h
   |ret u=>
    obtain⟨v,H',os,bare,un,hok',r',q⟩:=h
    have q':v= .bl true:=q
    subst q';obtain rfl:u=Value.bool true:=r'
    refine⟨rfl,OldK.of_keep fun b o e=> ?_,os,bare⟩;cases q:H b with
    |none=>exact un.keep b o e q (by intro z;exact absurd (show b∈([]:List Addr) from z) (by simp)) (by simp)
    |some u=>
     rcases hO b with z|⟨ob,xs,z⟩
     ·rw[q] at z;cases z
     ·have z2:=un.frzs b ob _ z
      obtain⟨e1,_⟩:=hok b _ z
      obtain⟨e2,_⟩:=hok' b _ z2
      rw[e] at e1;cases e1;exact e2
 cases hk:K.lookup a with
 |some o=>
  --the script is one of the module's own objects
  have e:=KX a o hk
  rw[ha] at e;cases e;refine core (fun _=>none) (fun _=> .inl rfl) (.inr ⟨_,vs.toArray,_,hk,rfl,rfl,rfl,by rw[aS,lenV];exact hl,by simpa using rv⟩) (fun b u z=>by have z':(none:Option HO)=some u:=z;cases z') (fun b z=>absurd rfl z) fun z=>absurd rfl z
 |none=>
  refine core (fun b=>if b=a then some (.frz {cls:= .type "list",data:= .seq vs.toArray} (.lst (ns.map V.int))) else none) (fun b=> ?_) (.inl (.inr ⟨{cls:= .type "list",data:= .seq vs.toArray},if_pos rfl⟩)) (fun b u z=> ?_) (fun b z=> ?_) fun _=>hk
  ·by_cases hb:b=a
   ·exact .inr ⟨_,_,if_pos hb⟩
   ·exact .inl (if_neg hb)
  ·by_cases hb:b=a
   ·have z':=(if_pos hb).symm.trans z
    cases z';subst hb;exact⟨ha,by rw[ae];exact hl,vs,_,rv,ha⟩
   ·have z':=(if_neg hb).symm.trans z
    cases z'
  ·by_cases hb:b=a
   ·exact hb
   ·exact absurd (if_neg hb) z
end L2
namespace L2
open PySem PySem.Spec PyProof.Rows
theorem walk_of{l:gm}{n k:Nat}{q:Program}{loose:List Str}{XP:(Str ->Option Value) ->Heap ->Prop}{YP:World ->Heap ->Prop}{d:DefRec}{K:Params ->ag}{CX:World ->CXT}{sp:World ->Sp}{x:Str}
  (hn:l.most=some n) (hn2:n<=sizeLine) (hdf:d.params.defaults=[]) (hr:Room k callerA)
  (hY:∀(w:World) (h:Heap),YP w h ->(K w.params).In h)
  (F:∀(w:World) (mg:Str ->Option Value) (fa:Addr) (h:Heap),(K w.params).In h ->h.Ns mainGlobals mg ->mg d.name=some (.ref fa) ->
   ∃fd:FuncData,(∀(s:Shared) (u:Value),BindsTo s fd ⟨[u],[]⟩ [(x,u)]) /\
    ∀base:Heap,(K w.params).In base ->base.Ns mainGlobals mg ->FnOk l.prog w (K w.params) mg base (CX w) k fa fd [x] (sp w))
  (hsp:∀(w:World) (H:Hp) (a:Addr) (ns:List Int),ns.length<=n ->Bp H ->SqL (K w.params) H a (ns.map V.int) ->sp w [.ref a] H (fun v _=>v= .bl true) fun _ _ _=>False)
  (hCX:∀(w:World) (H:Hp) (s:Shared) (e:Value) (s':Shared),CX w [] H s (fun _ _ _=>False) e s' ->False):
  iH q loose XP YP l.row.toRowW d [] (fun f vs=>iE f vs):=by
 refine Att.attach_call hn hdf fun w s₀ s₁ mg mb fa o pm cd doc a vs ns G Y ho hd hcd hmg hobj hints hlen hg=> ?_
 have KX:=hY w _ Y
 obtain⟨fd,hb,hF⟩:=F w mg fa _ KX G.T.g hmg
 exact wM KX G.T.g G.T.b G.T.builtins G.T.nolimit hg hobj hints (bJ hlen hn2) hr hF hb (fun H hO hS=>hsp w H a ns hlen hO hS) fun H e s'=>hCX w H s₁ e s'
end L2
namespace L2
open PySem PySem.Spec PyProof.Rows
noncomputable def i8(s:Stmt):Arguments:=match s with
 | .FunctionDef _ a _ _ _ _ _ _ _ _=>a
 |_=>{posonlyargs:=[],args:=[],vararg:=none,kwonlyargs:=[],kw_defaults:=[],kwarg:=none,defaults:=[]}
noncomputable def i6(s:Stmt):List Stmt:=match s with
 | .FunctionDef _ _ b _ _ _ _ _ _ _=>b
 |_=>[]
noncomputable def iR(s:Stmt):Scope:=match s with
 | .FunctionDef _ _ _ _ _ _ sc _ _ _=>sc
 |_=>{kind:= .function,names:=[],isGenerator:=false,isCoroutine:=false}
noncomputable abbrev E0:XK:=fun _ _ _=>False
structure Fun(K:ag)(x qual:Str)(st:Stmt)(f:Addr)(fd:FuncData):Prop where
 ex:∃(oc:Value) (od:Option Addr) (kV doc pm:Value) (an:Option Addr) (cdv ct:Value) (osl:Array (Option Value)),
  fd=aG x qual (i8 st) (i6 st) (iR st) .none kV doc pm an cdv ct /\ K.lookup f=some ⟨oc,od,.func fd,osl⟩ /\ aB K cdv qual=true
 kp:aA K (.ref f)=true
section
variable {P:Program} {w:World} {K:ag} {mg:Str ->Option Value} {base:Heap}
theorem Fun.binds{x qual:Str}{st:Stmt}{f:Addr}{fd:FuncData}{ps:List Str}(F:Fun K x qual st f fd)
  (h:∀(kV doc pm:Value) (an:Option Addr) (cdv ct:Value) (us:List Value),us.length=ps.length ->bindArgs (aG x qual (i8 st) (i6 st) (iR st) .none kV doc pm an cdv ct) ⟨us,[]⟩=pure (ps.zip us)):Binds K fd ps []:=by
 obtain⟨oc,od,kV,doc,pm,an,cdv,ct,osl,rfl,lk,hcd⟩:=F.ex
 exact .all (h kV doc pm an cdv ct)
theorem jp{x qual:Str}{st:Stmt}{f:Addr}{oc:Value}{od an:Option Addr}{osl:Array (Option Value)}{kV doc pm cdv ct:Value}(l:K.lookup f=some ⟨oc,od,.func (aG x qual (i8 st) (i6 st) (iR st) .none kV doc pm an cdv ct),osl⟩)
  (c:aB K cdv qual=true) (k:aA K (.ref f)=true):Fun K x qual st f (aG x qual (i8 st) (i6 st) (iR st) .none kV doc pm an cdv ct):=⟨⟨oc,od,kV,doc,pm,an,cdv,ct,osl,rfl,l,c⟩,k⟩
end
theorem n6{A:Around}{k:Nat}(hr:Room k A):A.units+1<cLine:=aU (Nat.add_le_add_left (by decide:1<=64) _) hr.units
section
variable {X:Cx}
theorem pv(i:Nat){x:Str}{pos:Pos}(hN:X.N[i]? =some x:=by rfl)(hv:Vis X.env.scope x:=by first|exact aL rfl|exact fk (aL rfl)|exact fk (fk rfl))(hd:(x==("__debug__":Str))=false:=by decide)
  (hcd:(x==("__classdict__":Str))=false:=by decide):PE X (.Name x pos) (zE i):=Ao hN hv hd hcd
end
end L2
namespace L2
open PySem PySem.Spec PyProof.Rows
section
variable {κ:Type} [DecidableEq κ]
noncomputable def rm(kvs:List (κ×V))(k:κ):Option V:=(kvs.find? fun kv=>decide (kv.1=k)).map (·.2)
noncomputable def qe(kvs:List (κ×V))(k:κ)(v:V):List (κ×V):=
 if(kvs.any fun kv=>decide (kv.1=k))=true then kvs.map (fun kv=>if kv.1=k then(kv.1,v) else kv) else kvs++[(k,v)]
theorem oU{p:κ×V}{r:List (κ×V)}{k:κ}(e:p.1=k):rm (p::r) k=some p.2:=by simp[rm,dr,e]
theorem oV{p:κ×V}{r:List (κ×V)}{k:κ}(e:¬p.1=k):rm (p::r) k=rm r k:=by simp[rm,dr,e]
theorem sv(k:κ):∀kvs:List (κ×V),(kvs.any fun kv=>decide (kv.1=k))=(rm kvs k).isSome
 |[]=>rfl
 |p::r=>by
  rw[fq]
  by_cases e:p.1=k
  ·simp only[oU e,decide_eq_true e,Bool.true_or,di]
  ·rw[oV e,decide_eq_false e,iI];exact sv k r
theorem lR(kvs:List (κ×V))(k:κ)(v:V):(qe kvs k v).length<=kvs.length+1:=by
 unfold qe;split
 ·rw[ae];omega
 ·rw[al,bC,bQ];omega
theorem RelO.isSome_eq{o:Option V}{u:Option Value}(r:RelO o u):o.isSome=u.isSome:=by
 cases o with
 |none=>cases u with
  |none=>rfl
  |some _=>exact(show False from r).elim
 |some _=>cases u with
  |none=>exact(show False from r).elim
  |some _=>rfl
theorem KV.val{kvs:List (κ×V)}{vs:List (κ×Value)}(r:KV kvs vs)(k:κ):RelO (rm kvs k) (valueAt vs k):=by
 unfold KV at r
 induction r with
 |nil=>exact True.intro
 | @cons p q ps qs h t ih=>
  obtain⟨h1,h2⟩:=h
  by_cases e:p.1=k
  ·have e':q.1=k:=h1.symm.trans e
   have b:valueAt (q::qs) k=some q.2:=by simp[valueAt,dr,e']
   rw[oU e,b];exact h2
  ·have e':¬q.1=k:=fun z=>e (h1.trans z)
   have b:valueAt (q::qs) k=valueAt qs k:=by simp[valueAt,dr,e']
   rw[oV e,b];exact ih
theorem KV.any{kvs:List (κ×V)}{vs:List (κ×Value)}(r:KV kvs vs)(k:κ):(kvs.any fun kv=>decide (kv.1=k))=vs.any fun kv=>decide (kv.1=k):=by
 unfold KV at r
 induction r with
 |nil=>rfl
 |cons h t ih=>rw[fq,fq,ih,h.1]
theorem KV.repl{kvs:List (κ×V)}{vs:List (κ×Value)}(r:KV kvs vs)(k:κ){y:V}{u:Value}(ry:RelV y u):
  KV (kvs.map fun kv=>if kv.1=k then(kv.1,y) else kv) (vs.map fun kv=>if kv.1=k then(kv.1,u) else kv):=by
 unfold KV at r⊢
 induction r with
 |nil=>exact .nil
 | @cons p q ps qs h t ih=>
  rw[aJ,aJ];refine .cons ?_ ih;obtain⟨h1,h2⟩:=h
  by_cases e:p.1=k
  ·rw[if_pos e,if_pos (h1.symm.trans e)];exact⟨h1,ry⟩
  ·rw[if_neg e,if_neg (fun z=>e (h1.trans z))];exact⟨h1,h2⟩
theorem KV.put{kvs:List (κ×V)}{vs:List (κ×Value)}(r:KV kvs vs)(k:κ){y:V}{u:Value}(ry:RelV y u):KV (qe kvs k y) (stored vs k u):=by
 unfold qe stored;rw[r.any k]
 by_cases e:(vs.any fun kv=>decide (kv.1=k))=true
 ·rw[if_pos e,if_pos e];exact r.repl k ry
 ·rw[if_neg e,if_neg e];exact Paired.snoc r ⟨rfl,ry⟩
theorem KV.length{kvs:List (κ×V)}{vs:List (κ×Value)}(r:KV kvs vs):kvs.length=vs.length:=Paired.length r
end
theorem wQ{P:Program}{w:World}{k:Key}{u:Value}(r:RelV (kV k) u):(jV P w).is k u=true:=by
 cases k with
 |inl i=>obtain⟨t,e⟩:=(show∃t,u=Value.int i t from r);subst e;exact rO P w i t
 |inr x=>obtain⟨t,e⟩:=(show∃t,u=Value.str x t from r);subst e;exact rN P w x t
theorem qN{P:Program}{w:World}:∀{ks:List Key} {us:List Value},Vals (ks.map kV) us ->ItemsAre (jV P w) ks us
 |[],_,r=>by rw[bR] at r;cases r;exact .nil
 |k::ks,_,r=>by
  rw[aJ] at r;cases r with
  |cons h t=>exact .cons (wQ h) (qN t)
noncomputable abbrev KT(H:Hp):List (List Key×V) ->List (List Key×Addr×Value) ->Prop:=Paired fun p q=>p.1=q.1 /\ H q.2.1=some (.tup (p.1.map kV)) /\ RelV p.2 q.2.2
theorem KT.val{H:Hp}{kvs:List (List Key×V)}{xs:List (List Key×Addr×Value)}(r:KT H kvs xs)(k:List Key):RelO (rm kvs k) ((atKey xs k).map (·.2)):=by
 induction r with
 |nil=>exact True.intro
 | @cons p q ps qs h t ih=>
  obtain⟨h1,_,h2⟩:=h
  by_cases e:p.1=k
  ·have e':q.1=k:=h1.symm.trans e
   have b:atKey (q::qs) k=some q.2:=by simp[atKey,dr,e']
   rw[oU e,b];exact h2
  ·have e':¬q.1=k:=fun z=>e (h1.trans z)
   have b:atKey (q::qs) k=atKey qs k:=by simp[atKey,dr,e']
   rw[oV e,b];exact ih
theorem KT.repl{H:Hp}{kvs:List (List Key×V)}{xs:List (List Key×Addr×Value)}(r:KT H kvs xs)(k:List Key){y:V}{u:Value}(ry:RelV y u):
  KT H (kvs.map fun kv=>if kv.1=k then(kv.1,y) else kv) (xs.map (putAt k u)):=by
 induction r with
 |nil=>exact .nil
 | @cons p q ps qs h t ih=>
  rw[aJ,aJ];refine .cons ?_ ih;obtain⟨h1,h2,h3⟩:=h
  unfold putAt
  by_cases e:p.1=k
  ·rw[if_pos e,if_pos (h1.symm.trans e)];exact⟨h1,h2,ry⟩
  ·rw[if_neg e,if_neg (fun z=>e (h1.trans z))];exact⟨h1,h2,h3⟩
theorem KT.put{H:Hp}{kvs:List (List Key×V)}{xs:List (List Key×Addr×Value)}(r:KT H kvs xs)(k:List Key){b:Addr}{y:V}{u:Value}(hb:H b=some (.tup (k.map kV)))(ry:RelV y u):
  KT H (qe kvs k y) (storedH xs k b u):=by
 have e:(kvs.any fun kv=>decide (kv.1=k))=(atKey xs k).isSome:=by
  rw[sv,(r.val k).isSome_eq,Option.isSome_map]
 unfold qe storedH;rw[e]
 by_cases q:(atKey xs k).isSome=true
 ·rw[if_pos q,if_pos q];exact r.repl k ry
 ·rw[if_neg q,if_neg q];exact Paired.snoc r ⟨rfl,hb,ry⟩
theorem KT.keeps{H H':Hp}{kvs:List (List Key×V)}{xs:List (List Key×Addr×Value)}(r:KT H kvs xs)(ht:∀b ys,H b=some (.tup ys) ->H' b=some (.tup ys)):KT H' kvs xs:=
 Paired.mapP r fun _ _ z=>⟨z.1,ht _ _ z.2.1,z.2.2⟩
section
variable {P:Program} {w:World} {H:Hp} {h:Heap} {a:Addr}
theorem Ak{u:HO}(ok:HOk P w H h)(e:Rd H a u):ObjOk P w H h a u:=e.ok ok
theorem zn{kvs:List (Key×V)}(ok:HOk P w H h)(e:Rd H a (.dK kvs)):kvs.length<=sizeLine /\ (a==sysModules)=false /\ ∃vs,KV kvs vs /\ h.DictOf (jV P w) a vs:=
 show ObjOk P w H h a (.dK kvs) from Ak ok e
theorem AR{kvs:List (Key×V)}(ok:HOk P w H h)(e:H a=some (.dK kvs)):kvs.length<=sizeLine /\ (a==sysModules)=false /\ ∃vs,KV kvs vs /\ h.DictOf (jV P w) a vs:=zn ok (.inl e)
theorem vC{ks:List Key}(ok:HOk P w H h)(e:H a=some (.tup (ks.map kV))):(tupleKind (jV P w)).is h ks a:=by
 obtain⟨_,its,r,o,h1,h2,n,h3⟩:=(show ObjOk P w H h a (.tup (ks.map kV)) from ok a _ e)
 exact⟨o,its.toArray,n,h1,h2,h3,by simpa using qN r⟩
theorem zl{kvs:List (List Key×V)}(ok:HOk P w H h)(e:Rd H a (.dT kvs)):kvs.length<=sizeLine /\ (a==sysModules)=false /\
  ∃xs,KT H kvs xs /\ h.DictOfH (tupleKind (jV P w)) a xs:=by
 obtain⟨z,y,xs,r,o,es,ep,h1,h2,h3,h4,h5⟩:=(show ObjOk P w H h a (.dT kvs) from Ak ok e)
 refine⟨z,y,xs,r,o,es,ep,h1,h2,h3,h4,fun x hx=> ?_,h5⟩;have all:∀{l:List (List Key×V)} {m:List (List Key×Addr×Value)},KT H l m -> ∀x∈m,(tupleKind (jV P w)).is h x.1 x.2.1:=by
  intro l m q
  induction q with
  |nil=>intro x hx;exact nomatch hx
  | @cons p q ps qs hq t ih=>
   intro x hx;rcases av.mp hx with e|hx
   ·subst e;exact vC ok (by rw[<-hq.1];exact hq.2.1)
   ·exact ih x hx
 exact all r x hx
theorem Bn{kvs:List (List Key×V)}(ok:HOk P w H h)(e:H a=some (.dT kvs)):kvs.length<=sizeLine /\ (a==sysModules)=false /\
  ∃xs,KT H kvs xs /\ h.DictOfH (tupleKind (jV P w)) a xs:=zl ok (.inl e)
end
noncomputable def DGet(H:Hp)(a:Addr)(y:V)(r:Option V):Prop:=
 (∃kvs k,Rd H a (.dK kvs) /\ y=kV k /\ r=rm kvs k)∨∃kvs k b,Rd H a (.dT kvs) /\ y= .ref b /\ H b=some (.tup (k.map kV)) /\ r=rm kvs k
noncomputable def DPut(H:Hp)(a:Addr)(y v:V)(H':Hp):Prop:=
 (∃kvs k,H a=some (.dK kvs) /\ y=kV k /\ kvs.length<sizeLine /\ H'=upd H a (.dK (qe kvs k v)))∨
 ∃kvs k b,H a=some (.dT kvs) /\ y= .ref b /\ H b=some (.tup (k.map kV)) /\ kvs.length<sizeLine /\ H'=upd H a (.dT (qe kvs k v))
theorem DGet.k{H:Hp}{a:Addr}{kvs:List (Key×V)}{k:Key}(e:H a=some (.dK kvs)):DGet H a (kV k) (rm kvs k):= .inl ⟨kvs,k,.inl e,rfl,rfl⟩
theorem DPut.k{H:Hp}{a:Addr}{kvs:List (Key×V)}{k:Key}{v:V}(e:H a=some (.dK kvs))(hl:kvs.length<sizeLine):DPut H a (kV k) v (upd H a (.dK (qe kvs k v))):= .inl ⟨kvs,k,e,rfl,hl,rfl⟩
section
variable {X:Cx} {pins:List (Addr×Obj)} {σ:St} {H:Hp} {s:Shared} {a:Addr} {y v:V} {u r:Value} {o:Option V} {A:Around} {E:Value ->Shared ->Prop}
theorem Inv.big(I:Inv X pins σ H s):sysModules<s.heap.objs.size:=by
 have h:mainGlobals<s.heap.objs.size:=(I.mod.glob.keeps I.bk).lt
 exact dW (by decide) h
theorem vU{Q:Value ->Shared ->Prop}(hu:A.units+1<cLine)(I:Inv X pins σ H s)(g:DGet H a y (some v))(ry:RelV y u)(h:∀w' s',Inv X pins σ H s' ->RelV v w' ->Q w' s'):
  wpAny (model X.prog X.w) A (getItem (.ref a) u) Q E s:=by
 rcases g with⟨kvs,k,e,ey,l⟩|⟨kvs,k,b,e,ey,eb,l⟩
 ·subst ey;obtain⟨z,hd,vs,rel,dd⟩:=zn I.hok e
  obtain⟨w',hw,rw'⟩:=RelO.some_of (v:=v) (o:=valueAt vs k) (by rw[l];exact rel.val k)
  exact wpAny_getItem_of (wQ ry) dd.mapOf hw (h w' _ (I.tok _) rw')
 ·subst ey;cases(show u=Value.ref b from ry);obtain⟨z,hd,xs,rel,dd⟩:=zl I.hok e
  obtain⟨w',hw,rw'⟩:=RelO.some_of (v:=v) (o:=(atKey xs k).map (·.2)) (by rw[l];exact rel.val k)
  obtain⟨p,hp,hp2⟩:=dh.mp hw
  refine wpAny_getItem_heap (tupleKind_room_in1 hu) (vC I.hok eb) dd hp ?_;rw[hp2];exact h w' _ (I.tok _) rw'
theorem sa{h':Heap}{t':Nat}{ob:HO}(I:Inv X pins σ H s)(mu:Mut (H a))(hs:Heap.SameBut a s.heap h')(he:∃q,h'.get? a=some q)(new:ObjOk X.prog X.w (upd H a ob) h' a ob):
  Inv X pins σ (upd H a ob) {s with heap:=h',toks:=t'}:=
 I.write (x:=a) (e:=a) mu (.inl rfl) (fun b q hb z=>(hs.2 b hb).trans z) he new
theorem xY{P:Program}{w:World}{H':Hp}{h':Heap}{kvs:List (Key×V)}{vs:List (Key×Value)}(z:kvs.length<=sizeLine)(hd:(a==sysModules)=false)(rel:KV kvs vs)(dd:h'.DictOf (jV P w) a vs):
  ObjOk P w H' h' a (.dK kvs):=⟨z,hd,vs,rel,dd⟩
theorem vT{H':Hp}{Q:Unit ->Shared ->Prop}(hu:A.units+1<cLine)(I:Inv X pins σ H s)(g:DPut H a y v H')(ry:RelV y u)(rv:RelV v r)(h:∀s',Inv X pins σ H' s' ->Q () s'):
  wpAny (model X.prog X.w) A (setItem (.ref a) u r) Q E s:=by
 rcases g with⟨kvs,k,e,ey,l,eH⟩|⟨kvs,k,b,e,ey,eb,l,eH⟩
 ·subst ey eH;obtain⟨z,hd,vs,rel,dd⟩:=AR I.hok e
  have hz:vs.length<=sizeLine:=by rw[<-rel.length];exact z
  have hl:(qe kvs k v).length<=sizeLine:=by have:=lR kvs k v;omega
  refine wpAny_setItem_pairs (hsz:=hz) (wQ ry) dd fun h' dd' hs=>h _ ?_
  have he:∃q,h'.get? a=some q:=let⟨q,_,_,hq,_⟩:=dd';⟨q,hq⟩
  exact sa I (by rw[e];exact True.intro) hs he (xY hl hd (rel.put k rv) dd')
 ·subst ey eH;cases(show u=Value.ref b from ry);obtain⟨z,hd,xs,rel,dd⟩:=Bn I.hok e
  have hz:xs.length<=sizeLine:=by rw[<-Paired.length rel];exact z
  have hl:(qe kvs k v).length<=sizeLine:=by have:=lR kvs k v;omega
  refine wpAny_setItem_heap (hsz:=hz) (tupleKind_room_in1 hu) (vC I.hok eb) dd fun h' dd' hs=>h _ ?_
  obtain⟨q,es,ep,hq,h2,h3,h4,_,h5⟩:=dd'
  refine sa I (by rw[e];exact True.intro) hs ⟨q,hq⟩ ⟨hl,hd,_,(rel.put k eb rv).keeps fun c ys ec=> ?_,q,es,ep,hq,h2,h3,h4,h5⟩;rw[jd (mR ec e (fun z=>nomatch z))];exact ec
end
noncomputable def By(i:Expr):Prop:=∀ov iv,subscripted i false ov iv=operate [ov,iv] (getItem ov iv)
theorem yp{prog:Program}{w:World}{A:Around}{E:Value ->Shared ->Prop}{s:Shared}{env:Env}{value slice:Expr}{pos:Pos}{T id:String}{Q:Value ->Shared ->Prop}
  (hl:typeLookup (.type T) "__getitem__"=pure (some (.builtin id))) (hs:By slice)
  (h:wpAny (model prog w) A (eval value env) (fun o s₁=>wpAny (model prog w) A (eval slice env) (fun i s₂=>s₂.TypeIs o T /\ wpAny (model prog w) A (getItem o i) Q E s₂) E s₁) E s):
  wpAny (model prog w) A (eval (.Subscript value slice pos) env) Q E s:=by
 refine Subscript_ (wpAny_mono h (fun o s₁ h₁=>wpAny_mono h₁ (fun i s₂ h₂=> ?_) fun _ _ x=>x) fun _ _ x=>x);obtain⟨hT,h₂⟩:=h₂
 unfold subscriptTail;refine wpAny_bind ?_;rw[getitemInPython_of_ne hT.not_modules];refine wpAny_bind (wpAny_specialOf hT hl ?_);have fin:wpAny (model prog w) A (subscripted slice false o i) (fun r s₃=>wpAny (model prog w) A (letTemporaryGo value o r>>=fun _=>pure r) Q E s₃) E s₂:=by
  rw[hs o i];exact wpAny_operating (wpAny_mono h₂ (fun r s₃ h₃=>wpAny_bind (wpAny_letTemporaryGo (wpAny_pure h₃))) fun _ _ x=>x)
 first
  |exact wpAny_pure (wpAny_bind fin)
  |exact wpAny_bind (wpAny_pure (wpAny_bind fin))
  |exact wpAny_bind fin
theorem rZ{X:Cx}{pins:List (Addr×Obj)}{σ:St}{H:Hp}{s:Shared}{a:Addr}{y:V}{o:Option V}(I:Inv X pins σ H s)(g:DGet H a y o):s.TypeIs (.ref a) "dict":=by
 rcases g with⟨kvs,k,e,_,_⟩|⟨kvs,k,b,e,_,_,_⟩
 ·obtain⟨_,_,vs,_,dd⟩:=zn I.hok e
  exact dd.typeIs
 ·obtain⟨_,_,xs,_,dd⟩:=zl I.hok e
  exact dd.typeIs
theorem xf{P:Program}{w:World}{H:Hp}(h:Heap)(hb:sysModules<h.objs.size):ObjOk P w H (h.push {cls:= .type "dict",data:= .dict #[]}) h.objs.size (.dK []):=
 ⟨cL _,beq_eq_false_iff_ne.mpr (Ne.symm (aQ hb)),[],.nil,Heap.DictOf.new h⟩
noncomputable def nJ:List (TE×TE) ->St ->Hp ->(List (V×V) ->Hp ->Prop) ->Prop
 |[],_,H,Q=>Q [] H
 |(tk,tv)::r,σ,H,Q=>tk σ H fun x H1=>tv σ H1 fun y H2=>nJ r σ H2 fun ps H3=>Q ((x,y)::ps) H3
noncomputable abbrev VV:List (V×V) ->List (Value×Value) ->Prop:=Paired fun p q=>RelV p.1 q.1 /\ RelV p.2 q.2
noncomputable def PPs(X:Cx)(pos:Pos)(keys:List (Option Expr))(values:List Expr)(trs:List (TE×TE)):Prop:=
 ∀(pins:List (Addr×Obj)) (s:Shared) (σ:St) (H:Hp) (Q:List (V×V) ->Hp ->Prop),Inv X pins σ H s ->nJ trs σ H Q ->
  wpAny (model X.prog X.w) X.A (evalPairs (pairTrees keys values X.env pos)) (fun vs s'=>∃ps H',Inv X pins σ H' s' /\ VV ps vs /\ Q ps H') X.xe s
theorem yE{X:Cx}{pos:Pos}:PPs X pos [] [] []:=fun pins s σ H Q I h=>pairTrees_nil_walk ⟨[],H,I,.nil,h⟩
theorem pw{X:Cx}{pos:Pos}{k v:Expr}{ks:List (Option Expr)}{vs:List Expr}{tk tv:TE}{trs:List (TE×TE)}(hk:PE X k tk)(hv:PE X v tv)(hr:PPs X pos ks vs trs):
  PPs X pos (some k::ks) (v::vs) ((tk,tv)::trs):=fun pins s σ H Q I h=>
 pairTrees_cons_walk (thn (hk pins s σ H _ I h) fun u s1 ⟨x,H1,I1,rx,q1⟩=>thn (hv pins s1 σ H1 _ I1 q1) fun w2 s2 ⟨y,H2,I2,ry,q2⟩=>
  thn (hr pins s2 σ H2 _ I2 q2) fun ws s3 ⟨ps,H3,I3,rel,q3⟩=>⟨(x,y)::ps,H3,I3,.cons ⟨rx,ry⟩ rel,q3⟩)
noncomputable def qH(kvs more:List (Key×V)):List (Key×V):=more.foldl (fun acc kv=>qe acc kv.1 kv.2) kvs
theorem KV.merge:∀{more:List (Key×V)} {rs:List (Key×Value)} {kvs:List (Key×V)} {vs:List (Key×Value)},KV more rs ->KV kvs vs ->KV (qH kvs more) (merged vs rs):=by
 intro more rs kvs vs r;unfold KV at r
 induction r generalizing kvs vs with
 |nil=>intro q;exact q
 | @cons p q ps qs h t ih=>
  intro r0;have e:KV (qe kvs p.1 p.2) (stored vs q.1 q.2):=by
   have:=r0.put p.1 h.2
   rw[<-h.1];exact this
  exact ih e
theorem ms:∀(more kvs:List (Key×V)),(qH kvs more).length<=kvs.length+more.length
 |[],kvs=>by show kvs.length<=kvs.length+0;omega
 |p::r,kvs=>by
  have h1:=ms r (qe kvs p.1 p.2)
  have h2:=lR kvs p.1 p.2
  show(qH (qe kvs p.1 p.2) r).length<=_
  rw[bC];omega
theorem oS{P:Program}{w:World}:∀{kvs:List (Key×V)} {ws:List (Value×Value)},VV (kvs.map fun kv=>(kV kv.1,kv.2)) ws -> ∃rs,Carries (jV P w) ws rs /\ KV kvs rs
 |[],_,r=>by rw[bR] at r;cases r;exact⟨[],True.intro,.nil⟩
 |p::kvs,_,r=>by
  rw[aJ] at r;cases r with
  | @cons a b as bs h t=>
   obtain⟨rs,c,q⟩:=oS (P:=P) (w:=w) t
   obtain⟨b1,b2⟩:=b
   exact⟨(p.1,b2)::rs,⟨wQ h.1,rfl,c⟩,.cons ⟨rfl,h.2⟩ q⟩
noncomputable def uJ(trs:List (TE×TE)):TE:=fun σ H Q=>∀p,H p=none ->nJ trs σ (upd H p (.dK [])) fun ps H2=>H2 p=some (.dK []) /\ ∃kvs:List (Key×V),ps=kvs.map (fun kv=>(kV kv.1,kv.2)) /\ kvs.length<=15 /\ Q (.ref p) (upd H2 p (.dK (qH [] kvs)))
theorem yJ{X:Cx}{pos:Pos}{keys:List (Option Expr)}{values:List Expr}{trs:List (TE×TE)}(h:PPs X pos keys values trs)(hall:keys.all (·.isSome)=true)(hl:keys.length=values.length)(h0:keys≠[])
  (h15:keys.length<=15):PE X (.Dict keys values pos) (uJ trs):=by
 intro pins s σ H Q I q;have hn:=I.hok.fresh (aI s.heap.objs.size)
 have I1:=I.laid (a:=s.heap.objs.size) (o:= .dK []) (h':=s.heap.push {cls:= .type "dict",data:= .dict #[]}) (t':=s.toks) (fun _ _ q=>Heap.get?_push_of_some _ q) (aI _) (xf s.heap I.big)
 refine wpAny_Dict_walk (knd:=jV X.prog X.w) hall hl h0 h15 (thn (h pins _ σ _ _ I1 (q _ hn)) fun ws s2 ⟨ps,H2,I2,rel,e,kvs,ep,lk,q2⟩=> ?_);subst ep;obtain⟨rs,c,rk⟩:=oS (P:=X.prog) (w:=X.w) rel
 obtain⟨z,hd,vs0,r0,dd⟩:=AR I2.hok e
 cases r0;refine⟨rs,c,dd,fun h' dd' hs=>⟨.ref s.heap.objs.size,_,?_,rfl,q2⟩⟩;have hz:(qH [] kvs).length<=sizeLine:=by
  have h1:=ms kvs []
  rw[bQ] at h1;rw[sizeLine_eq];omega
 have he:∃q,h'.get? s.heap.objs.size=some q:=let⟨q,_,_,hq,_⟩:=dd';⟨q,hq⟩
 exact sa I2 (by rw[e];exact True.intro) hs he (xY hz hd (rk.merge .nil) dd')
end L2
namespace L2
open PySem PySem.Spec PyProof.Rows
noncomputable def Bd(n:Nat)(i:Int):Prop:=i.natAbs<2^n
theorem Bd.mono{m n:Nat}{i:Int}(h:Bd m i)(hm:m<=n):Bd n i:=aT h (dI (by decide) hm)
theorem Bd.mul{m n:Nat}{i j:Int}(h:Bd m i)(k:Bd n j):Bd (m+n) (i*j):=by
 unfold Bd at*;rw[fO,Nat.pow_add];exact Nat.mul_lt_mul'' h k
theorem oF(m n:Nat):2^m+2^n<=2^(m+n+1):=by
 have h1:2^m<=2^(m+n):=dI (by decide) (Nat.le_add_right _ _)
 have h2:2^n<=2^(m+n):=dI (by decide) (Nat.le_add_left _ _)
 have h3:2^(m+n+1)=2^(m+n)*2:=Nat.pow_succ _ _
 omega
theorem Bd.add{m n:Nat}{i j:Int}(h:Bd m i)(k:Bd n j):Bd (m+n+1) (i+j):=by
 have e:=oF m n
 unfold Bd at*;omega
theorem Bd.sub{m n:Nat}{i j:Int}(h:Bd m i)(k:Bd n j):Bd (m+n+1) (i-j):=by
 have e:=oF m n
 unfold Bd at*;omega
theorem Bd.neg{m:Nat}{i:Int}(h:Bd m i):Bd m (-i):=by
 unfold Bd at*;omega
theorem Bd.of_le{n:Nat}{i:Int}(b:Int)(h1: -b<=i)(h2:i<=b)(hb:b.natAbs<2^n):Bd n i:=by
 unfold Bd;omega
theorem Bd.bits{n:Nat}{i:Int}(h:Bd n i):Builtin.Int.intBits i<=n:=by
 unfold Bd at h;unfold Builtin.Int.intBits;split
 ·exact cL _
 ·rename_i z
  have:i.natAbs≠0:=by
   intro e;apply z;have:i=0:=by omega
   subst this;rfl
  have:=(Nat.log2_lt this).mpr h
  omega
theorem Bd.log{n:Nat}{i:Int}(h:Bd n i)(h0:0<n):i.natAbs.log2<n:=by
 by_cases e:i.natAbs=0
 ·rw[e];exact aU (by decide) h0
 ·exact(Nat.log2_lt e).mpr h
theorem Bd.sq{m:Nat}{i:Int}(h:Bd m i):Bd (m+m) (i^2):=by
 have e:i^2=i*i:=by grind
 rw[e];exact h.mul h
section
variable {X:Cx}
noncomputable def CMulA(i j:Int):Prop:=CMul i j∨(Bd 100000 i /\ Bd 100000 j)
theorem CMulA.ok{i j:Int}(h:CMulA i j):IntMulOk i j:=by
 rcases h with h|⟨h1,h2⟩
 ·exact h.ok
 ·exact .of_bits (bJ h1.bits (by decide)) (bJ h2.bits (by decide))
theorem iY:OpR X (binaryOp .Mult) (rI CMulA fun i j=> .int (i*j)):=opI fun _ _ _ _ _ _ _ hc q=>mul_int q hc.ok
theorem jT:OpR X (binaryOp .FloorDiv) (rI (fun _ j=>j≠0 /\ Bd 9000 j) fun i j=> .int (i.fdiv j)):=opI fun _ _ _ _ _ _ _ hc q=>floordiv_int hc.1 q (.inl (PyProof.noPylong_of_log2 (hc.2.log (by decide))))
theorem nW:OpR X (binaryOp .Pow) (rI (fun i j=>0<=j /\ j<=100 /\ Bd 100000 i) fun i j=> .int (i^j.toNat)):=opI fun i j _ _ _ _ _ hc q=>by
 obtain⟨h1,h2,h3⟩:=hc
 refine pow_int h1 ?_ q;have hb:Builtin.Int.intBits i<=100000:=h3.bits
 have e:((Builtin.Int.intBits i:Nat):Int)*j<=100000*100:=Int.mul_le_mul (by omega) h2 h1 (by decide)
 exact fH e (by decide)
end
end L2
namespace L2
open PySem PySem.Spec PyProof.Rows
section
variable {prog:Program} {w:World} {A:Around} {E:Value ->Shared ->Prop} {s:Shared}
theorem oP{it l:Addr}{items:Array Value}(hne:l≠it):∀(n i:Nat) (s:Shared) (Q:List Value ->Shared ->Prop),s.heap.IsListIter it l i ->s.heap.IsList l items ->i+n<=items.size ->
  (∀h',h'.IsListIter it l (i+n) ->Heap.SameBut it s.heap h' ->Q ((items.toList.drop i).take n) {s with heap:=h'}) ->wpAny (model prog w) A (draw (.ref it) n) Q E s
 |0,i,s,Q,hit,_,_,hQ=>by
  show wpAny _ _ (pure []) Q E s
  exact wpAny_pure (by simpa using hQ s.heap hit (Heap.SameBut.refl ..))
 |n+1,i,s,Q,hit,ht,hle,hQ=>by
  have hlt:i<items.size:=by omega
  show wpAny _ _ (pyNext (.ref it)>>=_) Q E s
  refine wpAny_bind (wpAny_pyNext_list_item hit ht (x:=items[i]) (by simp[hlt]) fun h₁ hit₁ hs₁=> ?_);refine wpAny_bind (wpAny_holding (oP hne n (i+1) _ _ hit₁ (ht.extBut hs₁.extBut hne) (by omega) fun h₂ hit₂ hs₂=>wpAny_pure ?_));have hd:items.toList.drop i=items[i]::items.toList.drop (i+1):=by simp[ck,hlt]
  have:=hQ h₂ (by rw[show i+(n+1)=i+1+n by omega];exact hit₂) (hs₁.trans hs₂)
  rw[hd,List.take_succ_cons] at this;exact this
theorem mG{t:Addr}{items:Array Value}{Q:List Value ->Shared ->Prop}(hh:A.handled=none)(ht:s.heap.IsList t items)
  (hQ:∀h',Heap.ExtBut s.heap.objs.size s.heap h' ->Q items.toList {s with heap:=h'}):wpAny (model prog w) A (unpackItems (.ref t) items.size none) Q E s:=by
 have hlt:t≠s.heap.objs.size:=by obtain⟨o,ho,_⟩:=ht;exact aQ (Heap.lt_size ho)
 unfold unpackItems;refine wpAny_bind ?_
 ·unfold notIterableAtAll;refine wpAny_bind (wpAny_specialOf ht.typeIs slot_list_iter.lookup ?_);refine wpAny_pure ?_;simp only[cu,if_false];refine wpAny_bind (wpAny_holding (wpAny_pyIter_list ht ?_));have ht0:(s.heap.push {cls:= .type "list_iterator",data:= .fields #[.ref t,.int 0 0]}).IsList t items:=ht.at fun o e=>Heap.get?_push_of_some _ e
  refine wpAny_bind (wpAny_holding (oP hlt items.size 0 _ _ ⟨_,Heap.get?_push_size _ rfl,rfl,rfl⟩ ht0 (by omega) fun h₁ hit₁ hs₁=> ?_));have hall:List.take items.size (List.drop 0 items.toList)=items.toList:=by
   rw[dJ];exact cR (by simp)
  rw[hall];rw[if_neg (by simp)];have ht₁:h₁.IsList t items:=ht0.extBut hs₁.extBut hlt
  refine wpAny_bind (wpAny_holding (wpAny_pyNext_list_end hh hit₁ ht₁ (by simp) fun h₂ he₂=> ?_));simp only[Option.isSome_none,cu,if_false];refine wpAny_pure (hQ h₂ fun b o hb e=>he₂ b o hb (hs₁.extBut b o hb (Heap.get?_push_of_some _ e)))
theorem mF{env:Env}{elts:List Expr}{x1}{pos:Pos}{t:Addr}{items:Array Value}{Q:Unit ->Shared ->Prop}(hh:A.handled=none)(ht:s.heap.IsList t items)
  (hn:(assignEach elts env).length=items.size) (hstar:(assignEach elts env).findIdx? (·.1)=none)
  (h:∀h',Heap.ExtBut s.heap.objs.size s.heap h' ->wpAny (model prog w) A (assignInOrder ((assignEach elts env).map (·.2)) items.toList) Q E {s with heap:=h'}):
  wpAny (model prog w) A (assign (.Tuple elts x1 pos) env (.ref t)) Q E s:=by
 rw[assign_Tuple];refine wpAny_bind (wpAny_standAt ?_);unfold unpack;rw[hn,hstar];exact wpAny_bind (wpAny_holding (mG hh ht h))
end
section
variable {X:Cx} {pos:Pos}
noncomputable def Bv(K:ag)(n:Nat)(t:TGs):TG:=fun v σ H Q=>∃a xs,v= .ref a /\ SqL K H a xs /\ xs.length=n /\ t xs σ H Q
theorem An{es:List Expr}{k:Nat}{t:TGs}{n:Nat}(hc:X.calm=true)(h:PGs X es t)
  (hn:(assignEach es X.env).length=n:=by rfl) (hst:(assignEach es X.env).findIdx? (·.1)=none:=by rfl):PG X (.Tuple es k pos) (Bv X.K n t):=by
 intro pins s σ H v u Q I r hw;obtain⟨a,xs,e1,hq,hl,hw⟩:=hw
 subst e1;cases r;obtain⟨its,rv,ht,hz⟩:=I.list hq
 refine mF (I.ok.hd hc) ht.isList (by simp[hn, <-hl,rv.length]) hst fun h' hx=> ?_
 have I1:Inv X pins σ H {s with heap:=h'}:=I.kept (t':=s.toks) fun b o e=>hx b o (aQ (Heap.lt_size e)) e
 exact h pins _ σ H xs _ Q I1 (by simpa using rv) hw
noncomputable def BH(K:ag)(n:Nat)(t:TGs):TG:=fun v σ H Q=>Bu K n t v σ H Q∨Bv K n t v σ H Q
theorem xP{es:List Expr}{k:Nat}{t:TGs}{n:Nat}(hc:X.calm=true)(h:PGs X es t)
  (hn:(assignEach es X.env).length=n:=by rfl) (hst:(assignEach es X.env).findIdx? (·.1)=none:=by rfl):PG X (.Tuple es k pos) (BH X.K n t):=by
 intro pins s σ H v u Q I r hw;rcases hw with hw|hw
 ·exact Am hc h hn hst pins s σ H v u Q I r hw
 ·exact An hc h hn hst pins s σ H v u Q I r hw
end
theorem kY{env:Env}:∀(names:List (Str×NameKind)) (acc:List (Str×Addr)),(∀y∈names,y.2= .free -> ∃c,env.cells.lookup y.1=some c) ->(∀x c,acc.lookup x=some c ->env.cells.lookup x=some c) ->
  ∃cl,(forIn (m:=Sem) names acc fun y cs=>(match y with|(name,kind)=>do
    let mut cs:=cs
    if kind== .free then cs:=(name, <-cellOf env name)::cs
    pure (ForInStep.yield cs):Sem (ForInStep (List (Str×Addr)))))=pure cl /\ (∀x c,cl.lookup x=some c ->env.cells.lookup x=some c) /\ (∀y∈names,y.2= .free -> ∃c,cl.lookup y.1=some c) /\ (∀x c,acc.lookup x=some c -> ∃c',cl.lookup x=some c')
 |[],acc,_,ha=>⟨acc,rfl,ha,fun _ z=>absurd z aD,fun x c h=>⟨c,h⟩⟩
 |(n,k)::r,acc,hf,ha=>by
  by_cases hk:k= .free
  ·subst hk;obtain⟨c,hc⟩:=hf (n,.free) cT rfl
   obtain⟨cl,e,h1,h2,h3⟩:=kY r ((n,c)::acc) (fun y hy=>hf y (ba _ hy)) (fun x d hx=>by
    rw[cB] at hx;split at hx
    ·rename_i z
     have:x=n:=by simpa using z
     subst this;cases hx;exact hc
    ·exact ha x d hx)
   refine⟨cl,?_,h1,fun y hy hyf=> ?_,fun x d hx=> ?_⟩
   ·rw[cP];simp only[beq_self_eq_true,if_true,cellOf,hc,pure_bind,bind_pure_comp,map_pure];simp only[cellOf] at e
    simpa using e
   ·rcases av.mp hy with z|z
    ·subst z;exact h3 n c (by simp)
    ·exact h2 y z hyf
   ·by_cases z:x=n
    ·subst z;exact h3 x c (by simp)
    ·refine h3 x d ?_;rw[cB];have:(x==n)=false:=by simpa using z
     rw[this];exact hx
  ·obtain⟨cl,e,h1,h2,h3⟩:=kY r acc (fun y hy=>hf y (ba _ hy)) ha
   have hb:(k==NameKind.free)=false:=by simpa using hk
   refine⟨cl,?_,h1,fun y hy hyf=> ?_,h3⟩
   ·rw[cP];simp only[hb,cu,if_false,pure_bind]
    simpa using e
   ·rcases av.mp hy with z|z
    ·subst z;exact absurd hyf hk
    ·exact h2 y z hyf
theorem qd{scope:Scope}{env:Env}(hf:∀y∈scope.names,y.2= .free -> ∃c,env.cells.lookup y.1=some c):
  ∃cl,closureFor scope env=pure cl /\ (∀x c,cl.lookup x=some c ->env.cells.lookup x=some c) /\ (∀y∈scope.names,y.2= .free -> ∃c,cl.lookup y.1=some c):=by
 obtain⟨cl,e,h1,h2,_⟩:=kY (env:=env) scope.names [] hf (fun x c h=>by simp at h)
 refine⟨cl,?_,h1,h2⟩;unfold closureFor;have e':=e
 simp only[bind_pure] at*
 first|exact e|(rw[e];rfl)|simpa using e
end L2
namespace L2
open PySem PySem.Spec PyProof.Rows
noncomputable def tL(X:Cx)(scope:Scope)(cl:List (Str×Addr))(N:List Str)(C:Addr)(s:Shared)(H:Hp)(ex:List Addr)(pn:List (Addr×Obj)):Cx where
 prog:=X.prog
 w:=X.w
 K:=X.K
 mg:=X.mg
 base:=X.base
 A:=X.A
 N:=N
 s₀:=s
 H₀:=H
 env:=compEnvC scope cl C X.env
 outer:=X.stack
 stack:=X.stack
 ex:=ex
 fn:=fun _=>false
 calm:=X.calm
 pn:=pn
 xe:=fun _ _=>False
structure CScope(X:Cx)(scope:Scope)(N:List Str)(k:Nat)(js:List Nat):Prop where
 kind:scope.kind= .function
 nocell:∀y∈scope.names,y.2≠ .cell
 names:∀y∈scope.names,y.2= .local ->scope.names.lookup y.1=some .local
 frees:∀y∈scope.names,y.2= .free ->X.env.kindOf y.1=some .cell∨X.env.kindOf y.1=some .free
 len:N.length=k+js.length
 look:∀i j,js[i]? =some j -> ∃x,N[k+i]? =some x /\ X.N[j]? =some x /\ scope.names.lookup x=some .free
theorem ou{scope:Scope}{env:Env}(x:Str):(relabel scope env).names.lookup x=(scope.names.lookup x).map fun k=>if(k== .free&&env.scope.kind== .function&&env.kindOf x==some .cell) then .cell else k:=by
 unfold relabel;dsimp only;generalize scope.names=l
 induction l with
 |nil=>rfl
 |cons y r ih=>
  obtain⟨n,k⟩:=y
  rw[aJ,cB]
  by_cases hx:x=n
  ·subst hx;dsimp only
   by_cases hc:(k==NameKind.free&&env.scope.kind==ScopeKind.function&&env.kindOf x==some NameKind.cell)=true
   ·rw[if_pos hc];simp only[cB,beq_self_eq_true,cm];rw[if_pos hc]
   ·rw[if_neg hc];simp only[cB,beq_self_eq_true,cm];rw[if_neg hc]
  ·have hb:(x==n)=false:=by simpa using hx
   dsimp only
   by_cases hc:(k==NameKind.free&&env.scope.kind==ScopeKind.function&&env.kindOf n==some NameKind.cell)=true
   ·rw[if_pos hc];simp only[cB,hb];exact ih
   ·rw[if_neg hc];simp only[cB,hb];exact ih
theorem kK{α:Type}:∀{l:List (Str×α)} {x:Str} {v:α},l.lookup x=some v ->(x,v)∈l
 |[],_,_,h=>by simp at h
 |(n,k)::r,x,v,h=>by
  rw[cB] at h;split at h
  ·rename_i z
   have:x=n:=by simpa using z
   subst this;cases h;exact cT
  ·exact ba _ (kK h)
noncomputable def frV(σ:St)(js:List Nat):St:=js.map fun j=>(σ[j]?).join
noncomputable def stLC(σ:St)(k:Nat)(js:List Nat):St:=aZ k none++frV σ js
section
variable {X:Cx} {pins:List (Addr×Obj)} {σ:St} {H:Hp} {s:Shared} {scope:Scope} {N:List Str} {k:Nat} {js:List Nat} {cl:List (Str×Addr)} {fp:List Addr}
theorem Inv.block{h1:Heap}{tk:Nat}(I:Inv X pins σ H s)(S:CScope X scope N k js)
  (hcl1:∀x c,cl.lookup x=some c ->X.env.cells.lookup x=some c) (hcl2:∀y∈scope.names,y.2= .free -> ∃c,cl.lookup y.1=some c)
  (hns:h1.Ns s.heap.objs.size (fun _=>none)) (hk:∀b o,s.heap.get? b=some o ->h1.get? b=some o)
  (hf:∀b∈fp,wa X pins H b) (hfp:∀b∈fp,∃o,s.heap.get? b=some o /\ ∀v,o.data≠ .cell v):
  Inv (tL X scope cl N s.heap.objs.size s H fp (X.pn++pins)) [] (stLC σ k js) H {s with heap:=h1,toks:=tk}:=by
 have hxc:∀x c,cl.lookup x=some c ->c<s.heap.objs.size:=fun x c h=>by
  obtain⟨v,q⟩:=I.cell x c (hcl1 x c h)
  exact q.lt
 have lkL:∀x,(compEnvC scope cl s.heap.objs.size X.env).kindOf x=(scope.names.lookup x).map fun k=>if(k== .free&&X.env.scope.kind== .function&&X.env.kindOf x==some .cell) then .cell else k:=fun x=>ou x
 refine⟨⟨I.ok.mod,S.kind,I.ok.glob,I.ok.blt,aI _,fun x y c h1 h2=>I.ok.inj x y c (hcl1 x c h1) (hcl1 y c h2),fun x hx=> ?_,fun x c h _=>absurd (show false=true from h) (by decide),I.ok.hd,I.ok.frames,.inl rfl,fun b hb=> ?_,I.bs,
  bJ I.ok.bsz I.sz,fun b o e z=> ?_,fun b hb z=> ?_,I.stack,I.stkFree⟩,rfl,I.bare,Un.kept hk,⟨_,hns,fun i x v e1 e2 e3=> ?_⟩,fun x c h=> ?_,?_,fun x c h=>I.freeC x c (hcl1 x c h),fun p hp=> ?_,I.hok.kept hk,?_⟩
 ·--has
  have hx:((scope.names.lookup x).map fun k=>if(k== .free&&X.env.scope.kind== .function&&X.env.kindOf x==some .cell) then NameKind.cell else k)=some .cell∨((scope.names.lookup x).map fun k=>if(k== .free&&X.env.scope.kind== .function&&X.env.kindOf x==some .cell) then NameKind.cell else k)=some .free:=by
   rcases hx with hx|hx
   ·exact .inl ((lkL x).symm.trans hx)
   ·exact .inr ((lkL x).symm.trans hx)
  have:scope.names.lookup x=some .free:=by
   cases e:scope.names.lookup x with
   |none=>rw[e] at hx;rcases hx with hx|hx<;>cases hx
   |some q=>
    rw[e] at hx
    by_cases hq:q= .free
    ·rw[hq]
    ·have hb:(q==NameKind.free)=false:=by simpa using hq
     simp only[cm,hb,gD,cu,if_false,bA.injEq] at hx;rcases hx with hx|hx
     ·exact absurd hx (S.nocell _ (kK e))
     ·exact absurd hx hq
  obtain⟨c,hc⟩:=hcl2 _ (kK this) rfl
  exact⟨c,hc⟩
 ·obtain⟨f0,f1,f2,f3,f4,f5⟩:=hf b hb
  obtain⟨o,ho,_⟩:=hfp b hb
  exact⟨aQ (Heap.lt_size ho),fun x c h=>f4 x c (hcl1 x c h)⟩
 ·obtain⟨f0,f1,f2,f3,f4,f5⟩:=hf b z
  rcases f3 with f3|f3
  ·exact I.ok.noex b o e f3
  ·exact absurd (aT (Heap.lt_size (I.ok.bs b o e).1) f3) (cI _)
 ·obtain⟨f0,f1,f2,f3,f4,f5⟩:=hf b hb
  rcases av.mp (I.stkSub b z) with q|q
  ·exact f1 q
  ·exact f2 q
 ·--the values
  by_cases hi:i<k
  ·have:(stLC σ k js)[i]? =some none:=by
    unfold stLC;rw[aM (by simpa using hi),dZ,if_pos hi]
   rw[this] at e2;cases e2
  ·obtain⟨d,rfl⟩:∃d,i=k+d:=⟨i-k,by omega⟩
   have e2':(frV σ js)[d]? =some (some v):=by
    unfold stLC at e2;rw[aH (by simp)] at e2
    simpa using e2
   unfold frV at e2';rw[ax] at e2';cases ej:js[d]? with
   |none=>rw[ej] at e2';cases e2'
   |some j=>
    rw[ej] at e2';have ev:(σ[j]?).join=some v:=bA.inj e2'
    have ev':σ[j]? =some (some v):=by
     cases q:σ[j]? with
     |none=>rw[q] at ev;cases ev
     |some z=>rw[q] at ev;rw[show z=some v from ev]
    obtain⟨x',n1,n2,n3⟩:=S.look d j ej
    have:x'=x:=bA.inj (n1.symm.trans e1)
    subst this;obtain⟨m,hn,hl⟩:=I.loc
    have hkx:=S.frees _ (kK n3) rfl
    have hvis:Vis X.env.scope x':=by
     rcases hkx with q|q
     ·exact .inr (.inl q)
     ·exact .inr (.inr q)
    obtain⟨u,r,l⟩:=hl j x' v n2 ev' hvis
    refine⟨u,r,?_⟩;obtain⟨c,hc⟩:=hcl2 _ (kK n3) rfl
    rcases l with⟨l1,_⟩|⟨l1,c',l2,l3⟩
    ·rcases hkx with q|q
     ·exact absurd (l1.symm.trans q) (by decide)
     ·exact absurd (l1.symm.trans q) (by decide)
    ·have:c'=c:=bA.inj (l2.symm.trans (hcl1 _ c hc))
     subst this;refine .inr ⟨?_,c',hc,?_⟩
     ·have q:=lkL x'
      rw[n3] at q
      by_cases hb:((NameKind.free==NameKind.free&&X.env.scope.kind== .function&&X.env.kindOf x'==some .cell))=true
      ·left
       show(compEnvC scope cl s.heap.objs.size X.env).kindOf x'=_
       rw[q];simp only[cm];rw[if_pos hb]
      ·right
       show(compEnvC scope cl s.heap.objs.size X.env).kindOf x'=_
       rw[q];simp only[cm];rw[if_neg hb]
     ·obtain⟨o,ho,hd⟩:=l3
      exact⟨o,hk _ o ho,hd⟩
 ·obtain⟨v,o,ho,hd⟩:=I.cell x c (hcl1 x c h)
  exact⟨v,o,hk _ o ho,hd⟩
 ·exact I.hok.fresh (aI _)
 ·have hp':p∈X.pn++pins:=by simpa[tL] using hp
  obtain⟨e,n,ne,nf,d⟩:=I.pin p hp'
  exact⟨hk _ _ e,n,aQ (Heap.lt_size e),fun z=>(av.mp (I.stkSub _ z)).elim ne nf,d⟩
 ·show(stLC σ k js).length=N.length
  unfold stLC frV;rw[S.len];simp
end
end L2
namespace L2
open PySem PySem.Spec PyProof.Rows
noncomputable def AY(X:Cx)(ifs:List Expr)(t:TT):Prop:=
 ∀(pins:List (Addr×Obj)) (s:Shared) (σ:St) (H:Hp) (Q:Bool ->Hp ->Prop),Inv X pins σ H s ->t σ H Q ->
  wpAny (model X.prog X.w) X.A (forIn ifs true fun c r=>if r=true then do let ok<-isTrue c X.env (eval c X.env);pure (ForInStep.yield ok) else pure (ForInStep.yield r)) (TP X pins σ Q) X.xe s
noncomputable def zT:TT:=fun _ H Q=>Q true H
theorem jH{X:Cx}:AY X [] zT:=fun _ _ _ H _ I h=>wpAny_tests_nil ⟨H,I,h⟩
theorem l9{X:Cx}{c:Expr}{t:TT}(h:PT X c t):AY X [c] t:=fun pins s σ H Q I hw=>wpAny_tests_one (h pins s σ H Q I hw)
noncomputable def tLC(wi:TI)(k:Nat)(js:List Nat)(g:TG)(tt:TT)(te:TE):TE:=fun σ H Q=>wi σ H fun J H1=>∀D,H1 D=none ->
 ∃W:Nat ->Nat ->List V ->Hp ->Prop,(∃m,W 0 m [] (upd H1 D (.lst []))) /\ ∀i m ys H,W i m ys H ->H D=some (.lst ys) /\
  ((J.stop i H /\ Q (.ref D) H)∨(J.go i H /\ ys.length<sizeLine /\ ∃N:List V ->Hp ->Prop,(∀ys' H',N ys' H' -> ∃m',m'<m /\ W (i+1) m' ys' H') /\
   ∀x H',J.yld i H x H' ->g x (stLC σ k js) H' fun σ2 H2=>(σ2.drop k=frV σ js /\ σ2.length=k+js.length) /\ tt σ2 H2 fun b H3=>if b=true then te σ2 H3 fun y H4=>H4 D=some (.lst ys) /\ N (ys++[y]) (upd H4 D (.lst (ys++[y]))) else N ys H3))
section
variable {X:Cx} {scope:Scope} {N:List Str} {k:Nat} {js:List Nat} {elt iter tg:Expr} {ifs:List Expr} {pos:Pos} {wi:TI} {g:TG} {tt:TT} {te:TE}
theorem yT{σ σ2:St}(h1:σ2.drop k=frV σ js)(h2:σ2.length=k+js.length)(i:Nat)(v:V)(h:(stLC σ k js)[i]? =some (some v)):σ2[i]? =some (some v):=by
 unfold stLC at h
 by_cases hi:i<k
 ·rw[aM (by simpa using hi),dZ,if_pos hi] at h;cases h
 ·rw[aH (by simpa using hi), <-h1,dj] at h;simp only[gl] at h;rw[show k+(i-k)=i by omega] at h;exact h
theorem sR{pins:List (Addr×Obj)}{σ:St}{H:Hp}{s:Shared}{cl:List (Str×Addr)}{Q:VK}{it:Addr}{fp:List Addr}{tn:Nat ->Heap ->Prop}{J:It}{RR:Value ->Addr ->Result ->Shared ->Prop}
  (S:CScope X scope N k js) (hc:X.calm=true)
  (hg:∀cl C s H ex pn,PG (tL X scope cl N C s H ex pn) tg g) (ht:∀cl C s H ex pn,AY (tL X scope cl N C s H ex pn) ifs tt) (he:∀cl C s H ex pn,PE (tL X scope cl N C s H ex pn) elt te)
  (hcl1:∀x c,cl.lookup x=some c ->X.env.cells.lookup x=some c) (hcl2:∀y∈scope.names,y.2= .free -> ∃c,cl.lookup y.1=some c)
  (I:Inv X pins σ H s) (T:Turn X.prog X.w X.K tg J fp it tn) (hst:tn 0 s.heap) (hf:∀b∈fp,wa X pins H b)
  (hr:∀D,H D=none ->
   ∃W:Nat ->Nat ->List V ->Hp ->Prop,(∃m,W 0 m [] (upd H D (.lst []))) /\ ∀i m ys H,W i m ys H ->H D=some (.lst ys) /\
    ((J.stop i H /\ Q (.ref D) H)∨(J.go i H /\ ys.length<sizeLine /\ ∃N:List V ->Hp ->Prop,(∀ys' H',N ys' H' -> ∃m',m'<m /\ W (i+1) m' ys' H') /\
     ∀x H',J.yld i H x H' ->g x (stLC σ k js) H' fun σ2 H2=>(σ2.drop k=frV σ js /\ σ2.length=k+js.length) /\ tt σ2 H2 fun b H3=>if b=true then te σ2 H3 fun y H4=>H4 D=some (.lst ys) /\ N (ys++[y]) (upd H4 D (.lst (ys++[y]))) else N ys H3)))
  (hend:∀D C H' s' m,Inv X pins σ H' s' ->s'.heap.Ns C m ->H' C=none ->C≠X.env.locals ->C∉frs X.stack ->X.s₀.heap.objs.size<=C ->(∀x c,X.env.cells.lookup x=some c ->c≠C) ->(∀p∈X.pn++pins,p.1≠C) ->D≠C ->Q (.ref D) H' ->RR (.ref D) C (.ok .next) s')
  {E:Value ->Shared ->Prop}:
  wpAny (model X.prog X.w) X.A (newList []) (fun acc s₃=>wpAny (model X.prog X.w) X.A (newFunctionEnv scope X.env.globals cl [] X.env.qual none .none (some X.env)) (fun cenv s₄=>
   codeAny (model X.prog X.w) X.A (.compStart (.ListComp elt [⟨tg,iter,ifs,0⟩] scope pos) 0 (.ref it) acc {cenv with scope:=relabel scope X.env}) (RR acc cenv.locals) s₄) E s₃) E s:=by
 refine wpAny_newObj_type (wpAny_newFunctionEnv S.nocell (by intro y hy;simp at hy) (fun h₁ hns₁ hsb₁=> ?_) S.kind);dsimp only at hns₁ hsb₁⊢;have hD:H s.heap.objs.size=none:=I.fresh
 obtain⟨W,⟨m0,w0⟩,turn⟩:=hr s.heap.objs.size hD
 have I2:Inv X pins σ (upd H s.heap.objs.size (.lst [])) {s with heap:=s.heap.push {cls:= .type "list",dict:=none,data:= .seq ([]:List Value).toArray},toks:=s.toks}:=I.lnew (its:=[]) .nil (cL _)
 generalize hH2:s.heap.push {cls:= .type "list",dict:=none,data:= .seq ([]:List Value).toArray}=H2 at hns₁ hsb₁ I2⊢;have hsz:H2.objs.size=s.heap.objs.size+1:=by rw[<-hH2,Heap.size_push]
 generalize hs3:({s with heap:=H2,toks:=s.toks}:Shared)=s3 at I2;have hs3h:s3.heap=H2:=by rw[<-hs3]
 have old:∀b o,s.heap.get? b=some o ->H2.get? b=some o:=fun b o e=>by rw[<-hH2];exact Heap.get?_push_of_some _ e
 have old1:∀b o,H2.get? b=some o ->h₁.get? b=some o:=fun b o e=>hsb₁.extBut b o (aQ (Heap.lt_size e)) (Heap.get?_push_of_some _ e)
 have hfH:∀b∈fp,∃o,s.heap.get? b=some o /\ ∀v,o.data≠ .cell v:=T.obj 0 _ hst
 have ff:∀b∈fp,wa X pins (upd H s.heap.objs.size (.lst [])) b:=fun b hb=>by
  obtain⟨f0,fr⟩:=hf b hb
  obtain⟨o,ho,_⟩:=hfH b hb
  exact⟨by rw[jd (aQ (Heap.lt_size ho))];exact f0,fr⟩
 have hns':h₁.Ns s3.heap.objs.size (fun _=>none):=by
  rw[hs3h]
  simpa using hns₁
 have J0:Inv (tL X scope cl N s3.heap.objs.size s3 (upd H s.heap.objs.size (.lst [])) fp (X.pn++pins)) [] (stLC σ k js) (upd H s.heap.objs.size (.lst [])) {s3 with heap:=h₁,toks:=s.toks+([]:List (Str×Value)).length}:=
  I2.block (fp:=fp) (tk:=s.toks+([]:List (Str×Value)).length) S hcl1 hcl2 hns' (fun b o e=>old1 b o (by rw[<-hs3h];exact e)) ff (fun b hb=>by
   obtain⟨o,ho,hd⟩:=hfH b hb
   exact⟨o,by rw[hs3h];exact old b o ho,hd⟩)
 have es3:({s3 with heap:=h₁,toks:=s.toks+([]:List (Str×Value)).length}:Shared)={s with heap:=h₁,toks:=s.toks+([]:List (Str×Value)).length}:=by rw[<-hs3]
 rw[es3] at J0;have hst1:tn 0 h₁:=T.keep 0 _ _ hst fun b hb o e=>old1 b o (old b o e)
 generalize hY:tL X scope cl N s3.heap.objs.size s3 (upd H s.heap.objs.size (.lst [])) fp (X.pn++pins)=Y at J0;have eA:Y.A=X.A:=by rw[<-hY];rfl
 have eP:Y.prog=X.prog:=by rw[<-hY];rfl
 have eW:Y.w=X.w:=by rw[<-hY];rfl
 have eK:Y.K=X.K:=by rw[<-hY];rfl
 have eE:Y.env=compEnvC scope cl H2.objs.size X.env:=by rw[<-hY, <-hs3h];rfl
 have eX:Y.xe=fun _ _=>False:=by rw[<-hY];rfl
 have eC:Y.calm=true:=by rw[<-hY];exact hc
 have stat:∀{H':Hp},(∀b∈fp,H' b=none) -> ∀b∈fp,wa Y [] H' b:=fun hn b hb=>by
  obtain⟨f0,f1,f2,f3,f4,f5⟩:=hf b hb
  obtain⟨o,ho,_⟩:=hfH b hb
  refine⟨hn b hb,?_,?_,.inl (by rw[<-hY];exact hb),fun x c h=> ?_,fun p hp=> ?_⟩
  ·rw[eE];exact aQ (aT (Heap.lt_size ho) (by rw[hsz];exact ir _))
  ·rw[<-hY];intro z;rcases av.mp (I.stkSub b z) with q|q
   ·exact f1 q
   ·exact f2 q
  ·rw[eE] at h;exact f4 x c (hcl1 x c h)
  ·rw[<-hY] at hp;exact f5 p (by simpa[tL] using hp)
 have loop:∀s₂:Shared,s₂={s with heap:=h₁,toks:=s.toks+([]:List (Str×Value)).length} ->
   codeAny (model X.prog X.w) X.A (.compLoop (.ListComp elt [⟨tg,iter,ifs,0⟩] scope pos) 0 (.ref it) (.ref s.heap.objs.size) (compEnvC scope cl H2.objs.size X.env)) (RR (.ref s.heap.objs.size) H2.objs.size) s₂:=by
  rintro s₂ rfl;have noE:∀(e:Value) (s':Shared),False ->notedBy (model X.prog X.w) X.A (compEnvC scope cl H2.objs.size X.env) (fun e s'=>RR (.ref s.heap.objs.size) H2.objs.size (.error e) s') e s':=fun _ _ z=>z.elim
  --one turn,by hand:the step ahead of the store is the iterator's
  refine codeAny_loop rfl (fun n s'=>∃i H' ys,Inv Y [] (stLC σ k js) H' s' /\ tn i s'.heap /\ (∀b∈fp,H' b=none) /\ W i n ys H') (fun n s5 hI=> ?_) m0 ⟨0,_,[],J0,hst1,fun b hb=>(ff b hb).1,w0⟩;obtain⟨i,H5,ys,I5,st5,fr5,w5⟩:=hI
  show wpAny _ X.A ((compTurn (.ListComp elt [⟨tg,iter,ifs,0⟩] scope pos) 0 (.ref it) (.ref s.heap.objs.size) (compEnvC scope cl H2.objs.size X.env)).onRaise (fun x=>do noteFrame x (compEnvC scope cl H2.objs.size X.env);theTreesLotGoes x)) _ _ s5
  refine wpAny_noted ?_;rw[compTurn_list];refine wpAny_bind (wpAny_standAt (wpAny_bind ?_));obtain⟨hDy,tr⟩:=turn i n ys H5 w5
  rcases tr with⟨stop,q⟩|⟨go,hlen,NN,hN,step⟩
  ·have h6:=T.done Y eP eW eK eC i [] s5 _ H5 (fun _ _=>False) I5 (stat fr5) st5 stop
   rw[eA] at h6;refine wpAny_mono h6 (fun r s6 h=> ?_) noE;obtain⟨rfl,I6⟩:=h
   refine wpAny_pure ?_;obtain⟨m6,hn6,_⟩:=I6.loc
   rw[eE] at hn6;have hu:Un (frs X.stack) fp (upd H s.heap.objs.size (.lst [])) H5 s3.heap s6.heap:=by
    have:=I6.base
    rw[<-hY] at this;exact this
   have hok6:HOk X.prog X.w H5 s6.heap:=by
    have:=I6.hok
    rw[eP,eW] at this;exact this
   have I7:Inv X pins σ H5 s6:=I2.call' (ch:=fp) (by have:=I6.os;rw[<-hY] at this;exact this) hu hok6 I6.bare fun b hb=>by
    obtain⟨f0,f1,f2,f3,f4,f5⟩:=hf b hb
    exact⟨f3,f1,f4,f5⟩
   have hfree:H5 H2.objs.size=none:=by
    have:=I6.free
    rw[eE] at this;exact this
   refine hend _ _ H5 s6 m6 I7 hn6 hfree ?_ ?_ ?_ ?_ ?_ ?_ q
   ·rw[<-hs3h];exact gW I2.lt
   ·rw[<-hs3h];intro z;rcases av.mp (I2.stkSub _ z) with q|q
    ·exact absurd q (gW I2.lt)
    ·exact I2.nofs (aI _) q
   ·rw[<-hs3h];exact I2.sz
   ·intro x c h z;obtain⟨v,hv⟩:=I2.cell x c h
    have:=hv.lt
    rw[hs3h,z] at this;exact absurd this (cI _)
   ·intro p hp z;have:=Heap.lt_size (I2.pin p hp).1
    rw[hs3h,z] at this;exact absurd this (cI _)
   ·rw[hsz];exact aQ (fZ _)
  ·have h6:=T.item Y eP eW eK eC i [] s5 _ H5 (fun _ _=>False) I5 (stat fr5) st5 go
   rw[eA] at h6;refine wpAny_mono h6 (fun r s6 h=> ?_) noE;obtain⟨u,rfl,h7⟩:=h
   refine wpAny_bind (wpAny_mono h7 (fun _ s7 h=> ?_) noE);obtain⟨x,H7,I7,rx,y7,st7,fr7⟩:=h
   have I7':=I7.pinned (stat fr7) (T.obj _ _ st7)
   have h8:=hg cl s3.heap.objs.size s3 (upd H s.heap.objs.size (.lst [])) fp (X.pn++pins)
   rw[hY] at h8;have h8:=h8 _ s7 _ H7 x u _ I7' rx (step x H7 y7)
   rw[eP,eW,eA,eE,eX] at h8;refine wpAny_bind (wpAny_mono h8 (fun _ s8 h=> ?_) noE);obtain⟨σ8,H8,I8,⟨k1,k2⟩,q8⟩:=h
   have h9:=ht cl s3.heap.objs.size s3 (upd H s.heap.objs.size (.lst [])) fp (X.pn++pins)
   rw[hY] at h9;have h9:=h9 _ s8 σ8 H8 _ I8 q8
   rw[eP,eW,eA,eE,eX] at h9;refine wpAny_bind (wpAny_mono h9 (fun ok s9 h=> ?_) noE);obtain⟨H9,I9,q9⟩:=h
   have again:∀{H':Hp} {ys':List V} {s':Shared},Inv Y ([]++qE fp s7.heap) σ8 H' s' ->NN ys' H' -> ∃m,m<n /\ ∃i H' ys,Inv Y [] (stLC σ k js) H' s' /\ tn i s'.heap /\ (∀b∈fp,H' b=none) /\ W i m ys H':=fun {H' ys' s'} I' n'=>by
    obtain⟨m',hm,w'⟩:=hN ys' H' n'
    refine⟨m',hm,i+1,H',ys',(I'.unpinned).weak (by unfold stLC frV;rw[k2];simp) (fun j v h=>yT k1 k2 j v h),T.keep _ _ _ st7 fun b hb o e=>(I'.pin (b,o) (bK _ (bK _ (lJ hb e)))).1,fun b hb=> ?_,w'⟩;obtain⟨o,e,d⟩:=T.obj _ _ st7 b hb
    exact(I'.pin (b,o) (bK _ (bK _ (lJ hb e)))).2.1
   cases ok with
   |false=>
    rw[if_neg aY] at q9;exact wpAny_pure ⟨rfl,again I9 q9⟩
   |true=>
    rw[if_pos rfl] at q9;have h10:=he cl s3.heap.objs.size s3 (upd H s.heap.objs.size (.lst [])) fp (X.pn++pins)
    rw[hY] at h10;have h10:=h10 _ s9 σ8 H9 _ I9 q9
    rw[eP,eW,eA,eE,eX] at h10;refine wpAny_bind (wpAny_bind (wpAny_mono h10 (fun y s10 h=> ?_) noE));obtain⟨yv,H10,I10,ry,e10,n10⟩:=h
    have h11:=qG (X:=Y) _ s10 σ8 H10 (.ref s.heap.objs.size) [yv] (.ref s.heap.objs.size) [y] (fun _ H'=>NN (ys++[yv]) H') I10 rfl (.cons ry .nil) ⟨_,ys,yv,rfl,rfl,e10,hlen,n10⟩
    rw[eP,eW,eA,eX] at h11;refine wpAny_bind (wpAny_mono h11 (fun _ s11 h=> ?_) noE);obtain⟨_,H11,I11,_,n11⟩:=h
    exact wpAny_pure (wpAny_pure ⟨rfl,again I11 n11⟩)
 exact codeAny_compStart_list (loop _ rfl) (T.self X.A 0 _ _ _ hst1 (loop _ rfl))
end
end L2
namespace L2
open PySem PySem.Spec PyProof.Rows
section
variable {X:Cx} {scope:Scope} {N:List Str} {k:Nat} {js:List Nat} {elt iter tg:Expr} {ifs:List Expr} {pos:Pos} {wi:TI} {g:TG} {tt:TT} {te:TE}
theorem CScope.closure{pins:List (Addr×Obj)}{σ:St}{H:Hp}{s:Shared}(S:CScope X scope N k js)(I:Inv X pins σ H s):
  ∃cl,closureFor scope X.env=pure cl /\ (∀x c,cl.lookup x=some c ->X.env.cells.lookup x=some c) /\ (∀y∈scope.names,y.2= .free -> ∃c,cl.lookup y.1=some c):=
 qd fun y hy hf=>I.ok.has y.1 (S.frees y hy hf)
theorem mQ(S:CScope X scope N k js)(hc:X.calm=true)(hi:PI X tg iter wi)
  (hg:∀cl C s H ex pn,PG (tL X scope cl N C s H ex pn) tg g) (ht:∀cl C s H ex pn,AY (tL X scope cl N C s H ex pn) ifs tt) (he:∀cl C s H ex pn,PE (tL X scope cl N C s H ex pn) elt te)
  (hs:∀x,foldedSetIterable iter X.env x=pure x:=by intro _;rfl):PE X (.ListComp elt [⟨tg,iter,ifs,0⟩] scope pos) (tLC wi k js g tt te):=by
 intro pins s σ H Q I h;obtain⟨cl,hclos,hcl1,hcl2⟩:=S.closure I
 rw[eval_ListComp];refine wpAny_comprehension_free (use:=none) rfl hs hclos S.kind S.names (thn (hi pins s σ H _ I h) fun v s1 h1=>thn h1 fun itv s2 h2=> ?_);obtain⟨it,fp,tn,J,H2,rfl,I2,T,st2,f2,hr⟩:=h2
 refine sR (Q:=Q) (RR:=fun acc C=>compPost (model X.prog X.w) X.A X.xe none (EP X pins σ Q) acc C) S hc hg ht he hcl1 hcl2 I2 T st2 f2 hr ?_;intro D C H' s' m I' hn h0 hL hF hz hcell hpin hDC q;refine⟨m,hn,fun h' sb=>⟨.ref D,H',?_,rfl,q⟩⟩;exact I'.turned (t':=s'.toks) (fun b o hb e=>(sb.2 b hb).trans e) h0 hL (.inr hz) hcell hpin
end
end L2
namespace L2
open PySem PySem.Spec PyProof.Rows
section
variable {X:Cx} {scope:Scope} {N:List Str} {k:Nat} {js:List Nat} {elt iter tg:Expr} {ifs:List Expr} {pos:Pos} {wi:TI} {g:TG} {tt:TT} {te:TE}
theorem qB{i:Nat}{y:Str}{py spos:Pos}(S:CScope X scope N k js)(hc:X.calm=true)(hi:PI X tg iter wi)
  (hg:∀cl C s H ex pn,PG (tL X scope cl N C s H ex pn) tg g) (ht:∀cl C s H ex pn,AY (tL X scope cl N C s H ex pn) ifs tt) (he:∀cl C s H ex pn,PE (tL X scope cl N C s H ex pn) elt te)
  (hN:X.N.Nodup) (hix:X.N[i]? =some y) (hy:X.env.scope.names.lookup y=some .local)
  (hsw:swapsWith (.ListComp elt [⟨tg,iter,ifs,0⟩] scope pos) (some (.Name y py)) spos.line X.env=pure true:=by rfl)
  (hs:∀x,foldedSetIterable iter X.env x=pure x:=by intro _;rfl):PS X (.Assign [.Name y py] (.ListComp elt [⟨tg,iter,ifs,0⟩] scope pos) spos) (yo (tLC wi k js g tt te) (rW i)):=by
 intro pins s σ H D0 I h;obtain⟨cl,hclos,hcl1,hcl2⟩:=S.closure I
 rw[exec_Assign_Name_used _ _ _ _ hsw];refine wpAny_bind (wpAny_standAt (wpAny_bind ?_));show wpAny _ X.A (do let _<-comprehension (.ListComp elt [⟨tg,iter,ifs,0⟩] scope pos) scope X.env _ (newList []) false (eval iter X.env) (some (assign (.Name y py) X.env))) _ _ s
 refine wpAny_bind (wpAny_mono (wpAny_comprehension_free (use:=some (assign (.Name y py) X.env)) (Q:=fun _ s'=>SP X pins D0 .next s') rfl hs hclos S.kind S.names
  (thn (hi pins s σ H _ I h) fun v s1 h1=>thn h1 fun itv s2 h2=> ?_)) (fun _ s' hq=>wpAny_pure (wpAny_pure hq)) fun _ _ e=>e)
 obtain⟨it,fp,tn,J,H2,rfl,I2,T,st2,f2,hr⟩:=h2
 refine sR (Q:=fun v H'=>D0.nx (σ.set i (some v)) H') (RR:=fun acc C=>compPost (model X.prog X.w) X.A X.xe (some (assign (.Name y py) X.env)) (fun _ s'=>SP X pins D0 .next s') acc C) S hc hg ht he hcl1 hcl2 I2 T st2 f2 hr ?_;intro D C H' s' m I' hn h0 hL hF hz hcell hpin hDC q;show wpAny _ X.A (assign (.Name y py) X.env (.ref D)) _ _ _
 refine wpAny_assign_Name (qo I' hN hix (.inl hy) (v:= .ref D) rfl (fun s'' I'' hsb=> ?_) (.inr hy));obtain⟨a,sb,ha⟩:=hsb
 have haC:C≠a:=by
  rcases ha with rfl|ha
  ·exact hL
  ·exact fun z=>hcell y a ha z.symm
 refine⟨m,hn.sameBut sb haC,fun h' sb'=>⟨σ.set i (some (.ref D)),H',?_,q⟩⟩;exact I''.turned (t':=s''.toks) (fun b o hb e=>(sb'.2 b hb).trans e) h0 hL (.inr hz) hcell hpin
end
end L2
namespace L2
open PySem PySem.Spec PyProof.Rows
mutual
inductive Rdy(K:ag)(H:Hp):V ->PyData ->Prop
 |non:Rdy K H .non .none
 |bl (b:Bool):Rdy K H (.bl b) (.bool b)
 |int (i:Int):Rdy K H (.int i) (.int i)
 |str (x:Str):Rdy K H (.str x) (.str x)
 |tup {a:Addr} {xs:List V} {ds:List PyData}:SqT K H a xs ->RdyAll K H xs ds ->Rdy K H (.ref a) (.tuple ds)
 |lst {a:Addr} {xs:List V} {ds:List PyData}:SqL K H a xs ->RdyAll K H xs ds ->Rdy K H (.ref a) (.list ds)
inductive RdyAll(K:ag)(H:Hp):List V ->List PyData ->Prop
 |nil:RdyAll K H [] []
 |cons {x:V} {xs:List V} {d:PyData} {ds:List PyData}:Rdy K H x d ->RdyAll K H xs ds ->RdyAll K H (x::xs) (d::ds)
end
section
variable {X:Cx} {pins:List (Addr×Obj)} {σ:St} {H:Hp} {s:Shared}
mutual
theorem Rdy.reads(I:Inv X pins σ H s):∀{x:V} {d:PyData},Rdy X.K H x d -> ∀{u:Value},RelV x u -> ∃as,Reads s.heap u d as
 |_,_,.non,u,r=>by cases(show u=Value.none from r);exact⟨_,.none⟩
 |_,_,.bl b,u,r=>by cases(show u=Value.bool b from r);exact⟨_,.bool b⟩
 |_,_,.int i,u,r=>by obtain⟨t,rfl⟩:=(show∃t,u=Value.int i t from r);exact⟨_,.int i t⟩
 |_,_,.str x,u,r=>by obtain⟨t,rfl⟩:=(show∃t,u=Value.str x t from r);exact⟨_,.str x t⟩
 |_,_, @Rdy.tup _ _ a xs ds hq ha,u,r=>by
  cases(show u=Value.ref a from r);obtain⟨its,rv,⟨o,ho,hc,n,hd⟩,hz⟩:=I.tuple hq
  obtain⟨as,ra⟩:=RdyAll.reads I ha rv
  exact⟨_,.tuple ho hc hd (by simpa using ra)⟩
 |_,_, @Rdy.lst _ _ a xs ds hq ha,u,r=>by
  cases(show u=Value.ref a from r);obtain⟨its,rv,⟨o,n,ho,hc,_,hd⟩,hz⟩:=I.list hq
  obtain⟨as,ra⟩:=RdyAll.reads I ha rv
  exact⟨_,.list ho hc hd (by simpa using ra)⟩
theorem RdyAll.reads(I:Inv X pins σ H s):∀{xs:List V} {ds:List PyData},RdyAll X.K H xs ds -> ∀{us:List Value},Vals xs us -> ∃as,ReadsAll s.heap us ds as
 |_,_,.nil,_,.nil=>⟨_,.nil⟩
 |_,_,.cons h t,_,.cons r rs=>by
  obtain⟨as,h1⟩:=Rdy.reads I h r
  obtain⟨bs,h2⟩:=RdyAll.reads I t rs
  exact⟨_,.cons h1 h2⟩
end
end
section
variable {X:Cx}
open PySem.SeqAt in
noncomputable def A4(K:ag)(f:Bool ->Bool):R2:=fun x y H Q=>∃d e,Rdy K H x d /\ Rdy K H y e /\ shaped d=true /\ shaped e=true /\ Q (.bl (f (PyData.eqv d e))) H
theorem Av(hu:X.A.units+64<cLine):OpR X (compareOp .Eq) (A4 X.K id):=by
 intro pins s σ H x y v u Q I rx ry h;obtain⟨d,e,hd,he,sd,se,q⟩:=h
 obtain⟨as,ra⟩:=hd.reads I rx
 obtain⟨bs,rb⟩:=he.reads I ry
 exact eq_dataH ra rb sd se hu ⟨.bl _,H,I,rfl,q⟩
theorem Au(hu:X.A.units+64<cLine):OpR X (compareOp .NotEq) (A4 X.K not):=by
 intro pins s σ H x y v u Q I rx ry h;obtain⟨d,e,hd,he,sd,se,q⟩:=h
 obtain⟨as,ra⟩:=hd.reads I rx
 obtain⟨bs,rb⟩:=he.reads I ry
 exact ne_dataH ra rb sd se hu ⟨.bl _,H,I,rfl,q⟩
end
noncomputable def Ext(H H':Hp):Prop:=∀b o,H b=some o ->H' b=some o
theorem Ext.refl(H:Hp):Ext H H:=fun _ _ h=>h
theorem Ext.trans{H H1 H2:Hp}(a:Ext H H1)(b:Ext H1 H2):Ext H H2:=fun c o h=>b c o (a c o h)
theorem Ext.upd{H:Hp}{p:Addr}{o:HO}(h:H p=none):Ext H (upd H p o):=fun b u e=>by rw[jd (jm e h)];exact e
theorem Ext.then{H H1:Hp}{p:Addr}{o:HO}(a:Ext H H1)(h:H1 p=none):Ext H (L2.upd H1 p o):=a.trans (Ext.upd h)
theorem Ext.none{H H':Hp}(e:Ext H H'){l:Addr}(h:H' l= .none):H l= .none:=by
 cases q:H l with
 |none=>rfl
 |some o=>rw[e l o q] at h;cases h
theorem Ext.sqL{K:ag}{H H':Hp}{a:Addr}{xs:List V}(e:Ext H H')(h:SqL K H a xs):SqL K H' a xs:=by
 rcases h with(h|⟨o,h⟩)|h
 ·exact .inl (.inl (e _ _ h))
 ·exact .inl (.inr ⟨o,e _ _ h⟩)
 ·exact .inr h
end L2
namespace L2
open PySem PySem.Spec PyProof.Rows
structure FnB(P:Program)(w:World)(K:ag)(mg:Str ->Option Value)(base:Heap)(CX:CXT)(k:Nat)(x:Str)(ps:List Str)(sp:Sp):Prop where
 ex:∃f fd,FnOk P w K mg base CX k f fd ps sp /\ mg x=some (.ref f) /\ aA K (.ref f)=true /\ Binds K fd ps []
section
variable {X:Cx} {CX:CXT} {k:Nat} {ps:List Str} {sp:Sp} {E:XK} {x:Str} {p pos:Pos} {e:Expr} {es:List Expr} {t:TA}
theorem ja(F:FnB X.prog X.w X.K X.mg X.base CX k x ps sp)(hr:Room k X.A)(hg:Gl X x)(hx:rh CX X E)
  (ha:PA X (e::es) t) (hdb:(x==("__debug__":Str))=false:=by decide) (he:starEach (e::es) X.env=(false,eval e X.env)::starEach es X.env:=by rfl) (hpl:(backTo pos (starEach es X.env)).any (·.1)=false:=by rfl):
  PE X (.Call (.Name x p) (e::es) [] pos) (tU sp [] E t):=by
 obtain⟨f,fd,h1,h2,h3,h4⟩:=F.ex
 exact yK h1 hr hg h2 h3 h4 .nil hx ha hdb he hpl
end
theorem FnB.of{P:Program}{w:World}{K:ag}{mg:Str ->Option Value}{base:Heap}{CX:CXT}{k:Nat}{x:Str}{ps:List Str}{sp:Sp}{f:Addr}{fd:FuncData}(h:FnOk P w K mg base CX k f fd ps sp)(m:mg x=some (.ref f))(kp:aA K (.ref f)=true)(b:Binds K fd ps []):FnB P w K mg base CX k x ps sp:=⟨f,fd,h,m,kp,b⟩
noncomputable def k7{α:Type}(o:Option α)(k:α ->Prop):Prop:=match o with|some v=>k v|none=>False
noncomputable def rB(o:Option HO):Option (List V):=match o with
 |some (.lst xs)=>some xs
 |some (.tup xs)=>some xs
 |_=>none
theorem lp(xs:List V):rB (some (.lst xs))=some xs:=rfl
theorem pj(xs:List V):rB (some (.tup xs))=some xs:=rfl
noncomputable def ixF:R2:=fun x y H Q=>match x,y with
 | .ref p,.int i=>k7 (rB (H p)) fun xs=>k7 (atI xs i) fun v=>Q v H
 |_,_=>False
theorem jv{X:Cx}:IxR X ixF:=by
 intro value slice pins s σ H x y v u Q I rx ry q hs;unfold ixF at q;split at q
 ·rename_i p i
  cases e:H p with
  |none=>rw[e] at q;exact q.elim
  |some o=>
   rw[e] at q;cases o with
   |lst xs=>
    have q:k7 (atI xs i) fun v=>Q v H:=q
    unfold k7 at q;split at q
    ·rename_i w hw
     exact yV value slice pins s σ H _ _ v u Q I rx ry ⟨p,xs,i,w,rfl,rfl,SqL.of e,hw,q⟩ hs
    ·exact q.elim
   |tup xs=>
    have q:k7 (atI xs i) fun v=>Q v H:=q
    unfold k7 at q;split at q
    ·rename_i w hw
     exact AG value slice pins s σ H _ _ v u Q I rx ry ⟨p,xs,i,w,rfl,rfl,SqT.of e,hw,q⟩ hs
    ·exact q.elim
   |_=>exact q.elim
 ·exact q.elim
theorem xz{α:Type}(a:α)(l:List α):atI (a::l) 0=some a:=jz (j:=0) rfl
theorem xw{α:Type}(a b:α)(l:List α):atI (a::b::l) 1=some b:=jz (j:=1) rfl
theorem xv{α:Type}(a b c:α)(l:List α):atI (a::b::c::l) 2=some c:=jz (j:=2) rfl
theorem xr{α:Type}(a b c d:α)(l:List α):atI (a::b::c::d::l) 3=some d:=jz (j:=3) rfl
theorem jh{α:Type}(a:α)(k:α ->Prop):k7 (some a) k=k a:=rfl
noncomputable def AU(dsc scope:Scope)(N0 N:List Str)(k:Nat)(js:List Nat):Bool:=
 scope.kind== .function&&scope.names.all (fun y=>y.2 != .cell)&&scope.names.all (fun y=>y.2 != .local||scope.names.lookup y.1==some .local)&&
 scope.names.all (fun y=>y.2 != .free||dsc.names.lookup y.1==some .cell||dsc.names.lookup y.1==some .free)&&N.length==k+js.length&&
 (eO js.length).all (fun i=>match js[i]? with|some j=>(match N[k+i]? with|some x=>N0[j]? ==some x&&scope.names.lookup x==some .free|none=>false)|none=>false)
theorem CScope.of_ok{X:Cx}{dsc scope:Scope}{N0 N:List Str}{k:Nat}{js:List Nat}(e:X.env.scope=dsc)(n:X.N=N0)(h:AU dsc scope N0 N k js=true):CScope X scope N k js:=by
 subst e n;unfold AU at h;simp only[ci,hV] at h;obtain⟨⟨⟨⟨⟨h1,h2⟩,h3⟩,h4⟩,h5⟩,h6⟩:=h
 refine⟨by simpa using h1,fun y hy=>by simpa using h2 y hy,fun y hy hl=> ?_,fun y hy hl=> ?_,by simpa using h5,fun i j hj=> ?_⟩
 ·have:=h3 y hy
  simpa[hl] using this
 ·have:=h4 y hy
  simp only[hl,bne_self_eq_false,iI,Bool.or_eq_true,beq_iff_eq] at this;exact this
 ·have hi:i<js.length:=(ad.mp hj).1
  have:=h6 i (by simpa using hi)
  rw[hj] at this;dsimp only at this;cases q:N[k+i]? with
  |none=>rw[q] at this;cases this
  |some x=>
   rw[q] at this;simp only[ci,beq_iff_eq] at this;exact⟨x,rfl,this.1,this.2⟩
theorem wL{lo:Int}{n:Nat}{g:TG}{tt:TT}{te:TE}{k:Nat}{js:List Nat}{σ:St}{D:Addr}{Q:VK}{H:Hp}(Pv:Nat ->List V ->Hp ->Prop)(h0:Pv 0 [] (upd H D (.lst [])))
  (hn:n<sizeLine) (hl:∀i ys H,i<=n ->Pv i ys H ->H D=some (.lst ys) /\ ys.length<=i)
  (hs:∀i ys H,i<n ->Pv i ys H ->g (.int (lo+i)) (stLC σ k js) H fun σ2 H2=>(σ2.drop k=frV σ js /\ σ2.length=k+js.length) /\ tt σ2 H2 fun b H3=>if b=true then te σ2 H3 fun y H4=>H4 D=some (.lst ys) /\ Pv (i+1) (ys++[y]) (upd H4 D (.lst (ys++[y]))) else Pv (i+1) ys H3)
  (hd:∀ys H,Pv n ys H ->Q (.ref D) H):
  ∃W:Nat ->Nat ->List V ->Hp ->Prop,(∃m,W 0 m [] (upd H D (.lst []))) /\ ∀i m ys H,W i m ys H ->H D=some (.lst ys) /\
  (((Itr lo n).stop i H /\ Q (.ref D) H)∨((Itr lo n).go i H /\ ys.length<sizeLine /\ ∃N:List V ->Hp ->Prop,(∀ys' H',N ys' H' -> ∃m',m'<m /\ W (i+1) m' ys' H') /\
   ∀x H',(Itr lo n).yld i H x H' ->g x (stLC σ k js) H' fun σ2 H2=>(σ2.drop k=frV σ js /\ σ2.length=k+js.length) /\ tt σ2 H2 fun b H3=>if b=true then te σ2 H3 fun y H4=>H4 D=some (.lst ys) /\ N (ys++[y]) (upd H4 D (.lst (ys++[y]))) else N ys H3)):=by
 refine⟨fun i m ys H=>m=n-i /\ i<=n /\ Pv i ys H,⟨n,by simp,cL _,h0⟩,?_⟩;rintro i m ys H ⟨rfl,hi,p⟩;obtain⟨e1,e2⟩:=hl i ys H hi p
 refine⟨e1,?_⟩
 by_cases hlt:i<n
 ·refine .inr ⟨hlt,by omega,Pv (i+1),fun ys' H' p'=>⟨n-(i+1),by omega,rfl,hlt,p'⟩,fun x H' y=> ?_⟩;obtain⟨e,y⟩:=y
  subst e y;exact hs i ys _ hlt p
 ·have e:i=n:=by omega
  subst e;exact .inl ⟨aI _,hd ys H p⟩
theorem rT{K:ag}{a:Addr}{xs:List V}{g:TG}{tt:TT}{te:TE}{k:Nat}{js:List Nat}{σ:St}{D:Addr}{Q:VK}{H:Hp}(Pv:Nat ->List V ->Hp ->Prop)(h0:Pv 0 [] (upd H D (.lst [])))
  (hn:xs.length<sizeLine) (hl:∀i ys H,i<=xs.length ->Pv i ys H ->H D=some (.lst ys) /\ ys.length<=i /\ SqL K H a xs)
  (hs:∀i x ys H,xs[i]? =some x ->Pv i ys H ->g x (stLC σ k js) H fun σ2 H2=>(σ2.drop k=frV σ js /\ σ2.length=k+js.length) /\ tt σ2 H2 fun b H3=>if b=true then te σ2 H3 fun y H4=>H4 D=some (.lst ys) /\ Pv (i+1) (ys++[y]) (upd H4 D (.lst (ys++[y]))) else Pv (i+1) ys H3)
  (hd:∀ys H,Pv xs.length ys H ->Q (.ref D) H):
  ∃W:Nat ->Nat ->List V ->Hp ->Prop,(∃m,W 0 m [] (upd H D (.lst []))) /\ ∀i m ys H,W i m ys H ->H D=some (.lst ys) /\
  (((Itl K a).stop i H /\ Q (.ref D) H)∨((Itl K a).go i H /\ ys.length<sizeLine /\ ∃N:List V ->Hp ->Prop,(∀ys' H',N ys' H' -> ∃m',m'<m /\ W (i+1) m' ys' H') /\
   ∀x H',(Itl K a).yld i H x H' ->g x (stLC σ k js) H' fun σ2 H2=>(σ2.drop k=frV σ js /\ σ2.length=k+js.length) /\ tt σ2 H2 fun b H3=>if b=true then te σ2 H3 fun y H4=>H4 D=some (.lst ys) /\ N (ys++[y]) (upd H4 D (.lst (ys++[y]))) else N ys H3)):=by
 refine⟨fun i m ys H=>m=xs.length-i /\ i<=xs.length /\ Pv i ys H,⟨xs.length,by simp,cL _,h0⟩,?_⟩;rintro i m ys H ⟨rfl,hi,p⟩;obtain⟨e1,e2,q⟩:=hl i ys H hi p
 refine⟨e1,?_⟩
 by_cases hlt:i<xs.length
 ·refine .inr ⟨⟨xs,xs[i],q,by simp[hlt]⟩,by omega,Pv (i+1),fun ys' H' p'=>⟨xs.length-(i+1),by omega,rfl,hlt,p'⟩,fun x H' y=> ?_⟩;obtain⟨e,y⟩:=y
  subst e;exact hs i x ys _ (y xs q) p
 ·have e:i=xs.length:=by omega
  subst e;exact .inl ⟨⟨xs,q,aI _⟩,hd ys H p⟩
end L2
namespace L2
open PySem PySem.Spec PyProof.Rows
section
variable {X:Cx} {st:Stmt} {rest:List Stmt} {t u:TS}
noncomputable def Bz(t u:TS):TS:=fun D σ H=>∃Pv:St ->Hp ->Prop,t {D with nx:=Pv} σ H /\ ∀σ H,Pv σ H ->u D σ H
theorem jb(h1:PS X st t)(h2:PSs X rest u):PSs X (st::rest) (Bz t u):=by
 intro pins s σ H D I h;obtain⟨Pv,ha,hb⟩:=h
 refine wpAny_execs_cons (thn (h1 pins s σ H {D with nx:=Pv} I ha) fun f s1 q=> ?_);cases f with
 |next=>
  obtain⟨σ',H',I',q⟩:=q
  exact h2 pins s1 σ' H' D I' (hb σ' H' q)
 |ret v=>exact q
 |brk=>exact q
 |cont=>exact q
end
theorem CMulA.of{m n:Nat}{i j:Int}(h:Bd m i)(k:Bd n j)(hm:m<=100000)(hn:n<=100000):CMulA i j:= .inr ⟨h.mono hm,k.mono hn⟩
theorem CMulA.left{i j:Int}(h1: -(2^64)<i)(h2:i<2^64):CMulA i j:= .inl (.inl ⟨h1,h2⟩)
theorem CMulA.right{i j:Int}(h1: -(2^64)<j)(h2:j<2^64):CMulA i j:= .inl (.inr ⟨h1,h2⟩)
theorem xp{a b c d r:Int}(Pr:Int ->Prop)(ha:Pr a)(hb:Pr b)(hc:Pr c)(hd:Pr d)(h0:0<=r)(h4:r<4):∃x,atI [V.int a,V.int b,V.int c,V.int d] r=some (.int x) /\ Pr x:=by
 have:r=0∨r=1∨r=2∨r=3:=by omega
 rcases this with rfl|rfl|rfl|rfl
 ·exact⟨a,rfl,ha⟩
 ·exact⟨b,rfl,hb⟩
 ·exact⟨c,rfl,hc⟩
 ·exact⟨d,rfl,hd⟩
theorem iZ{H:Hp}{q b:Addr}{o u:HO}(h:H q=none)(e:H b=some u):upd H q o b=some u:=by rw[jd (jm e h)];exact e
end L2
namespace L2
open PySem PySem.Spec PyProof.Rows
theorem Bd.lit{n:Nat}{i:Int}(h:i.natAbs<2^64)(hn:64<=n):Bd n i:=Bd.mono (m:=64) h hn
theorem A6:Bd 100000 10=True:=eq_true (Bd.lit (by decide) (by decide))
theorem A5:Bd 9000 64=True:=eq_true (Bd.lit (by decide) (by decide))
theorem bd2:Bd 9000 2=True:=eq_true (Bd.lit (by decide) (by decide))
theorem bd4:Bd 9000 4=True:=eq_true (Bd.lit (by decide) (by decide))
theorem bd3:Bd 9000 3=True:=eq_true (Bd.lit (by decide) (by decide))
theorem pP:ixN 3 0=some 0:=rfl
theorem pO:ixN 3 1=some 1:=rfl
theorem pN:ixN 3 2=some 2:=rfl
theorem pR:ixN 2 0=some 0:=rfl
theorem pQ:ixN 2 1=some 1:=rfl
theorem pM:ixN 4 0=some 0:=rfl
theorem pL:ixN 4 1=some 1:=rfl
theorem pK:ixN 4 2=some 2:=rfl
theorem pJ:ixN 4 3=some 3:=rfl
theorem zt{xs:List Int}{k:Int}(h:0<xs.length):∃x,atI (xs.map V.int) (k%(xs.length:Int))=some (.int x) /\ x∈xs:=by
 have h1:=cQ k (by omega:(xs.length:Int)≠0)
 have h2:=cv k (by omega:0<(xs.length:Int))
 obtain⟨j,hj⟩:∃j:Nat,k%(xs.length:Int)=(j:Int):=⟨(k%(xs.length:Int)).toNat,by omega⟩
 rw[hj] at h2⊢;have hjl:j<xs.length:=by omega
 exact⟨xs[j],jz (by rw[ax];simp[hjl]),cE hjl⟩
end L2
namespace L2
open PySem PySem.Spec PyProof.Rows
theorem rS{K:ag}{a:Addr}{xs:List V}{g:TG}{tt:TT}{te:TE}{k:Nat}{js:List Nat}{σ:St}{D:Addr}{Q:VK}{H:Hp}(vals:V ->V)(hD:H D=none)(hq:SqL K H a xs)(hn:xs.length<sizeLine)
  (hs:∀x ys (R:VK) (R':Hp ->Prop),x∈xs ->R (vals x) (upd H D (.lst ys)) ->g x (stLC σ k js) (upd H D (.lst ys)) fun σ2 H2=>(σ2.drop k=frV σ js /\ σ2.length=k+js.length) /\ tt σ2 H2 fun b H3=>if b=true then te σ2 H3 R else R' H3)
  (hd:Q (.ref D) (upd H D (.lst (xs.map vals)))):
  ∃W:Nat ->Nat ->List V ->Hp ->Prop,(∃m,W 0 m [] (upd H D (.lst []))) /\ ∀i m ys H,W i m ys H ->H D=some (.lst ys) /\
  (((Itl K a).stop i H /\ Q (.ref D) H)∨((Itl K a).go i H /\ ys.length<sizeLine /\ ∃N:List V ->Hp ->Prop,(∀ys' H',N ys' H' -> ∃m',m'<m /\ W (i+1) m' ys' H') /\
   ∀x H',(Itl K a).yld i H x H' ->g x (stLC σ k js) H' fun σ2 H2=>(σ2.drop k=frV σ js /\ σ2.length=k+js.length) /\ tt σ2 H2 fun b H3=>if b=true then te σ2 H3 fun y H4=>H4 D=some (.lst ys) /\ N (ys++[y]) (upd H4 D (.lst (ys++[y]))) else N ys H3)):=by
 refine rT (xs:=xs) (fun i ys H'=>ys=(xs.take i).map vals /\ H'=upd H D (.lst ys)) ⟨rfl,rfl⟩ hn (fun i ys H' hi p=> ?_) (fun i x ys H' hx p=> ?_) (fun ys H' p=> ?_)
 ·obtain⟨e,rfl⟩:=p
  exact⟨iQ,by rw[e];simp;omega,(Ext.upd hD).sqL hq⟩
 ·obtain⟨e,rfl⟩:=p
  refine hs x ys _ _ (ah hx) ⟨iQ,?_,by rw[uz]⟩;rw[e,List.take_add_one,hx,au];rfl
 ·obtain⟨rfl,rfl⟩:=p
  rw[aW];exact hd
end L2
namespace L2
open PySem PySem.Spec PyProof.Rows
section
variable {g:TG} {tt:TT} {te tl:TE} {ta:TA} {k:Nat} {js:List Nat} {σ:St} {Q:VK} {H:Hp} {tb:TS} {Dn:Ends} {K:ag} {a:Addr} {xs:List V}
theorem mX(ha:∀R:VK,R (.ref a) H ->tl σ H R)(hq:SqL K H a xs)(hn:xs.length<1000000)(vals:V ->V)
  (hs:∀D x ys (R:VK) (R':Hp ->Prop),H D=none ->x∈xs ->R (vals x) (upd H D (.lst ys)) ->g x (L2.stLC σ k js) (upd H D (.lst ys)) fun σ2 H2=>(σ2.drop k=frV σ js /\ σ2.length=k+js.length) /\ tt σ2 H2 fun b H3=>if b=true then te σ2 H3 R else R' H3)
  (hd:∀D,H D=none ->Q (.ref D) (upd H D (.lst (xs.map vals)))):tLC (rV K tl) k js g tt te σ H Q:=
 ha _ ⟨a,rfl,⟨xs,hq⟩,fun D hD=>rS vals hD hq (dW hn (by decide)) (fun x ys R R' hi h=>hs D x ys R R' hD hi h) (hd D hD)⟩
theorem kH(n:Nat)(ha:∀R:List V ->Hp ->Prop,R [.int n] H ->ta σ H R)(hn:n<1000000)(Pv:Addr ->Nat ->List V ->Hp ->Prop)(h0:∀D,H D=none ->Pv D 0 [] (upd H D (.lst [])))
  (hl:∀D i ys H,i<=n ->Pv D i ys H ->H D=some (.lst ys) /\ ys.length<=i)
  (hs:∀D i ys H1,H D=none ->i<n ->Pv D i ys H1 ->g (.int (0+(i:Int))) (L2.stLC σ k js) H1 fun σ2 H2=>(σ2.drop k=frV σ js /\ σ2.length=k+js.length) /\ tt σ2 H2 fun b H3=>if b=true then te σ2 H3 fun y H4=>H4 D=some (.lst ys) /\ Pv D (i+1) (ys++[y]) (upd H4 D (.lst (ys++[y]))) else Pv D (i+1) ys H3)
  (hd:∀D ys H1,H D=none ->Pv D n ys H1 ->Q (.ref D) H1):tLC (wS ta) k js g tt te σ H Q:=
 ha _ ⟨n,rfl,by omega,by omega,fun D hD=>wL (lo:=0) (n:=(n:Int).toNat) (Pv D) (h0 D hD) (dW (by simpa using hn) (by decide)) (fun i ys H hi p=>hl D i ys H (by simpa using hi) p) (fun i ys H hi p=>hs D i ys H hD (by simpa using hi) p) (fun ys H p=>hd D ys H hD (by simpa using p))⟩
theorem j8(ha:∀R:VK,R (.ref a) H ->tl σ H R)(hq:SqL K H a xs)(hn:xs.length<1000000)(Pv:Addr ->Nat ->List V ->Hp ->Prop)(h0:∀D,H D=none ->Pv D 0 [] (upd H D (.lst [])))
  (hl:∀D i ys H,i<=xs.length ->Pv D i ys H ->H D=some (.lst ys) /\ ys.length<=i /\ SqL K H a xs)
  (hs:∀D i x ys H1,H D=none ->xs[i]? =some x ->Pv D i ys H1 ->g x (L2.stLC σ k js) H1 fun σ2 H2=>(σ2.drop k=frV σ js /\ σ2.length=k+js.length) /\ tt σ2 H2 fun b H3=>if b=true then te σ2 H3 fun y H4=>H4 D=some (.lst ys) /\ Pv D (i+1) (ys++[y]) (upd H4 D (.lst (ys++[y]))) else Pv D (i+1) ys H3)
  (hd:∀D ys H1,H D=none ->Pv D xs.length ys H1 ->Q (.ref D) H1):tLC (rV K tl) k js g tt te σ H Q:=
 ha _ ⟨a,rfl,⟨xs,hq⟩,fun D hD=>rT (Pv D) (h0 D hD) (dW hn (by decide)) (fun i ys H hi p=>hl D i ys H hi p) (fun i x ys H hi p=>hs D i x ys H hD hi p) (fun ys H p=>hd D ys H hD p)⟩
theorem kI(n:Nat)(ha:∀R:List V ->Hp ->Prop,R [.int n] H ->ta σ H R)(hn:n<1000000)(Pv:Nat ->St ->Hp ->Prop)(h0:Pv 0 σ H)
  (hs:∀i σ H,i<n ->Pv i σ H ->g (.int (0+(i:Int))) σ H fun σ2 H2=>tb {Dn with nx:=Pv (i+1),ct:=Pv (i+1),bk:=Dn.nx} σ2 H2) (hd:∀σ H,Pv n σ H ->Dn.nx σ H):zG (wS ta) g tb Dn σ H:=
 ha _ ⟨n,rfl,by omega,by omega,qP (lo:=0) (n:=(n:Int).toNat) Pv h0 (fun i σ H hi p=>hs i σ H (by simpa using hi) p) (fun σ H p=>hd σ H (by simpa using p))⟩
theorem qh(ha:∀R:VK,R (.ref a) H ->tl σ H R)(Pv:Nat ->St ->Hp ->Prop)(h0:Pv 0 σ H)(hl:∀i σ H,i<=xs.length ->Pv i σ H ->SqL K H a xs)
  (hs:∀i x σ H,xs[i]? =some x ->Pv i σ H ->g x σ H fun σ2 H2=>tb {Dn with nx:=Pv (i+1),ct:=Pv (i+1),bk:=Dn.nx} σ2 H2) (hd:∀σ H,Pv xs.length σ H ->Dn.nx σ H):zG (rV K tl) g tb Dn σ H:=
 ha _ ⟨a,rfl,⟨xs,hl 0 σ H (cL _) h0⟩,tx (xs:=xs) Pv h0 hl hs hd⟩
end
end L2
namespace L2
open PySem PySem.Spec PyProof.Rows
section
variable {X:Cx} {K:ag}
theorem wn(hK:X.K=K):SlR X (Bs K):=by subst hK;exact uQ
theorem rG(hK:X.K=K)(hu:X.A.units+64<cLine):OpR X (compareOp .Eq) (A4 K id):=by subst hK;exact Av hu
theorem lP(hK:X.K=K)(hu:X.A.units+64<cLine):OpR X (compareOp .NotEq) (A4 K not):=by subst hK;exact Au hu
theorem ua(hK:X.K=K):OpR X (compareOp .In) (rIn K false):=by subst hK;exact vn
theorem jD{tg l:Expr}{tl:TE}(hK:X.K=K)(hl:PE X l tl):PI X tg l (rV K tl):=by subst hK;exact yG hl
end
end L2
namespace L2
open PySem PySem.Spec PyProof.Rows
noncomputable def ox(o:Option HO):Option (List V):=match o with
 |some (.lst xs)=>some xs
 |_=>none
theorem jM(xs:List V):ox (some (.lst xs))=some xs:=rfl
theorem mr{o:Option HO}{xs:List V}(h:ox o=some xs):o=some (.lst xs):=by
 cases o with
 |none=>cases h
 |some o=>
  cases o with
  |lst ys=>rw[show ys=xs from bA.inj h]
  |_=>cases h
theorem jo{α:Type}{o:Option α}{k:α ->Prop}(h:k7 o k):∃v,o=some v /\ k v:=by
 unfold k7 at h;split at h
 ·exact⟨_,rfl,h⟩
 ·exact h.elim
theorem pk{K:ag}{H:Hp}{p:Addr}{xs:List V}(h:rB (H p)=some xs):SqL K H p xs∨SqT K H p xs:=by
 cases e:H p with
 |none=>rw[e] at h;cases h
 |some o=>
  rw[e] at h;cases o with
  |lst ys=>rw[show ys=xs from bA.inj h] at e;exact .inl (SqL.of e)
  |tup ys=>rw[show ys=xs from bA.inj h] at e;exact .inr (SqT.of e)
  |_=>cases h
section
variable {X:Cx} {e:Expr}
noncomputable def tUp(t:TE):TE:=fun σ H Q=>∃R:VK,t σ H R /\ ∀x H1,R x H1 ->Q x H1
theorem PE.up{t:TE}(h:PE X e t):PE X e (tUp t):=fun pins s σ H Q I ⟨R,hw,hq⟩=>thn (h pins s σ H R I hw) fun v s1 ⟨x,H1,I1,r1,q1⟩=>⟨x,H1,I1,r1,hq x H1 q1⟩
end
theorem uP{n:Nat}(h:n<1000000):n<sizeLine:=dW h (by decide)
noncomputable def zv:V ->List V ->Hp ->VK ->Prop:=fun x vs H Q=>match x,vs with
 | .ref l,[y]=>k7 (ox (H l)) fun xs=>xs.length<1000000 /\ Q .non (upd H l (.lst (xs++[y])))
 |_,_=>False
section
variable {X:Cx}
theorem Ax:MtM X "list.append" zv:=by
 intro pins s σ H x vs v us Q I rx rv h;unfold zv at h;split at h
 ·rename_i l y
  obtain⟨xs,e,hz,q⟩:=jo h
  exact qG pins s σ H _ _ v us Q I rx rv ⟨l,xs,y,rfl,rfl,mr e,uP hz,q⟩
 ·exact h.elim
noncomputable def tML(r:V ->List V ->Hp ->VK ->Prop)(to:TE)(t:TA):TE:=fun σ H Q=>to σ H fun x H1=>match x with
 | .ref l=>(ox (H1 l)).isSome=true /\ t σ H1 fun vs H2=>r x vs H2 Q
 |_=>False
end
section
variable {X:Cx} {K:ag} {a b:Expr} {ta tb:TE} {pos:Pos}
noncomputable def zO:R2:=fun x y H Q=>match x,y with
 | .ref a,.ref b=>k7 (ox (H a)) fun xs=>k7 (ox (H b)) fun ys=>xs.length+ys.length<1000000 /\ ∀p,H p=none ->Q (.ref p) (upd H p (.lst (xs++ys)))
 |_,_=>False
theorem nX:OpR X (binaryOp .Add) zO:=by
 intro pins s σ H x y v u Q I rx ry h;unfold zO at h;split at h
 ·rename_i p q
  obtain⟨xs,e,h⟩:=jo h
  obtain⟨ys,e',hz,k⟩:=jo h
  exact Aw pins s σ H _ _ v u Q I rx ry ⟨p,q,xs,ys,rfl,rfl,mr e,mr e',gj (uP hz),k⟩
 ·exact h.elim
noncomputable def ud:List V ->Hp ->VK ->Prop:=fun vs H Q=>match vs with
 |[.ref p]=>k7 (rB (H p)) fun ys=>∀l,H l=none ->Q (.ref l) (upd H l (.lst ys))
 |_=>False
theorem j7:ol X (.type "list") ud:=by
 intro pins s σ H xs us Q I r h;unfold ud at h;split at h
 ·rename_i p
  obtain⟨ys,e,h⟩:=jo h
  exact qX pins s σ H _ us Q I r ⟨p,ys,rfl,pk e,h⟩
 ·exact h.elim
noncomputable def zI:List V ->Hp ->VK ->Prop:=fun vs H Q=>match vs with
 |[.ref p]=>k7 (rB (H p)) fun ys=>Q (.int ys.length) H
 |_=>False
theorem jy:ol X (.builtin "len") zI:=by
 intro pins s σ H xs us Q I r h;unfold zI at h;split at h
 ·rename_i p
  obtain⟨ys,e,h⟩:=jo h
  exact qY pins s σ H _ us Q I r ⟨p,ys,rfl,pk e,h⟩
 ·exact h.elim
noncomputable def slF:V ->Option Int ->Option Int ->Hp ->VK ->Prop:=fun x lo hi H Q=>match x with
 | .ref a=>k7 (ox (H a)) fun xs=>∀p,H p=none ->Q (.ref p) (upd H p (.lst (ur xs lo hi)))
 |_=>False
theorem uR:SlR X slF:=by
 intro pins s σ H x v vl vu lo hi sl Q I rx hs pl pu h;unfold slF at h;split at h
 ·rename_i p
  obtain⟨ys,e,h⟩:=jo h
  exact uQ pins s σ H _ v vl vu lo hi sl Q I rx hs pl pu ⟨p,ys,rfl,SqL.of (mr e),h⟩
 ·exact h.elim
noncomputable def yX:String ->String ->Option Bool
 | "int","int"=>some true| "int","bool"=>some false| "bool","int"=>some true| "bool","bool"=>some true
 | "tuple","tuple"=>some true| "list","list"=>some true| "list","tuple"=>some false| "tuple","list"=>some false|_,_=>none
end
section
variable {X:Cx} {o e:Expr} {to:TE} {t:TA} {apos cpos:Pos}
theorem pe_app(ho:PE X o to)(ha:PA X [e] t)
  (hbase:attributeBase o "append" X.env (eval o X.env)=eval o X.env:=by rfl)
  (hfew:((backTo cpos (starEach [e] X.env)).all (fun x=> !x.1)&&(backToKw cpos (keywordEach [] X.env)).all (fun x=>x.1.isSome)
   &&decide ([e].length+([]:List Keyword).length+(if([]:List Keyword).isEmpty then 0 else 1)<30))=true:=by rfl)
  (hline:(apos.endLine==cpos.line)=true:=by rfl) (hs:starEach [e] X.env=(false,eval e X.env)::starEach [] X.env:=by rfl) (hplain:(backTo cpos (starEach [] X.env)).any (·.1)=false:=by rfl):
  PE X (.Call (.Attribute o "append" apos) [e] [] cpos) (tML zv to t):=by
 intro pins s σ H Q I h;refine Bb PySem.F.plainAttrs_list PySem.F.slot_list_append PySem.F.type_list_append Ax ho.up ha hbase hfew hline hs hplain pins s σ H Q I ⟨_,h,fun x H1 q=> ?_⟩;cases x with
 |ref l=>
  obtain⟨h1,h2⟩:=q
  obtain⟨xs,e⟩:=cW.mp h1
  exact⟨.inl ⟨rfl,xs,SqL.of (mr e)⟩,h2⟩
 |_=>exact q.elim
end
theorem tq:yX "int" "int"=some true:=rfl
theorem tm:yX "int" "bool"=some false:=rfl
theorem sZ:yX "bool" "int"=some true:=rfl
theorem sY:yX "bool" "bool"=some true:=rfl
theorem sX:yX "tuple" "tuple"=some true:=rfl
theorem sW:yX "list" "list"=some true:=rfl
theorem sV:yX "list" "tuple"=some false:=rfl
end L2
namespace L2
open PySem
theorem Ext.set{H H2:Hp}{D:Addr}{o:HO}(x:Ext H H2)(hD:H D= .none):Ext H (L2.upd H2 D o):=fun b u e=>by rw[jd (jm e hD)];exact x b u e
end L2
namespace L2
open PySem
section
variable {g:TG} {tt:TT} {te tl:TE} {ta:TA} {k:Nat} {js:List Nat} {σ:St} {Q:VK} {H:Hp} {tb:TS} {Dn:Ends} {K:ag}
theorem qg(R:VK)(h:tl σ H R)
  (hb:∀x H1,R x H1 -> ∃(a:Addr) (xs:List V),x= .ref a /\ ∃Pv:Nat ->St ->Hp ->Prop,Pv 0 σ H1 /\ (∀i σ H,i<=xs.length ->Pv i σ H ->SqL K H a xs) /\
   (∀i x σ H,xs[i]? =some x ->Pv i σ H ->g x σ H fun σ2 H2=>tb {Dn with nx:=Pv (i+1),ct:=Pv (i+1),bk:=Dn.nx} σ2 H2) /\ ∀σ H,Pv xs.length σ H ->Dn.nx σ H):zG (rV K (tUp tl)) g tb Dn σ H:=by
 refine⟨R,h,fun x H1 q=> ?_⟩;obtain⟨a,xs,rfl,Pv,h0,hl,hs,hd⟩:=hb x H1 q
 exact⟨a,rfl,⟨xs,hl 0 σ H1 (cL _) h0⟩,tx (xs:=xs) Pv h0 hl hs hd⟩
end
end L2
namespace L2
open PySem
noncomputable def uD(o:Option HO):Option (Int×Int×Int):=match o with
 |some (.tup [.int a,.int b,.int c])=>some (a,b,c)
 |_=>none
theorem lW(a b c:Int):uD (some (.tup [.int a,.int b,.int c]))=some (a,b,c):=rfl
theorem k8{o:Option HO}{x:Int×Int×Int}(h:uD o=some x):o=some (.tup [.int x.1,.int x.2.1,.int x.2.2]):=by
 unfold uD at h;split at h
 ·cases h;rfl
 ·cases h
noncomputable def wg(o:Option HO):Option (Int×Int):=match o with
 |some (.tup [.int a,.int b])=>some (a,b)
 |_=>none
theorem lX(a b:Int):wg (some (.tup [.int a,.int b]))=some (a,b):=rfl
theorem mH{o:Option HO}{x:Int×Int}(h:wg o=some x):o=some (.tup [.int x.1,.int x.2]):=by
 unfold wg at h;split at h
 ·cases h;rfl
 ·cases h
noncomputable def B3(n:Nat)(x:Int×Int×Int):Prop:=Bd n x.1 /\ Bd n x.2.1 /\ Bd n x.2.2
noncomputable def B2(n:Nat)(x:Int×Int):Prop:=Bd n x.1 /\ Bd n x.2
end L2
namespace L2
open PySem
section
variable {X:Cx} {pos:Pos}
noncomputable def kx(n:Nat)(t:TGs):TG:=fun v σ H Q=>match v with
 | .ref a=>k7 (rB (H a)) fun xs=>xs.length=n /\ t xs σ H Q
 |_=>False
theorem na{es:List Expr}{k:Nat}{t:TGs}{n:Nat}(hc:X.calm=true)(h:PGs X es t)
  (hn:(assignEach es X.env).length=n:=by rfl) (hst:(assignEach es X.env).findIdx? (·.1)=none:=by rfl):PG X (.Tuple es k pos) (kx n t):=by
 intro pins s σ H v u Q I r hw;unfold kx at hw;split at hw
 ·rename_i a
  obtain⟨xs,e,hl,q⟩:=jo hw
  rcases pk (K:=X.K) e with e|e
  ·exact xP hc h hn hst pins s σ H _ u Q I r (.inr ⟨a,xs,rfl,e,hl,q⟩)
  ·exact xP hc h hn hst pins s σ H _ u Q I r (.inl ⟨a,xs,rfl,e,hl,q⟩)
 ·exact hw.elim
end
end L2
namespace L2
open PySem
theorem qS(a b c d:Int):PyData.eqv (.tuple [.int a,.int b]) (.tuple [.int c,.int d])=decide (a=c /\ b=d):=by
 rw[iu];simp[PyData.eqv,PyData.eqvAll]
theorem oB{K:ag}{H:Hp}{q:Addr}{a b:Int}(e:H q=some (.tup [.int a,.int b])):Rdy K H (.ref q) (.tuple [.int a,.int b]):= .tup (SqT.of e) (.cons (.int a) (.cons (.int b) .nil))
theorem Aj{K:ag}{H:Hp}{q:Addr}{a b c:Int}(e:H q=some (.tup [.int a,.int b,.int c])):Rdy K H (.ref q) (.tuple [.int a,.int b,.int c]):= .tup (SqT.of e) (.cons (.int a) (.cons (.int b) (.cons (.int c) .nil)))
end L2
namespace L2
open PySem PySem.Spec PyProof.Rows
structure ExcC(K:ag)(C:Addr):Prop where
 exc:ft K C [.type "ValueError",.type "Exception",.type "BaseException",.type "object"] "ValueError.__new__"=true
 ga:bg K (.ref C) "__getattribute__"=some (some (.builtin "BaseException.__getattribute__"))
 nog:bg K (.ref C) "__getattr__"=some none
 cl:bg K (.ref C) "__class__"=some (some (.builtin "object.__class__"))
 hn:dE K (.builtin "object.__class__") "__get__"=some (some (.builtin "getset_descriptor.__get__"))
 htk:d7 K (.builtin "object.__class__")=some true
 isc:(fu K C).isSome=true
 sube:bZ K C (.type "BaseException")=some true
 subo:bZ K C (.type "object")=some true
noncomputable def uv(K:ag)(C:Addr):Prop:=
 bg K (.ref C) "__getattribute__"=some (some (.builtin "BaseException.__getattribute__")) /\ bg K (.ref C) "__getattr__"=some none /\
 bg K (.ref C) "__class__"=some (some (.builtin "object.__class__")) /\ dE K (.builtin "object.__class__") "__get__"=some (some (.builtin "getset_descriptor.__get__")) /\
 d7 K (.builtin "object.__class__")=some true /\ (fu K C).isSome=true /\ bZ K C (.type "BaseException")=some true /\ bZ K C (.type "object")=some true
noncomputable def IsExc(a C:Addr)(h:Heap):Prop:=∃(o:Obj) (vs:Array Value),h.get? a=some o /\ o.cls= .ref C /\ o.data= .fields vs
section
open PySem.W PySem.Builtin PySem.Builtin.ObjectAttr PySem.Builtin.Getset_descriptor
variable {prog:Program} {w:World} {A:Around} {E:Value ->Shared ->Prop} {h:Heap} {g:Array GenState} {d:Drawn} {t:Nat} {os:OsState} {a:Addr} {o:Obj} {vs:Array Value} {C:Addr} {K:ag}
theorem IsExc.type{M:Model}(I:IsExc a C h):Looks M h (typeOf (.ref a)) (.ref C):=by
 obtain⟨o,vs,h1,h2,h3⟩:=I
 exact h2▸(Looks.ld h1).andThen .now
theorem rQ{M:Model}{x:Addr}{name:Str}{a' g':Value}(X:K.In h)(ha:findIn K (.ref C) name=some (some a'))(hg:specialIn K a' "__get__"=some (some g'))(ht:takesIn K a'=some true):Looks M h (find (.ref x) (.ref C) name) (.bind g' a'):=
 (looks_findIn X ha).andThen ((show Looks M h (getOf (some a')) (some g') from looks_specialIn X hg).andThen ((show Looks M h (dataDescriptor? (some a') (some g')) (some (g',a')) from(looks_takesIn X ht).andThen .now).andThen (Looks.tag .now)))
theorem ut{R:Result ->Shared ->Prop}{tp:Value}(X:K.In h)(hm:mroIn K C (.type "object")=some true)(I:IsExc a C h)(q:R (.ok (.ret (.ref C))) ⟨h,g,d,t,os⟩):
  codeAny (model prog w) A (.call (.builtin "getset_descriptor.__get__") ⟨[.builtin "object.__class__",.ref a,tp],[]⟩) R ⟨h,g,d,t,os⟩:=by
 have e0:=IsExc.type (M:=model prog w) I
 have e1:=looks_mroIn (M:=model prog w) X hm
 refine codeAny_call_builtin KF.slot_gs.plain KF.entry_gs ?_;refine KF.slot_gs.check _ _ _ _ _ _ _ _ KF.type_class (KF.args_gs _ _ _) ?_;unfold Builtin.«getset_descriptor.__get__»;unfold descrGet;rw[dga_obj];refine wpAny_bind ?_;refine wpAny_pure ?_;unfold descrGetter descrCheckInstance;unfold descrNameAndClass isInstance;simp only[KF.owner_class]
 repeat lk
 refine⟨Code.quiet_builtin _ (by decide+kernel),?_⟩;refine codeAny_builtin KF.entry_class ?_;unfold Builtin.«object.__class__»;unfold shownTypeOf
 repeat lk
 exact q
theorem oh{tk:Tok}{Q:Fin ->Shared ->Prop}(X:K.In h)(T:uv K C)(I:IsExc a C h)(hq:Q (.done (.ret (.ref C))) ⟨h,g,d,t,os⟩):
  wpAny (model prog w) A (Builtin.«object.__getattribute__» ⟨[.ref a,.str "__class__" tk],[]⟩) Q E ⟨h,g,d,t,os⟩:=by
 have L0:=IsExc.type (M:=model prog w) I
 have L1:=rQ (M:=model prog w) (x:=a) X T.2.2.1 T.2.2.2.1 T.2.2.2.2.1
 unfold Builtin.«object.__getattribute__»
 repeat lk
 refine wpAny_run (codeAny_mono (ut (R:=fun r s'=>r= .ok (.ret (.ref C)) /\ s'=⟨h,g,d,t,os⟩) X T.2.2.2.2.2.2.2 I ⟨rfl,rfl⟩) fun r s' hr=> ?_);obtain⟨rfl,rfl⟩:=hr
 exact wpAny_pure (wpAny_pure hq)
theorem m8{M:Model}{nameV:Value}{Q:Unit ->Shared ->Prop}(X:K.In h)(T:uv K C)(I:IsExc a C h)(hq:Q () ⟨h,g,d,t,os⟩):wpAny M A (checkBuiltinCall "BaseException.__getattribute__" ⟨[.ref a,nameV],[]⟩) Q E ⟨h,g,d,t,os⟩:=by
 have hk:builtinKind "BaseException.__getattribute__"=some .slot:=by decide+kernel
 have hsplit:splitId "BaseException.__getattribute__"=some ("BaseException","__getattribute__"):=by decide+kernel
 have L0:=IsExc.type (M:=M) I
 have L1:=dP (M:=M) X T.2.2.2.2.2.2.1
 have ha:=F.args_bexc_ga (.ref a) nameV
 simp only[checkBuiltinCall,hk,hsplit];refine wpAny_bind ?_
 ·unfold isInstance
  repeat lk
  exact hq
theorem oy{tk:Tok}{R:Result ->Shared ->Prop}(X:K.In h)(T:uv K C)(I:IsExc a C h)(hq:R (.ok (.ret (.ref C))) ⟨h,g,d,t,os⟩):
  codeAny (model prog w) A (.call (.builtin "BaseException.__getattribute__") ⟨[.ref a,.str "__class__" tk],[]⟩) R ⟨h,g,d,t,os⟩:=
 codeAny_call_builtin F.excAttr_ValueError.ga.plain F.entry_bexc_ga (m8 X T I (oh X T I hq))
theorem qV{tk:Tok}{Q:Value ->Shared ->Prop}(X:K.In h)(T:uv K C)(I:IsExc a C h)(hq:Q (.ref C) ⟨h,g,d,t,os⟩):
  wpAny (model prog w) A (getAttrBy (.ref a) (.str "__class__" tk) false) Q E ⟨h,g,d,t,os⟩:=by
 have L0:=IsExc.type (M:=model prog w) I
 have L1:=cy (M:=model prog w) X T.1
 have L2:=cy (M:=model prog w) X T.2.1
 have hx2:(Value.builtin "BaseException.__getattribute__"==Value.builtin "object.__getattribute__")=false:=by decide+kernel
 unfold getAttrBy;refine wpAny_holding (wpAny_bind (L0.at (wpAny_bind (L1.at ?_))));dsimp only;rw[hx2,gE,if_neg aY];unfold getAttrByItsOwn hookBefore;rw[show onTheHeap (Value.ref C)=true from rfl,if_pos rfl];refine wpAny_bind (L2.at (wpAny_bind (wpAny_attempt (wpAny_holding ?_))));unfold callGetattribute;rw[gD,if_neg aY];have f3:=F.excAttr_ValueError.ga.bind (.ref a)
 unfold boundAndCalled
 repeat lk
 refine wpAny_run (codeAny_mono (oy (R:=fun r s'=>r= .ok (.ret (.ref C)) /\ s'=⟨h,g,d,t,os⟩) X T I ⟨rfl,rfl⟩) fun r s' hr=> ?_);obtain⟨rfl,rfl⟩:=hr
 exact wpAny_pure (wpAny_pure hq)
theorem wP(T:uv K C):PySem.W.KitX K (.ref a) (.ref C) (IsExc a C) where
 ty:=fun _ _ _ I=>I.type
 it:=fun _ _ X _=>by
  obtain⟨cdD,hcD⟩:=cW.mp T.2.2.2.2.2.1
  unfold clsIn at hcD;split at hcD
  ·rename_i c' d' cd' sl' ho
   intro A' Q' E' s' k q;unfold isType loadHead;exact wpAny_bind (wpAny_loadPart (k _ _ (X _ _ ho)) (wpAny_pure q))
  ·cases hcD
 ne:=fun h tp dd its n sl X htp=>by
  obtain⟨cdD,hcD⟩:=cW.mp T.2.2.2.2.2.1
  refine Bool.eq_false_iff.mpr fun q=> ?_
  have e:C=tp:=Value.ref.inj (beq_iff_eq.mp q)
  subst e;unfold clsIn at hcD;split at hcD
  ·rename_i c' d' cd' sl' ho
   have z:=(X _ _ ho).symm.trans htp
   cases z
  ·cases hcD
 ca:=fun {_ _ _ _ _ s} X I k=>by
  obtain⟨h0,g0,d0,t0,os0⟩:=s
  unfold getAttr? getAttrBy?;exact wpAny_bind (wpAny_mkText (wpAny_bind (wpAny_attempt (qV X T I (wpAny_pure k)))))
end
theorem ExcC.b{K:ag}{C:Addr}(T:ExcC K C):uv K C:=⟨T.ga,T.nog,T.cl,T.hn,T.htk,T.isc,T.sube,T.subo⟩
noncomputable def IsExcD(a C:Addr)(od:Option Addr)(h:Heap):Prop:=∃(o:Obj) (vs:Array Value),h.get? a=some o /\ o.cls= .ref C /\ o.data= .fields vs /\ ∀dx,od=some dx ->o.dict=some dx
theorem IsExcD.e{a C:Addr}{od:Option Addr}{h:Heap}(x:IsExcD a C od h):IsExc a C h:=by
 obtain⟨o,vs,h1,h2,h3,_⟩:=x
 exact⟨o,vs,h1,h2,h3⟩
noncomputable def zM(a C:Addr)(od:Option Addr):HO:= .ext (IsExcD a C od)
section
variable {X:Cx}
noncomputable def xN(K:ag):List V ->Hp ->VK ->Prop:=fun xs H Q=>∃(a C tp:Addr) (od:Option Addr) (Ds:List Addr) (b:Bool),xs=[.ref a,.ref tp] /\ H a=some (zM a C od) /\ uv K C /\ H tp=some (.tup (Ds.map V.ref)) /\ dM K (.ref C) (Ds.map Value.ref)=some b /\ Q (.bl b) H
theorem su:∀{Ds:List Addr} {us:List Value},Vals (Ds.map V.ref) us ->us=Ds.map Value.ref
 |[],_,.nil=>rfl
 |b::r,_,.cons h t=>by
  rw[show _=Value.ref b from h,su t];rfl
theorem oT{K:ag}(hK:X.K=K):ol X (.builtin "isinstance") (xN K):=by
 subst hK;intro pins s σ H xs us Q I r h;obtain⟨a,C,tp,od,Ds,b,rfl,ha,T,ht,e,q⟩:=h
 obtain⟨hx,_,_⟩:=I.hok a _ ha
 have hx:=IsExcD.e hx
 obtain⟨u,v,rfl,ru,rv⟩:=r.two
 obtain rfl:u=Value.ref a:=ru
 obtain rfl:v=Value.ref tp:=rv
 obtain⟨hz,its,rits,o,ho,hc,n,hd⟩:=I.hok tp _ ht
 have:=su rits
 subst this;obtain⟨oc,od,odt,osl⟩:=o
 dsimp only at hc hd;subst hc hd;exact PySem.W.kia_tup (wP T) I.kIn hx ho e (fun z=>nomatch z) fun tk=>⟨.bl b,H,I.tok tk,rfl,q⟩
end
end L2
namespace L2
open PySem PySem.Spec PyProof.Rows
noncomputable def DKept(h h':Heap):Prop:=∀a o,h.get? a=some o -> ∃o',h'.get? a=some o' /\ o'.dict=o.dict
theorem DKept.refl{h:Heap}:DKept h h:=fun a o e=>⟨o,e,rfl⟩
theorem DKept.trans{h1 h2 h3:Heap}(x:DKept h1 h2)(y:DKept h2 h3):DKept h1 h3:=fun a o e=>by
 obtain⟨o1,e1,d1⟩:=x a o e
 obtain⟨o2,e2,d2⟩:=y a o1 e1
 exact⟨o2,e2,d2.trans d1⟩
inductive KD{α:Type}:Sem α ->Prop
 |pure (a:α):KD (.pure a)
 |raise (e:Value):KD (.raise e)
 |uns (x:String):KD (.unsupported x)
 |rule {t:String} {k:Unit ->Sem α}:KD (k ()) ->KD (.rule t k)
 |at {p:Pos} {k:Unit ->Sem α}:KD (k ()) ->KD (.at p k)
 |load {a:Addr} {p:Option Value} {k:Obj ->Sem α}:(∀o,KD (k o)) ->KD (.load a p k)
 |upd {a:Addr} {p:Option Value} {f:Obj ->Obj} {k:Unit ->Sem α}:(∀o,(f o).dict=o.dict /\ (o.isFreed=false ->(f o).isFreed=false)) ->KD (k ()) ->KD (.update a p f k)
 |alloc {o:Obj} {k:Addr ->Sem α}:(∀a,KD (k a)) ->KD (.alloc o k)
 |stack {k:List (Code×Pos) ->Sem α}:(∀l,KD (k l)) ->KD (.stack k)
 |ask {k:Setting ->Sem α}:(∀l,KD (k l)) ->KD (.ask k)
 |fresh {k:Tok ->Sem α}:(∀l,KD (k l)) ->KD (.fresh k)
theorem KD.bind{α β:Type}{t:Sem α}{f:α ->Sem β}(h:KD t)(g:∀a,KD (f a)):KD (t>>=f):=by
 induction h with
 |pure a=>exact g a
 |raise e=>exact .raise e
 |uns x=>exact .uns x
 |rule _ ih=>exact .rule ih
 |«at» _ ih=>exact .at ih
 |load _ ih=>exact .load ih
 |upd c _ ih=>exact .upd c ih
 |alloc _ ih=>exact .alloc ih
 |stack _ ih=>exact .stack ih
 |ask _ ih=>exact .ask ih
 |fresh _ ih=>exact .fresh ih
theorem AQ{h:Heap}{a:Addr}{f:Obj ->Obj}(c:∀o,(f o).dict=o.dict /\ (o.isFreed=false ->(f o).isFreed=false)):DKept h (h.update a f):=by
 intro b o e
 by_cases hb:b=a
 ·subst hb;obtain⟨e1,e2⟩:=Heap.get?_some_iff.mp e
  refine⟨f o,Heap.get?_some_iff.mpr ⟨?_,(c o).2 e2⟩,(c o).1⟩;cases h with
  |mk objs l=>
   show(objs.modify b f)[b]? =_
   rw[Array.getElem?_modify,if_pos rfl];show Option.map f objs[b]? =_
   rw[show objs[b]? =some o from e1];rfl
 ·exact⟨o,Heap.get?_update_of_ne f (Ne.symm hb) e,rfl⟩
theorem KD.wp{α:Type}{M:Model}{Γ:PySem.Ctx}{t:Sem α}(h:KD t){h0:Heap}:∀{Q:α ->Pos ->Shared ->Prop} {E:Value ->Pos ->Shared ->Prop} {p:Pos} {s:Shared},DKept h0 s.heap ->Sem.wp M Γ t Q E p s ->
  Sem.wp M Γ t (fun a p' s'=>Q a p' s' /\ DKept h0 s'.heap) (fun e p' s'=>E e p' s' /\ DKept h0 s'.heap) p s:=by
 induction h with
 |pure a=>intro Q E p s d q;exact⟨q,d⟩
 |raise e=>intro Q E p s d q;exact⟨q,d⟩
 |uns x=>intro Q E p s d q;exact q
 |rule _ ih=>intro Q E p s d q;exact ih d q
 |«at» _ ih=>intro Q E p s d q;exact ih d q
 |load _ ih=>intro Q E p s d q;obtain⟨o,e,q⟩:=q;exact⟨o,e,ih o d q⟩
 |upd c _ ih=>intro Q E p s d q;obtain⟨e,q⟩:=q;exact⟨e,ih (d.trans (AQ c)) q⟩
 |alloc _ ih=>intro Q E p s d q;exact ih _ (d.trans fun b o e=>⟨o,Heap.get?_push_of_some _ e,rfl⟩) q
 |stack _ ih=>intro Q E p s d q;exact ih _ d q
 |ask _ ih=>intro Q E p s d q;exact ih _ d q
 |fresh _ ih=>intro Q E p s d q;exact ih _ d q
theorem KD.any{α:Type}{M:Model}{A:Around}{t:Sem α}(h:KD t){Q:α ->Shared ->Prop}{E:Value ->Shared ->Prop}{s:Shared}(q:wpAny M A t Q E s):
  wpAny M A t (fun a s'=>Q a s' /\ DKept s.heap s'.heap) (fun e s'=>E e s' /\ DKept s.heap s'.heap) s:=fun Γ p hΓ=>h.wp .refl (q Γ p hΓ)
theorem kd_load{a:Addr}:KD (load a):= .load fun o=> .pure o
theorem kd_uns{α:Type}{x:String}:KD (unsupported x:Sem α):= .uns x
theorem kd_fields{v:Value}:KD (fieldsOf v):=by
 unfold fieldsOf;split
 ·refine kd_load.bind fun o=> ?_
  split
  ·exact .pure _
  ·exact kd_uns
 ·exact kd_uns
theorem kd_field{v:Value}{i:Nat}:KD (field v i):=by
 unfold field;refine kd_fields.bind fun vs=> ?_
 split
 ·exact .pure _
 ·exact kd_uns
theorem qM{g:Array Value ->Array Value}(o:Obj):(Obj.mapFields g o).dict=o.dict /\ (o.isFreed=false ->(Obj.mapFields g o).isFreed=false):=by
 unfold Obj.mapFields;split
 ·exact⟨rfl,fun _=>rfl⟩
 ·exact⟨rfl,id⟩
theorem kd_setField{v x:Value}{i:Nat}:KD (setField v i x):=by
 unfold setField;split
 ·unfold updateField;refine kd_load.bind fun o=> ?_
  split
  ·split
   ·exact .upd qM (.pure _)
   ·exact kd_uns
  ·exact kd_uns
 ·exact kd_uns
theorem qL{ty:String}{vs:List Value}:KD (newFields ty vs):=by
 unfold newFields newObj;dsimp only;split
 ·exact kd_uns.bind fun _=> .alloc fun a=> .pure _
 ·exact .alloc fun a=> .pure _
theorem sU:∀(l:List Env),KD (readyFrames l)
 |[]=> .pure _
 |env::outer=>by
  rw[readyFrames.eq_2];split
  ·refine kd_load.bind fun o=> ?_
   split
   ·exact .pure _
   ·have h1:KD (behindIsImport env outer):=by
     unfold behindIsImport;split
     ·exact .pure _
     ·split
      ·exact .pure _
      ·exact kd_field.bind fun _=> .pure _
    refine h1.bind fun b=> ?_
    have h2:KD (keptBack env b outer):=by
     unfold keptBack;split
     ·split
      ·exact .pure _
      ·refine KD.bind ?_ fun _=> .pure _
       unfold underTheClaimsCaller;exact .stack fun l=> .pure _
     ·exact .pure _
    refine h2.bind fun v=> ?_
    exact .upd (fun o=>⟨rfl,fun h=>by obtain⟨c,d,dt,sl⟩:=o;cases dt<;>first|rfl|exact h⟩) (sU outer)
  ·exact kd_uns
theorem kd_note{e:Value}{env:Env}:KD (noteFrame e env):=by
 unfold noteFrame;split
 ·rename_i f0 _
  have hj:∀(head:Value),KD (do
    let a<-iJ env
    let b<-entryPlaceOf f0 (head !=Value.none)
    let c<-EntryCells.newEntry head a Value.none (rawInt f0) Value.none b
    setField e 1 c):=fun head=>by
   refine KD.bind ?_ fun a=>KD.bind ?_ fun b=>KD.bind ?_ fun c=>kd_setField
   ·unfold iJ;refine KD.bind ?_ fun l=>KD.bind ?_ fun o=> ?_
    ·exact .stack fun l=> .pure _
    ·unfold frameObject;split
     ·exact .pure _
     ·exact(sU _).bind fun _=> .pure _
    ·split
     ·exact .pure _
     ·exact kd_uns
   ·unfold entryPlaceOf;refine KD.bind (.stack fun l=> .pure _) fun acts=> ?_
    split
    ·exact .pure _
    ·exact .pure _
   ·exact qL
  refine kd_field.bind fun head=> ?_
  dsimp only;split
  ·refine kd_field.bind fun x=> ?_
   split
   ·exact .pure _
   ·exact kd_setField.bind fun _=>hj head
  ·exact hj head
 ·exact kd_uns
theorem kd_flight{e:Value}{fr:Option Addr}:KD (setFlight e fr):=by
 unfold setFlight;refine kd_field.bind fun tb=> ?_
 split
 ·exact kd_setField
 ·exact .pure _
theorem kd_leaving{e:Value}{env:Env}:KD (leaving env e):=kd_note.bind fun _=>kd_flight
end L2
namespace L2
open PySem PySem.Spec PyProof.Rows
theorem ObjOk.there{P:Program}{w:World}{H:Hp}{h:Heap}{a:Addr}{o:HO}(x:ObjOk P w H h a o):∃u,h.get? a=some u:=by
 cases o with
 |lst xs=>obtain⟨_,_,_,_,e⟩:=x;exact⟨_,e⟩
 |tup xs=>obtain⟨_,_,_,ob,e,_⟩:=x;exact⟨_,e⟩
 |dK kvs=>obtain⟨_,_,_,_,ob,_,_,e,_⟩:=x;exact⟨_,e⟩
 |dT kvs=>obtain⟨_,_,_,_,ob,_,_,e,_⟩:=x;exact⟨_,e⟩
 |set S n=>obtain⟨ob,_,_,_,e,_⟩:=x;exact⟨_,e⟩
 |ins C dx fs=>obtain⟨_,_,_,e,_⟩:=x;exact⟨_,e⟩
 |own y=>exact x
 |xd fs=>obtain⟨_,⟨ob,_,_,e,_⟩,_⟩:=x;exact⟨_,e⟩
 |rng lo hi=>obtain⟨_,_,_,e⟩:=x;exact⟨_,e⟩
 |frz ob u=>exact⟨_,x.1⟩
 |tbl ps=>obtain⟨_,e,_⟩:=x;exact⟨_,e⟩
 |met f y=>exact⟨_,(show h.get? a=some _ from x)⟩
 |ext φ=>exact x.2.1
noncomputable def CXE(P:Program)(w:World):CXT:=fun outer H s E ev s'=>∃(e C:Addr) (a0:Value) (B:Heap) (H':Hp) (od:Option Addr),ev= .ref e /\ s'.os=s.os /\ AllBare s'.gens /\ Un (frs outer) [] H H' s.heap s'.heap /\
 HOk P w H' s'.heap /\ Heap.FlyingW B outer e (.ref C) a0 s'.heap /\ (∀b u,H' b=some u -> ∃o,B.get? b=some o) /\ (∀b o,s.heap.get? b=some o ->b∉frs outer -> ∃o',B.get? b=some o') /\ (∃oe,s'.heap.get? e=some oe /\ ∀dx,od=some dx ->oe.dict=some dx) /\ E (.ref C) od H'
section
variable {P:Program} {w:World} {H H1 H':Hp} {h0 h1 h2 B:Heap} {fs:List Addr} {L:Addr}
theorem pX(ok:HOk P w H' h1)(b1:B.StaysIn h1)(b2:B.StaysIn h2)(c1:∀b u,H' b=some u -> ∃o,B.get? b=some o):HOk P w H' h2:=fun a o e=>
 (ok a o e).stay (fun b u hb q=>by
  have hB:∃o',B.get? b=some o':=by
   rcases hb with rfl|hb
   ·exact c1 _ _ e
   ·exact c1 _ _ hb
  obtain⟨o',hB⟩:=hB
  have z:=b1 b o' hB
  rw[q] at z;cases z;exact b2 b _ hB) (fun _ q=>q) fun _ _ q=>q
theorem tz(u:Un fs [] H H' h0 h1)(b1:B.StaysIn h1)(b2:B.StaysIn h2)(up:h1.UpToSlots h2)(c2:∀b o,h0.get? b=some o ->b∉fs -> ∃o',B.get? b=some o')
  (hfs:∀b∈fs,H b=none /\ ∃o,h0.get? b=some o /\ ∀vs,o.data≠ .fields vs):Un fs [] H H' h0 h2 where
 keep:=fun b o q n hb hx=>by
  have e:=u.keep b o q n hb hx
  obtain⟨o',hB⟩:=c2 b o q hb
  have z:=b1 b o' hB
  rw[e] at z;cases z;exact b2 b _ hB
 slot:=fun b o q n hb hx=>by
  obtain⟨sl,e⟩:=u.slot b o q n hb hx
  obtain⟨_,o2,ho2,nf⟩:=hfs b hb
  rw[q] at ho2;cases ho2;obtain⟨sl',e'⟩:=up b _ e nf
  exact⟨sl',e'⟩
 free:=u.free
 there:=fun b o q hx=>by
  by_cases hb:b∈fs
  ·obtain⟨n,o2,ho2,nf⟩:=hfs b hb
   rw[q] at ho2;cases ho2;obtain⟨sl,e⟩:=u.slot b o q n hb hx
   obtain⟨sl',e'⟩:=up b _ e nf
   exact⟨_,e'⟩
  ·obtain⟨o',hB⟩:=c2 b o q hb
   exact⟨_,b2 b _ hB⟩
 tups:=u.tups
 frzs:=u.frzs
 tbls:=u.tbls
theorem Un.under(a:Un fs [] H H1 h0 h1)(b:Un (L::fs) [] H1 H' h1 h2)(hL:∀c o,h0.get? c=some o ->c≠L):Un fs [] H H' h0 h2 where
 keep:=fun c o q n hc hx=>b.keep c o (a.keep c o q n hc hx) (a.free c o q n hx) (fun z=>(av.mp z).elim (hL c o q) hc) hx
 slot:=fun c o q n hc hx=>by
  obtain⟨sl,e1⟩:=a.slot c o q n hc hx
  obtain⟨sl',e2⟩:=b.slot c _ e1 (a.free c o q n hx) (ba _ hc) hx
  exact⟨sl',e2⟩
 free:=fun c o q n hx=>by
  obtain⟨o',e1⟩:=a.there c o q hx
  exact b.free c o' e1 (a.free c o q n hx) hx
 there:=fun c o q hx=>by
  obtain⟨o',e1⟩:=a.there c o q hx
  exact b.there c o' e1 hx
 tups:=fun c xs q=>b.tups c xs (a.tups c xs q)
 frzs:=fun c o xs q=>b.frzs c o xs (a.frzs c o xs q)
 tbls:=fun c ps q=>by
  obtain⟨m1,e1⟩:=a.tbls c ps q
  obtain⟨m2,e2⟩:=b.tbls c _ e1
  exact⟨m1++m2,by rw[e2,gI]⟩
end
section
variable {X:Cx} {pins:List (Addr×Obj)} {σ:St} {H:Hp} {s:Shared}
theorem Inv.hfs(I:Inv X pins σ H s):∀b∈frs X.stack,H b=none /\ ∃o,s.heap.get? b=some o /\ ∀vs,o.data≠ .fields vs:=fun b hb=>by
 obtain⟨_,o,ho,nf⟩:=I.stack.mem hb
 exact⟨I.stkFree b hb,o,ho,nf⟩
end
section
variable {P:Program} {w:World} {K:ag} {mg:Str ->Option Value} {base:Heap} {N:List Str} {qual:Str} {scope:Scope} {f:Addr} {cd:Value} {A:Around} {outer:List Env} {s:Shared} {H:Hp} {E:XK}
theorem AT{pins:List (Addr×Obj)}{σ:St}{H1:Hp}{s1 s':Shared}{ev:Value}(I:Inv (lA (CXE P w) P w K mg base N qual scope f cd A outer s H E) pins σ H1 s1)
  (h:CXE P w (lA (CXE P w) P w K mg base N qual scope f cd A outer s H E).stack H1 s1 E ev s'):(lA (CXE P w) P w K mg base N qual scope f cd A outer s H E).xe ev s':=by
 obtain⟨e,C,a0,B,H',od,rfl,os,bare,un,hok,fl,c1,c2,hd,hE⟩:=h
 have hab:=I.ok.above
 have neL:∀b o,s.heap.get? b=some o ->b≠s.heap.objs.size:=fun b o q=>aQ (Heap.lt_size q)
 refine wpAny_mono (kd_leaving.any (wpAny_leaves_onW (Q:=fun _ s2=>∃h2,s2={s' with heap:=h2} /\ Heap.FlyingW B outer e (.ref C) a0 h2 /\ s'.heap.UpToSlots h2) (E:=fun _ _=>False) I.ok.frames rfl fl fun h' fl' up=>⟨h',rfl,fl',up⟩)) (fun _ s2 hq=> ?_) fun _ _ z=>z.1.elim
 obtain⟨⟨h',rfl,fl',up⟩,dk⟩:=hq
 refine⟨e,C,a0,B,H',od,rfl,os.trans I.os,bare,?_,pX hok fl.1 fl'.1 c1,fl',c1,fun b o q hb=> ?_,?_,hE⟩
 ·exact Un.under (L:=s.heap.objs.size) I.base (tz un fl.1 fl'.1 up c2 I.hfs) neL
 ·obtain⟨o1,q1⟩:=I.base.there b o q (fun z=>nomatch z)
  exact c2 b o1 q1 fun z=>(av.mp z).elim (neL b o q) hb
 ·obtain⟨oe,h1,h2⟩:=hd
  obtain⟨o',h3,h4⟩:=dk e oe h1
  exact⟨o',h3,fun dx z=>h4.trans (h2 dx z)⟩
theorem vh:rh (CXE P w) (lA (CXE P w) P w K mg base N qual scope f cd A outer s H E) E:=fun _ _ _ _ _ _ I h=>AT I h
end
theorem iX{X:Cx}{P:Program}{w:World}:rh (CXE P w) X E0:=fun _ _ _ _ _ _ _ h=>by
 obtain⟨_,_,_,_,_,_,_,_,_,_,_,_,_,_,_,hE⟩:=h
 exact hE.elim
noncomputable def ye(X:Cx)(E:XK):Prop:=∀(pins:List (Addr×Obj)) (σ:St) (H:Hp) (s:Shared) (e C:Addr) (args:List Value) (h':Heap),Inv X pins σ H s ->Heap.MadeExcOf s.heap h' e (.ref C) args ->E (.ref C) none H ->X.xe (.ref e) {s with heap:=h'}
section
variable {P:Program} {w:World} {K:ag} {mg:Str ->Option Value} {base:Heap} {N:List Str} {qual:Str} {scope:Scope} {f:Addr} {cd:Value} {A:Around} {outer:List Env} {s:Shared} {H:Hp} {E:XK}
theorem Az:ye (lA (CXE P w) P w K mg base N qual scope f cd A outer s H E) E:=by
 intro pins σ H1 s1 e C args h' I hm hE;have neL:∀b o,s.heap.get? b=some o ->b≠s.heap.objs.size:=fun b o q=>aQ (Heap.lt_size q)
 have hB:∀b o,s1.heap.get? b=some o ->b∉frs (lA (CXE P w) P w K mg base N qual scope f cd A outer s H E).stack ->(bU s1.heap (frs (lA (CXE P w) P w K mg base N qual scope f cd A outer s H E).stack)).get? b=some o:=fun b o q hb=>fw _ q hb
 have bs:(bU s1.heap (frs (lA (CXE P w) P w K mg base N qual scope f cd A outer s H E).stack)).StaysIn s1.heap:=fun b o q=>fF _ q
 refine wpAny_leaves_madeW (base:=bU s1.heap (frs (lA (CXE P w) P w K mg base N qual scope f cd A outer s H E).stack)) (h:=s1.heap) I.ok.frames rfl bs (gf I.stack fun env he a ha=>dY.mpr ⟨env,he,ha⟩) hm fun h2 t fl _ _ up=> ?_
 have c1:∀b u,H1 b=some u -> ∃o,(bU s1.heap (frs (lA (CXE P w) P w K mg base N qual scope f cd A outer s H E).stack)).get? b=some o:=fun b u q=>by
  obtain⟨o,ho⟩:=(I.hok b u q).there
  refine⟨o,hB b o ho fun z=> ?_⟩;rw[I.stkFree b z] at q;cases q
 have c2:∀b o,s1.heap.get? b=some o ->b∉frs (lA (CXE P w) P w K mg base N qual scope f cd A outer s H E).stack -> ∃o',(bU s1.heap (frs (lA (CXE P w) P w K mg base N qual scope f cd A outer s H E).stack)).get? b=some o':=fun b o q hb=>⟨o,hB b o q hb⟩
 have up2:s1.heap.UpToSlots h2:=(Heap.UpToSlots.of_keeps hm.keeps).trans up
 refine⟨e,C,.ref t,_,H1,none,rfl,I.os,I.bare,?_,pX I.hok bs fl.1 c1,fl,c1,fun b o q hb=> ?_,?_,hE⟩
 ·exact Un.under (L:=s.heap.objs.size) I.base (tz Un.refl bs fl.1 up2 c2 I.hfs) neL
 ·obtain⟨o1,q1⟩:=I.base.there b o q (fun z=>nomatch z)
  exact c2 b o1 q1 fun z=>(av.mp z).elim (neL b o q) hb
 ·obtain⟨ob,h1,_⟩:=fl.there
  exact⟨ob,h1,fun dx z=>nomatch z⟩
end
theorem zg{K:ag}{h:Heap}{C:Addr}{bmB:List Value}{newId:String}(X:K.In h)(q:ft K C bmB newId=true):
  ∃(bm:List Value) (N:Addr) (nm qn:Str) (bs:List Value) (hd:Bool) (sn:List Str) (sub:List Value) (ab:Bool) (col:Option Bool) (dd:Option Addr) (k0 k1 k2 k3 k5:Option Value) (mN:Str ->Option Value),
   h.get? C=some (excClassObj nm qn C N bs bm hd sn sub ab col dd k0 k1 k2 k3 k5 newId) /\ h.Ns N mN /\ mN "__init__"=none /\ OwnTail h bmB bm:=by
 unfold ft at q;split at q
 ·rename_i dd cd sl ho
  split at q
  ·rename_i C' bm k0 k1 k2 k3 n k5 hm hs
   simp only[ci,beq_iff_eq,dF] at q;have q1:=q.1.1.1.1.1
   have q2:=q.1.1.1.1.2
   have q3:=q.1.1.1.2
   have q4:=q.1.1.2
   have q5:=q.1.2
   have q6:=q.2
   subst q1 q2;cases cd with
   |mk nm bs mro ns qn hd sn sub ab col del=>
    dsimp only at hm q3 q5 q6;subst hm q3;have hsl:sl= #[k0,k1,k2,k3,some (.builtin n),k5]:=by
     cases sl with
     |mk l=>simp only at hs;rw[hs]
    subst hsl;have nn:=PySem.W.nsMap_none_of_in X q5 q6
    exact⟨bm,ns,nm,qn,bs,hd,sn,sub,ab,col,dd,k0,k1,k2,k3,k5,_,X _ _ ho,.of_isNs (gK X q5),nn,gL X q4⟩
  ·cases q
 ·cases q
noncomputable def ql(C:Addr)(E:XK)(t:TA):TS:=fun _ σ H=>t σ H fun vs H1=>vs.length<=3 /\ E (.ref C) none H1
section
variable {X:Cx} {E:XK} {C:Addr} {x:Str} {np cpos pos:Pos} {e:Expr} {es:List Expr} {t:TA}
theorem Vals.len3{vs:List V}{us:List Value}(r:Vals vs us)(h:vs.length<=3):us.length<=sizeLine:=by
 rw[<-r.length];exact bJ h (by decide)
theorem sL{K:ag}(hK:X.K=K)(hM:ye X E)(T:ExcC K C)(hg:Gl X x)(hm:X.mg x=some (.ref C))(ha:PA X (e::es) t)(hc:X.calm=true:=by rfl)(hdb:(x==("__debug__":Str))=false:=by decide)
  (he:starEach (e::es) X.env=(false,eval e X.env)::starEach es X.env:=by rfl) (hpl:(backTo cpos (starEach es X.env)).any (·.1)=false:=by rfl):
  PS X (.Raise (some (.Call (.Name x np) (e::es) [] cpos)) none pos) (ql C E t):=by
 subst hK;intro pins s σ H D I h;obtain⟨bm,N,nm,qn,bs,hd,sn,sub,ab,col,dd,k0,k1,k2,k3,k5,mN,hC,hn,hni,OT⟩:=zg I.ok.mod.kin T.exc
 refine wpAny_Raise_call_subT (C:=C) (N:=N) (nm:=nm) (q:=qn) (bs:=bs) (bm:=bm) (hdct:=hd) (sn:=sn) (sub:=sub) (ab:=ab) (col:=col) (dd:=dd) (k0:=k0) (k1:=k1) (k2:=k2) (k3:=k3) (k5:=k5) (mN:=mN) F.excBase_ValueError (OT.hasType (by decide+kernel)) (I.ok.hd hc) ?_ hni ?_
 ·rw[he];show(false||(backTo cpos (starEach es X.env)).any (·.1))=false
  rw[hpl];rfl
 ·refine mT I hg hm ⟨rfl,?_⟩ hdb;have h2:=ha cpos pins s σ H _ I h
  rw[he] at h2⊢;refine Calls.evalArgs_plain (wpAny_mono h2 (fun us s2 q=> ?_) fun _ _ y=>y);obtain⟨vs,H1,I1,r,q1,q2⟩:=q
  refine⟨rfl,r.len3 q1,I1.bk _ _ hC,hn.keeps I1.bk,OT.keeps I1.bk,fun h' e' hm'=> ?_⟩;exact hM pins σ H1 s2 e' C us h' I1 hm' q2
end
end L2
namespace L2
open PySem PySem.Spec PyProof.Rows
noncomputable def sk(CX:CXT)(X:Cx)(σ0:St)(E:XK):Prop:=∀(pins:List (Addr×Obj)) (H:Hp) (s:Shared) (e:Value) (s':Shared),Inv X pins σ0 H s ->CX X.stack H s E e s' ->X.xe e s'
noncomputable def qm(σ0:St)(sp:Sp)(E:XK)(t:TA):TE:=fun σ H Q=>t σ H fun vs H1=>σ=σ0 /\ sp vs H1 Q E
section
variable {X:Cx} {CX:CXT} {k:Nat} {ps:List Str} {sp:Sp} {E:XK} {x:Str} {p pos:Pos} {e:Expr} {es:List Expr} {t:TA} {σ0:St}
theorem Aq(F:FnB X.prog X.w X.K X.mg X.base CX k x ps sp)(hr:Room k X.A)(hg:Gl X x)(hx:sk CX X σ0 E)
  (ha:PA X (e::es) t) (hdb:(x==("__debug__":Str))=false:=by decide) (he:starEach (e::es) X.env=(false,eval e X.env)::starEach es X.env:=by rfl) (hpl:(backTo pos (starEach es X.env)).any (·.1)=false:=by rfl):
  PE X (.Call (.Name x p) (e::es) [] pos) (qm σ0 sp E t):=by
 obtain⟨f,fd,F1,hm,hk,hb⟩:=F.ex
 intro pins s σ H Q I h;refine wpAny_Call_Name_kw (mT I hg hm ?_ hdb);have ha2:=ha pos pins s σ H _ I h
 refine fG (h₀:=X.base) I.ok.mod.kin hk (thn ha2 fun us s1 z=> ?_) he hpl;obtain⟨vs,H1,I1,r,e0,q⟩:=z
 subst e0;refine⟨I1.kIn,?_⟩;have hl:us.length=ps.length:=by
  rw[<-r.length];exact F1.len _ _ _ _ q
 have hb2:=hb s1 us I1.kIn (by rw[aK];exact hl)
 rw[aK] at hb2;have run:=F1.run X.A X.stack s1 H1 ⟨us,[]⟩ us vs Q E hr I1.env0 hb2 r q
 refine wpAny_call (codeAny_mono run fun r' s' hq=> ?_)
 match r',hq with
 | .error ev,hq=>exact hx pins H1 s1 ev s' I1 hq
 | .ok (.ret u),hq=>exact I1.after hq
 | .ok .next,hq=>exact False.elim hq
 | .ok .brk,hq=>exact False.elim hq
 | .ok .cont,hq=>exact False.elim hq
end
noncomputable abbrev Cx.tryIn(X:Cx)(pn:List (Addr×Obj))(W:Value ->Shared ->Prop):Cx:={X with pn:=pn,xe:=W}
noncomputable abbrev Cx.suite(X:Cx)(ev:Value):Cx:={X with A:=X.A.mark (some ev),calm:=false,xe:=fun _ _=>False}
section
variable {X:Cx} {pins pins' pn:List (Addr×Obj)} {σ:St} {H:Hp} {s:Shared} {W:Value ->Shared ->Prop} {ev:Value} {D:Ends} {f:Flow}
theorem Cx.Ok.tryIn(ok:X.Ok):(X.tryIn pn W).Ok:=
 ⟨ok.mod,ok.kind,ok.glob,ok.blt,ok.above,ok.inj,ok.has,ok.cab,ok.hd,ok.frames,ok.stk,ok.exf,ok.bs,ok.bsz,ok.noex,ok.exfs,ok.funs,ok.frf⟩
theorem Cx.Ok.tryOut(ok:(X.tryIn pn W).Ok):X.Ok:=
 ⟨ok.mod,ok.kind,ok.glob,ok.blt,ok.above,ok.inj,ok.has,ok.cab,ok.hd,ok.frames,ok.stk,ok.exf,ok.bs,ok.bsz,ok.noex,ok.exfs,ok.funs,ok.frf⟩
theorem Inv.tryIn(I:Inv X pins σ H s):Inv (X.tryIn (X.pn++pins) W) [] σ H s:=
 ⟨I.ok.tryIn,I.os,I.bare,I.base,I.loc,I.cell,I.free,I.freeC,fun p hp=>I.pin p (by simpa using hp),I.hok,I.len⟩
theorem Inv.tryOut(I:Inv (X.tryIn (X.pn++pins) W) pins' σ H s):Inv X pins σ H s:=
 ⟨I.ok.tryOut,I.os,I.bare,I.base,I.loc,I.cell,I.free,I.freeC,fun p hp=>I.pin p (aO _ hp),I.hok,I.len⟩
theorem SP.tryOut(h:SP (X.tryIn (X.pn++pins) W) pins' D f s):SP X pins D f s:=by
 match f,h with
 | .next,⟨σ',H',I,q⟩=>exact⟨σ',H',I.tryOut,q⟩
 | .brk,⟨σ',H',I,q⟩=>exact⟨σ',H',I.tryOut,q⟩
 | .cont,⟨σ',H',I,q⟩=>exact⟨σ',H',I.tryOut,q⟩
 | .ret u,⟨v,σ',H',I,r,q⟩=>exact⟨v,σ',H',I.tryOut,r,q⟩
theorem Cx.Ok.suite(ok:X.Ok):(X.suite ev).Ok:=
 ⟨ok.mod,ok.kind,ok.glob,ok.blt,ok.above,ok.inj,ok.has,ok.cab,(fun z=>nomatch z),ok.frames,ok.stk,ok.exf,ok.bs,ok.bsz,ok.noex,ok.exfs,ok.funs,ok.frf⟩
theorem Inv.suite(I:Inv X pins σ H s):Inv (X.suite ev) pins σ H s:=⟨I.ok.suite,I.os,I.bare,I.base,I.loc,I.cell,I.free,I.freeC,I.pin,I.hok,I.len⟩
theorem Inv.unsuite(ok:X.Ok)(I:Inv (X.suite ev) pins σ H s):Inv X pins σ H s:=⟨ok,I.os,I.bare,I.base,I.loc,I.cell,I.free,I.freeC,I.pin,I.hok,I.len⟩
theorem Inv.track{a:Addr}{o:HO}(I:Inv X pins σ H s)(hn:H a=none)(h0:∀b u,X.s₀.heap.get? b=some u ->b∉X.ex ->b≠a)(hl:X.env.locals≠a)(hc:∀x c,X.env.cells.lookup x=some c ->c≠a)
  (hp:∀p∈X.pn++pins,p.1≠a) (new:ObjOk X.prog X.w (upd H a o) s.heap a o):Inv X pins σ (upd H a o) s:=by
 refine⟨I.ok,I.os,I.bare,⟨I.base.keep,I.base.slot,fun b u q n hx=> ?_,I.base.there,fun b xs q=> ?_,fun b u xs q=> ?_,fun b ps q=> ?_⟩,I.loc,I.cell,?_,fun x c e=> ?_,fun p hq=> ?_,fun b u q=> ?_,I.len⟩
 ·rw[jd (h0 b u q hx)];exact I.base.free b u q n hx
 ·have z:=I.base.tups b xs q
  rw[jd (jm z hn)];exact z
 ·have z:=I.base.frzs b u xs q
  rw[jd (jm z hn)];exact z
 ·obtain⟨more,z⟩:=I.base.tbls b ps q
  exact⟨more,by rw[jd (jm z hn)];exact z⟩
 ·rw[jd hl];exact I.free
 ·rw[jd (hc x c e)];exact I.freeC x c e
 ·obtain⟨e1,e2,e3,e4,e5⟩:=I.pin p hq
  exact⟨e1,by rw[jd (hp p hq)];exact e2,e3,e4,e5⟩
 ·by_cases hb:b=a
  ·subst hb;rw[iQ] at q;cases q;exact new
  ·rw[jd hb] at q;exact(I.hok b u q).stay (fun c v _ z=>z) (fun c z=>by rw[jd (jm z hn)];exact z) fun c xs z=>by rw[jd (jm z hn)];exact z
theorem pV{M:Model}{A:Around}{E:Value ->Shared ->Prop}{i:Nat}{n:Str}{pos:Pos}{Q:Unit ->Shared ->Prop}(I:Inv X pins σ H s)(hN:X.N.Nodup)(hi:X.N[i]? =some n)(hk:X.env.scope.names.lookup n=some .local)
  (h:∀s',Inv X pins (σ.set i none) H s' ->Q () s'):wpAny M A (do bindName X.env n .none;unbindBehindTheSuite X.env n pos) Q E s:=by
 obtain⟨m,hn,hl⟩:=id I.loc
 have hcls:(X.env.scope.kind== .class||(X.env.scope.kind== .module&&X.env.locals !=X.env.globals))=false:=by rw[I.ok.kind];rfl
 have hiσ:i<σ.length:=by rw[I.len];exact(ad.mp hi).1
 refine wpAny_nameGoes_keeps hk hn hcls fun h' v hn' hs=> ?_
 obtain⟨oL,_,_,hoL,_⟩:=id hn
 have other:∀b,b≠X.env.locals ->h'.get? b=s.heap.get? b:=fun b hb=>hs.2 b hb
 have old:∀b o,X.s₀.heap.get? b=some o ->b≠X.env.locals:=fun b o q=>aQ (aT (Heap.lt_size q) I.ok.above)
 have ntr:∀b u,H b=some u ->b≠X.env.locals:=fun b u q z=>by
  rw[z,I.free] at q;cases q
 refine h _ ⟨I.ok,I.os,I.bare,⟨fun b o e n hb hx=> ?_,fun b o e n hb hx=> ?_,I.base.free,fun b o e hx=> ?_,I.base.tups,I.base.frzs,I.base.tbls⟩,⟨_,hn',fun j y v' e1 e2 e3=> ?_⟩,fun y c e=> ?_,I.free,I.freeC,fun p hp=> ?_,fun b ob e=> ?_,by simpa using I.len⟩
 ·exact(other b (old b o e)).trans (I.base.keep b o e n hb hx)
 ·obtain⟨sl,e1⟩:=I.base.slot b o e n hb hx
  exact⟨sl,(other b (old b o e)).trans e1⟩
 ·obtain⟨o',e1⟩:=I.base.there b o e hx
  exact⟨o',(other b (old b o e)).trans e1⟩
 ·by_cases hj:j=i
  ·subst hj;rw[eN hiσ] at e2;cases e2
  ·rw[fj (Ne.symm hj)] at e2;obtain⟨u',r',q⟩:=hl j y v' e1 e2 e3
   refine⟨u',r',?_⟩;rcases q with⟨k,e⟩|⟨k,c,e,z⟩
   ·refine .inl ⟨k,?_⟩;have ne:y≠n:=fun e=>hj (pG hN e1 (e▸hi))
    simp[ne,e]
   ·exact .inr ⟨k,c,e,z.sameBut hs (I.cne y c e)⟩
 ·obtain⟨w',z⟩:=I.cell y c e
  exact⟨w',z.sameBut hs (I.cne y c e)⟩
 ·obtain⟨e,n,ne,nf,d⟩:=I.pin p hp
  exact⟨(other p.1 ne).trans e,n,ne,nf,d⟩
 ·refine(I.hok b ob e).stay (fun c w' hc q=>(other c ?_).trans q) (fun _ q=>q) fun _ _ q=>q
  rcases hc with z|z
  ·rw[z];exact ntr b ob e
  ·exact ntr c _ z
end
noncomputable def lK(D:Ends)(i:Nat):Ends:={nx:=fun σ H=>D.nx (σ.set i none) H,rt:=D.rt,bk:=fun σ H=>D.bk (σ.set i none) H,ct:=fun σ H=>D.ct (σ.set i none) H}
section
variable {X:Cx} {body suite:List Stmt} {b₀:Stmt} {x n:Str} {np hpos pos:Pos} {i:Nat} {cD:Addr} {tb:XK ->St ->TS} {th:TS} {K:ag}
theorem zh{P:Program}{w:World}{H:Hp}{h:Heap}{e C:Addr}{od:Option Addr}(x:IsExcD e C od h):ObjOk P w H h e (zM e C od):=by
 refine⟨x,?_,fun h1 h2 y k=> ?_⟩
 ·obtain⟨o,vs,q,_⟩:=x
  exact⟨o,q⟩
 ·obtain⟨o,vs,q,r⟩:=y
  exact⟨o,vs,k o q,r⟩
end
end L2
namespace L2
open PySem PySem.Spec PyProof.Rows
theorem FnB.imp{P:Program}{w:World}{K:ag}{mg:Str ->Option Value}{base:Heap}{CX:CXT}{k:Nat}{x:Str}{ps:List Str}{sp sp':Sp}(F:FnB P w K mg base CX k x ps sp)(h:∀vs H Q E,sp' vs H Q E ->sp vs H Q E):FnB P w K mg base CX k x ps sp':=by
 obtain⟨f,fd,h1,h2,h3,h4⟩:=F.ex
 exact⟨f,fd,h1.imp h,h2,h3,h4⟩
section
variable {P:Program} {w:World} {K:ag} {mg:Str ->Option Value} {base:Heap} {x qual:Str} {st:Stmt} {f:Addr} {fd:FuncData} {N ps:List Str} {k:Nat} {sp:Sp}
theorem okE(F:Fun K x qual st f fd)(S:FnScope N ps (iR st))(len:∀vs H Q E,sp vs H Q E ->vs.length=ps.length)
  (hb:∀(cdv:Value) (A:Around) (outer:List Env) (s:Shared) (H:Hp) (vs:List V) (Q:VK) (E:XK),Room k (A.deeper (envOfC qual (iR st) s.heap.objs.size f cdv)) ->sp vs H Q E ->
   ∃t,PSs (lA (CXE P w) P w K mg base N qual (iR st) f cdv A outer s H E) (i6 st) t /\ t {nx:=fun _ H'=>Q .non H',rt:=Q} (start N vs) H):FnOk P w K mg base (CXE P w) (k+1) f fd ps sp:=by
 have e:=F.ex
 obtain⟨oc,od,kV,doc,pm,an,cdv,ct,osl,e,lk,hcd⟩:=e
 subst e;exact Bl lk hcd S len (hb cdv)
theorem okN(F:Fun K x qual st f fd)(S:FnScope N ps (iR st))(len:∀vs H Q E,sp vs H Q E ->vs.length=ps.length)
  (hb:∀(cdv:Value) (A:Around) (outer:List Env) (s:Shared) (H:Hp) (vs:List V) (Q:VK) (E:XK),Room k (A.deeper (envOfC qual (iR st) s.heap.objs.size f cdv)) ->sp vs H Q E ->
   ∃t,PSs (lA (CXE P w) P w K mg base N qual (iR st) f cdv A outer s H E).nox (i6 st) t /\ t {nx:=fun _ H'=>Q .non H',rt:=Q} (start N vs) H):FnOk P w K mg base (CXE P w) (k+1) f fd ps sp:=
 okE F S len fun cdv A outer s H vs Q E hr h=>by
  obtain⟨t,h1,h2⟩:=hb cdv A outer s H vs Q E hr h
  exact⟨t,h1.nox,h2⟩
end
theorem sJ{K:ag}{a C D E tp:Addr}{od:Option Addr}{b:Bool}{H:Hp}{Q:VK}(h1:H a=some (zM a C od))(h2:uv K C)(h0:H tp=some (.tup [.ref D,.ref E]))(h3:dM K (.ref C) [.ref D,.ref E]=some b)(h4:Q (.bl b) H):xN K [.ref a,.ref tp] H Q:=⟨a,C,tp,od,[D,E],b,rfl,h1,h2,h0,h3,h4⟩
end L2
namespace L2
open PySem PySem.Spec PyProof.Rows
section
variable {X:Cx}
theorem yh{X:Cx}{pins:List (Addr×Obj)}{σ:St}{H:Hp}{s:Shared}{h':Heap}{tk:Nat}{wr:List Addr}{T:Addr}{x y:V}{u v:Value}(I:Inv X pins σ H s)(hf:∀b∈wr,wa X pins H b)(hT:s.heap.objs.size<=T)
  (ht:h'.IsTuple T #[u,v]) (rx:RelV x u) (ry:RelV y v) (k:∀b o,b∉wr ->s.heap.get? b=some o ->h'.get? b=some o):Inv X pins σ (upd H T (.tup [x,y])) {s with heap:=h',toks:=tk}:=by
 have hn:H T=none:=I.hok.fresh hT
 have tr:∀b w,H b=some w ->b∉wr:=fun b w e z=>by rw[(hf b z).1] at e;cases e
 refine I.step (g':=s.gens) (d':=s.drawn) (ch:=wr) (fun b hb=> ?_) (fun b o _ _ hc e _=>k b o hc e) (fun b o _ _ hc e _=>⟨o.slots,k b o hc e⟩) (fun b o hc e n=> ?_) (fun b o hc e=>⟨o,k b o hc e⟩) (fun b xs e=> ?_) (fun b o w e=> ?_) (fun b ps e=> ?_) (fun m hm=> ?_) (fun b w e=> ?_) I.bare
 ·obtain⟨f0,f1,f2,f3,f4,f5⟩:=hf b hb
  exact⟨f3,f1,f4,f5⟩
 ·rw[jd (aQ (aT (Heap.lt_size e) hT))];exact n
 ·rw[jd (jm e hn)];exact e
 ·rw[jd (jm e hn)];exact e
 ·exact⟨#[],by rw[jd (jm e hn),e];simp⟩
 ·obtain⟨o,es,ep,ho,r⟩:=hm
  exact⟨o,es,ep,k _ o (fun z=>(hf _ z).2.1 rfl) ho,r⟩
 ·by_cases hb:b=T
  ·subst hb;rw[iQ] at e;cases e;exact⟨show 2<=sizeLine by decide,[u,v],.cons rx (.cons ry .nil),ht⟩
  ·rw[jd hb] at e;refine(I.hok b w e).stay (fun c z hc q=>k c z ?_ q) (fun c q=>by rw[jd (jm q hn)];exact q) fun c xs q=>by rw[jd (jm q hn)];exact q
   rcases hc with rfl|hc
   ·exact tr _ _ e
   ·exact tr _ _ hc
end
end L2
open PySem PySem.Spec PyProof.Rows
namespace L2
noncomputable abbrev veB:List Value:=[.type "ValueError",.type "Exception",.type "BaseException",.type "object"]
theorem wI{h:Heap}{C:Addr}{rest:List Value}:h.MadeExcOf ((h.push {cls:= .type "tuple",data:= .seq rest.toArray}).push
   {cls:= .ref C,data:= .fields #[.ref h.objs.size,.none,.none,.none,.bool false,.none]}) (h.objs.size+1) (.ref C) rest:=by
 have e1:(h.push {cls:= .type "tuple",data:= .seq rest.toArray}).objs.size=h.objs.size+1:=Heap.size_push _ _
 refine⟨fun b o e=>Heap.get?_push_of_some _ (Heap.get?_push_of_some _ e),Heap.get?_none_of_le (ir _),h.objs.size,?_,Heap.get?_none_of_le (aI _),?_⟩
 ·rw[<-e1];exact Heap.get?_push_size _ rfl
 ·exact Heap.get?_push_of_some _ (Heap.get?_push_size _ rfl)
theorem oo{prog:Program}{w:World}{A:Around}{E:Value ->Shared ->Prop}{h:Heap}{g:Array GenState}{d:Drawn}{t:Nat}{os:OsState}{nm q:Str}{C N:Addr}{bs bm:List Value}{hdct:Bool}{sn:List Str}{sub:List Value}{ab:Bool}{col:Option Bool}
  {dd:Option Addr} {k0 k1 k2 k3 k5:Option Value} (OT:OwnTail h veB bm) {mN:Str ->Option Value} {rest:List Value} {fI:Addr} {oI:Obj} {Q:iM ->Shared ->Prop}
  (hC:h.get? C=some (excClassObj nm q C N bs bm hdct sn sub ab col dd k0 k1 k2 k3 k5 "ValueError.__new__")) (hN:h.Ns N mN) (hi:mN "__init__"=some (.ref fI)) (hf:h.get? fI=some oI) (hcf:oI.cls= .type "function")
  (hq:∀(h':Heap) (e:Addr),h.MadeExcOf h' e (.ref C) rest ->wpAny (model prog w) A (call (.ref fI) (.ref e::rest)) (fun r s'=>r= .none /\ Q (.done (.ret (.ref e))) s') E ⟨h',g,d,t,os⟩)
  (hl:rest.length<=sizeLine):wpAny (model prog w) A (Builtin.«type.__call__» ⟨.ref C::rest,[]⟩) Q E ⟨h,g,d,t,os⟩:=by
 have hne:(Value.ref C==Value.type "type")=false:=by rfl
 have FB:=F.excBase_ValueError
 unfold Builtin.«type.__call__»;dsimp only;rw[hne,if_neg aY];refine wpAny_bind (wpAny_mroOf_exc hC ?_);rw[if_neg (by simp)];refine wpAny_bind (wpAny_madeBy_exc hC ?_);refine wpAny_bind (wpAny_pure ?_);refine wpAny_bind (wpAny_holding ?_);refine wpAny_call (codeAny_call_builtin_code (Code.quiet_builtin _ (by decide+kernel)) ?_);refine wpAny_check_new_subT FB OT hC ?_;refine codeAny_exc_new_subT FB OT hC ?_ hl;have M:=wI (h:=h) (C:=C) (rest:=rest)
 have hC2:=M.keeps _ _ hC
 have OT2:=OT.keeps M.keeps
 have hN2:=hN.keeps M.keeps
 obtain⟨t0,he,ht0,htt⟩:=M.there
 dsimp only;refine wpAny_bind ?_;unfold isInstance;refine wpAny_bind ?_;have L0:bW (model prog w) _ (typeOf (.ref (h.objs.size+1))) (.ref C):=(cq he).andThen .now
 refine L0.at ?_;refine wpAny_isSubtype_exc hC2 ?_;rw[show(Value.ref C::bm).contains (Value.ref C)=true by simp,if_neg (by decide)];refine wpAny_bind (wpAny_holding ?_);unfold callSpecial? specialOf;refine wpAny_bind (wpAny_bind (L0.at ?_));refine wpAny_typeLookup_tail hC2 hN2 OT2 FB.mroIs FB.init.lookup ?_;rw[hi];dsimp only;refine wpAny_holding ?_;unfold bindSpecial;have L1:bW (model prog w) _ (typeOf (.ref fI)) oI.cls:=(cq (M.keeps _ _ hf)).andThen .now
 refine wpAny_bind (wpAny_bind (L1.at ?_));rw[hcf];refine wpAny_pure ?_;refine wpAny_bind ?_;refine wpAny_mono (hq _ _ M) (fun r s' hr=> ?_) fun _ _ z=>z
 obtain⟨rfl,hr⟩:=hr
 exact wpAny_pure (wpAny_pure hr)
end L2
namespace L2
variable {prog:Program} {w:World} {A:Around} {E:Value ->Shared ->Prop} {h:Heap} {g:Array GenState} {d:Drawn} {t:Nat} {os:OsState} {nm q:Str} {C N:Addr} {bs bm:List Value} {hdct:Bool} {sn:List Str} {sub:List Value} {ab:Bool} {col:Option Bool}
  {dd:Option Addr} {k0 k1 k2 k3 k5:Option Value}
theorem v5(OT:OwnTail h veB bm){mN:Str ->Option Value}{rest:List Value}{fI:Addr}{oI:Obj}{Q:Value ->Shared ->Prop}
  (hC:h.get? C=some (excClassObj nm q C N bs bm hdct sn sub ab col dd k0 k1 k2 k3 k5 "ValueError.__new__")) (hN:h.Ns N mN) (hi:mN "__init__"=some (.ref fI)) (hf:h.get? fI=some oI) (hcf:oI.cls= .type "function")
  (hq:∀(h':Heap) (e:Addr),h.MadeExcOf h' e (.ref C) rest ->wpAny (model prog w) (A.under (.builtin "type.__call__" ⟨.ref C::rest,[]⟩)) (call (.ref fI) (.ref e::rest)) (fun r s'=>r= .none /\ Q (.ref e) s') E ⟨h',g,d,t,os⟩)
  (hl:rest.length<=sizeLine):wpAny (model prog w) A (call (.ref C) rest) Q E ⟨h,g,d,t,os⟩:=by
 refine wpAny_call (codeAny_of_tree ?_);show wpAny _ _ (callAny (.ref C) ⟨rest,[]⟩) _ _ _
 unfold callAny;dsimp only;refine wpAny_bind (wpAny_load hC ?_);dsimp only;unfold callAny.viaDunder;have L0:bW (model prog w) h (typeOf (.ref C)) (.type "type"):=(cq hC).andThen .now
 refine wpAny_bind ?_;unfold specialOf;refine wpAny_bind (L0.at ?_);rw[tc_lookup];refine wpAny_pure ?_;dsimp only;rw[tc_bind];refine wpAny_bind (wpAny_pure ?_);dsimp only;have hp:callAny.plainCallee (.builtin "type.__call__")=pure true:=by rfl
 rw[hp];refine wpAny_bind (wpAny_pure ?_);rw[if_pos rfl];refine wpAny_pure ⟨rfl,?_⟩;refine codeAny_call_builtin_code (Code.quiet_builtin _ (by decide+kernel)) ?_;refine wpAny_check_type_call_sub hC ?_;refine codeAny_builtin entry_typeCall ?_;refine oo OT hC hN hi hf hcf (fun h' e M=> ?_) hl;exact wpAny_mono (hq h' e M) (fun r s' hr=>⟨hr.1,hr.2⟩) fun _ _ z=>z
end L2
open PySem PySem.Spec PyProof.Rows
namespace L2
noncomputable abbrev ka:Value:= .builtin "ValueError.__init__"
theorem uy:typeOf ka=pure (.type "wrapper_descriptor"):=by
 show builtinType "ValueError.__init__"=_
 unfold builtinType;have h1:withoutEnding? "ValueError.__init__" "#opaque"=none:=by decide+kernel
 have h2:withoutEnding? "ValueError.__init__" "#data"=none:=by decide+kernel
 have h3:builtinKind "ValueError.__init__"=some .slot:=by decide+kernel
 rw[h1,h2,h3];rfl
theorem yk:fastLookup "wrapper_descriptor" "__get__"=some (some (.builtin "wrapper_descriptor.__get__")):=by decide+kernel
theorem wf:entryFor table "wrapper_descriptor.__get__"=some Builtin.«wrapper_descriptor.__get__»:=entryFor_of_tree (by kernel_rfl)
theorem we:plainId "wrapper_descriptor.__get__"=true:=by decide+kernel
theorem yl(a b c:Value):argsOk "wrapper_descriptor.__get__" {pos:=[a,b,c]}:=by kernel_rfl
theorem yj:builtinKind "wrapper_descriptor.__get__"=some .slot:=by decide+kernel
theorem wc:splitId "wrapper_descriptor.__get__"=some ("wrapper_descriptor","__get__"):=by decide+kernel
theorem yi:isInstance ka (.type "wrapper_descriptor")=pure true:=by
 unfold isInstance;rw[uy]
 kernel_rfl
section
variable {prog:Program} {w:World} {A:Around} {E:Value ->Shared ->Prop} {h:Heap} {g:Array GenState} {d:Drawn} {t:Nat} {os:OsState} {e C:Addr} {oe:Obj}
theorem jZ{α:Type}{M:Model}{x:Sem α}{a:α}{Q:α ->Shared ->Prop}{s:Shared}(h:x=pure a)(q:Q a s):wpAny M A x Q E s:=h▸wpAny_pure q
theorem zP{Q:Value ->Shared ->Prop}(hoe:h.get? e=some oe)(hce:oe.cls= .ref C)(hs:bW (model prog w) h (isSubtype (.ref C) (.type "ValueError")) true)
  (hq:Q (.ref h.objs.size) ⟨h.push {cls:= .type "method-wrapper",data:= .fields #[ka,.ref e]},g,d,t,os⟩):
  wpAny (model prog w) A (call (.builtin "wrapper_descriptor.__get__") [ka,.ref e,.ref C]) Q E ⟨h,g,d,t,os⟩:=by
 refine wpAny_call (codeAny_call_builtin we wf ?_);simp only[checkBuiltinCall,yj,wc];refine wpAny_bind ?_;rw[yi];refine wpAny_pure ?_;rw[if_neg (by decide)];refine jZ (yl ka (.ref e) (.ref C)) ?_;unfold Builtin.«wrapper_descriptor.__get__»;refine wpAny_bind (wpAny_pure ?_);dsimp only;have hcut:".".intercalate ("ValueError.__init__".cutAt '.').dropLast="ValueError":=by decide+kernel
 have hs':bW (model prog w) h (isSubtype oe.cls (Value.type (".".intercalate ("ValueError.__init__".cutAt '.').dropLast))) true:=by
  rw[hcut,hce];exact hs
 refine fun Γ p hΓ=>⟨oe,hoe,?_⟩
 refine(wpAny_bind (wpAny_bind (hs'.at ?_)):wpAny (model prog w) A.in1 ((isSubtype oe.cls (Value.type (".".intercalate ("ValueError.__init__".cutAt '.').dropLast))>>=_)>>=_) _ _ ⟨h,g,d,t,os⟩) Γ p hΓ;rw[if_neg (by decide)];refine wpAny_pure ?_;refine wpAny_bind ?_;show wpAny (model prog w) A.in1 (newObj (.type "method-wrapper") (.fields #[ka,.ref e])) _ _ _
 refine wpAny_newObj_type ?_ (by show 2<=_;decide)
 exact wpAny_pure hq
end
end L2
namespace L2
section
variable {prog:Program} {w:World} {A:Around} {E:Value ->Shared ->Prop} {h:Heap} {g:Array GenState} {d:Drawn} {t:Nat} {os:OsState} {e C so:Addr} {oe:Obj} {K:ag}
 {nm q:Str} {N:Addr} {bs bm:List Value} {hdct:Bool} {sn:List Str} {sub:List Value} {ab:Bool} {col:Option Bool} {dd:Option Addr} {k0 k1 k2 k3 k5:Option Value} {nid:String}
theorem wl{tk:Tok}{Q:iM ->Shared ->Prop}(X:K.In h)(hso:h.get? so=some {cls:= .type "super",data:= .fields #[.ref C,.ref e,.ref C]})(hC:h.get? C=some (excClassObj nm q C N bs bm hdct sn sub ab col dd k0 k1 k2 k3 k5 nid))
  (hal:d8 K "__init__" bm=some (some ka)) (hop:bW (model prog w) h (opaqueClassAbove (.ref C)) none) (hoe:h.get? e=some oe) (hce:oe.cls= .ref C) (hs:bW (model prog w) h (isSubtype (.ref C) (.type "ValueError")) true) (hne:e≠C)
  (hq:Q (.done (.ret (.ref h.objs.size))) ⟨h.push {cls:= .type "method-wrapper",data:= .fields #[ka,.ref e]},g,d,t,os⟩):
  wpAny (model prog w) A (Builtin.«super.__getattribute__» ⟨[.ref so,.str "__init__" tk],[]⟩) Q E ⟨h,g,d,t,os⟩:=by
 unfold Builtin.«super.__getattribute__»;dsimp only[asStr?];refine wpAny_bind (wpAny_pure ?_);rw[if_neg (by decide)];refine wpAny_bind (wpAny_pure ?_);dsimp only;refine wpAny_bind (wpAny_field (x:= .ref C) hso rfl rfl ?_);refine wpAny_bind (wpAny_field (x:= .ref e) hso rfl rfl ?_);refine wpAny_bind (wpAny_field (x:= .ref C) hso rfl rfl ?_);rw[if_neg (by rw[show(Value.ref C==Value.none)=false from rfl];decide)]
 refine wpAny_bind (ks_wpAny_notOpaque hop ?_);rw[if_neg (by rw[show(Value.ref C==Value.type "module")=false from rfl];decide)]
 refine wpAny_bind (wpAny_mroOf_exc hC ?_);have hdr:List.drop 1 (List.dropWhile (fun x=>x !=Value.ref C) (Value.ref C::bm))=bm:=by
  rw[List.dropWhile_cons,if_neg (by simp)];rfl
 rw[hdr];refine wpAny_bind ?_;refine ks_forIn_along X (fun _ _=>rfl) rfl ?_ hal;dsimp only;rw[uy];refine wpAny_bind (wpAny_pure ?_);have L1:bW (model prog w) h (typeLookup (.type "wrapper_descriptor") "__get__") (some (.builtin "wrapper_descriptor.__get__")):=cy X yk
 refine wpAny_bind (L1.at ?_);dsimp only;have hb:(Value.ref e==Value.ref C)=false:=by
  simpa using hne
 rw[hb,if_neg aY];refine wpAny_bind (wpAny_holding (zP hoe hce hs ?_));exact wpAny_bind (wpAny_pure (wpAny_pure (wpAny_pure hq)))
theorem tV{pl:Sem Bool}{Q:Value×List Value ->Shared ->Prop}(X:K.In h)(hso:h.get? so=some {cls:= .type "super",data:= .fields #[.ref C,.ref e,.ref C]})(hC:h.get? C=some (excClassObj nm q C N bs bm hdct sn sub ab col dd k0 k1 k2 k3 k5 nid))
  (hal:d8 K "__init__" bm=some (some ka)) (hop:bW (model prog w) h (opaqueClassAbove (.ref C)) none) (hoe:h.get? e=some oe) (hce:oe.cls= .ref C) (hs:bW (model prog w) h (isSubtype (.ref C) (.type "ValueError")) true) (hne:e≠C)
  (hq:Q (.ref h.objs.size,[]) ⟨h.push {cls:= .type "method-wrapper",data:= .fields #[ka,.ref e]},g,d,t+1,os⟩):
  wpAny (model prog w) A (getMethod (.ref so) "__init__" pl) Q E ⟨h,g,d,t,os⟩:=by
 have L0:bW (model prog w) h (typeOf (.ref so)) (.type "super"):=(cq hso).andThen .now
 unfold getMethod specialOf;refine wpAny_bind (wpAny_bind (L0.at ?_));refine jZ F.ks_slot_super_ga.lookup ?_;dsimp only;rw[if_pos F.ks_canon_super_ga];unfold getAttr;refine wpAny_bind (wpAny_bind (wpAny_mkText ?_));unfold getAttrBy;refine wpAny_holding (wpAny_bind (L0.at ?_));refine wpAny_bind (jZ F.ks_slot_super_ga.lookup ?_);dsimp only;rw[if_neg (by decide)];unfold getAttrByItsOwn hookBefore;rw[if_neg (by decide)];refine wpAny_bind (wpAny_pure ?_);refine wpAny_bind (wpAny_attempt (wpAny_holding ?_));unfold callGetattribute;rw[if_neg (by decide)];unfold boundAndCalled;rw[F.ks_slot_super_ga.bind];refine wpAny_bind (wpAny_pure ?_);refine wpAny_call_entry F.ks_slot_super_ga ⟨_,hso,rfl⟩ F.ks_entry_super_ga ?_ (F.ks_gaArgs_super _ _);refine wl X hso hC hal hop hoe hce hs hne ?_;exact⟨_,rfl,wpAny_pure (wpAny_pure hq)⟩
end
end L2
namespace L2
section
variable {prog:Program} {w:World} {A:Around} {E:Value ->Shared ->Prop} {h:Heap} {g:Array GenState} {d:Drawn} {t:Nat} {os:OsState} {e C so:Addr} {oe:Obj} {K:ag}
theorem t7{e C:Addr}{oe oC:Obj}{cdC:ClassData}{b:Bool}{full short:String}{mc:Manifest.Machinery}{ps:List Manifest.Param}{Q:String ->Shared ->Prop}(hC:h.get? C=some oC)(hcC:oC.data= .cls cdC)(hoe:h.get? e=some oe)(hce:oe.cls= .ref C)
  (hq:∀x,Q x ⟨h,g,d,t,os⟩):wpAny (model prog w) A (Bind.printed "*" b {machinery:=mc,full:=full,short:=short,receiver:= .self,params:=ps} (some (.ref e))) Q E ⟨h,g,d,t,os⟩:=by
 have L0:bW (model prog w) h (typeOf (.ref e)) (.ref C):=hce▸(cq hoe).andThen .now
 unfold Bind.printed;rw[if_neg (by decide)];dsimp only;unfold Bind.receiverType;dsimp only;rw[if_neg (by decide)];refine wpAny_bind (L0.at ?_);unfold typeNameWhole classData;refine wpAny_bind (wpAny_bind (wpAny_bind (wpAny_load hC ?_)));rw[hcC];exact wpAny_pure (wpAny_pure (wpAny_pure (hq _)))
theorem yP{mw e t0:Addr}{arg:Value}{C:Addr}{oC:Obj}{cdC:ClassData}(hC:h.get? C=some oC)(hcC:oC.data= .cls cdC){Q:Value ->Shared ->Prop}(hmw:h.get? mw=some {cls:= .type "method-wrapper",data:= .fields #[ka,.ref e]})(hoe:h.get? e=some {cls:= .ref C,data:= .fields #[.ref t0,.none,.none,.none,.bool false,.none]})
  (hq:∀h',(∀b o,b≠e ->h.get? b=some o ->h'.get? b=some o) ->h'.get? e=some {cls:= .ref C,data:= .fields #[.ref h.objs.size,.none,.none,.none,.bool false,.none]} ->h.objs.size<=h'.objs.size ->Q .none ⟨h',g,d,t,os⟩):
  wpAny (model prog w) A (call (.ref mw) [arg]) Q E ⟨h,g,d,t,os⟩:=by
 have FB:=F.excBase_ValueError
 refine wpAny_call (codeAny_of_tree ?_);show wpAny _ _ (callAny (.ref mw) ⟨[arg],[]⟩) _ _ _
 unfold callAny;dsimp only;refine wpAny_bind (wpAny_load hmw ?_);dsimp only;rw[if_pos (by decide)];show wpAny _ _ (do
  checkBoundCall "ValueError.__init__" ⟨[.ref e,arg],[]⟩
  again (.builtin "ValueError.__init__" ⟨[.ref e,arg],[]⟩)) _ _ _
 refine wpAny_bind ?_;unfold checkBoundCall;rw[FB.initRow];dsimp only;rw[FB.initKind];dsimp only;rw[if_pos (by decide)];refine wpAny_mono (?_:wpAny _ _ _ (fun _ s'=>s'=⟨h,g,d,t,os⟩) _ _) ?k (fun _ _ z=>z)
 case k=>
  rintro _ _ rfl;refine wpAny_pure ⟨Code.quiet_builtin _ (by decide+kernel),?_⟩;refine codeAny_builtin FB.initEntry ?_;unfold Builtin.«BaseException.__init__»;dsimp only;rw[if_neg (by decide)];refine wpAny_bind (wpAny_newTuple ?_ (by show 1<=_;decide))
  unfold Builtin.BaseException.bexcPut;have h1:=Heap.get?_push_of_some ({cls:=Value.type "tuple",data:=Data.seq #[arg]}:Obj) hoe
  refine wpAny_bind (wpAny_bind (wpAny_field (x:= .ref t0) h1 rfl rfl ?_));refine wpAny_bind (wpAny_setField h1 rfl (by show 0<6;decide) ?_)
  dsimp only;unfold letGo;refine wpAny_bind (wpAny_point ?_);unfold letGo;refine wpAny_pure (wpAny_pure (hq _ (fun b o hb q=>Heap.get?_update_of_ne _ (Ne.symm hb) (Heap.get?_push_of_some _ q)) ?_ ?_))
  ·rw[Heap.get?_update_self _ h1]
   ·rfl
   ·rfl
  ·rw[Heap.size_update,Heap.size_push];exact ir _
 unfold Bind.checkArgs;dsimp only;refine wpAny_bind (t7 hC hcC hoe rfl fun x=> ?_);refine wpAny_bind (wpAny_pure ?_);exact wpAny_onRaise (jZ (check_star_args _ _ _ _ _ _) rfl)
end
end L2
namespace L2
section
variable {prog:Program} {w:World} {A:Around} {E:Value ->Shared ->Prop} {h:Heap} {g:Array GenState} {d:Drawn} {t:Nat} {os:OsState} {env:Env}
theorem xh{mw e:Addr}{x:Str}{n:Nat}{q pos:Pos}{Q:Value ->Shared ->Prop}(hmw:h.get? mw=some {cls:= .type "method-wrapper",data:= .fields #[ka,.ref e]})
  (hq:∀tk,wpAny (model prog w) A (call (.ref mw) [.str x tk]) Q E ⟨h,g,d,t+1,os⟩):
  wpAny (model prog w) A (callWith pos (.ref mw) [] (backTo pos (starEach [.Constant (.str x) n q] env)) []) Q E ⟨h,g,d,t,os⟩:=by
 unfold callWith;refine wpAny_bind (wpAny_holding ?_);show wpAny _ _ (evalArgs (.ref mw) true [(false,eval (.Constant (.str x) n q) env)] []) _ _ _
 refine Calls.evalArgs_plain ?_;refine Calls.spliced_cons (Calls.Constant_str ?_);refine Calls.spliced_nil ?_;refine wpAny_bind (wpAny_standAt ?_);refine wpAny_bind ?_;unfold keeperOf;refine wpAny_bind (wpAny_load hmw ?_);dsimp only;refine wpAny_pure ?_;show wpAny _ _ (do
  let r<-call (.ref mw) [.str x t]
  holding [r] point
  pure r) _ _ _
 refine wpAny_bind (wpAny_mono (hq t) (fun r s' hr=> ?_) fun _ _ z=>z);exact wpAny_bind (wpAny_holding (wpAny_point (wpAny_pure hr)))
end
end L2
namespace L2
section
variable {prog:Program} {w:World} {A:Around} {E:Value ->Shared ->Prop} {h:Heap} {g:Array GenState} {d:Drawn} {t:Nat} {os:OsState} {env:Env} {K:ag} {e C:Addr} {vs:Array Value}
 {nm q:Str} {N:Addr} {bs:List Value} {D:Addr} {sn:List Str} {sub:List Value} {ab:Bool} {col:Option Bool} {dd:Option Addr} {k0 k1 k2 k3 k5:Option Value} {nid:String}
theorem b1:builtinOwn "ValueError" "__setattr__"=none:=by decide+kernel
theorem b2:builtinOwn "Exception" "__setattr__"=none:=by decide+kernel
theorem b3:builtinOwn "BaseException" "__setattr__"=none:=by decide+kernel
theorem b4:builtinOwn "object" "__setattr__"=some (.builtin "object.__setattr__"):=by decide+kernel
theorem b5:Builtin.ObjectAttr.isObjects "object" (Str.toString "__setattr__")=true:=by decide+kernel
theorem u7{Q:Unit ->Shared ->Prop}(X:K.In h)(hC:h.get? C=some (excClassObj nm q C N bs (.ref D::veB) true sn sub ab col dd k0 k1 k2 k3 k5 nid))(hoe:h.get? e=some {cls:= .ref C,data:= .fields vs})(hq:Q () ⟨h,g,d,t,os⟩):
  wpAny (model prog w) A (Builtin.ObjectAttr.refuseIfOverridden (.ref e) "__setattr__") Q E ⟨h,g,d,t,os⟩:=by
 have L0:bW (model prog w) h (typeOf (.ref e)) (.ref C):=(cq hoe).andThen .now
 unfold Builtin.ObjectAttr.refuseIfOverridden;refine wpAny_bind (L0.at (wpAny_bind (wpAny_mroOf_exc hC ?_)));refine wpAny_bind ?_;rw[cP];refine wpAny_bind (wpAny_pure ?_);dsimp only;rw[cP];refine wpAny_bind (wpAny_pure ?_);dsimp only;rw[cP];dsimp only;rw[if_neg (by decide),if_neg (by decide)];unfold classOwn;dsimp only;rw[b1];refine wpAny_bind (wpAny_bind (wpAny_pure ?_));rw[if_neg (by decide)];refine wpAny_pure ?_;dsimp only;rw[cP];dsimp only;rw[if_neg (by decide),if_neg (by decide),b2];refine wpAny_bind (wpAny_bind (wpAny_pure ?_));rw[if_neg (by decide)];refine wpAny_pure ?_;dsimp only;rw[cP];dsimp only;rw[if_neg (by decide),if_neg (by decide),b3];refine wpAny_bind (wpAny_bind (wpAny_pure ?_));rw[if_neg (by decide)];refine wpAny_pure ?_;dsimp only;rw[cP];dsimp only;rw[if_neg (by decide),if_neg (by decide),b4];refine wpAny_bind (wpAny_bind (wpAny_pure ?_));rw[if_pos (by rfl),b5,if_neg (by decide)];refine wpAny_pure ?_;dsimp only;exact wpAny_pure (wpAny_pure hq)
theorem rX{v:Value}{Q:Unit ->Shared ->Prop}(X:K.In h)(hC:h.get? C=some (excClassObj nm q C N bs (.ref D::veB) true sn sub ab col dd k0 k1 k2 k3 k5 nid))(hoe:h.get? e=some {cls:= .ref C,data:= .fields vs})
  (hst:bg K (.ref C) "__setattr__"=some (some (.builtin "object.__setattr__"))) (hat:bg K (.ref C) "at"=some none) (hob:bZ K C (.type "object")=some true)
  (hq:∀(h':Heap) (t':Nat) (dx:Addr),(∀b o,b≠e ->h.get? b=some o ->h'.get? b=some o) ->h.get? dx=none ->h'.get? e=some {cls:= .ref C,dict:=some dx,data:= .fields vs} ->h'.Ns1 dx (fun x=>if x="at" then some v else none) ->Q () ⟨h',g,d,t',os⟩):
  wpAny (model prog w) A (setAttr (.ref e) "at" v) Q E ⟨h,g,d,t,os⟩:=by
 have L0:bW (model prog w) h (typeOf (.ref e)) (.ref C):=(cq hoe).andThen .now
 have L1:=cy (M:=model prog w) X hst
 have L2:=cy (M:=model prog w) X hat
 have L3:=dP (M:=model prog w) X hob
 unfold setAttr;refine wpAny_bind (wpAny_mkText ?_);refine wpAny_bind ?_;unfold callSpecial? specialOf;refine wpAny_bind (wpAny_bind (L0.at (L1.at ?_)));refine wpAny_holding ?_;rw[F.slot_object_setattr.bind];refine wpAny_bind (wpAny_pure ?_);refine wpAny_bind (wpAny_call (codeAny_call_builtin F.slot_object_setattr.plain F.entry_object_setattr ?_));simp only[checkBuiltinCall,F.bk_object_setattr,F.sp_object_setattr];unfold isInstance;refine wpAny_bind (wpAny_bind (L0.at (L3.at ?_)));rw[if_neg (by decide)];refine jZ (F.args_object_setattr_3 _ _ _) ?_;unfold Builtin.«object.__setattr__»;dsimp only;rw[if_neg (by decide)];dsimp only[am,aN];refine wpAny_bind (u7 X hC hoe ?_);refine wpAny_bind (wpAny_pure ?_);refine wpAny_bind (L0.at (wpAny_bind (L2.at ?_)));refine wpAny_bind (wpAny_pure ?_);dsimp only;unfold Builtin.ObjectAttr.storeInOwnDict;refine wpAny_bind (wpAny_pure ?_);rw[if_neg (by rw[show(Value.ref C==Value.type "module")=false from rfl];decide)]
 refine wpAny_bind ?_;show wpAny _ _ (instanceDict e true) _ _ _
 unfold instanceDict classData;refine wpAny_bind (wpAny_loadPart hoe ?_);dsimp only;refine wpAny_bind (wpAny_bind (wpAny_load hC ?_));dsimp only;refine wpAny_pure ?_;rw[if_neg (by show¬((!true)=true);decide),if_neg (by show¬((!true|| !true)=true);decide)]
 refine wpAny_bind (wpAny_alloc ?_);have h1:=Heap.get?_push_of_some ({cls:=Value.type "dict",data:=Data.dict #[]}:Obj) hoe
 have h2:(h.push {cls:=Value.type "dict",data:=Data.dict #[]}).get? h.objs.size=some {cls:=Value.type "dict",data:=Data.dict #[]}:=Heap.get?_push_size _ rfl
 refine wpAny_bind (wpAny_update h1 ?_);refine wpAny_pure ?_;dsimp only;have nd:h.objs.size≠e:=Ne.symm (aQ (Heap.lt_size hoe))
 unfold Builtin.ObjectAttr.storeInDict;refine wpAny_bind (wpAny_pure (wpAny_bind ?_));have h3:=Heap.get?_update_of_ne (fun o=>({cls:=o.cls,dict:=some h.objs.size,data:=o.data,slots:=o.slots}:Obj)) (Ne.symm nd) h2
 have n0:((h.push {cls:=Value.type "dict",data:=Data.dict #[]}).update e fun o=>({cls:=o.cls,dict:=some h.objs.size,data:=o.data,slots:=o.slots}:Obj)).Ns1 h.objs.size (fun _=>none):=⟨_,_,_,h3,rfl,fun z hz=>by simp at hz,by unfold UniqKeys;simp,fun _=>rfl⟩
 refine wpAny_nsSet1 n0 fun h' hn2 hs2=> ?_
 obtain⟨oD,esD,epD,hoD,hdD,hcD⟩:=hn2.count (ns:=["at"]) (PySem.Within.cons "at" v (ns:=[]) (fun y hy=>(hy rfl).elim))
 refine wpAny_bind (wpAny_lookBehind hoD (by rw[hdD];exact pastItsLine_dict (bJ hcD (by decide))) ?_);refine wpAny_pure ?_;dsimp only;refine wpAny_pure ?_;dsimp only;refine wpAny_pure ?_;refine hq h' _ _ (fun b o hb hbo=> ?_) (Heap.get?_none_of_le (aI _)) ?_ hn2
 ·exact hs2.2 b (aQ (Heap.lt_size hbo))▸(Heap.get?_update_of_ne _ (Ne.symm hb) (Heap.get?_push_of_some _ hbo))
 ·rw[hs2.2 e (Ne.symm nd)];rw[Heap.get?_update_self _ h1]
  ·rfl
end
end L2
namespace L2
noncomputable abbrev oK(p1 p2:Pos):Arguments:={posonlyargs:=[],args:=[{arg:="self",annotation:=none,pos:=p1},{arg:="at",annotation:=none,pos:=p2}],vararg:=none,kwonlyargs:=[],kw_defaults:=[],kwarg:=none,defaults:=[]}
noncomputable abbrev n5:Scope:={kind:= .function,names:=[("self",.local),("at",.local),("__class__",.free),("super",.globalImplicit)],isGenerator:=false,isCoroutine:=false,more:=[]}
noncomputable abbrev tu(x:Str)(n:Nat)(q0 q1 q2 q3 q4 q5 q6 q7 q8 q9:Pos):List Stmt:=
 [.Expr (.Call (.Attribute (.Call (.Name "super" q0) [] [] q1) "__init__" q2) [.Constant (.str x) n q3] [] q4) q5,
  .Assign [.Attribute (.Name "self" q6) "at" q7] (.Name "at" q8) q9]
structure ExcN(prog:Program)(K:ag)(C fI:Addr):Prop where
 cls:∃(nm q:Str) (N D:Addr) (bs:List Value) (sn:List Str) (sub:List Value) (ab:Bool) (col:Option Bool) (dd:Option Addr) (k0 k1 k2 k3 k5:Option Value),
  K.lookup C=some (excClassObj nm q C N bs (.ref D::veB) true sn sub ab col dd k0 k1 k2 k3 k5 "ValueError.__new__") /\ iC K veB (.ref D::veB)=true /\ iD K N=true /\ az K N "__init__"=some (some (.ref fI)) /\
  d8 K "__init__" (.ref D::veB)=some (some ka)
 fn:∃(qual:Str) (p1 p2:Pos) (x:Str) (n:Nat) (q0 q1 q2 q3 q4 q5 q6 q7 q8 q9:Pos) (cc cda:Addr) (od an:Option Addr) (osl ccs cds:Array (Option Value)) (kV doc pm ct ccl cdl:Value) (ccd cdd:Option Addr) (vs:Array Value) (file:Str) (tf:Tok),
  K.lookup fI=some ⟨.type "function",od,.func (iw "__init__" qual (oK p1 p2) (tu x n q0 q1 q2 q3 q4 q5 q6 q7 q8 q9) n5 [("__class__",cc)] .none kV doc pm an (.ref cda) ct),osl⟩ /\
  aB K (.ref cda) qual=true /\ K.lookup cc=some ⟨ccl,ccd,.cell (some (.ref C)),ccs⟩ /\ K.lookup cda=some ⟨cdl,cdd,.fields vs,cds⟩ /\ vs[2]? =some (.str file tf) /\ (prog.main.file==file)=true /\ (prog.main.scope.names.lookup ("super":Str)).isSome=false /\
  (q2.endLine==q4.line)=true
 opq:az K cStatics "thirdparty.any"=some none
 self:bZ K C (.ref C)=some true
 sve:bZ K C (.type "ValueError")=some true
 sob:bZ K C (.type "object")=some true
 sta:bg K (.ref C) "__setattr__"=some (some (.builtin "object.__setattr__"))
 nat:bg K (.ref C) "at"=some none
section
variable {prog:Program} {w:World} {A:Around} {h:Heap} {g:Array GenState} {d:Drawn} {t:Nat} {os:OsState} {R:Result ->Shared ->Prop} {K:ag} {C fI e t0:Addr} {num:Value} {mg:Str ->Option Value} {base:Heap}
theorem ul{env:Env}{q0 q1 q2 q3 q4:Pos}{x:Str}{n:Nat}(hp:(q2.endLine==q4.line)=true):eval (.Call (.Attribute (.Call (.Name "super" q0) [] [] q1) "__init__" q2) [.Constant (.str x) n q3] [] q4) env=(do
   let ov<-attributeBase (.Call (.Name "super" q0) [] [] q1) "__init__" env (eval (.Call (.Name "super" q0) [] [] q1) env)
   standAt q2.atName
   let(f,first)<-holding [ov] (getMethod ov "__init__" (do let b<-importBound (.Call (.Name "super" q0) [] [] q1) env;pure (b.getD true)))
   callWith q4 f first (backTo q4 (starEach [.Constant (.str x) n q3] env)) []):=by
 show(do
   let ov<-attributeBase (.Call (.Name "super" q0) [] [] q1) "__init__" env (eval (.Call (.Name "super" q0) [] [] q1) env)
   standAt q2.atName
   methodCall (.Call (.Name "super" q0) [] [] q1) "__init__" q2 q4 env ov 1 (backTo q4 (starEach [.Constant (.str x) n q3] env)) [])=_
 have hq:methodCallPos true (.Call (.Name "super" q0) [] [] q1) env q2 q4=pure q4:=by
  unfold methodCallPos;rw[hp];rfl
 have hf:methodCallForm 1 (backTo q4 (starEach [.Constant (.str x) n q3] env)) []=true:=rfl
 unfold methodCall;rw[hf,hq];rfl
variable {nm qn:Str} {N D:Addr} {bs:List Value} {sn:List Str} {sub:List Value} {ab:Bool} {col:Option Bool} {dd:Option Addr} {k0 k1 k2 k3 k5:Option Value}
theorem s1{env:Env}{e cc cda:Addr}{E:Value ->Shared ->Prop}{q0 q1 q2 q3 q4 q5:Pos}{x:Str}{n:Nat}{body:List Stmt}{Q:Flow ->Shared ->Prop}{fd:FuncData}{of oc:Obj}{ar:Arg}{vs:Array Value}{file:Str}{tf:Tok}
  {m:Str ->Option Value} {t0:Addr}
  (ksup:env.kindOf "super"=some .globalImplicit) (kcl:env.kindOf "__class__"=some .free) (kfn:env.scope.kind= .function) (kse:env.kindOf "self"=some .local) (hfn:env.func=some fI) (hf:h.get? fI=some of) (hfd:of.data= .func fd) (har:(fd.params.posonlyargs++fd.params.args).head?=some ar) (hself:ar.arg="self")
  (hcode:env.code= .ref cda) (hcda:h.get? cda=some oc) (hoc:oc.data= .fields vs) (hfile:vs[2]? =some (.str file tf)) (hmain:(prog.main.file==file)=true) (hsn:(prog.main.scope.names.lookup ("super":Str)).isSome=false)
  (hL:h.Ns env.locals m) (hm:m "self"=some (.ref e)) (hcc:env.cells.lookup ("__class__":Str)=some cc) (hcell:h.IsCell cc (some (.ref C))) (M:Mod K mg h) (hg:env.globals=mainGlobals) (hb:env.builtins=builtinsNs) (hsup:mg "super"=none)
  (X:K.In h) (hC:h.get? C=some (excClassObj nm qn C N bs (.ref D::veB) true sn sub ab col dd k0 k1 k2 k3 k5 "ValueError.__new__")) (hoe:h.get? e=some {cls:= .ref C,data:= .fields #[.ref t0,.none,.none,.none,.bool false,.none]})
  (T:ExcN prog K C fI) (hal:d8 K "__init__" (.ref D::veB)=some (some ka)) (hne:e≠C)
  (hp:(q2.endLine==q4.line)=true) (hi:interactive env=false) (hsw:swapsWith (.Call (.Attribute (.Call (.Name "super" q0) [] [] q1) "__init__" q2) [.Constant (.str x) n q3] [] q4) none q5.line env=pure false)
  (hQ:∀(h':Heap) (t':Nat) (t2:Addr),(∀b o,b≠e ->h.get? b=some o ->h'.get? b=some o) ->h'.get? e=some {cls:= .ref C,data:= .fields #[.ref t2,.none,.none,.none,.bool false,.none]} ->Q .next ⟨h',g,d,t',os⟩):
  iF (model prog w) A (.func body env) (exec (.Expr (.Call (.Attribute (.Call (.Name "super" q0) [] [] q1) "__init__" q2) [.Constant (.str x) n q3] [] q4) q5) env) Q E ⟨h,g,d,t,os⟩:=by
 have X:=X
 refine ks_wpAt_Expr_any ?_ hi hsw;refine ks_wpAt_MethodCall ?_ (ul hp);refine ks_wpAt_super_base ksup kcl (by decide) hfn hf hfd har hcode hcda hoc hfile hmain hsn ?_;obtain⟨mb,hb1,hb2⟩:=M.blt
 refine PySem.W.ks_loadName_global kfn ksup (Calls.loadGlobal_builtin (by rw[hg];exact M.glob) hsup (by rw[hb];exact hb1) (by rw[hb2 _ (by decide)];rfl) ⟨rfl,?_⟩);refine wpAny_loadName_free kfn kcl hcc hcell ?_;rw[hself];refine wpAny_loadName_local kfn kse hL hm ?_;refine ks_wpAny_isType_cls hC rfl ⟨rfl,?_⟩;refine ks_wpAny_call_super hC rfl hoe rfl (fun c z=>nomatch z) (dP X T.self) fun h' hso kp=> ?_
 have X1:K.In h':=X.keeps kp
 refine tV X1 hso (kp _ _ hC) hal (PySem.W.looks_opaque X1 T.opq) (kp _ _ hoe) rfl (dP X1 T.sve) hne ?_;have h2:(h'.push {cls:= .type "method-wrapper",data:= .fields #[ka,.ref e]}).get? h'.objs.size=some {cls:= .type "method-wrapper",data:= .fields #[ka,.ref e]}:=Heap.get?_push_size _ rfl
 refine xh h2 fun tk=> ?_
 refine yP (Heap.get?_push_of_some _ (kp _ _ hC)) rfl h2 (Heap.get?_push_of_some _ (kp _ _ hoe)) fun h3 k3 he3 sz=> ?_
 exact hQ h3 _ _ (fun b o hb q=>k3 b o hb (Heap.get?_push_of_some _ (kp _ _ q))) he3
theorem wR{num:Value}(T:ExcN prog K C fI)(X:K.In h)(M:Mod K mg h)(hdep:A.depth<recursionLimit)(hsup:mg "super"=none)(hKe:∀a o,K.lookup a=some o ->a≠e)
  (he:h.get? e=some {cls:= .ref C,data:= .fields #[.ref t0,.none,.none,.none,.bool false,.none]})
  (hR:∀(h':Heap) (t':Nat) (dx t2:Addr),(∀b o,b≠e ->h.get? b=some o ->h'.get? b=some o) ->h.get? dx=none ->h'.get? e=some {cls:= .ref C,dict:=some dx,data:= .fields #[.ref t2,.none,.none,.none,.bool false,.none]} ->
   h'.Ns1 dx (fun x=>if x="at" then some num else none) ->R (.ok (.ret .none)) ⟨h',g,d,t',os⟩):
  codeAny (model prog w) A (.call (.ref fI) ⟨[.ref e,num],[]⟩) R ⟨h,g,d,t,os⟩:=by
 obtain⟨nm,q,N,D,bs,sn,sub,ab,col,dd,k0,k1,k2,k3,k5,lC,tl,nok,nin,hal⟩:=T.cls
 obtain⟨qual,p1,p2,x,n,q0,q1,q2,q3,q4,q5,q6,q7,q8,q9,cc,cda,od,an,osl,ccs,cds,kV,doc,pm,ct,ccl,cdl,ccd,cdd,vs,file,tf,lf,lcd,lcc,lcda,hfile,hmain,hsn,hp⟩:=T.fn
 have hf:=X _ _ lf
 have hC:=X _ _ lC
 have hne:e≠C:=fun z=>by
  rw[z,hC] at he;cases he
 refine ks_codeAny_call_defAt (binds:=[("self",.ref e),("at",num)]) hdep hf rfl M.nolimit (gJ X lcd) rfl (.of_eq rfl) ?_ (fun y hy=> ?_) (fun h₀ hL kp=> ?_)
 ·intro y hy;simp only[iw,n5,av,aD,or_false] at hy;rcases hy with rfl|rfl|rfl|rfl<;>(intro z;cases z)
 ·simp only[av,aD,or_false] at hy;rcases hy with rfl|rfl<;>rfl
 ·have X0:K.In h₀:=X.keeps kp
  have M0:Mod K mg h₀:=⟨X0,M.glob.keeps kp,by obtain⟨mb,z1,z2⟩:=M.blt;exact⟨mb,z1.keeps kp,z2⟩,M.nolimit.keeps kp⟩
  refine ks_wpAt_execs_cons ?_;refine s1 (A:=A.deeper _) (fI:=fI) (cda:=cda) (cc:=cc) (of:=_) (oc:=_) (fd:=_) (ar:=_) (vs:=vs) (file:=file) (tf:=tf) (nm:=nm) (qn:=q) (N:=N) (D:=D) (by rfl) (by rfl) rfl (by rfl) rfl (kp _ _ hf) rfl rfl rfl rfl (X0 _ _ lcda) rfl hfile hmain hsn hL rfl rfl ⟨_,X0 _ _ lcc,rfl⟩ M0 rfl rfl hsup X0 (kp _ _ hC) (kp _ _ he) T hal hne hp rfl rfl ?_;intro h1 t1 t2 kp1 he1;show iF _ _ _ (execs [_] _) _ _ _
  have X1:K.In h1:=fun a o la=>kp1 _ _ (hKe a o la) (X0 _ _ la)
  have neL:h.objs.size≠e:=Ne.symm (aQ (Heap.lt_size he))
  have hL1:h1.Ns h.objs.size (fun x=>List.lookup x [(("self":Str),Value.ref e),("at",num)].reverse):=by
   obtain⟨o,es,ep,ho,r⟩:=hL
   exact⟨o,es,ep,kp1 _ _ neL ho,r⟩
  refine ks_wpAt_execs_cons (ks_wpAt_Assign_Attr ?_ rfl);refine gH ?_;refine wpAny_Name (wpAny_loadName_local rfl (by rfl) hL1 rfl ?_) (by decide);refine wpAny_Name (wpAny_loadName_local rfl (by rfl) hL1 rfl ?_) (by decide);refine rX X1 (X1 _ _ lC) he1 T.sta T.nat T.sob fun h2 t3 dx k2 hdx he2 hns=> ?_
  show iF _ _ _ (execs [] _) _ _ _
  refine gH (wpAny_pure ?_);refine hR h2 t3 dx t2 (fun b o hb q=>k2 b o hb (kp1 b o hb (kp b o q))) ?_ he2 hns;cases hz:h.get? dx with
  |none=>rfl
  |some o=>
   by_cases hb:dx=e
   ·rw[hb,he1] at hdx;cases hdx
   ·rw[kp1 _ _ hb (kp _ _ hz)] at hdx;cases hdx
end
end L2
namespace L2
open PySem PySem.Spec PyProof.Rows
theorem HOk.none_of{P:Program}{w:World}{H:Hp}{h:Heap}{a:Addr}(ok:HOk P w H h)(e:h.get? a=none):H a=none:=by
 cases q:H a with
 |none=>rfl
 |some u=>
  obtain⟨o,ho⟩:=(ok a u q).there
  rw[e] at ho;cases ho
theorem Inv.newly{X:Cx}{pins:List (Addr×Obj)}{σ:St}{H:Hp}{s:Shared}{h':Heap}{t':Nat}{a:Addr}{o:HO}(I:Inv X pins σ H s)(k:∀b u,s.heap.get? b=some u ->h'.get? b=some u)(hn:s.heap.get? a=none)
  (new:ObjOk X.prog X.w (upd H a o) h' a o):Inv X pins σ (upd H a o) {s with heap:=h',toks:=t'}:=by
 have ne:∀b u,s.heap.get? b=some u ->b≠a:=fun b u q z=>by
  rw[z,hn] at q;cases q
 refine Inv.track (I.kept (t':=t') k) (I.hok.none_of hn) (fun b u q hx=> ?_) ?_ (fun x c q=> ?_) (fun p hp=> ?_) new
 ·obtain⟨o1,q1⟩:=I.base.there b u q hx
  exact ne b o1 q1
 ·obtain⟨m,⟨oL,es,ep,hoL,_⟩,_⟩:=I.loc
  exact ne _ _ hoL
 ·obtain⟨v,oc,hoc,_⟩:=I.cell x c q
  exact ne _ _ hoc
 ·obtain⟨q1,_⟩:=I.pin p hp
  exact ne _ _ q1
theorem t6{M:Model}{A:Around}{E:Value ->Shared ->Prop}{env:Env}{nm q:Str}{C N:Addr}{bs bm:List Value}{hdct:Bool}{sn:List Str}{sub:List Value}{ab:Bool}{col:Option Bool}{dd:Option Addr}{k0 k1 k2 k3 k5:Option Value}{newId:String}{s:Shared}{x:Sem Value}{Q:Flow ->Shared ->Prop}
  (hb:bm.contains (Value.type "BaseException")=true) (hh:A.handled=none)
  (hx:wpAny M A x (fun v s₁=>∃e oe vs,v= .ref e /\ s₁.heap.get? C=some (excClassObj nm q C N bs bm hdct sn sub ab col dd k0 k1 k2 k3 k5 newId) /\ s₁.heap.get? e=some oe /\ oe.cls= .ref C /\ oe.data= .fields vs /\ vs[1]? =some .none /\ E (.ref e) s₁) E s):
  wpAny M A (raiseStmt env (some x) none) Q E s:=by
 unfold raiseStmt;refine wpAny_bind (wpAny_mono hx (fun v s1 h=> ?_) fun _ _ z=>z);obtain⟨e,oe,vs,rfl,hC,hoe,hce,hde,hv,hE⟩:=h
 obtain⟨h,g,d,t,os⟩:=s1
 have L0:bW M h (typeOf (.ref e)) (.ref C):=hce▸(cq hoe).andThen .now
 have L1:bW M h (typeOf (.ref C)) (.type "type"):=(cq hC).andThen .now
 have nc:∀c:ClassData,oe.data≠ .cls c:=fun c z=>by rw[hde] at z;cases z
 refine wpAny_bind (wpAny_pure ?_);refine wpAny_bind (wpAny_holding ?_);unfold excFromValue isExcClass;refine wpAny_bind (wpAny_bind (ks_wpAny_isType_inst hoe nc ?_));rw[if_neg aY];refine wpAny_pure ?_;rw[if_neg aY];unfold isInstance;refine wpAny_bind (wpAny_bind (L0.at (wpAny_isSubtype_exc hC ?_)));rw[show(Value.ref C::bm).contains (Value.type "BaseException")=true by simp only[gM,hb,Bool.or_true],if_pos rfl];refine wpAny_pure ?_;dsimp only;refine wpAny_bind (ks_wpAny_isType_inst hoe nc ?_);rw[if_neg aY];unfold raisedInstance;refine wpAny_bind (wpAny_bind (L0.at (wpAny_bind (L1.at ?_))));rw[if_pos (by rfl)];refine wpAny_pure ?_;unfold setFlight;refine wpAny_bind (wpAny_bind (wpAny_field hoe hde hv ?_));rw[if_neg (by decide)];refine wpAny_pure ?_;unfold raiseNew;refine wpAny_bind (wpAny_handled ?_);rw[hh];exact wpAny_throw hE
noncomputable def v8(X:Cx)(E:XK):Prop:=∀(pins:List (Addr×Obj)) (σ:St) (H:Hp) (s:Shared) (h':Heap) (t':Nat) (e dx C t2:Addr) (v:V) (num:Value),Inv X pins σ H s ->(∀b o,s.heap.get? b=some o ->h'.get? b=some o) ->s.heap.get? e=none ->s.heap.get? dx=none ->
 h'.get? e=some {cls:= .ref C,dict:=some dx,data:= .fields #[.ref t2,.none,.none,.none,.bool false,.none]} ->h'.Ns1 dx (fun x=>if x="at" then some num else none) ->RelV v num ->E (.ref C) (some dx) (upd H dx (.xd [("at",v)])) ->X.xe (.ref e) {s with heap:=h',toks:=t'}
section
variable {P:Program} {w:World} {K:ag} {mg:Str ->Option Value} {base:Heap} {N:List Str} {qual:Str} {scope:Scope} {f:Addr} {cd:Value} {A:Around} {outer:List Env} {s:Shared} {H:Hp} {E:XK}
theorem A7{P:Program}{w:World}{H:Hp}{h:Heap}{dx:Addr}{v:V}{num:Value}(hn:h.Ns1 dx (fun x=>if x="at" then some num else none))(r:RelV v num):ObjOk P w H h dx (.xd [("at",v)]):=by
 refine⟨_,hn,fun f=> ?_⟩
 by_cases hf:f="at"
 ·subst hf;exact r
 ·rw[if_neg hf,cB,show(f==("at":Str))=false from beq_eq_false_iff_ne.mpr hf];trivial
theorem Ay:v8 (lA (CXE P w) P w K mg base N qual scope f cd A outer s H E) E:=by
 intro pins σ H1 s1 h' t' e dx C t2 v num I kp hne hnd he hns rv hE;have J:Inv (lA (CXE P w) P w K mg base N qual scope f cd A outer s H E) pins σ (upd H1 dx (.xd [("at",v)])) {s1 with heap:=h',toks:=t'}:=I.newly kp hnd (A7 hns rv)
 have neL:∀b o,s.heap.get? b=some o ->b≠s.heap.objs.size:=fun b o q=>aQ (Heap.lt_size q)
 have old:∀b o,s1.heap.get? b=some o ->b≠e:=fun b o q z=>by
  rw[z,hne] at q;cases q
 have hB:∀b o,h'.get? b=some o ->b∉e::frs (lA (CXE P w) P w K mg base N qual scope f cd A outer s H E).stack ->(bU h' (e::frs (lA (CXE P w) P w K mg base N qual scope f cd A outer s H E).stack)).get? b=some o:=fun b o q hb=>fw _ q hb
 have bs:(bU h' (e::frs (lA (CXE P w) P w K mg base N qual scope f cd A outer s H E).stack)).StaysIn h':=fun b o q=>fF _ q
 have hBe:(bU h' (e::frs (lA (CXE P w) P w K mg base N qual scope f cd A outer s H E).stack)).get? e=none:=gA _ cT
 have W:=kd_leaving.any (wpAny_leaving_firstW (M:=model P w) (E:=fun _ _=>False) (s:={s1 with heap:=h',toks:=t'}) (base:=bU h' (e::frs (lA (CXE P w) P w K mg base N qual scope f cd A outer s H E).stack))
  (Q:=fun _ s2=>∃h2,s2={s1 with heap:=h2,toks:=t'} /\ Heap.LeftW (bU h' (e::frs (lA (CXE P w) P w K mg base N qual scope f cd A outer s H E).stack)) (lA (CXE P w) P w K mg base N qual scope f cd A outer s H E).stack e (.ref C) (.ref t2) h' h2)
  I.ok.frames (gf J.stack fun env he' a ha=>ba _ (dY.mpr ⟨env,he',ha⟩)) rfl he bs hBe rfl rfl rfl fun h2 z=>⟨h2,rfl,z⟩)
 refine wpAny_mono W (fun _ s2 hq=> ?_) fun _ _ z=>z.1.elim
 obtain⟨⟨h2,rfl,l1,l2,l3,l4⟩,dk⟩:=hq
 have c1:∀b u,upd H1 dx (.xd [("at",v)]) b=some u -> ∃o,(bU h' (e::frs (lA (CXE P w) P w K mg base N qual scope f cd A outer s H E).stack)).get? b=some o:=fun b u q=>by
  obtain⟨o,ho⟩:=(J.hok b u q).there
  refine⟨o,hB b o ho fun z=> ?_⟩;rcases av.mp z with z|z
  ·have q2:=q
   rw[z] at q2;unfold upd at q2;split at q2
   ·rename_i hz
    obtain⟨oD,es,ep,hoD,hdD,_⟩:=hns
    rw[<-hz,he] at hoD;cases hoD;cases hdD
   ·rw[I.hok.none_of hne] at q2;cases q2
  ·rw[J.stkFree b z] at q;cases q
 have c2:∀b o,s1.heap.get? b=some o ->b∉frs (lA (CXE P w) P w K mg base N qual scope f cd A outer s H E).stack -> ∃o',(bU h' (e::frs (lA (CXE P w) P w K mg base N qual scope f cd A outer s H E).stack)).get? b=some o':=fun b o q hb=>
  ⟨o,hB b o (kp b o q) fun z=>(av.mp z).elim (old b o q) hb⟩
 have fl:Heap.FlyingW (bU h' (e::frs (lA (CXE P w) P w K mg base N qual scope f cd A outer s H E).stack)) outer e (.ref C) (.ref t2) h2:=⟨l1,hBe,l2.2.2,l3⟩
 have c2':∀b o,h'.get? b=some o ->b∉e::frs (lA (CXE P w) P w K mg base N qual scope f cd A outer s H E).stack -> ∃o',(bU h' (e::frs (lA (CXE P w) P w K mg base N qual scope f cd A outer s H E).stack)).get? b=some o':=fun b o q hb=>⟨o,hB b o q hb⟩
 have un1:Un (frs (lA (CXE P w) P w K mg base N qual scope f cd A outer s H E).stack) [] H1 (upd H1 dx (.xd [("at",v)])) s1.heap h':=⟨fun b o q _ _ _=>kp b o q,fun b o q _ _ _=>⟨o.slots,kp b o q⟩,fun b o q n _=>by
   rw[jd fun z=>by rw[z,hnd] at q;cases q];exact n,fun b o q _=>⟨o,kp b o q⟩,fun b xs q=>by
   rw[jd fun z=>by rw[z,I.hok.none_of hnd] at q;cases q];exact q,fun b o xs q=>by
   rw[jd fun z=>by rw[z,I.hok.none_of hnd] at q;cases q];exact q,fun b ps q=>⟨#[],by
    rw[jd fun z=>by rw[z,I.hok.none_of hnd] at q;cases q]
    simpa using q⟩⟩
 refine⟨e,C,.ref t2,_,_,some dx,rfl,I.os,I.bare,?_,pX J.hok bs l1 c1,fl,c1,fun b o q hb=> ?_,?_,hE⟩
 ·exact Un.under (L:=s.heap.objs.size) I.base (tz un1 bs l1 l4 c2 I.hfs) neL
 ·obtain⟨o1,q1⟩:=I.base.there b o q (fun z=>nomatch z)
  exact c2 b o1 q1 fun z=>(av.mp z).elim (neL b o q) hb
 ·obtain⟨o',h3,h4⟩:=dk e _ he
  exact⟨o',h3,fun dx' z=>by cases z;exact h4⟩
end
theorem vK{name:Str}:∀{l:List DictEntry} {e:DictEntry},List.find? (fun y=>y.key.isStr name) l=some e ->findBy (fun n v=>v.isStr n) l.toArray name=some e.val:=by
 intro l e h;unfold findBy;simp only[List.find?_toArray,List.findIdx?_toArray]
 first
  |rw[h];rfl
  |simp[h]
theorem Be{K:ag}{h:Heap}{N:Addr}{m:Str ->Option Value}{x:Str}{v:Value}(X:K.In h)(hN:h.Ns N m)(hx:az K N x=some (some v)):m x=some v:=by
 unfold az at hx;split at hx
 ·rename_i c d es ep sl ho
  obtain⟨o,es',ep',ho',hd,hr⟩:=hN
  have e:=(X _ _ ho).symm.trans ho'
  cases e;cases hd;rw[<-hr.2 x];unfold nsFind;cases hf:List.find? (fun y=>y.key.isStr x) es.toList with
  |none=>
   rw[hf] at hx;dsimp only at hx;split at hx<;>cases hx
  |some e=>
   rw[hf] at hx;cases hx;exact vK hf
 ·cases hx
noncomputable def nI(C:Addr)(E:XK)(t:TA):TS:=fun _ σ H=>t σ H fun vs H1=>∃v,vs=[v] /\ ∀dx,H1 dx=none ->E (.ref C) (some dx) (upd H1 dx (.xd [("at",v)]))
section
variable {X:Cx} {E:XK} {C:Addr} {x:Str} {np cpos pos:Pos} {e:Expr} {es:List Expr} {t:TA} {k:Nat}
theorem qA{K:ag}(hK:X.K=K)(hM:v8 X E)(T:∃fI,ExcN X.prog K C fI)(hkp:aA K (.ref C)=true)(hg:Gl X x)(hm:X.mg x=some (.ref C))(hsup:X.mg "super"=none)(hr:Room k X.A)(ha:PA X (e::es) t)(hc:X.calm=true:=by rfl)(hdb:(x==("__debug__":Str))=false:=by decide)
  (he:starEach (e::es) X.env=(false,eval e X.env)::starEach es X.env:=by rfl) (hpl:(backTo cpos (starEach es X.env)).any (·.1)=false:=by rfl):
  PS X (.Raise (some (.Call (.Name x np) (e::es) [] cpos)) none pos) (nI C E t):=by
 subst hK;intro pins s σ H D I h;obtain⟨fI,T⟩:=T
 obtain⟨nm,qn,N,D1,bs,sn,sub,ab,col,dd,k0,k1,k2,k3,k5,lC,tl,nok,nin,hal⟩:=T.cls
 have hfI:=T.fn
 obtain⟨qual,p1,p2,x1,n1,q0,q1,q2,q3,q4,q5,q6,q7,q8,q9,cc,cda,od,an,osl,ccs,cds,kV,doc,pm,ct,ccl,cdl,ccd,cdd,vs0,file,tf,lf,_⟩:=hfI
 show wpAny _ _ (do
  standAt pos
  raiseStmt X.env (some (do
   let v<-eval (.Call (.Name x np) (e::es) [] cpos) X.env
   standAt pos
   pure v)) none) _ _ _
 refine wpAny_bind (wpAny_standAt (t6 (C:=C) (bm:= .ref D1::veB) (nm:=nm) (q:=qn) (N:=N) (bs:=bs) (hdct:=true) (sn:=sn) (sub:=sub) (ab:=ab) (col:=col) (dd:=dd) (k0:=k0) (k1:=k1) (k2:=k2) (k3:=k3) (k5:=k5) (newId:="ValueError.__new__") (by simp only[gM];rfl) (I.ok.hd hc) ?_));refine wpAny_bind (wpAny_Call_Name_kw (mT I hg hm ?_ hdb));refine fG (h₀:=X.base) I.ok.mod.kin hkp (thn (ha cpos pins s σ H _ I h) fun us s1 ⟨vs,H1,I1,r,v,ev,q⟩=>⟨I1.kIn,?_⟩) he hpl;subst ev;obtain⟨num,rfl,rv⟩:=r.one
 obtain⟨h1,g,d,t0,os⟩:=s1
 have M1:Mod X.K X.mg h1:=⟨I1.kIn,I1.mod.glob.keeps I1.bk,by obtain⟨mb,z1,z2⟩:=I1.mod.blt;exact⟨mb,z1.keeps I1.bk,z2⟩,I1.mod.nolimit.keeps I1.bk⟩
 have OT:OwnTail h1 veB (.ref D1::veB):=gL I1.kIn tl
 have hN:h1.Ns N _:= .of_isNs (gK I1.kIn nok)
 refine v5 (fI:=fI) OT (I1.kIn _ _ lC) hN (Be I1.kIn hN nin) (I1.kIn _ _ lf) rfl (fun h' e' M=> ?_) (by show 1<=sizeLine;decide)
 refine wpAny_call ?_;obtain⟨t1,he',_⟩:=M.there
 have X2:X.K.In h':=I1.kIn.keeps M.keeps
 have M2:Mod X.K X.mg h':=⟨X2,M1.glob.keeps M.keeps,by obtain⟨mb,z1,z2⟩:=M1.blt;exact⟨mb,z1.keeps M.keeps,z2⟩,M1.nolimit.keeps M.keeps⟩
 refine wR (num:=num) T X2 M2 (by rw[uc];have:=hr.dp;omega) hsup (fun a o la z=> ?_) he' fun h2 t2 dx ta kp hdx he2 hns=> ?_
 ·have:=I1.kIn _ _ la
  rw[z,M.new] at this;cases this
 refine⟨rfl,?_⟩;refine wpAny_bind (wpAny_standAt (wpAny_pure ⟨e',_,_,rfl,?_,he2,rfl,rfl,rfl,?_⟩))
 ·refine kp _ _ (fun z=> ?_) (X2 _ _ lC);have:=I1.kIn _ _ lC
  rw[z,M.new] at this;cases this
 ·have nd:h1.get? dx=none:=by
   cases hz:h1.get? dx with
   |none=>rfl
   |some o=>
    rw[M.keeps _ _ hz] at hdx;cases hdx
  exact hM pins σ H1 ⟨h1,g,d,t0,os⟩ h2 t2 e' dx C ta v num I1 (fun b o q=>kp b o (fun z=>by rw[z,M.new] at q;cases q) (M.keeps _ _ q)) M.new nd he2 hns rv (q dx (I1.hok.none_of nd))
end
end L2
namespace L2
open PySem PySem.Spec PyProof.Rows
open PySem.W PySem.Builtin PySem.Builtin.ObjectAttr
theorem uh{M:Model}{A:Around}{E:Value ->Shared ->Prop}{v:V}{u:Value}{Q:Value ->Shared ->Prop}{s:Shared}(r:RelV v u)(q:Q u s):wpAny M A (handedOut u) Q E s:=by
 cases v<;>first|(obtain⟨t,rfl⟩:=r;exact wpAny_pure q)|(cases r;exact wpAny_pure q)
section
variable {prog:Program} {w:World} {A:Around} {E:Value ->Shared ->Prop} {h:Heap} {g:Array GenState} {d:Drawn} {t:Nat} {os:OsState} {a dx:Addr} {o:Obj} {vs:Array Value} {C:Addr} {K:ag} {m:Str ->Option Value} {u:Value} {v:V}
theorem xo{tk:Tok}{Q:iM ->Shared ->Prop}(X:K.In h)(T:uv K C)(hat:findIn K (.ref C) "at"=some none)(hhd:hasDictIn K C=true)(I:IsExcD a C (some dx) h)(hn:h.Ns dx m)(hm:m "at"=some u)(hq:Q (.done (.ret u)) ⟨h,g,d,t,os⟩):
  wpAny (model prog w) A (Builtin.«object.__getattribute__» ⟨[.ref a,.str "at" tk],[]⟩) Q E ⟨h,g,d,t,os⟩:=by
 have L0:=IsExc.type (M:=model prog w) I.e
 have L1:=looks_findIn (M:=model prog w) X hat
 obtain⟨o,vs,ho,hc,hv,hd⟩:=I
 unfold Builtin.«object.__getattribute__»;refine wpAny_bind (wpAny_pure ?_);dsimp only;refine wpAny_bind (wpAny_pure ?_);refine wpAny_bind (L0.at ?_);unfold find;refine wpAny_bind (wpAny_bind (L1.at ?_));refine wpAny_bind (wpAny_pure ?_);refine wpAny_bind (wpAny_pure ?_);dsimp only;unfold ownThenClass inOwnDict;obtain⟨cdD,hcD⟩:∃cd,clsIn K C=some cd /\ cd.hasDict=true:=by
  unfold hasDictIn at hhd;cases hz:clsIn K C with
  |none=>rw[hz] at hhd;cases hhd
  |some cd=>rw[hz] at hhd;exact⟨cd,rfl,hhd⟩
 have L2:=looks_clsIn (M:=model prog w) X hcD.1
 dsimp only;refine wpAny_bind (wpAny_bind (wpAny_bind ?_));unfold loadHead;refine wpAny_loadPart ho ?_;rw[hv];show wpAny _ _ (instanceDict a false) _ _ _
 unfold instanceDict;refine wpAny_bind (wpAny_loadPart ho ?_);rw[hc,hd dx rfl];dsimp only;refine wpAny_bind (L2.at ?_);rw[hcD.2,if_neg (by decide)];refine wpAny_pure ?_;show wpAny _ _ (nsGet dx "at") _ _ _
 refine wpAny_nsGet hn ?_;rw[hm];dsimp only;refine wpAny_bind (wpAny_rule (wpAny_pure ?_));dsimp only;exact wpAny_pure hq
theorem vL{b:Bool}{Q:Value ->Shared ->Prop}(X:K.In h)(T:uv K C)(hat:findIn K (.ref C) "at"=some none)(hhd:hasDictIn K C=true)(I:IsExcD a C (some dx) h)(hn:h.Ns dx m)(hm:m "at"=some u)(r:RelV v u)(hq:∀t',Q u ⟨h,g,d,t',os⟩):
  wpAny (model prog w) A (getAttr (.ref a) "at" b) Q E ⟨h,g,d,t,os⟩:=by
 have L0:=IsExc.type (M:=model prog w) I.e
 have L1:=cy (M:=model prog w) X T.1
 have L2:=cy (M:=model prog w) X T.2.1
 have hx2:(Value.builtin "BaseException.__getattribute__"==Value.builtin "object.__getattribute__")=false:=by decide+kernel
 unfold getAttr;refine wpAny_bind (wpAny_mkText ?_);unfold getAttrBy;refine wpAny_holding (wpAny_bind (L0.at (wpAny_bind (L1.at ?_))));dsimp only;rw[hx2,gE,if_neg aY];unfold getAttrByItsOwn hookBefore;rw[show onTheHeap (Value.ref C)=true from rfl,if_pos rfl];refine wpAny_bind (L2.at (wpAny_bind (wpAny_attempt (wpAny_holding ?_))));unfold callGetattribute;rw[show onTheHeap (Value.builtin "BaseException.__getattribute__")=false from rfl,gE,if_neg aY];have f3:=F.excAttr_ValueError.ga.bind (.ref a)
 unfold boundAndCalled;rw[f3];refine wpAny_bind (wpAny_pure ?_);dsimp only;refine wpAny_call (codeAny_call_builtin F.excAttr_ValueError.ga.plain F.entry_bexc_ga (m8 X T I.e (xo X T hat hhd I hn hm ?_)));exact uh r (hq _)
end
noncomputable def tAt(K:ag)(ta:TE):TE:=fun σ H Q=>ta σ H fun x H1=>∃a C dx fs v,x= .ref a /\ H1 a=some (zM a C (some dx)) /\ uv K C /\ findIn K (.ref C) "at"=some none /\ hasDictIn K C=true /\ H1 dx=some (.xd fs) /\ fs.lookup ("at":Str)=some v /\ Q v H1
section
variable {X:Cx} {e:Expr} {pos:Pos} {ta:TE}
theorem Bc{K:ag}(hK:X.K=K)(he:PE X e ta)(hb:attributeBase e "at" X.env (eval e X.env)=eval e X.env):PE X (.Attribute e "at" pos) (tAt K ta):=by
 subst hK;intro pins s σ H Q I h;refine zr hb (thn (he pins s σ H _ I h) fun u s1 ⟨x,H1,I1,rx,a,C,dx,fs,v,ex,ea,T,hat,hhd,ed,l,q⟩=> ?_);subst ex;obtain rfl:u=Value.ref a:=rx
 obtain⟨hx,_,_⟩:=I1.hok a _ ea
 obtain⟨mA,hn,hf⟩:=I1.hok dx _ ed
 have hr:=hf "at"
 rw[l] at hr;obtain⟨h1,g,d,t,os⟩:=s1
 cases hm:mA "at" with
 |none=>
  rw[hm] at hr;exact hr.elim
 |some u=>
  rw[hm] at hr;exact vL I1.kIn T hat hhd hx hn.ns hm hr fun t'=>⟨v,H1,I1.tok t',hr,q⟩
end
end L2
namespace L2
open PySem PySem.Spec PyProof.Rows
inductive PHs(X:Cx):List ExceptHandler ->List (Addr×Nat×TS) ->Prop
 |nil {hs:List ExceptHandler}:PHs X hs []
 |cons {x n:Str} {np hpos:Pos} {b₀:Stmt} {suite:List Stmt} {hs:List ExceptHandler} {cD:Addr} {i:Nat} {th:TS} {ths:List (Addr×Nat×TS)} (hi:X.N[i]? =some n) (hl:X.env.scope.names.lookup n=some .local) (hg:Gl X x) (hm:X.mg x=some (.ref cD)) (hdb:(x==("__debug__":Str))=false)
   (hh:∀ev,PSs (X.suite ev) (b₀::suite) th):PHs X hs ths ->PHs X (.ExceptHandler (some (.Name x np)) (some n) (b₀::suite) hpos::hs) ((cD,i,th)::ths)
noncomputable def yg(K:ag)(C:Addr):List (Addr×Nat×TS) ->(Nat ->TS ->Prop) ->Prop
 |[],_=>False
 |(cD,i,th)::r,F=>(b7 K (.ref C) (.ref cD)=some true /\ F i th)∨(b7 K (.ref C) (.ref cD)=some false /\ yg K C r F)
noncomputable def zR(K:ag)(ths:List (Addr×Nat×TS))(D:Ends)(σ:St):XK:=fun cls od H'=>∃C,cls= .ref C /\ uv K C /\ yg K C ths fun i th=>∀e,H' e=none ->th (lK D i) (σ.set i (some (.ref e))) (upd H' e (zM e C od))
noncomputable def uE(K:ag)(ths:List (Addr×Nat×TS))(tb:XK ->St ->TS):TS:=fun D σ H=>tb (zR K ths D σ) σ D σ H
section
variable {X:Cx} {body:List Stmt} {h0:ExceptHandler} {hs:List ExceptHandler} {ths:List (Addr×Nat×TS)} {pos:Pos} {tb:XK ->St ->TS} {K:ag}
theorem yA(hK:X.K=K)(hb:∀(pn:List (Addr×Obj)) (W:Value ->Shared ->Prop) (E:XK) (σ0:St),sk (CXE X.prog X.w) (X.tryIn pn W) σ0 E ->PSs (X.tryIn pn W) body (tb E σ0))
  (hhs:PHs X (h0::hs) ths) (hN:X.N.Nodup) (hst:X.stack=X.env::X.outer:=by rfl) (hf:X.env.frame=some X.env.locals:=by rfl):
  PS X (.Try body (h0::hs) [] [] pos) (uE K ths tb):=by
 subst hK;intro pins s σ H D I h;refine wpAny_Try_except ?_;have hp:sk (CXE X.prog X.w) (X.tryIn (X.pn++pins) fun ev s₁=>wpAny (model X.prog X.w) X.A (noteFrame ev X.env) (fun _ s₂=>wpAny (model X.prog X.w) X.A (setFlight ev none) (fun _ s₃=>wpAny (model X.prog X.w) X.A (handleBy ev X.env (h0::hs)) (SP X pins D) X.xe s₃) X.xe s₂) X.xe s₁) σ (zR X.K ths D σ):=by
  intro pins' H1 s1 ev s' I1 hc;obtain⟨e,C,a0,B,H',od,rfl,os,bare,un,hok,fl,c1,c2,hd,C',hcc,T,hM⟩:=hc
  cases hcc;have hfr:X.A.frames=some (X.env::X.outer):=I.ok.frames.trans (by rw[hst])
  have fl1:Heap.FlyingW B (X.env::X.outer) e (.ref C) a0 s'.heap:=by
   have z:Heap.FlyingW B X.stack e (.ref C) a0 s'.heap:=fl
   rw[hst] at z;exact z
  refine wpAny_mono (kd_note.any (wpAny_looks_onW (Q:=fun _ s2=>∃h4,s2={s' with heap:=h4} /\ Heap.HeldW B (X.env::X.outer) e (.ref C) a0 X.env.locals h4 /\ s'.heap.UpToSlots h4) (E:=fun _ _=>False) hfr hf fl1 fun h4 held up4=>⟨h4,rfl,held,up4⟩)) (fun _ s2 hq=> ?_) fun _ _ z=>z.1.elim
  obtain⟨⟨h4,rfl,held,up4⟩,dk4⟩:=hq
  refine wpAny_mono (kd_flight.any (wpAny_landsW (Q:=fun _ s2=>∃h5,s2={s' with heap:=h5} /\ Heap.FlyingW B (X.env::X.outer) e (.ref C) a0 h5 /\ h4.UpToSlots h5) (E:=fun _ _=>False) held fun h5 fl5 up5=>⟨h5,rfl,fl5,up5⟩)) (fun _ s2 hq=> ?_) fun _ _ z=>z.1.elim
  obtain⟨⟨h5,rfl,fl5,up5⟩,dk5⟩:=hq
  have mk:∀h6,B.StaysIn h6 ->s'.heap.UpToSlots h6 ->Inv X pins σ H' {s' with heap:=h6}:=fun h6 st up=>by
   have J:=I1.call' (s':={s' with heap:=h6}) (ch:=[]) os (tz un fl.1 st up c2 I1.hfs) (pX hok fl.1 st c1) bare (fun b z=>nomatch z)
   exact J.tryOut
  have ne1:∀h6,Heap.FlyingW B (X.env::X.outer) e (.ref C) a0 h6 ->s'.heap.UpToSlots h6 -> ∀b o,s1.heap.get? b=some o ->b≠e:=fun h6 fl6 up b o q z=>by
   by_cases hb:b∈frs X.stack
   ·obtain⟨hn,o2,ho2,nf⟩:=I1.hfs b hb
    rw[q] at ho2;cases ho2;obtain⟨sl,e1⟩:=un.slot b o q hn hb (fun z=>nomatch z)
    obtain⟨sl',e2⟩:=up b _ e1 nf
    obtain⟨oe,vs,he,_,hd,_⟩:=fl6.first
    rw[z,he] at e2;cases e2;exact nf vs hd
   ·obtain⟨o',hB⟩:=c2 b o q hb
    rw[z,fl6.2.1] at hB;cases hB
  have hne:H' e=none:=by
   cases q:H' e with
   |none=>rfl
   |some u=>
    obtain⟨o,hB⟩:=c1 e u q
    rw[fl.2.1] at hB;cases hB
  have J5:=mk h5 fl5.1 (up4.trans up5)
  revert hM
  clear h;generalize h0::hs=l at hhs⊢
  induction hhs with
  |nil=>intro hM;exact hM.elim
  | @cons x n np hpos b₀ suite hs cD i th ths hi hl hg hm hdb hh _ ih=>
  intro hM;refine wpAny_handleBy_cons (codeAny_handlers_test ?_) (by intro q;cases q);refine mT (X:=X.suite (.ref e)) J5.suite hg hm ?_ hdb;have LT:bW (model X.prog X.w) h5 (typeOf (.ref e)) (.ref C):=by
   obtain⟨oe,ho,hc⟩:=fl5.there
   exact hc▸(cq ho).andThen .now
  rcases hM with⟨hx,hth⟩|⟨hx,hM⟩
  rotate_left
  ·refine(iy J5.kIn LT hx).here ?_;exact ih hM
  refine(iy J5.kIn LT hx).here ?_;show codeAny _ _ _ _ _
  refine codeAny_handlers_suite_as ?_;refine wpAny_mono (kd_flight.any (lands_againW (Q:=fun _ s2=>∃h6,s2={s' with heap:=h6} /\ Heap.FlyingW B (X.env::X.outer) e (.ref C) a0 h6 /\ h5.UpToSlots h6) (E:=fun _ _=>False) fl5 fun h6 fl6 up6=>⟨h6,rfl,fl6,up6⟩)) (fun _ s2 hq=> ?_) fun _ _ z=>z.1.elim
  obtain⟨⟨h6,rfl,fl6,up6⟩,dk6⟩:=hq
  have up:=(up4.trans up5).trans up6
  have J6:=mk h6 fl6.1 up
  have ne:=ne1 h6 fl6 up
  have IE:IsExc e C h6:=by
   obtain⟨oe,vs,he,hc,hd,_⟩:=fl6.first
   exact⟨oe,vs,he,hc,hd⟩
  have nf:∀b o,h6.get? b=some o ->(∀vs,o.data≠ .fields vs) ->b≠e:=fun b o q d z=>by
   obtain⟨oe,vs,he,hc,hd⟩:=IE
   rw[z,he] at q;cases q;exact d vs hd
  have ID:IsExcD e C od h6:=by
   obtain⟨o0,z1,z2⟩:=hd
   obtain⟨o4,z3,z4⟩:=dk4 e o0 z1
   obtain⟨o5,z5,z6⟩:=dk5 e o4 z3
   obtain⟨o6,z7,z8⟩:=dk6 e o5 z5
   obtain⟨o,vs,he,hc,hv⟩:=IE
   have e6:=he.symm.trans z7
   cases e6;exact⟨_,vs,he,hc,hv,fun dx z=>z8.trans (z6.trans (z4.trans (z2 dx z)))⟩
  have J7:Inv X pins σ (upd H' e (zM e C od)) {s' with heap:=h6}:=by
   refine J6.track hne (fun b u q hx=> ?_) ?_ (fun y c q=> ?_) (fun p hp=> ?_) (zh ID)
   ·obtain⟨o1,q1⟩:=I1.base.there b u q hx
    exact ne b o1 q1
   ·obtain⟨m,⟨oL,es,ep,hoL,hdL,_⟩,_⟩:=J6.loc
    exact nf _ _ hoL fun vs q=>by rw[hdL] at q;cases q
   ·obtain⟨v,oc,hoc,hdc⟩:=J6.cell y c q
    exact nf _ _ hoc fun vs q=>by rw[hdc] at q;cases q
   ·obtain⟨q1,_⟩:=I1.pin p (aO _ hp)
    exact ne _ _ q1
  refine lZ (X:=X.suite (.ref e)) (v:= .ref e) J7.suite hN hi (.inl hl) rfl (fun s7 J8=> ?_) (.inr hl);refine wpAny_mono (hh (.ref e) pins s7 _ _ (lK D i) J8 (hth e hne)) (fun fl s8 q=> ?_) fun _ _ z=>False.elim z
  match fl,q with
  | .next,⟨σ',H'',J9,q⟩=>exact pV (J9.unsuite I.ok) hN hi hl fun s9 Jz=>⟨_,_,Jz,q⟩
  | .brk,⟨σ',H'',J9,q⟩=>exact pV (J9.unsuite I.ok) hN hi hl fun s9 Jz=>⟨_,_,Jz,q⟩
  | .cont,⟨σ',H'',J9,q⟩=>exact pV (J9.unsuite I.ok) hN hi hl fun s9 Jz=>⟨_,_,Jz,q⟩
  | .ret u,⟨v,σ',H'',J9,r,q⟩=>exact pV (J9.unsuite I.ok) hN hi hl fun s9 Jz=>⟨v,_,_,Jz,r,q⟩
 refine wpAny_mono (hb _ _ _ _ hp [] s σ H D I.tryIn h) (fun fl s1 q=> ?_) fun _ _ z=>z
 have q:=SP.tryOut q
 match fl,q with
 | .next,⟨σ',H',J,q⟩=>exact jj pins s1 σ' H' D J q
 | .brk,q=>exact q
 | .cont,q=>exact q
 | .ret u,q=>exact q
end
end L2
namespace L2
open PySem PySem.Spec PyProof.Rows
noncomputable def AS(o:Option HO):Option (List (Key×V)):=match o with
 |some (.dK kvs)=>some kvs
 |_=>none
theorem tK(kvs:List (Key×V)):AS (some (.dK kvs))=some kvs:=rfl
theorem vR{o:Option HO}{kvs:List (Key×V)}(h:AS o=some kvs):o=some (.dK kvs):=by
 unfold AS at h;split at h
 ·cases h;rfl
 ·cases h
noncomputable def tDg(k:Str)(td:TE):TE:=fun σ H Q=>td σ H fun x H1=>match x with
 | .ref a=>k7 (AS (H1 a)) fun kvs=>k7 (rm kvs (Sum.inr k)) fun v=>Q v H1
 |_=>False
noncomputable def tDp(k:Str)(td tv:TE):TS:=fun D σ H=>tv σ H fun v H1=>td σ H1 fun x H2=>match x with
 | .ref a=>k7 (AS (H2 a)) fun kvs=>kvs.length<1000000 /\ D.nx σ (upd H2 a (.dK (qe kvs (Sum.inr k) v)))
 |_=>False
section
variable {X:Cx} {o i value:Expr} {pos pos':Pos} {td tv:TE} {k:Str}
theorem mZ(hu:X.A.units+1<cLine)(ho:PE X o td)(hi:PE X i (tC (.str k)))(hs:By i):PE X (.Subscript o i pos) (tDg k td):=by
 intro pins s σ H Q I h;refine yp PySem.F.slot_dict_getitem.lookup hs (thn (ho pins s σ H _ I h) fun u s1 ⟨x,H1,I1,rx,q1⟩=> ?_);cases x with
 |ref a=>
  obtain⟨kvs,e,q1⟩:=jo q1
  obtain⟨v,e2,q1⟩:=jo q1
  have e:=vR e
  refine thn (hi pins s1 σ H1 (fun y H2=>y=V.str k /\ H2=H1) I1 ⟨rfl,rfl⟩) fun iv s2 ⟨y,H2,I2,ry,ey,eH⟩=> ?_
  subst ey;subst eH;obtain rfl:u=Value.ref a:=rx
  have g:DGet H2 a (V.str k) (some v):=by
   have:=DGet.k (k:=Sum.inr k) e
   rw[e2] at this;exact this
  exact⟨rZ I2 g,vU hu I2 g ry fun w' s3 I3 rw'=>⟨v,H2,I3,rw',q1⟩⟩
 |_=>exact q1.elim
theorem vc(hu:X.A.units+1<cLine)(ho:PE X o td)(hi:PE X i (tC (.str k)))(hv:PE X value tv)(hs:swapsWith value (some (.Subscript o i pos')) pos.line X.env=pure false):
  PS X (.Assign [.Subscript o i pos'] value pos) (tDp k td tv):=by
 intro pins s σ H D I h;refine wpAny_Assign_Subscript (thn (hv pins s σ H _ I h) fun r s1 ⟨v,H1,I1,rv,q1⟩=>thn (ho pins s1 σ H1 _ I1 q1) fun u s2 ⟨x,H2,I2,rx,q2⟩=> ?_) hs;cases x with
 |ref a=>
  obtain⟨kvs,e,hl,q2⟩:=jo q2
  have e:=vR e
  refine thn (hi pins s2 σ H2 (fun y H3=>y=V.str k /\ H3=H2) I2 ⟨rfl,rfl⟩) fun iv s3 ⟨y,H3,I3,ry,ey,eH⟩=> ?_
  subst ey;subst eH;obtain rfl:u=Value.ref a:=rx
  exact vT hu I3 (DPut.k (k:=Sum.inr k) e (uP hl)) ry rv fun s4 I4=>⟨σ,_,I4,q2⟩
 |_=>exact q2.elim
end
end L2
namespace L2
open PySem PySem.Spec PyProof.Rows
section
variable {X:Cx} {pos pos':Pos}
theorem zp(val:Nat ->Int):∀k,argBest (fun i j=>decide (val i<val j)) k<=k /\ ∀j,j<=k ->val (argBest (fun i j=>decide (val i<val j)) k)<=val j:=by
 intro k
 induction k with
 |zero=>
  rw[argBest.eq_1];exact⟨aI _,fun j hj=>by obtain rfl:j=0:=(by omega);exact cG _⟩
 |succ k ih=>
  rw[show k+1=k.succ from rfl,argBest.eq_2]
  by_cases h:val (k+1)<val (argBest (fun i j=>decide (val i<val j)) k)
  ·rw[if_pos (decide_eq_true h)];refine⟨aI _,fun j hj=> ?_⟩
   by_cases e:j=k+1
   ·subst e;exact cG _
   ·have:=ih.2 j (by omega)
    omega
  ·rw[if_neg (by rw[decide_eq_true_eq];exact h)];refine⟨by have:=ih.1;omega,fun j hj=> ?_⟩
   by_cases e:j=k+1
   ·subst e;omega
   ·exact ih.2 j (by omega)
theorem zq(val:Nat ->Int):∀k,argBest (fun i j=>decide (val i>val j)) k<=k /\ ∀j,j<=k ->val j<=val (argBest (fun i j=>decide (val i>val j)) k):=by
 intro k
 induction k with
 |zero=>
  rw[argBest.eq_1];exact⟨aI _,fun j hj=>by obtain rfl:j=0:=(by omega);exact cG _⟩
 |succ k ih=>
  rw[show k+1=k.succ from rfl,argBest.eq_2]
  by_cases h:val (k+1)>val (argBest (fun i j=>decide (val i>val j)) k)
  ·rw[if_pos (decide_eq_true h)];refine⟨aI _,fun j hj=> ?_⟩
   by_cases e:j=k+1
   ·subst e;exact cG _
   ·have:=ih.2 j (by omega)
    omega
  ·rw[if_neg (by rw[decide_eq_true_eq];exact h)];refine⟨by have:=ih.1;omega,fun j hj=> ?_⟩
   by_cases e:j=k+1
   ·subst e;omega
   ·exact ih.2 j (by omega)
noncomputable def xO(K:ag)(ok:Int ->Int ->Prop):List V ->Hp ->VK ->Prop:=fun vs H Q=>∃(l:Addr) (ns:List Int),vs=[.ref l] /\ SqL K H l (ns.map V.int) /\ 0<ns.length /\ ∀M,M∈ns ->(∀a∈ns,ok M a) ->Q (.int M) H
theorem xG{ns:List Int}:∀{its:List Value},Vals (ns.map V.int) its ->its.length=ns.length /\ ∀(i:Nat) (v:Value),its[i]? =some v -> ∃t,v=Value.int (ns.getD i 0) t:=by
 induction ns with
 |nil=>intro its r;cases r;exact⟨rfl,fun i v h=>by simp at h⟩
 |cons n ns ih=>
  intro its r;cases r with
  |cons p q=>
   obtain⟨h1,h2⟩:=ih q
   refine⟨by simp[h1],fun i v h=> ?_⟩;cases i with
   |zero=>cases h;exact p
   |succ i=>exact h2 i v h
theorem lQ{ns:List Int}{i:Nat}(h:i<ns.length):ns.getD i 0∈ns:=by
 rw[bq,aa h];exact cE h
theorem kM{K:ag}(hK:X.K=K)(hcalm:X.calm=true):ol X (.builtin "min") (xO K fun M a=>M<=a):=by
 subst hK;intro pins s σ H xs us Q I r h;obtain⟨l,ns,rfl,hl,h0,q⟩:=h
 obtain⟨u,rfl,rx⟩:=rl r
 cases rx;obtain⟨its,r',pl,hz⟩:=I.list hl
 obtain⟨hlen,hat⟩:=xG r'
 have hIs:=pl.isList
 refine call_min_walk (wpAny_pyIter_list hIs ?_);obtain⟨o,ho,hcl,hdt⟩:=hIs
 have W:=Walks.list (prog:=X.prog) (w:=X.w) (A:=X.A.in1) (show X.A.in1.handled=none from I.ok.hd hcalm) s.heap.objs.size l (aQ (Heap.lt_size ho)) its.toArray
 have S0:(s.heap.push {cls:= .type "list_iterator",data:= .fields #[.ref l,.int 0 0]}).IsListIter s.heap.objs.size l 0 /\ (s.heap.push {cls:= .type "list_iterator",data:= .fields #[.ref l,.int 0 0]}).IsList l its.toArray:=⟨⟨_,Heap.get?_push_size _ rfl,rfl,rfl⟩,⟨o,Heap.get?_push_of_some _ ho,hcl,hdt⟩⟩
 refine⟨s.heap.objs.size,[s.heap.objs.size,l],[s.heap.objs.size],its.toArray.size,(fun i v=>its.toArray[i]? =some v),_,fun i j=>decide (ns.getD i 0<ns.getD j 0),rfl,W,S0,?_,?_,CmpOf.ints_lt (fun i=>ns.getD i 0) (fun i v hv=>hat i v (by simpa using hv)),?_⟩
 ·intro b hb;simp only[av,aD,or_false] at hb;rw[Heap.size_push];rcases hb with rfl|rfl
  ·exact fZ _
  ·exact eQ (Heap.lt_size ho)
 ·simp only[aS];omega
 ·intro v h' tk hv kp;obtain⟨hb1,hb2⟩:=zp (fun i=>ns.getD i 0) (its.toArray.size-1)
  simp only[aS] at hb1 hb2 hv;rw[gq] at hv;obtain⟨t,rfl⟩:=hat _ v hv
  refine⟨.int _,H,I.kept (t':=tk) (fun b ob hq=>kp b ob ?_ (Heap.get?_push_of_some _ hq)),⟨t,rfl⟩,q _ (lQ (by omega)) fun a ha=> ?_⟩
  ·simp only[av,aD,or_false];exact aQ (Heap.lt_size hq)
  ·obtain⟨j,hj⟩:=aX ha
   have lj:=(ad.mp hj).1
   have:=hb2 j (by omega)
   rw[show ns.getD j 0=a by rw[bq,hj];rfl] at this;exact this
theorem kj{K:ag}(hK:X.K=K)(hcalm:X.calm=true):ol X (.builtin "max") (xO K fun M a=>a<=M):=by
 subst hK;intro pins s σ H xs us Q I r h;obtain⟨l,ns,rfl,hl,h0,q⟩:=h
 obtain⟨u,rfl,rx⟩:=rl r
 cases rx;obtain⟨its,r',pl,hz⟩:=I.list hl
 obtain⟨hlen,hat⟩:=xG r'
 have hIs:=pl.isList
 refine call_max_walk (wpAny_pyIter_list hIs ?_);obtain⟨o,ho,hcl,hdt⟩:=hIs
 have W:=Walks.list (prog:=X.prog) (w:=X.w) (A:=X.A.in1) (show X.A.in1.handled=none from I.ok.hd hcalm) s.heap.objs.size l (aQ (Heap.lt_size ho)) its.toArray
 have S0:(s.heap.push {cls:= .type "list_iterator",data:= .fields #[.ref l,.int 0 0]}).IsListIter s.heap.objs.size l 0 /\ (s.heap.push {cls:= .type "list_iterator",data:= .fields #[.ref l,.int 0 0]}).IsList l its.toArray:=⟨⟨_,Heap.get?_push_size _ rfl,rfl,rfl⟩,⟨o,Heap.get?_push_of_some _ ho,hcl,hdt⟩⟩
 refine⟨s.heap.objs.size,[s.heap.objs.size,l],[s.heap.objs.size],its.toArray.size,(fun i v=>its.toArray[i]? =some v),_,fun i j=>decide (ns.getD i 0>ns.getD j 0),rfl,W,S0,?_,?_,CmpOf.ints_gt (fun i=>ns.getD i 0) (fun i v hv=>hat i v (by simpa using hv)),?_⟩
 ·intro b hb;simp only[av,aD,or_false] at hb;rw[Heap.size_push];rcases hb with rfl|rfl
  ·exact fZ _
  ·exact eQ (Heap.lt_size ho)
 ·simp only[aS];omega
 ·intro v h' tk hv kp;obtain⟨hb1,hb2⟩:=zq (fun i=>ns.getD i 0) (its.toArray.size-1)
  simp only[aS] at hb1 hb2 hv;rw[gq] at hv;obtain⟨t,rfl⟩:=hat _ v hv
  refine⟨.int _,H,I.kept (t':=tk) (fun b ob hq=>kp b ob ?_ (Heap.get?_push_of_some _ hq)),⟨t,rfl⟩,q _ (lQ (by omega)) fun a ha=> ?_⟩
  ·simp only[av,aD,or_false];exact aQ (Heap.lt_size hq)
  ·obtain⟨j,hj⟩:=aX ha
   have lj:=(ad.mp hj).1
   have:=hb2 j (by omega)
   rw[show ns.getD j 0=a by rw[bq,hj];rfl] at this;exact this
end
end L2
namespace L2
open PySem PySem.Spec PyProof.Rows
noncomputable def Ite(K:ag)(a:Addr):It:=
 ⟨fun i H=>∃xs,SqL K H a xs /\ i<xs.length,
  fun i H v H'=>∃t,v= .ref t /\ H t=none /\ ∀xs x,SqL K H a xs ->xs[i]? =some x ->H'=upd H t (.tup [.int (i:Int),x]),
  fun i H=>∃xs,SqL K H a xs /\ i=xs.length⟩
noncomputable def yZ(K:ag)(ta:TA):TI:=fun σ H R=>ta σ H fun vs H1=>∃a,vs=[.ref a] /\ (∃xs,SqL K H1 a xs) /\ R (Ite K a) H1
section
variable {X:Cx}
theorem uC{P:Program}{w:World}{K:ag}{elts:List Expr}{kk:Nat}{pos:Pos}(n l:Addr)(h1:l<n):Turn P w K (.Tuple elts kk pos) (Ite K l) [n+1,n] (n+1)
  (fun i h=>(∃old,IsEnum h (n+1) n (↑i) old) /\ h.IsListIter n l i) where
 mem:=by simp
 obj:=fun i h st b hb=>by
  obtain⟨⟨old,z1⟩,⟨o1,e1,c1,d1⟩⟩:=st
  simp only[av,aD,or_false] at hb;rcases hb with rfl|rfl
  ·exact⟨_,z1,fun v q=>by cases q⟩
  ·exact⟨_,e1,fun v q=>by rw[d1] at q;cases q⟩
 keep:=fun i h h' st k=>by
  obtain⟨⟨old,z1⟩,z4⟩:=st
  exact⟨⟨old,k _ (by simp) _ z1⟩,z4.at fun o e=>k _ (by simp) o e⟩
 item:=by
  intro X hP hw hK hc i pins s σ H E I hf st hg;subst hP hw hK;obtain⟨xs,q1,hi⟩:=hg
  obtain⟨us,r1,p1,_⟩:=I.list q1
  obtain⟨z1,z4⟩:=st
  have W:=WalksT.enumerate (prog:=X.prog) (w:=X.w) (I.ok.hd hc) (n+1) n l (hZ n) (aQ (eQ h1)) (aQ h1) us.toArray
  have len1:=r1.length
  refine W.item i s _ _ (by simp only[aS];omega) ⟨z1,z4,p1.isList⟩ fun T vals h' tk hPt hT hTup hMid hk=> ?_
  obtain⟨t,u,hu,rfl⟩:=hPt
  refine⟨.ref T,rfl,W.go elts kk pos i T _ _ _ hMid fun h'' st' hk'=> ?_⟩;obtain⟨x,hx⟩:∃x,xs[i]? =some x:=⟨_,aa hi⟩
  obtain⟨u',eu,rx⟩:=r1.get hx
  have e1:u'=u:=by
   have z:us[i]? =some u:=by simpa using hu
   rw[eu] at z;exact bA.inj z
  subst e1;have ap:=W.apart i T h' hMid
  have ht2:h''.IsTuple T #[.int (i:Int) t,u']:=hTup.at fun o e=>hk' T o ap e
  have J:=yh (x:= .int (i:Int)) (tk:=tk) (h':=h'') I (wr:=[n+1,n]) hf hT ht2 ⟨t,rfl⟩ rx (fun b o hb e=>hk' b o hb (hk b o hb e))
  refine⟨.ref T,_,J,rfl,⟨T,rfl,I.hok.fresh hT,fun xs' x' a1 a3=> ?_⟩,⟨st'.1,st'.2.1⟩,fun b hb=> ?_⟩
  ·rw[I.list_inj a1 q1,hx] at a3;cases a3;rfl
  ·have hb0:=(hf b hb).1
   have hlt:b<s.heap.objs.size:=by
    obtain⟨old,z1⟩:=z1
    obtain⟨o1,e1,_⟩:=z4
    simp only[av,aD,or_false] at hb;rcases hb with rfl|rfl
    ·exact Heap.lt_size z1
    ·exact Heap.lt_size e1
   rw[jd (aQ (aT hlt hT))];exact hb0
 done:=by
  intro X hP hw hK hc i pins s σ H E I hf st hg;subst hP hw hK;obtain⟨xs,q1,hi⟩:=hg
  obtain⟨us,r1,p1,_⟩:=I.list q1
  obtain⟨z1,z4⟩:=st
  have W:=WalksT.enumerate (prog:=X.prog) (w:=X.w) (I.ok.hd hc) (n+1) n l (hZ n) (aQ (eQ h1)) (aQ h1) us.toArray
  have e:i=us.toArray.size:=by
   simp only[aS];rw[<-r1.length];exact hi
  subst e;refine W.done s _ _ ⟨z1,z4,p1.isList⟩ fun h' tk hk=>⟨rfl,?_⟩
  have tr:∀b w,H b=some w ->b∉[n+1,n]:=fun b w e z=>by
   rw[(hf b z).1] at e;cases e
  refine I.step (g':=s.gens) (d':=s.drawn) (ch:=[n+1,n]) (fun b hb=> ?_) (fun b o _ _ hc e _=>hk b o hc e) (fun b o _ _ hc e _=>⟨o.slots,hk b o hc e⟩) (fun b o hc e n=>n) (fun b o hc e=>⟨o,hk b o hc e⟩) (fun b xs e=>e) (fun b o w e=>e) (fun b ps e=>⟨#[],by rw[e];simp⟩) (fun m hm=> ?_) (fun b w e=> ?_) I.bare
  ·obtain⟨f0,f1,f2,f3,f4,f5⟩:=hf b hb
   exact⟨f3,f1,f4,f5⟩
  ·obtain⟨o,es,ep,ho,r⟩:=hm
   exact⟨o,es,ep,hk _ o (fun z=>(hf _ z).2.1 rfl) ho,r⟩
  ·refine(I.hok b w e).stay (fun c z hc q=>hk c z ?_ q) (fun _ q=>q) fun _ _ q=>q
   rcases hc with rfl|hc
   ·exact tr _ _ e
   ·exact tr _ _ hc
 self:=fun A i s Q E st q=>by
  obtain⟨⟨old,z1⟩,_⟩:=st
  exact wpAny_pyIter_enum z1 q
theorem nT{a:Expr}{ta:TA}{p pos tpos:Pos}{elts:List Expr}{kk:Nat}{K:ag}(hK:X.K=K)(hg:Gl X "enumerate")(hm:X.mg "enumerate"=none)(ha:PA X [a] ta)(hs:starEach [a] X.env=[(false,eval a X.env)]:=by rfl):
  PI X (.Tuple elts kk tpos) (.Call (.Name "enumerate" p) [a] [] pos) (yZ K ta):=by
 subst hK;intro pins s σ H R I h;refine Call_ (sQ I hg hm boot_enumerate (dm (thn (ha pos pins s σ H _ I h) fun us s1 z=> ?_) hs rfl));obtain⟨vs,H1,I1,r1,l,rfl,⟨xs,q1⟩,q⟩:=z
 obtain⟨u,rfl,ru⟩:=r1.one
 obtain rfl:u=Value.ref l:=ru
 obtain⟨is1,s1',p1,_⟩:=I1.list q1
 have b1:l<s1.heap.objs.size:=by
  obtain⟨o,e,_⟩:=p1.isList
  exact Heap.lt_size e
 refine call_enumerate_list p1.isList fun h' hz hi1 hsz hk=> ?_
 refine wpAny_pyIter_enum hz ?_;refine⟨_,_,_,_,H1,rfl,I1.kept (t':=s1.toks) hk,uC s1.heap.objs.size l b1,⟨⟨_,hz⟩,hi1⟩,fun b hb=> ?_,q⟩;simp only[av,aD,or_false] at hb;have hle:s1.heap.objs.size<=b:=by
  rcases hb with rfl|rfl<;>omega
 exact I1.fpOk hle (I1.hok.fresh hle)
end
section
variable {K:ag} {a:Addr} {xs:List V} {ta:TA} {g:TG} {tb:TS} {Dn:Ends} {σ:St} {H:Hp}
theorem lY(Ra:Addr ->Hp ->Prop)(ha:∀R:List V ->Hp ->Prop,(∀a H1,Ra a H1 ->R [.ref a] H1) ->ta σ H R)
  (hb:∀a H1,Ra a H1 -> ∃xs,∃Pv:Nat ->St ->Hp ->Prop,Pv 0 σ H1 /\ (∀i σ H,i<=xs.length ->Pv i σ H ->SqL K H a xs) /\
   (∀i x t σ H,xs[i]? =some x ->Pv i σ H ->H t=none ->g (.ref t) σ (upd H t (.tup [.int (i:Int),x])) fun σ2 H2=>tb {Dn with nx:=Pv (i+1),ct:=Pv (i+1),bk:=Dn.nx} σ2 H2) /\ ∀σ H,Pv xs.length σ H ->Dn.nx σ H):
  zG (yZ K ta) g tb Dn σ H:=by
 refine ha _ fun a H1 q=> ?_
 obtain⟨xs,Pv,h0,hq,hs,hd⟩:=hb a H1 q
 have s1:=hq 0 σ H1 (cL _) h0
 refine⟨a,rfl,⟨xs,s1⟩,fun i m σ H=>Pv i σ H /\ i<=xs.length /\ m=xs.length-i,⟨_,h0,cL _,rfl⟩,?_⟩;rintro i m σ H ⟨p,hi,rfl⟩;have s1:=hq i σ H hi p
 rcases gN hi with hi|hi
 ·right
  refine⟨⟨xs,s1,by omega⟩,fun σ' H'=>Pv (i+1) σ' H',fun σ' H' p'=>⟨xs.length-(i+1),by omega,p',by omega,rfl⟩,?_⟩;rintro v H' ⟨t,rfl,hn,e⟩;obtain⟨x,hx⟩:∃x,xs[i]? =some x:=⟨_,aa hi⟩
  rw[e xs x s1 hx];exact hs i x t σ H hx p hn
 ·left
  exact⟨⟨xs,s1,by omega⟩,hd σ H (hi▸p)⟩
end
section
variable {g:TG} {tt:TT} {te tl:TE} {ta:TA} {k:Nat} {js:List Nat} {σ:St} {Q:VK} {H:Hp} {K:ag} {a:Addr} {xs:List V}
theorem yU{D:Addr}(Pv:Nat ->List V ->Hp ->Prop)(h0:Pv 0 [] (upd H D (.lst [])))
  (hn:xs.length<sizeLine) (hl:∀i ys H,i<=xs.length ->Pv i ys H ->H D=some (.lst ys) /\ ys.length<=i /\ SqL K H a xs)
  (hs:∀i x t ys H,xs[i]? =some x ->Pv i ys H ->H t=none ->g (.ref t) (stLC σ k js) (upd H t (.tup [.int (i:Int),x])) fun σ2 H2=>(σ2.drop k=frV σ js /\ σ2.length=k+js.length) /\ tt σ2 H2 fun b H3=>if b=true then te σ2 H3 fun y H4=>H4 D=some (.lst ys) /\ Pv (i+1) (ys++[y]) (upd H4 D (.lst (ys++[y]))) else Pv (i+1) ys H3)
  (hd:∀ys H,Pv xs.length ys H ->Q (.ref D) H):
  ∃W:Nat ->Nat ->List V ->Hp ->Prop,(∃m,W 0 m [] (upd H D (.lst []))) /\ ∀i m ys H,W i m ys H ->H D=some (.lst ys) /\
  (((Ite K a).stop i H /\ Q (.ref D) H)∨((Ite K a).go i H /\ ys.length<sizeLine /\ ∃N:List V ->Hp ->Prop,(∀ys' H',N ys' H' -> ∃m',m'<m /\ W (i+1) m' ys' H') /\
   ∀x H',(Ite K a).yld i H x H' ->g x (stLC σ k js) H' fun σ2 H2=>(σ2.drop k=frV σ js /\ σ2.length=k+js.length) /\ tt σ2 H2 fun b H3=>if b=true then te σ2 H3 fun y H4=>H4 D=some (.lst ys) /\ N (ys++[y]) (upd H4 D (.lst (ys++[y]))) else N ys H3)):=by
 refine⟨fun i m ys H=>m=xs.length-i /\ i<=xs.length /\ Pv i ys H,⟨xs.length,by simp,cL _,h0⟩,?_⟩;rintro i m ys H ⟨rfl,hi,p⟩;obtain⟨e1,e2,q⟩:=hl i ys H hi p
 refine⟨e1,?_⟩
 by_cases hlt:i<xs.length
 ·refine .inr ⟨⟨xs,q,hlt⟩,by omega,Pv (i+1),fun ys' H' p'=>⟨xs.length-(i+1),by omega,rfl,hlt,p'⟩,fun x H' y=> ?_⟩;obtain⟨t,rfl,ht,y⟩:=y
  obtain⟨x,hx⟩:∃x,xs[i]? =some x:=⟨_,aa hlt⟩
  rw[y xs x q hx];exact hs i x t ys H hx p ht
 ·have e:i=xs.length:=by omega
  subst e;exact .inl ⟨⟨xs,q,rfl⟩,hd ys H p⟩
theorem wj(ha:∀R:List V ->Hp ->Prop,R [.ref a] H ->ta σ H R)(hq:SqL K H a xs)(hn:xs.length<1000000)(Pv:Addr ->Nat ->List V ->Hp ->Prop)(h0:∀D,H D=none ->Pv D 0 [] (upd H D (.lst [])))
  (hl:∀D i ys H,i<=xs.length ->Pv D i ys H ->H D=some (.lst ys) /\ ys.length<=i /\ SqL K H a xs)
  (hs:∀D i x t ys H1,H D=none ->xs[i]? =some x ->Pv D i ys H1 ->H1 t=none ->g (.ref t) (L2.stLC σ k js) (upd H1 t (.tup [.int (i:Int),x])) fun σ2 H2=>(σ2.drop k=frV σ js /\ σ2.length=k+js.length) /\ tt σ2 H2 fun b H3=>if b=true then te σ2 H3 fun y H4=>H4 D=some (.lst ys) /\ Pv D (i+1) (ys++[y]) (upd H4 D (.lst (ys++[y]))) else Pv D (i+1) ys H3)
  (hd:∀D ys H1,H D=none ->Pv D xs.length ys H1 ->Q (.ref D) H1):tLC (yZ K ta) k js g tt te σ H Q:=
 ha _ ⟨a,rfl,⟨xs,hq⟩,fun D hD=>yU (Pv D) (h0 D hD) (dW hn (by decide)) (fun i ys H hi p=>hl D i ys H hi p) (fun i x t ys H hi p ht=>hs D i x t ys H hD hi p ht) (fun ys H p=>hd D ys H hD p)⟩
end
noncomputable def BE(K:ag):R2:=fun x y H Q=>∃d ds,Rdy K H x d /\ Rdy K H y (.list ds) /\ SeqAt.shaped d=true /\ SeqAt.shaped (.list ds)=true /\ (∀y∈ds,SeqAt.noMix y d=true) /\ Q (.bl (decide (Spec.countIn d ds≠0))) H
theorem vo{X:Cx}{K:ag}(hK:X.K=K)(hu:X.A.units+65<cLine):OpR X (compareOp .In) (BE K):=by
 subst hK;intro pins s σ H x y v u Q I rx ry h;obtain⟨d,ds,h1,h2,s1,s2,nm,q⟩:=h
 obtain⟨as,r1⟩:=h1.reads I rx
 obtain⟨bs,r2⟩:=h2.reads I ry
 exact in_list_dataH r2 r1 s2 s1 hu nm ⟨.bl _,H,I,rfl,q⟩
theorem wE{X:Cx}{x:Str}{i:Int}{pos:Pos}(hg:Gl X x)(hm:∃t,X.mg x=some (.int i t))(hd:(x==("__debug__":Str))=false:=by decide):PE X (.Name x pos) (tC (.int i)):=by
 obtain⟨t,hm⟩:=hm
 exact nV hg hm ⟨t,rfl⟩ hd
end L2
namespace L2
open PySem
mutual
noncomputable def kf:PyData ->Bool
 | .int _=>true
 | .none=>true
 | .list xs=>lv xs
 | .tuple xs=>lv xs
 |_=>false
noncomputable def lv:List PyData ->Bool
 |[]=>true
 |x::xs=>kf x&&lv xs
end
mutual
theorem vM:∀(d e:PyData),kf d=true ->kf e=true ->(PyData.eqv d e=true↔d=e)
 | .int a,e,_,he=>by
  cases e<;>simp[PyData.eqv,kf] at he⊢
 | .none,e,_,he=>by
  cases e<;>simp[PyData.eqv,kf] at he⊢
 | .list xs,e,hd,he=>by
  cases e with
  |list ys=>
   simp only[kf] at hd he;simp only[PyData.eqv,PyData.list.injEq];exact mV xs ys hd he
  |_=>simp[PyData.eqv,kf] at he⊢
 | .tuple xs,e,hd,he=>by
  cases e with
  |tuple ys=>
   simp only[kf] at hd he;simp only[PyData.eqv,PyData.tuple.injEq];exact mV xs ys hd he
  |_=>simp[PyData.eqv,kf] at he⊢
 | .bool _,e,hd,_=>by simp[kf] at hd
 | .str _,e,hd,_=>by simp[kf] at hd
 | .dict _,e,hd,_=>by simp[kf] at hd
theorem mV:∀(xs ys:List PyData),lv xs=true ->lv ys=true ->(PyData.eqvAll xs ys=true↔xs=ys)
 |[],[],_,_=>by simp[PyData.eqvAll]
 |[],y::ys,_,_=>by simp[PyData.eqvAll]
 |x::xs,[],_,_=>by simp[PyData.eqvAll]
 |x::xs,y::ys,hx,hy=>by
  simp only[lv,ci] at hx hy;simp only[PyData.eqvAll,ci,cJ.injEq];rw[vM x y hx.1 hy.1,mV xs ys hx.2 hy.2]
end
theorem nS{α:Type}(f:α ->PyData)(h:∀a,kf (f a)=true):∀l:List α,lv (l.map f)=true
 |[]=>rfl
 |a::l=>by
  rw[aJ,lv,h a,nS f h l];rfl
theorem zi{d e:PyData}(hd:kf d=true)(h:d=e):PyData.eqv d e=true:=(vM d e hd (h▸hd)).mpr h
end L2
namespace L2
open PySem PySem.Spec PyProof.Rows
noncomputable def yy(K:ag):R2:=fun x y H Q=>∃d ds,Rdy K H x d /\ Rdy K H y (.list ds) /\ SeqAt.shaped d=true /\ SeqAt.shaped (.list ds)=true /\ (∀y∈ds,SeqAt.noMix y d=true) /\ Q (.bl (!decide (Spec.countIn d ds≠0))) H
theorem t8{X:Cx}{K:ag}(hK:X.K=K)(hu:X.A.units+65<cLine):OpR X (compareOp .NotIn) (yy K):=by
 subst hK;intro pins s σ H x y v u Q I rx ry h;obtain⟨d,ds,h1,h2,s1,s2,nm,q⟩:=h
 obtain⟨as,r1⟩:=h1.reads I rx
 obtain⟨bs,r2⟩:=h2.reads I ry
 exact notIn_list_dataH r2 r1 s2 s1 hu nm ⟨.bl _,H,I,rfl,q⟩
end L2
namespace L2
open PySem
section
variable {ta:TA} {g:TG} {tb:TS} {Dn:Ends} {σ:St} {H:Hp}
theorem nH(Pn:Nat ->Hp ->Prop)(ha:∀R:List V ->Hp ->Prop,(∀(n:Nat) H1,Pn n H1 ->R [.int n] H1) ->ta σ H R)
  (hb:∀n H1,Pn n H1 ->n<1000000 /\ ∃Pv:Nat ->St ->Hp ->Prop,Pv 0 σ H1 /\ (∀i σ H,i<n ->Pv i σ H ->g (.int (0+(i:Int))) σ H fun σ2 H2=>tb {Dn with nx:=Pv (i+1),ct:=Pv (i+1),bk:=Dn.nx} σ2 H2) /\ ∀σ H,Pv n σ H ->Dn.nx σ H):zG (wS ta) g tb Dn σ H:=
 ha _ fun n H1 hn=>by
  obtain⟨h1,Pv,h0,hs,hd⟩:=hb n H1 hn
  exact⟨n,rfl,by omega,by omega,qP (lo:=0) (n:=(n:Int).toNat) Pv h0 (fun i σ H hi p=>hs i σ H (by simpa using hi) p) (fun σ H p=>hd σ H (by simpa using p))⟩
end
end L2
namespace L2
open PySem PySem.Spec PyProof.Rows
section
variable {g:TG} {tt:TT} {te tl:TE} {k:Nat} {js:List Nat} {σ:St} {Q:VK} {H:Hp} {K:ag}
theorem nG(R:VK)(h:tl σ H R)
  (hb:∀x H1,R x H1 -> ∃(a:Addr) (xs:List V),x= .ref a /\ SqL K H1 a xs /\ xs.length<1000000 /\ ∃Pv:Addr ->Nat ->List V ->Hp ->Prop,(∀D,H1 D=none ->Pv D 0 [] (upd H1 D (.lst []))) /\
   (∀D i ys H,i<=xs.length ->Pv D i ys H ->H D=some (.lst ys) /\ ys.length<=i /\ SqL K H a xs) /\
   (∀D i x ys H2,H1 D=none ->xs[i]? =some x ->Pv D i ys H2 ->g x (L2.stLC σ k js) H2 fun σ2 H3=>(σ2.drop k=frV σ js /\ σ2.length=k+js.length) /\ tt σ2 H3 fun b H4=>if b=true then te σ2 H4 fun y H5=>H5 D=some (.lst ys) /\ Pv D (i+1) (ys++[y]) (upd H5 D (.lst (ys++[y]))) else Pv D (i+1) ys H4) /\
   ∀D ys H2,H1 D=none ->Pv D xs.length ys H2 ->Q (.ref D) H2):tLC (rV K (tUp tl)) k js g tt te σ H Q:=by
 refine⟨R,h,fun x H1 q=> ?_⟩;obtain⟨a,xs,rfl,hq,hn,Pv,h0,hl,hs,hd⟩:=hb x H1 q
 exact⟨a,rfl,⟨xs,hq⟩,fun D hD=>rT (Pv D) (h0 D hD) (dW hn (by decide)) (fun i ys H hi p=>hl D i ys H hi p) (fun i x ys H hi p=>hs D i x ys H hD hi p) (fun ys H p=>hd D ys H hD p)⟩
end
end L2
namespace L2
open PySem
theorem mh{X:Cx}{a b:Expr}{p:Pos}{es:List Expr}{te:TE}{t:TA}(ha:PE X (.Subscript a b p) te)(hr:PA X es t):PA X (.Subscript a b p::es) (tT te t):=iN ha hr rfl
end L2
namespace L2
open PySem PySem.Spec PyProof.Rows
section
variable {X:Cx} {a b:Expr} {ta tb:TE} {pos:Pos}
noncomputable def zK(i:Nat):TE:=fun σ H Q=>match σ[i]? with
 |some (some v)=>Q v H
 |_=>False
theorem pvF(i:Nat){x:Str}(hN:X.N[i]? =some x:=by rfl)(hv:Vis X.env.scope x:=by first|exact aL rfl|exact fk (aL rfl)|exact fk (fk rfl))(hd:(x==("__debug__":Str))=false:=by decide)
  (hcd:(x==("__classdict__":Str))=false:=by decide):PE X (.Name x pos) (zK i):=by
 intro pins s σ H Q I h;refine pv i hN hv hd hcd pins s σ H Q I ?_;unfold zK at h;split at h
 ·exact⟨_,‹_›,h⟩
 ·exact h.elim
noncomputable def fI(C:Int ->Int ->Prop)(g:Int ->Int ->V):R2:=fun x y H Q=>match x,y with
 | .int i,.int j=>C i j /\ Q (g i j) H
 |_,_=>False
noncomputable def fI0(g:Int ->Int ->V):R2:=fun x y H Q=>match x,y with
 | .int i,.int j=>Q (g i j) H
 |_,_=>False
noncomputable def fU(g:Int ->V):V ->Hp ->VK ->Prop:=fun x H Q=>match x with
 | .int i=>Q (g i) H
 |_=>False
theorem OpR.f{F:Value ->Value ->Sem Value}{C:Int ->Int ->Prop}{g:Int ->Int ->V}(h:OpR X F (rI C g)):OpR X F (fI C g):=by
 intro pins s σ H x y v u Q I r1 r2 q;refine h pins s σ H x y v u Q I r1 r2 ?_;unfold fI at q;split at q
 ·exact⟨_,_,rfl,rfl,q.1,q.2⟩
 ·exact q.elim
theorem OpR.f0{F:Value ->Value ->Sem Value}{g:Int ->Int ->V}(h:OpR X F (rI0 g)):OpR X F (fI0 g):=by
 intro pins s σ H x y v u Q I r1 r2 q;refine h pins s σ H x y v u Q I r1 r2 ?_;unfold fI0 at q;split at q
 ·exact⟨_,_,rfl,rfl,q⟩
 ·exact q.elim
theorem UnR.f{F:Value ->Sem Value}{g:Int ->V}(h:UnR X F (rU g)):UnR X F (fU g):=by
 intro pins s σ H x v Q I r1 q;refine h pins s σ H x v Q I r1 ?_;unfold fU at q;split at q
 ·exact⟨_,rfl,q⟩
 ·exact q.elim
noncomputable def fEq:R2:=fun x y H Q=>match x,y with
 | .int i,.int j=>Q (.bl (decide (i=j))) H
 |_,_=>rEq x y H Q
theorem OpR.e{F:Value ->Value ->Sem Value}(h:OpR X F rEq):OpR X F fEq:=by
 intro pins s σ H x y v u Q I r1 r2 q;refine h pins s σ H x y v u Q I r1 r2 ?_;unfold fEq at q;split at q
 ·refine⟨rfl,?_⟩
  simpa only[V.int.injEq] using q
 ·exact q
theorem j3:OpR X (compareOp .Eq) (fI0 fun i j=> .bl (decide (i=j))):=OpR.f0 (zH fun _ _ _ _ _ _ _ q=>eq_int q)
theorem vm:OpR X (compareOp .NotEq) (fI0 fun i j=> .bl (!decide (i=j))):=OpR.f0 (zH fun _ _ _ _ _ _ _ q=>ne_int q)
noncomputable def uj(t:TE):TT:=fun σ H Q=>t σ H fun x H'=>match x with
 | .bl k=>Q k H'
 |_=>False
theorem i5{op:CmpOp}{r:R2}(ho:OpR X (compareOp op) r)(ha:PE X a ta)(hb:PE X b tb)(hm:behindInMarks op b=false):PT X (.Compare a [op] [b] pos) (uj (tOp r ta tb)):=by
 intro pins s σ H Q I h;refine wpAny_isTrue_Compare1 (thn (ha pins s σ H _ I h) fun v s1 ⟨x,H1,I1,r1,q1⟩=>thn (hb pins s1 σ H1 _ I1 q1) fun u s2 ⟨y,H2,I2,r2,q2⟩=>
  thn (ho pins s2 σ H2 x y v u _ I2 r1 r2 q2) fun c s3 ⟨z,H3,I3,r3,q3⟩=> ?_) hm
 dsimp only at q3;split at q3
 ·cases r3;exact wpAny_truthy_bool ⟨H3,I3,q3⟩
 ·exact q3.elim
noncomputable def uk(t:TG)(u:TGs):TGs:=fun vs σ H Q=>match vs with
 |v::r=>t v σ H fun σ' H'=>u r σ' H' Q
 |[]=>False
noncomputable def zL:TGs:=fun vs σ H Q=>match vs with
 |[]=>Q σ H
 |_=>False
theorem jr:PGs X [] zL:=by
 intro pins s σ H vs us Q I r h;refine yH pins s σ H vs us Q I r ?_;unfold zL at h;split at h
 ·exact⟨rfl,h⟩
 ·exact h.elim
theorem iT{e:Expr}{es:List Expr}{t:TG}{u:TGs}(h1:PG X e t)(h2:PGs X es u)
  (hs:(assignEach (e::es) X.env).map (·.2)=assign e X.env::(assignEach es X.env).map (·.2):=by rfl):PGs X (e::es) (uk t u):=by
 intro pins s σ H vs us Q I r h;refine wD h1 h2 hs pins s σ H vs us Q I r ?_;unfold uk at h;split at h
 ·exact⟨_,_,rfl,h⟩
 ·exact h.elim
theorem mO{e:Expr}{t:TE}(h:PE X e t)(he:∀whole,isTrue e X.env whole=(do let v<-whole;standAt e.pos;holding [v] (truthy v)):=by intro _;rfl):PT X e (uj t):=by
 intro pins s σ H Q I hw;refine isTrue_plain (thn (h pins s σ H _ I hw) fun v s1 ⟨x,H1,I1,r1,q1⟩=> ?_) (he _);dsimp only at q1;split at q1
 ·cases r1;exact wpAny_truthy_bool ⟨H1,I1,q1⟩
 ·exact q1.elim
end
end L2
namespace LW
open PySem L2 PyProof.Rows
noncomputable def top(i:Nat):Stmt:=PySem.Challenge.pw_nearlands_k70_far_lands_of_few.main.body.getD i (.Pass ⟨0,0,0,0⟩)
noncomputable abbrev s_divisor:Stmt:=top 8
noncomputable abbrev s_sign:Stmt:=top 9
noncomputable abbrev s_point_of:Stmt:=top 11
noncomputable abbrev s_spot_point:Stmt:=top 12
noncomputable abbrev s_fraction_of:Stmt:=top 13
noncomputable abbrev s_less:Stmt:=top 14
noncomputable abbrev s_ahead:Stmt:=top 15
noncomputable abbrev s_scaled_square:Stmt:=top 16
noncomputable abbrev s_square:Stmt:=top 17
noncomputable abbrev s_line_of:Stmt:=top 19
noncomputable abbrev s_between:Stmt:=top 20
noncomputable abbrev s_excess:Stmt:=top 21
noncomputable abbrev s_meet:Stmt:=top 22
noncomputable abbrev s_check_box:Stmt:=top 25
noncomputable abbrev s_has_point:Stmt:=top 26
noncomputable abbrev s_in_box:Stmt:=top 27
noncomputable abbrev s_check_count:Stmt:=top 28
noncomputable abbrev s_check_spots:Stmt:=top 29
noncomputable abbrev s_check_box_and_spots:Stmt:=top 30
noncomputable abbrev s_others_of:Stmt:=top 31
noncomputable abbrev s_box_field:Stmt:=top 33
noncomputable abbrev s_crossing:Stmt:=top 37
noncomputable abbrev s_rest:Stmt:=top 36
noncomputable abbrev s_from_first:Stmt:=top 38
noncomputable abbrev s_cut:Stmt:=top 34
noncomputable abbrev s_cut_each:Stmt:=top 35
noncomputable abbrev s_far_land:Stmt:=top 41
noncomputable abbrev s_far_lands:Stmt:=top 40
noncomputable abbrev s_farthest:Stmt:=top 43
noncomputable abbrev s_middle:Stmt:=top 45
noncomputable abbrev s_ring_centres:Stmt:=top 44
noncomputable abbrev s_least_ring:Stmt:=top 42
noncomputable abbrev s_cut_off:Stmt:=top 49
noncomputable abbrev s_land_within:Stmt:=top 48
noncomputable abbrev s_lands:Stmt:=top 47
noncomputable abbrev s__law_feed:Stmt:=top 51
noncomputable abbrev s__law_draw:Stmt:=top 52
noncomputable abbrev s__law_great:Stmt:=top 53
noncomputable abbrev s__law_scale:Stmt:=top 54
noncomputable abbrev s__law_spot:Stmt:=top 55
noncomputable abbrev s__law_dozen:Stmt:=top 56
noncomputable abbrev s__law_spots:Stmt:=top 57
noncomputable abbrev s__law_world:Stmt:=top 58
noncomputable abbrev s__law_side:Stmt:=top 59
noncomputable abbrev s__law_has:Stmt:=top 60
noncomputable abbrev s__law_two:Stmt:=top 61
noncomputable abbrev s__law_middle:Stmt:=top 62
noncomputable abbrev s__law_refused:Stmt:=top 63
noncomputable abbrev s_law:Stmt:=top 64
noncomputable def sA(K:ag):Sp:=fun vs H Q _=>∃(a:Addr) (ns:List Int),vs=[.ref a] /\ SqL K H a (ns.map V.int) /\ ns.length<=63 /\ ∀H',Q (.bl true) H'
abbrev AllMk:Prop:=∀{l:gm} {w:World} {K:ag} {h:Heap} {mg:Str ->Option Value} {fa:Addr} (X:K.In h) (G:h.Ns mainGlobals mg) (hfa:mg "law"=some (.ref fa))
  {f_divisor:Addr} {od_divisor an_divisor:Option Addr} {sl_divisor:Array (Option Value)} {oc_divisor kV_divisor dc_divisor pm_divisor cd_divisor ct_divisor:Value} {f_sign:Addr} {od_sign an_sign:Option Addr} {sl_sign:Array (Option Value)} {oc_sign kV_sign dc_sign pm_sign cd_sign ct_sign:Value} {f_point_of:Addr} {od_point_of an_point_of:Option Addr} {sl_point_of:Array (Option Value)} {oc_point_of kV_point_of dc_point_of pm_point_of cd_point_of ct_point_of:Value} {f_spot_point:Addr} {od_spot_point an_spot_point:Option Addr} {sl_spot_point:Array (Option Value)} {oc_spot_point kV_spot_point dc_spot_point pm_spot_point cd_spot_point ct_spot_point:Value} {f_fraction_of:Addr} {od_fraction_of an_fraction_of:Option Addr} {sl_fraction_of:Array (Option Value)} {oc_fraction_of kV_fraction_of dc_fraction_of pm_fraction_of cd_fraction_of ct_fraction_of:Value} {f_less:Addr} {od_less an_less:Option Addr} {sl_less:Array (Option Value)} {oc_less kV_less dc_less pm_less cd_less ct_less:Value} {f_ahead:Addr} {od_ahead an_ahead:Option Addr} {sl_ahead:Array (Option Value)} {oc_ahead kV_ahead dc_ahead pm_ahead cd_ahead ct_ahead:Value} {f_scaled_square:Addr} {od_scaled_square an_scaled_square:Option Addr} {sl_scaled_square:Array (Option Value)} {oc_scaled_square kV_scaled_square dc_scaled_square pm_scaled_square cd_scaled_square ct_scaled_square:Value} {f_square:Addr} {od_square an_square:Option Addr} {sl_square:Array (Option Value)} {oc_square kV_square dc_square pm_square cd_square ct_square:Value} {f_line_of:Addr} {od_line_of an_line_of:Option Addr} {sl_line_of:Array (Option Value)} {oc_line_of kV_line_of dc_line_of pm_line_of cd_line_of ct_line_of:Value} {f_between:Addr} {od_between an_between:Option Addr} {sl_between:Array (Option Value)} {oc_between kV_between dc_between pm_between cd_between ct_between:Value} {f_excess:Addr} {od_excess an_excess:Option Addr} {sl_excess:Array (Option Value)} {oc_excess kV_excess dc_excess pm_excess cd_excess ct_excess:Value} {f_meet:Addr} {od_meet an_meet:Option Addr} {sl_meet:Array (Option Value)} {oc_meet kV_meet dc_meet pm_meet cd_meet ct_meet:Value} {f_check_box:Addr} {od_check_box an_check_box:Option Addr} {sl_check_box:Array (Option Value)} {oc_check_box kV_check_box dc_check_box pm_check_box cd_check_box ct_check_box:Value} {f_has_point:Addr} {od_has_point an_has_point:Option Addr} {sl_has_point:Array (Option Value)} {oc_has_point kV_has_point dc_has_point pm_has_point cd_has_point ct_has_point:Value} {f_in_box:Addr} {od_in_box an_in_box:Option Addr} {sl_in_box:Array (Option Value)} {oc_in_box kV_in_box dc_in_box pm_in_box cd_in_box ct_in_box:Value} {f_check_count:Addr} {od_check_count an_check_count:Option Addr} {sl_check_count:Array (Option Value)} {oc_check_count kV_check_count dc_check_count pm_check_count cd_check_count ct_check_count:Value} {f_check_spots:Addr} {od_check_spots an_check_spots:Option Addr} {sl_check_spots:Array (Option Value)} {oc_check_spots kV_check_spots dc_check_spots pm_check_spots cd_check_spots ct_check_spots:Value} {f_check_box_and_spots:Addr} {od_check_box_and_spots an_check_box_and_spots:Option Addr} {sl_check_box_and_spots:Array (Option Value)} {oc_check_box_and_spots kV_check_box_and_spots dc_check_box_and_spots pm_check_box_and_spots cd_check_box_and_spots ct_check_box_and_spots:Value} {f_others_of:Addr} {od_others_of an_others_of:Option Addr} {sl_others_of:Array (Option Value)} {oc_others_of kV_others_of dc_others_of pm_others_of cd_others_of ct_others_of:Value} {f_box_field:Addr} {od_box_field an_box_field:Option Addr} {sl_box_field:Array (Option Value)} {oc_box_field kV_box_field dc_box_field pm_box_field cd_box_field ct_box_field:Value} {f_crossing:Addr} {od_crossing an_crossing:Option Addr} {sl_crossing:Array (Option Value)} {oc_crossing kV_crossing dc_crossing pm_crossing cd_crossing ct_crossing:Value} {f_rest:Addr} {od_rest an_rest:Option Addr} {sl_rest:Array (Option Value)} {oc_rest kV_rest dc_rest pm_rest cd_rest ct_rest:Value} {f_from_first:Addr} {od_from_first an_from_first:Option Addr} {sl_from_first:Array (Option Value)} {oc_from_first kV_from_first dc_from_first pm_from_first cd_from_first ct_from_first:Value} {f_cut:Addr} {od_cut an_cut:Option Addr} {sl_cut:Array (Option Value)} {oc_cut kV_cut dc_cut pm_cut cd_cut ct_cut:Value} {f_cut_each:Addr} {od_cut_each an_cut_each:Option Addr} {sl_cut_each:Array (Option Value)} {oc_cut_each kV_cut_each dc_cut_each pm_cut_each cd_cut_each ct_cut_each:Value} {f_far_land:Addr} {od_far_land an_far_land:Option Addr} {sl_far_land:Array (Option Value)} {oc_far_land kV_far_land dc_far_land pm_far_land cd_far_land ct_far_land:Value} {f_far_lands:Addr} {od_far_lands an_far_lands:Option Addr} {sl_far_lands:Array (Option Value)} {oc_far_lands kV_far_lands dc_far_lands pm_far_lands cd_far_lands ct_far_lands:Value} {f_farthest:Addr} {od_farthest an_farthest:Option Addr} {sl_farthest:Array (Option Value)} {oc_farthest kV_farthest dc_farthest pm_farthest cd_farthest ct_farthest:Value} {f_middle:Addr} {od_middle an_middle:Option Addr} {sl_middle:Array (Option Value)} {oc_middle kV_middle dc_middle pm_middle cd_middle ct_middle:Value} {f_ring_centres:Addr} {od_ring_centres an_ring_centres:Option Addr} {sl_ring_centres:Array (Option Value)} {oc_ring_centres kV_ring_centres dc_ring_centres pm_ring_centres cd_ring_centres ct_ring_centres:Value} {f_least_ring:Addr} {od_least_ring an_least_ring:Option Addr} {sl_least_ring:Array (Option Value)} {oc_least_ring kV_least_ring dc_least_ring pm_least_ring cd_least_ring ct_least_ring:Value} {f_cut_off:Addr} {od_cut_off an_cut_off:Option Addr} {sl_cut_off:Array (Option Value)} {oc_cut_off kV_cut_off dc_cut_off pm_cut_off cd_cut_off ct_cut_off:Value} {f_land_within:Addr} {od_land_within an_land_within:Option Addr} {sl_land_within:Array (Option Value)} {oc_land_within kV_land_within dc_land_within pm_land_within cd_land_within ct_land_within:Value} {f_lands:Addr} {od_lands an_lands:Option Addr} {sl_lands:Array (Option Value)} {oc_lands kV_lands dc_lands pm_lands cd_lands ct_lands:Value} {f__law_feed:Addr} {od__law_feed an__law_feed:Option Addr} {sl__law_feed:Array (Option Value)} {oc__law_feed kV__law_feed dc__law_feed pm__law_feed cd__law_feed ct__law_feed:Value} {f__law_draw:Addr} {od__law_draw an__law_draw:Option Addr} {sl__law_draw:Array (Option Value)} {oc__law_draw kV__law_draw dc__law_draw pm__law_draw cd__law_draw ct__law_draw:Value} {f__law_great:Addr} {od__law_great an__law_great:Option Addr} {sl__law_great:Array (Option Value)} {oc__law_great kV__law_great dc__law_great pm__law_great cd__law_great ct__law_great:Value} {f__law_scale:Addr} {od__law_scale an__law_scale:Option Addr} {sl__law_scale:Array (Option Value)} {oc__law_scale kV__law_scale dc__law_scale pm__law_scale cd__law_scale ct__law_scale:Value} {f__law_spot:Addr} {od__law_spot an__law_spot:Option Addr} {sl__law_spot:Array (Option Value)} {oc__law_spot kV__law_spot dc__law_spot pm__law_spot cd__law_spot ct__law_spot:Value} {f__law_dozen:Addr} {od__law_dozen an__law_dozen:Option Addr} {sl__law_dozen:Array (Option Value)} {oc__law_dozen kV__law_dozen dc__law_dozen pm__law_dozen cd__law_dozen ct__law_dozen:Value} {f__law_spots:Addr} {od__law_spots an__law_spots:Option Addr} {sl__law_spots:Array (Option Value)} {oc__law_spots kV__law_spots dc__law_spots pm__law_spots cd__law_spots ct__law_spots:Value} {f__law_world:Addr} {od__law_world an__law_world:Option Addr} {sl__law_world:Array (Option Value)} {oc__law_world kV__law_world dc__law_world pm__law_world cd__law_world ct__law_world:Value} {f__law_side:Addr} {od__law_side an__law_side:Option Addr} {sl__law_side:Array (Option Value)} {oc__law_side kV__law_side dc__law_side pm__law_side cd__law_side ct__law_side:Value} {f__law_has:Addr} {od__law_has an__law_has:Option Addr} {sl__law_has:Array (Option Value)} {oc__law_has kV__law_has dc__law_has pm__law_has cd__law_has ct__law_has:Value} {f__law_two:Addr} {od__law_two an__law_two:Option Addr} {sl__law_two:Array (Option Value)} {oc__law_two kV__law_two dc__law_two pm__law_two cd__law_two ct__law_two:Value} {f__law_middle:Addr} {od__law_middle an__law_middle:Option Addr} {sl__law_middle:Array (Option Value)} {oc__law_middle kV__law_middle dc__law_middle pm__law_middle cd__law_middle ct__law_middle:Value} {f__law_refused:Addr} {od__law_refused an__law_refused:Option Addr} {sl__law_refused:Array (Option Value)} {oc__law_refused kV__law_refused dc__law_refused pm__law_refused cd__law_refused ct__law_refused:Value} {f_law:Addr} {od_law an_law:Option Addr} {sl_law:Array (Option Value)} {oc_law kV_law dc_law pm_law cd_law ct_law:Value} {cl_LandError:Addr} {cl_NoBox:Addr} {cl_TooMany:Addr} {cl_NoSpot:Addr} {cdt_NoBox:ClassData} {cdt_TooMany:ClassData} {tk_MOST_SPOTS:Tok} {ynm yq yx yqual yfile:Str} {yn:Nat} {yN yD yfI ycc ycda:Addr} {ybs ysub:List Value} {ysn:List Str} {yab:Bool} {ycol:Option Bool} {ydd yod yan yccd ycdd:Option Addr} {yk0 yk1 yk2 yk3 yk5:Option Value} {yosl yccs ycds:Array (Option Value)} {ykV ydoc ypm yct yccl ycdl:Value} {yvs:Array Value} {ytf:Tok} {ycdt:ClassData}
  (a_divisor:az K mainGlobals "divisor"=some (some (.ref f_divisor)))
  (l_divisor:K.lookup f_divisor=some ⟨oc_divisor,od_divisor,.func (aG "divisor" "divisor" (i8 s_divisor) (i6 s_divisor) (iR s_divisor) .none kV_divisor dc_divisor pm_divisor an_divisor cd_divisor ct_divisor),sl_divisor⟩)
  (c_divisor:aB K cd_divisor "divisor"=true)
  (k_divisor:aA K (.ref f_divisor)=true)
  (a_sign:az K mainGlobals "sign"=some (some (.ref f_sign)))
  (l_sign:K.lookup f_sign=some ⟨oc_sign,od_sign,.func (aG "sign" "sign" (i8 s_sign) (i6 s_sign) (iR s_sign) .none kV_sign dc_sign pm_sign an_sign cd_sign ct_sign),sl_sign⟩)
  (c_sign:aB K cd_sign "sign"=true)
  (k_sign:aA K (.ref f_sign)=true)
  (a_point_of:az K mainGlobals "point_of"=some (some (.ref f_point_of)))
  (l_point_of:K.lookup f_point_of=some ⟨oc_point_of,od_point_of,.func (aG "point_of" "point_of" (i8 s_point_of) (i6 s_point_of) (iR s_point_of) .none kV_point_of dc_point_of pm_point_of an_point_of cd_point_of ct_point_of),sl_point_of⟩)
  (c_point_of:aB K cd_point_of "point_of"=true)
  (k_point_of:aA K (.ref f_point_of)=true)
  (a_spot_point:az K mainGlobals "spot_point"=some (some (.ref f_spot_point)))
  (l_spot_point:K.lookup f_spot_point=some ⟨oc_spot_point,od_spot_point,.func (aG "spot_point" "spot_point" (i8 s_spot_point) (i6 s_spot_point) (iR s_spot_point) .none kV_spot_point dc_spot_point pm_spot_point an_spot_point cd_spot_point ct_spot_point),sl_spot_point⟩)
  (c_spot_point:aB K cd_spot_point "spot_point"=true)
  (k_spot_point:aA K (.ref f_spot_point)=true)
  (a_fraction_of:az K mainGlobals "fraction_of"=some (some (.ref f_fraction_of)))
  (l_fraction_of:K.lookup f_fraction_of=some ⟨oc_fraction_of,od_fraction_of,.func (aG "fraction_of" "fraction_of" (i8 s_fraction_of) (i6 s_fraction_of) (iR s_fraction_of) .none kV_fraction_of dc_fraction_of pm_fraction_of an_fraction_of cd_fraction_of ct_fraction_of),sl_fraction_of⟩)
  (c_fraction_of:aB K cd_fraction_of "fraction_of"=true)
  (k_fraction_of:aA K (.ref f_fraction_of)=true)
  (a_less:az K mainGlobals "less"=some (some (.ref f_less)))
  (l_less:K.lookup f_less=some ⟨oc_less,od_less,.func (aG "less" "less" (i8 s_less) (i6 s_less) (iR s_less) .none kV_less dc_less pm_less an_less cd_less ct_less),sl_less⟩)
  (c_less:aB K cd_less "less"=true)
  (k_less:aA K (.ref f_less)=true)
  (a_ahead:az K mainGlobals "ahead"=some (some (.ref f_ahead)))
  (l_ahead:K.lookup f_ahead=some ⟨oc_ahead,od_ahead,.func (aG "ahead" "ahead" (i8 s_ahead) (i6 s_ahead) (iR s_ahead) .none kV_ahead dc_ahead pm_ahead an_ahead cd_ahead ct_ahead),sl_ahead⟩)
  (c_ahead:aB K cd_ahead "ahead"=true)
  (k_ahead:aA K (.ref f_ahead)=true)
  (a_scaled_square:az K mainGlobals "scaled_square"=some (some (.ref f_scaled_square)))
  (l_scaled_square:K.lookup f_scaled_square=some ⟨oc_scaled_square,od_scaled_square,.func (aG "scaled_square" "scaled_square" (i8 s_scaled_square) (i6 s_scaled_square) (iR s_scaled_square) .none kV_scaled_square dc_scaled_square pm_scaled_square an_scaled_square cd_scaled_square ct_scaled_square),sl_scaled_square⟩)
  (c_scaled_square:aB K cd_scaled_square "scaled_square"=true)
  (k_scaled_square:aA K (.ref f_scaled_square)=true)
  (a_square:az K mainGlobals "square"=some (some (.ref f_square)))
  (l_square:K.lookup f_square=some ⟨oc_square,od_square,.func (aG "square" "square" (i8 s_square) (i6 s_square) (iR s_square) .none kV_square dc_square pm_square an_square cd_square ct_square),sl_square⟩)
  (c_square:aB K cd_square "square"=true)
  (k_square:aA K (.ref f_square)=true)
  (a_line_of:az K mainGlobals "line_of"=some (some (.ref f_line_of)))
  (l_line_of:K.lookup f_line_of=some ⟨oc_line_of,od_line_of,.func (aG "line_of" "line_of" (i8 s_line_of) (i6 s_line_of) (iR s_line_of) .none kV_line_of dc_line_of pm_line_of an_line_of cd_line_of ct_line_of),sl_line_of⟩)
  (c_line_of:aB K cd_line_of "line_of"=true)
  (k_line_of:aA K (.ref f_line_of)=true)
  (a_between:az K mainGlobals "between"=some (some (.ref f_between)))
  (l_between:K.lookup f_between=some ⟨oc_between,od_between,.func (aG "between" "between" (i8 s_between) (i6 s_between) (iR s_between) .none kV_between dc_between pm_between an_between cd_between ct_between),sl_between⟩)
  (c_between:aB K cd_between "between"=true)
  (k_between:aA K (.ref f_between)=true)
  (a_excess:az K mainGlobals "excess"=some (some (.ref f_excess)))
  (l_excess:K.lookup f_excess=some ⟨oc_excess,od_excess,.func (aG "excess" "excess" (i8 s_excess) (i6 s_excess) (iR s_excess) .none kV_excess dc_excess pm_excess an_excess cd_excess ct_excess),sl_excess⟩)
  (c_excess:aB K cd_excess "excess"=true)
  (k_excess:aA K (.ref f_excess)=true)
  (a_meet:az K mainGlobals "meet"=some (some (.ref f_meet)))
  (l_meet:K.lookup f_meet=some ⟨oc_meet,od_meet,.func (aG "meet" "meet" (i8 s_meet) (i6 s_meet) (iR s_meet) .none kV_meet dc_meet pm_meet an_meet cd_meet ct_meet),sl_meet⟩)
  (c_meet:aB K cd_meet "meet"=true)
  (k_meet:aA K (.ref f_meet)=true)
  (a_check_box:az K mainGlobals "check_box"=some (some (.ref f_check_box)))
  (l_check_box:K.lookup f_check_box=some ⟨oc_check_box,od_check_box,.func (aG "check_box" "check_box" (i8 s_check_box) (i6 s_check_box) (iR s_check_box) .none kV_check_box dc_check_box pm_check_box an_check_box cd_check_box ct_check_box),sl_check_box⟩)
  (c_check_box:aB K cd_check_box "check_box"=true)
  (k_check_box:aA K (.ref f_check_box)=true)
  (a_has_point:az K mainGlobals "has_point"=some (some (.ref f_has_point)))
  (l_has_point:K.lookup f_has_point=some ⟨oc_has_point,od_has_point,.func (aG "has_point" "has_point" (i8 s_has_point) (i6 s_has_point) (iR s_has_point) .none kV_has_point dc_has_point pm_has_point an_has_point cd_has_point ct_has_point),sl_has_point⟩)
  (c_has_point:aB K cd_has_point "has_point"=true)
  (k_has_point:aA K (.ref f_has_point)=true)
  (a_in_box:az K mainGlobals "in_box"=some (some (.ref f_in_box)))
  (l_in_box:K.lookup f_in_box=some ⟨oc_in_box,od_in_box,.func (aG "in_box" "in_box" (i8 s_in_box) (i6 s_in_box) (iR s_in_box) .none kV_in_box dc_in_box pm_in_box an_in_box cd_in_box ct_in_box),sl_in_box⟩)
  (c_in_box:aB K cd_in_box "in_box"=true)
  (k_in_box:aA K (.ref f_in_box)=true)
  (a_check_count:az K mainGlobals "check_count"=some (some (.ref f_check_count)))
  (l_check_count:K.lookup f_check_count=some ⟨oc_check_count,od_check_count,.func (aG "check_count" "check_count" (i8 s_check_count) (i6 s_check_count) (iR s_check_count) .none kV_check_count dc_check_count pm_check_count an_check_count cd_check_count ct_check_count),sl_check_count⟩)
  (c_check_count:aB K cd_check_count "check_count"=true)
  (k_check_count:aA K (.ref f_check_count)=true)
  (a_check_spots:az K mainGlobals "check_spots"=some (some (.ref f_check_spots)))
  (l_check_spots:K.lookup f_check_spots=some ⟨oc_check_spots,od_check_spots,.func (aG "check_spots" "check_spots" (i8 s_check_spots) (i6 s_check_spots) (iR s_check_spots) .none kV_check_spots dc_check_spots pm_check_spots an_check_spots cd_check_spots ct_check_spots),sl_check_spots⟩)
  (c_check_spots:aB K cd_check_spots "check_spots"=true)
  (k_check_spots:aA K (.ref f_check_spots)=true)
  (a_check_box_and_spots:az K mainGlobals "check_box_and_spots"=some (some (.ref f_check_box_and_spots)))
  (l_check_box_and_spots:K.lookup f_check_box_and_spots=some ⟨oc_check_box_and_spots,od_check_box_and_spots,.func (aG "check_box_and_spots" "check_box_and_spots" (i8 s_check_box_and_spots) (i6 s_check_box_and_spots) (iR s_check_box_and_spots) .none kV_check_box_and_spots dc_check_box_and_spots pm_check_box_and_spots an_check_box_and_spots cd_check_box_and_spots ct_check_box_and_spots),sl_check_box_and_spots⟩)
  (c_check_box_and_spots:aB K cd_check_box_and_spots "check_box_and_spots"=true)
  (k_check_box_and_spots:aA K (.ref f_check_box_and_spots)=true)
  (a_others_of:az K mainGlobals "others_of"=some (some (.ref f_others_of)))
  (l_others_of:K.lookup f_others_of=some ⟨oc_others_of,od_others_of,.func (aG "others_of" "others_of" (i8 s_others_of) (i6 s_others_of) (iR s_others_of) .none kV_others_of dc_others_of pm_others_of an_others_of cd_others_of ct_others_of),sl_others_of⟩)
  (c_others_of:aB K cd_others_of "others_of"=true)
  (k_others_of:aA K (.ref f_others_of)=true)
  (a_box_field:az K mainGlobals "box_field"=some (some (.ref f_box_field)))
  (l_box_field:K.lookup f_box_field=some ⟨oc_box_field,od_box_field,.func (aG "box_field" "box_field" (i8 s_box_field) (i6 s_box_field) (iR s_box_field) .none kV_box_field dc_box_field pm_box_field an_box_field cd_box_field ct_box_field),sl_box_field⟩)
  (c_box_field:aB K cd_box_field "box_field"=true)
  (k_box_field:aA K (.ref f_box_field)=true)
  (a_crossing:az K mainGlobals "crossing"=some (some (.ref f_crossing)))
  (l_crossing:K.lookup f_crossing=some ⟨oc_crossing,od_crossing,.func (aG "crossing" "crossing" (i8 s_crossing) (i6 s_crossing) (iR s_crossing) .none kV_crossing dc_crossing pm_crossing an_crossing cd_crossing ct_crossing),sl_crossing⟩)
  (c_crossing:aB K cd_crossing "crossing"=true)
  (k_crossing:aA K (.ref f_crossing)=true)
  (a_rest:az K mainGlobals "rest"=some (some (.ref f_rest)))
  (l_rest:K.lookup f_rest=some ⟨oc_rest,od_rest,.func (aG "rest" "rest" (i8 s_rest) (i6 s_rest) (iR s_rest) .none kV_rest dc_rest pm_rest an_rest cd_rest ct_rest),sl_rest⟩)
  (c_rest:aB K cd_rest "rest"=true)
  (k_rest:aA K (.ref f_rest)=true)
  (a_from_first:az K mainGlobals "from_first"=some (some (.ref f_from_first)))
  (l_from_first:K.lookup f_from_first=some ⟨oc_from_first,od_from_first,.func (aG "from_first" "from_first" (i8 s_from_first) (i6 s_from_first) (iR s_from_first) .none kV_from_first dc_from_first pm_from_first an_from_first cd_from_first ct_from_first),sl_from_first⟩)
  (c_from_first:aB K cd_from_first "from_first"=true)
  (k_from_first:aA K (.ref f_from_first)=true)
  (a_cut:az K mainGlobals "cut"=some (some (.ref f_cut)))
  (l_cut:K.lookup f_cut=some ⟨oc_cut,od_cut,.func (aG "cut" "cut" (i8 s_cut) (i6 s_cut) (iR s_cut) .none kV_cut dc_cut pm_cut an_cut cd_cut ct_cut),sl_cut⟩)
  (c_cut:aB K cd_cut "cut"=true)
  (k_cut:aA K (.ref f_cut)=true)
  (a_cut_each:az K mainGlobals "cut_each"=some (some (.ref f_cut_each)))
  (l_cut_each:K.lookup f_cut_each=some ⟨oc_cut_each,od_cut_each,.func (aG "cut_each" "cut_each" (i8 s_cut_each) (i6 s_cut_each) (iR s_cut_each) .none kV_cut_each dc_cut_each pm_cut_each an_cut_each cd_cut_each ct_cut_each),sl_cut_each⟩)
  (c_cut_each:aB K cd_cut_each "cut_each"=true)
  (k_cut_each:aA K (.ref f_cut_each)=true)
  (a_far_land:az K mainGlobals "far_land"=some (some (.ref f_far_land)))
  (l_far_land:K.lookup f_far_land=some ⟨oc_far_land,od_far_land,.func (aG "far_land" "far_land" (i8 s_far_land) (i6 s_far_land) (iR s_far_land) .none kV_far_land dc_far_land pm_far_land an_far_land cd_far_land ct_far_land),sl_far_land⟩)
  (c_far_land:aB K cd_far_land "far_land"=true)
  (k_far_land:aA K (.ref f_far_land)=true)
  (a_far_lands:az K mainGlobals "far_lands"=some (some (.ref f_far_lands)))
  (l_far_lands:K.lookup f_far_lands=some ⟨oc_far_lands,od_far_lands,.func (aG "far_lands" "far_lands" (i8 s_far_lands) (i6 s_far_lands) (iR s_far_lands) .none kV_far_lands dc_far_lands pm_far_lands an_far_lands cd_far_lands ct_far_lands),sl_far_lands⟩)
  (c_far_lands:aB K cd_far_lands "far_lands"=true)
  (k_far_lands:aA K (.ref f_far_lands)=true)
  (a_farthest:az K mainGlobals "farthest"=some (some (.ref f_farthest)))
  (l_farthest:K.lookup f_farthest=some ⟨oc_farthest,od_farthest,.func (aG "farthest" "farthest" (i8 s_farthest) (i6 s_farthest) (iR s_farthest) .none kV_farthest dc_farthest pm_farthest an_farthest cd_farthest ct_farthest),sl_farthest⟩)
  (c_farthest:aB K cd_farthest "farthest"=true)
  (k_farthest:aA K (.ref f_farthest)=true)
  (a_middle:az K mainGlobals "middle"=some (some (.ref f_middle)))
  (l_middle:K.lookup f_middle=some ⟨oc_middle,od_middle,.func (aG "middle" "middle" (i8 s_middle) (i6 s_middle) (iR s_middle) .none kV_middle dc_middle pm_middle an_middle cd_middle ct_middle),sl_middle⟩)
  (c_middle:aB K cd_middle "middle"=true)
  (k_middle:aA K (.ref f_middle)=true)
  (a_ring_centres:az K mainGlobals "ring_centres"=some (some (.ref f_ring_centres)))
  (l_ring_centres:K.lookup f_ring_centres=some ⟨oc_ring_centres,od_ring_centres,.func (aG "ring_centres" "ring_centres" (i8 s_ring_centres) (i6 s_ring_centres) (iR s_ring_centres) .none kV_ring_centres dc_ring_centres pm_ring_centres an_ring_centres cd_ring_centres ct_ring_centres),sl_ring_centres⟩)
  (c_ring_centres:aB K cd_ring_centres "ring_centres"=true)
  (k_ring_centres:aA K (.ref f_ring_centres)=true)
  (a_least_ring:az K mainGlobals "least_ring"=some (some (.ref f_least_ring)))
  (l_least_ring:K.lookup f_least_ring=some ⟨oc_least_ring,od_least_ring,.func (aG "least_ring" "least_ring" (i8 s_least_ring) (i6 s_least_ring) (iR s_least_ring) .none kV_least_ring dc_least_ring pm_least_ring an_least_ring cd_least_ring ct_least_ring),sl_least_ring⟩)
  (c_least_ring:aB K cd_least_ring "least_ring"=true)
  (k_least_ring:aA K (.ref f_least_ring)=true)
  (a_cut_off:az K mainGlobals "cut_off"=some (some (.ref f_cut_off)))
  (l_cut_off:K.lookup f_cut_off=some ⟨oc_cut_off,od_cut_off,.func (aG "cut_off" "cut_off" (i8 s_cut_off) (i6 s_cut_off) (iR s_cut_off) .none kV_cut_off dc_cut_off pm_cut_off an_cut_off cd_cut_off ct_cut_off),sl_cut_off⟩)
  (c_cut_off:aB K cd_cut_off "cut_off"=true)
  (k_cut_off:aA K (.ref f_cut_off)=true)
  (a_land_within:az K mainGlobals "land_within"=some (some (.ref f_land_within)))
  (l_land_within:K.lookup f_land_within=some ⟨oc_land_within,od_land_within,.func (aG "land_within" "land_within" (i8 s_land_within) (i6 s_land_within) (iR s_land_within) .none kV_land_within dc_land_within pm_land_within an_land_within cd_land_within ct_land_within),sl_land_within⟩)
  (c_land_within:aB K cd_land_within "land_within"=true)
  (k_land_within:aA K (.ref f_land_within)=true)
  (a_lands:az K mainGlobals "lands"=some (some (.ref f_lands)))
  (l_lands:K.lookup f_lands=some ⟨oc_lands,od_lands,.func (aG "lands" "lands" (i8 s_lands) (i6 s_lands) (iR s_lands) .none kV_lands dc_lands pm_lands an_lands cd_lands ct_lands),sl_lands⟩)
  (c_lands:aB K cd_lands "lands"=true)
  (k_lands:aA K (.ref f_lands)=true)
  (a__law_feed:az K mainGlobals "_law_feed"=some (some (.ref f__law_feed)))
  (l__law_feed:K.lookup f__law_feed=some ⟨oc__law_feed,od__law_feed,.func (aG "_law_feed" "_law_feed" (i8 s__law_feed) (i6 s__law_feed) (iR s__law_feed) .none kV__law_feed dc__law_feed pm__law_feed an__law_feed cd__law_feed ct__law_feed),sl__law_feed⟩)
  (c__law_feed:aB K cd__law_feed "_law_feed"=true)
  (k__law_feed:aA K (.ref f__law_feed)=true)
  (a__law_draw:az K mainGlobals "_law_draw"=some (some (.ref f__law_draw)))
  (l__law_draw:K.lookup f__law_draw=some ⟨oc__law_draw,od__law_draw,.func (aG "_law_draw" "_law_draw" (i8 s__law_draw) (i6 s__law_draw) (iR s__law_draw) .none kV__law_draw dc__law_draw pm__law_draw an__law_draw cd__law_draw ct__law_draw),sl__law_draw⟩)
  (c__law_draw:aB K cd__law_draw "_law_draw"=true)
  (k__law_draw:aA K (.ref f__law_draw)=true)
  (a__law_great:az K mainGlobals "_law_great"=some (some (.ref f__law_great)))
  (l__law_great:K.lookup f__law_great=some ⟨oc__law_great,od__law_great,.func (aG "_law_great" "_law_great" (i8 s__law_great) (i6 s__law_great) (iR s__law_great) .none kV__law_great dc__law_great pm__law_great an__law_great cd__law_great ct__law_great),sl__law_great⟩)
  (c__law_great:aB K cd__law_great "_law_great"=true)
  (k__law_great:aA K (.ref f__law_great)=true)
  (a__law_scale:az K mainGlobals "_law_scale"=some (some (.ref f__law_scale)))
  (l__law_scale:K.lookup f__law_scale=some ⟨oc__law_scale,od__law_scale,.func (aG "_law_scale" "_law_scale" (i8 s__law_scale) (i6 s__law_scale) (iR s__law_scale) .none kV__law_scale dc__law_scale pm__law_scale an__law_scale cd__law_scale ct__law_scale),sl__law_scale⟩)
  (c__law_scale:aB K cd__law_scale "_law_scale"=true)
  (k__law_scale:aA K (.ref f__law_scale)=true)
  (a__law_spot:az K mainGlobals "_law_spot"=some (some (.ref f__law_spot)))
  (l__law_spot:K.lookup f__law_spot=some ⟨oc__law_spot,od__law_spot,.func (aG "_law_spot" "_law_spot" (i8 s__law_spot) (i6 s__law_spot) (iR s__law_spot) .none kV__law_spot dc__law_spot pm__law_spot an__law_spot cd__law_spot ct__law_spot),sl__law_spot⟩)
  (c__law_spot:aB K cd__law_spot "_law_spot"=true)
  (k__law_spot:aA K (.ref f__law_spot)=true)
  (a__law_dozen:az K mainGlobals "_law_dozen"=some (some (.ref f__law_dozen)))
  (l__law_dozen:K.lookup f__law_dozen=some ⟨oc__law_dozen,od__law_dozen,.func (aG "_law_dozen" "_law_dozen" (i8 s__law_dozen) (i6 s__law_dozen) (iR s__law_dozen) .none kV__law_dozen dc__law_dozen pm__law_dozen an__law_dozen cd__law_dozen ct__law_dozen),sl__law_dozen⟩)
  (c__law_dozen:aB K cd__law_dozen "_law_dozen"=true)
  (k__law_dozen:aA K (.ref f__law_dozen)=true)
  (a__law_spots:az K mainGlobals "_law_spots"=some (some (.ref f__law_spots)))
  (l__law_spots:K.lookup f__law_spots=some ⟨oc__law_spots,od__law_spots,.func (aG "_law_spots" "_law_spots" (i8 s__law_spots) (i6 s__law_spots) (iR s__law_spots) .none kV__law_spots dc__law_spots pm__law_spots an__law_spots cd__law_spots ct__law_spots),sl__law_spots⟩)
  (c__law_spots:aB K cd__law_spots "_law_spots"=true)
  (k__law_spots:aA K (.ref f__law_spots)=true)
  (a__law_world:az K mainGlobals "_law_world"=some (some (.ref f__law_world)))
  (l__law_world:K.lookup f__law_world=some ⟨oc__law_world,od__law_world,.func (aG "_law_world" "_law_world" (i8 s__law_world) (i6 s__law_world) (iR s__law_world) .none kV__law_world dc__law_world pm__law_world an__law_world cd__law_world ct__law_world),sl__law_world⟩)
  (c__law_world:aB K cd__law_world "_law_world"=true)
  (k__law_world:aA K (.ref f__law_world)=true)
  (a__law_side:az K mainGlobals "_law_side"=some (some (.ref f__law_side)))
  (l__law_side:K.lookup f__law_side=some ⟨oc__law_side,od__law_side,.func (aG "_law_side" "_law_side" (i8 s__law_side) (i6 s__law_side) (iR s__law_side) .none kV__law_side dc__law_side pm__law_side an__law_side cd__law_side ct__law_side),sl__law_side⟩)
  (c__law_side:aB K cd__law_side "_law_side"=true)
  (k__law_side:aA K (.ref f__law_side)=true)
  (a__law_has:az K mainGlobals "_law_has"=some (some (.ref f__law_has)))
  (l__law_has:K.lookup f__law_has=some ⟨oc__law_has,od__law_has,.func (aG "_law_has" "_law_has" (i8 s__law_has) (i6 s__law_has) (iR s__law_has) .none kV__law_has dc__law_has pm__law_has an__law_has cd__law_has ct__law_has),sl__law_has⟩)
  (c__law_has:aB K cd__law_has "_law_has"=true)
  (k__law_has:aA K (.ref f__law_has)=true)
  (a__law_two:az K mainGlobals "_law_two"=some (some (.ref f__law_two)))
  (l__law_two:K.lookup f__law_two=some ⟨oc__law_two,od__law_two,.func (aG "_law_two" "_law_two" (i8 s__law_two) (i6 s__law_two) (iR s__law_two) .none kV__law_two dc__law_two pm__law_two an__law_two cd__law_two ct__law_two),sl__law_two⟩)
  (c__law_two:aB K cd__law_two "_law_two"=true)
  (k__law_two:aA K (.ref f__law_two)=true)
  (a__law_middle:az K mainGlobals "_law_middle"=some (some (.ref f__law_middle)))
  (l__law_middle:K.lookup f__law_middle=some ⟨oc__law_middle,od__law_middle,.func (aG "_law_middle" "_law_middle" (i8 s__law_middle) (i6 s__law_middle) (iR s__law_middle) .none kV__law_middle dc__law_middle pm__law_middle an__law_middle cd__law_middle ct__law_middle),sl__law_middle⟩)
  (c__law_middle:aB K cd__law_middle "_law_middle"=true)
  (k__law_middle:aA K (.ref f__law_middle)=true)
  (a__law_refused:az K mainGlobals "_law_refused"=some (some (.ref f__law_refused)))
  (l__law_refused:K.lookup f__law_refused=some ⟨oc__law_refused,od__law_refused,.func (aG "_law_refused" "_law_refused" (i8 s__law_refused) (i6 s__law_refused) (iR s__law_refused) .none kV__law_refused dc__law_refused pm__law_refused an__law_refused cd__law_refused ct__law_refused),sl__law_refused⟩)
  (c__law_refused:aB K cd__law_refused "_law_refused"=true)
  (k__law_refused:aA K (.ref f__law_refused)=true)
  (a_law:az K mainGlobals "law"=some (some (.ref f_law)))
  (l_law:K.lookup f_law=some ⟨oc_law,od_law,.func (aG "law" "law" (i8 s_law) (i6 s_law) (iR s_law) .none kV_law dc_law pm_law an_law cd_law ct_law),sl_law⟩)
  (c_law:aB K cd_law "law"=true)
  (k_law:aA K (.ref f_law)=true)
  (z_abs:az K mainGlobals "abs"=some none)
  (z_enumerate:az K mainGlobals "enumerate"=some none)
  (z_int:az K mainGlobals "int"=some none)
  (z_isinstance:az K mainGlobals "isinstance"=some none)
  (z_len:az K mainGlobals "len"=some none)
  (z_list:az K mainGlobals "list"=some none)
  (z_max:az K mainGlobals "max"=some none)
  (z_min:az K mainGlobals "min"=some none)
  (z_range:az K mainGlobals "range"=some none)
  (z_super:az K mainGlobals "super"=some none)
  (a_MOST_SPOTS:az K mainGlobals "MOST_SPOTS"=some (some (.int 12 tk_MOST_SPOTS)))
  (a_LandError:az K mainGlobals "LandError"=some (some (.ref cl_LandError)))
  (a_NoBox:az K mainGlobals "NoBox"=some (some (.ref cl_NoBox)))
  (a_TooMany:az K mainGlobals "TooMany"=some (some (.ref cl_TooMany)))
  (a_NoSpot:az K mainGlobals "NoSpot"=some (some (.ref cl_NoSpot)))
  (x1_NoBox:ft K cl_NoBox [.type "ValueError",.type "Exception",.type "BaseException",.type "object"] "ValueError.__new__"=true)
  (x2_NoBox:bg K (.ref cl_NoBox) "__getattribute__"=some (some (.builtin "BaseException.__getattribute__")))
  (x3_NoBox:bg K (.ref cl_NoBox) "__getattr__"=some none)
  (x4_NoBox:bg K (.ref cl_NoBox) "__class__"=some (some (.builtin "object.__class__")))
  (x5_NoBox:dE K (.builtin "object.__class__") "__get__"=some (some (.builtin "getset_descriptor.__get__")))
  (x6_NoBox:d7 K (.builtin "object.__class__")=some true)
  (x7_NoBox:fu K cl_NoBox=some cdt_NoBox)
  (x8_NoBox:bZ K cl_NoBox (.type "BaseException")=some true)
  (x9_NoBox:bZ K cl_NoBox (.type "object")=some true)
  (x1_TooMany:ft K cl_TooMany [.type "ValueError",.type "Exception",.type "BaseException",.type "object"] "ValueError.__new__"=true)
  (x2_TooMany:bg K (.ref cl_TooMany) "__getattribute__"=some (some (.builtin "BaseException.__getattribute__")))
  (x3_TooMany:bg K (.ref cl_TooMany) "__getattr__"=some none)
  (x4_TooMany:bg K (.ref cl_TooMany) "__class__"=some (some (.builtin "object.__class__")))
  (x5_TooMany:dE K (.builtin "object.__class__") "__get__"=some (some (.builtin "getset_descriptor.__get__")))
  (x6_TooMany:d7 K (.builtin "object.__class__")=some true)
  (x7_TooMany:fu K cl_TooMany=some cdt_TooMany)
  (x8_TooMany:bZ K cl_TooMany (.type "BaseException")=some true)
  (x9_TooMany:bZ K cl_TooMany (.type "object")=some true)
  (y1_:K.lookup cl_NoSpot=some (excClassObj ynm yq cl_NoSpot yN ybs (.ref yD::veB) true ysn ysub yab ycol ydd yk0 yk1 yk2 yk3 yk5 "ValueError.__new__"))
  (y2_:iC K veB (.ref yD::veB)=true)
  (y3_:iD K yN=true)
  (y4_:az K yN "__init__"=some (some (.ref yfI)))
  (y5_:d8 K "__init__" (.ref yD::veB)=some (some ka))
  (y6_:K.lookup yfI=some ⟨.type "function",yod,.func (iw "__init__" yqual (oK ⟨14,17,14,21⟩ ⟨14,23,14,25⟩) (tu yx yn ⟨15,8,15,13⟩ ⟨15,8,15,15⟩ ⟨15,8,15,24⟩ ⟨15,25,15,46⟩ ⟨15,8,15,47⟩ ⟨15,8,15,47⟩ ⟨16,8,16,12⟩ ⟨16,8,16,15⟩ ⟨16,18,16,20⟩ ⟨16,8,16,20⟩) n5 [("__class__",ycc)] .none ykV ydoc ypm yan (.ref ycda) yct),yosl⟩)
  (y7_:aB K (.ref ycda) yqual=true)
  (y8_:K.lookup ycc=some ⟨yccl,yccd,.cell (some (.ref cl_NoSpot)),yccs⟩)
  (y9_:K.lookup ycda=some ⟨ycdl,ycdd,.fields yvs,ycds⟩)
  (y10_:yvs[2]? =some (.str yfile ytf))
  (y11_:(l.prog.main.file==yfile)=true)
  (y12_:(l.prog.main.scope.names.lookup ("super":Str)).isSome=false)
  (y14_:az K cStatics "thirdparty.any"=some none)
  (y15_:bZ K cl_NoSpot (.ref cl_NoSpot)=some true)
  (y16_:bZ K cl_NoSpot (.type "ValueError")=some true)
  (y17_:bZ K cl_NoSpot (.type "object")=some true)
  (y18_:(bg K (.ref cl_NoSpot) "__setattr__"=some (some (.builtin "object.__setattr__"))))
  (y19_:(bg K (.ref cl_NoSpot) "at"=some none))
  (y20_:aA K (.ref cl_NoSpot)=true)
  (y21_:(bg K (.ref cl_NoSpot) "__getattribute__"=some (some (.builtin "BaseException.__getattribute__"))))
  (y22_:(bg K (.ref cl_NoSpot) "__getattr__"=some none))
  (y23_:(bg K (.ref cl_NoSpot) "__class__"=some (some (.builtin "object.__class__"))))
  (y24_:dE K (.builtin "object.__class__") "__get__"=some (some (.builtin "getset_descriptor.__get__")))
  (y25_:d7 K (.builtin "object.__class__")=some true)
  (y26_:fu K cl_NoSpot=some ycdt)
  (y27_:bZ K cl_NoSpot (.type "BaseException")=some true)
  (y28_:gT K cl_NoSpot=true)
  (m_NoBox_NoBox:b7 K (.ref cl_NoBox) (.ref cl_NoBox)=some true)
  (m_TooMany_NoBox:b7 K (.ref cl_TooMany) (.ref cl_NoBox)=some false)
  (m_TooMany_TooMany:b7 K (.ref cl_TooMany) (.ref cl_TooMany)=some true)
  (m_NoSpot_NoBox:b7 K (.ref cl_NoSpot) (.ref cl_NoBox)=some false)
  (m_NoSpot_TooMany:b7 K (.ref cl_NoSpot) (.ref cl_TooMany)=some false)
  (m_NoSpot_NoSpot:b7 K (.ref cl_NoSpot) (.ref cl_NoSpot)=some true)
  (j_NoBox_TooMany_NoSpot:dM K (.ref cl_NoBox) [(.ref cl_TooMany),(.ref cl_NoSpot)]=some false)
  (j_TooMany_NoBox_NoSpot:dM K (.ref cl_TooMany) [(.ref cl_NoBox),(.ref cl_NoSpot)]=some false),
  ∃fd:FuncData,(∀(s:Shared) (v:Value),BindsTo s fd ⟨[v],[]⟩ [("_law_script",v)]) /\ ∀base:Heap,K.In base ->base.Ns mainGlobals mg ->FnOk l.prog w K mg base (CXE l.prog w) 11 fa fd ["_law_script"] (sA K)
theorem walk{l:gm}{q:Program}{loose:List Str}{XP:(Str ->Option Value) ->Heap ->Prop}{YP:World ->Heap ->Prop}{d:DefRec}{K:Params ->ag}(hn:l.most=some 63)(hdf:d.params.defaults=[])
  (hY:∀(w:World) (h:Heap),YP w h ->(K w.params).In h)
  (F:∀(w:World) (mg:Str ->Option Value) (fa:Addr) (h:Heap),(K w.params).In h ->h.Ns mainGlobals mg ->mg d.name=some (.ref fa) ->
   ∃fd:FuncData,(∀(s:Shared) (u:Value),BindsTo s fd ⟨[u],[]⟩ [("_law_script",u)]) /\ ∀base:Heap,(K w.params).In base ->base.Ns mainGlobals mg ->FnOk l.prog w (K w.params) mg base (CXE l.prog w) 11 fa fd ["_law_script"] (sA (K w.params))):
  iH q loose XP YP l.row.toRowW d [] (fun f vs=>iE f vs):=
 L2.walk_of (n:=63) (k:=11) (x:="_law_script") (CX:=fun w=>(CXE l.prog w)) (sp:=fun w=>sA (K w.params)) hn (by decide) hdf ⟨rfl,by decide,by decide⟩ hY F (fun _ _ a ns hl _ hS=>⟨a,ns,rfl,hS,hl,fun _=>rfl⟩) fun _ _ _ _ _ z=>(by obtain⟨_,_,_,_,_,_,_,_,_,_,_,_,_,_,_,hE⟩:=z;exact hE)
end LW
namespace LW
open PySem
noncomputable def isN:Stmt ->Bool
 | .Assign [.Name x _] _ _=>x==("__name__":Str)
 |_=>false
noncomputable def qv:Program:={PySem.Challenge.pw_nearlands_k70_far_lands_of_few with main:={PySem.Challenge.pw_nearlands_k70_far_lands_of_few.main with body:=PySem.Challenge.pw_nearlands_k70_far_lands_of_few.main.body.filter fun s=> !isN s}}
end LW
section
open PySem PySem.W PyProof.Rows
local macro_rules| `(tactic|o_head $H)=> `(tactic|(refine holds_open (q:=LW.qv) (loose:=[]) (Xt:=fun s=>xlAt LW.qv [] s&&recOk (RowW.records PySem.Challenge.rw_nearlands_k70_far_lands_of_few.row.toRowW) s) (XP:=XL LW.qv []) (Yf:=Hook.obs $H) (Ya:=Hook.val $H) (YP:=Hook.says $H) (N:=30000) ?hl (Hook.of $H) (Hook.keeps $H) (fun s e=>xl_of s (gB.mp e).1) XL.keeps (by rfl) (by rfl) (by rfl) (fun s e=>recFacts_of (gB.mp e).2) (by rfl) (by first|assumption|decide+kernel) (by decide+kernel) ⟨rfl,rfl,rfl,rfl,rfl,by decide+kernel⟩ ?hw ?hc))
set_option maxRecDepth 100000 in
set_option maxHeartbeats 0 in
theorem LW.early(M:LW.AllMk):PySem.Challenge.rw_nearlands_k70_far_lands_of_few.Holds:=by
 w_on;o_law;k_head
 case hl=>
  intro w;unfold openEnds fencedOpening topFrom;rw[Fast.te10274390034422433532,Fast.te14082659384304107361,Fast.te14289696077712309145,Fast.te4187177175401517315,Fast.te1435165496053646825,Fast.te14364793385576792824]
  kernel_rfl
 case hw=>w_witness2
 k_fill
 refine LW.walk (l:=PySem.Challenge.rw_nearlands_k70_far_lands_of_few) rfl rfl (fun w h Y=>PySem.W.kIn_of Y) ?F
 case F=>
  intro w mg fa h KX G hmg;refine' M KX G hmg ?x0 ?x1 ?x2 ?x3 ?x4 ?x5 ?x6 ?x7 ?x8 ?x9 ?x10 ?x11 ?x12 ?x13 ?x14 ?x15 ?x16 ?x17 ?x18 ?x19 ?x20 ?x21 ?x22 ?x23 ?x24 ?x25 ?x26 ?x27 ?x28 ?x29 ?x30 ?x31 ?x32 ?x33 ?x34 ?x35 ?x36 ?x37 ?x38 ?x39 ?x40 ?x41 ?x42 ?x43 ?x44 ?x45 ?x46 ?x47 ?x48 ?x49 ?x50 ?x51 ?x52 ?x53 ?x54 ?x55 ?x56 ?x57 ?x58 ?x59 ?x60 ?x61 ?x62 ?x63 ?x64 ?x65 ?x66 ?x67 ?x68 ?x69 ?x70 ?x71 ?x72 ?x73 ?x74 ?x75 ?x76 ?x77 ?x78 ?x79 ?x80 ?x81 ?x82 ?x83 ?x84 ?x85 ?x86 ?x87 ?x88 ?x89 ?x90 ?x91 ?x92 ?x93 ?x94 ?x95 ?x96 ?x97 ?x98 ?x99 ?x100 ?x101 ?x102 ?x103 ?x104 ?x105 ?x106 ?x107 ?x108 ?x109 ?x110 ?x111 ?x112 ?x113 ?x114 ?x115 ?x116 ?x117 ?x118 ?x119 ?x120 ?x121 ?x122 ?x123 ?x124 ?x125 ?x126 ?x127 ?x128 ?x129 ?x130 ?x131 ?x132 ?x133 ?x134 ?x135 ?x136 ?x137 ?x138 ?x139 ?x140 ?x141 ?x142 ?x143 ?x144 ?x145 ?x146 ?x147 ?x148 ?x149 ?x150 ?x151 ?x152 ?x153 ?x154 ?x155 ?x156 ?x157 ?x158 ?x159 ?x160 ?x161 ?x162 ?x163 ?x164 ?x165 ?x166 ?x167 ?x168 ?x169 ?x170 ?x171 ?x172 ?x173 ?x174 ?x175 ?x176 ?x177 ?x178 ?x179 ?x180 ?x181 ?x182 ?x183 ?x184 ?x185 ?x186 ?x187 ?x188 ?x189 ?x190 ?x191 ?x192 ?x193 ?x194 ?x195 ?x196 ?x197 ?x198 ?x199 ?x200 ?x201 ?x202 ?x203 ?x204 ?x205 ?x206 ?x207 ?x208 ?x209 ?x210 ?x1_NoBox ?x2_NoBox ?x3_NoBox ?x4_NoBox ?x5_NoBox ?x6_NoBox ?x7_NoBox ?x8_NoBox ?x9_NoBox ?x1_TooMany ?x2_TooMany ?x3_TooMany ?x4_TooMany ?x5_TooMany ?x6_TooMany ?x7_TooMany ?x8_TooMany ?x9_TooMany ?y1_ ?y2_ ?y3_ ?y4_ ?y5_ ?y6_ ?y7_ ?y8_ ?y9_ ?y10_ ?y11_ ?y12_ ?y14_ ?y15_ ?y16_ ?y17_ ?y18_ ?y19_ ?y20_ ?y21_ ?y22_ ?y23_ ?y24_ ?y25_ ?y26_ ?y27_ ?y28_ ?m_NoBox_NoBox ?m_TooMany_NoBox ?m_TooMany_TooMany ?m_NoSpot_NoBox ?m_NoSpot_TooMany ?m_NoSpot_NoSpot ?j_NoBox_TooMany_NoSpot ?j_TooMany_NoBox_NoSpot
  (case x0=>k_is)
  (case x1=>k_is)
  (case x2=>k_is)
  (case x3=>k_is)
  (case x4=>k_is)
  (case x5=>k_is)
  (case x6=>k_is)
  (case x7=>k_is)
  (case x8=>k_is)
  (case x9=>k_is)
  (case x10=>k_is)
  (case x11=>k_is)
  (case x12=>k_is)
  (case x13=>k_is)
  (case x14=>k_is)
  (case x15=>k_is)
  (case x16=>k_is)
  (case x17=>k_is)
  (case x18=>k_is)
  (case x19=>k_is)
  (case x20=>k_is)
  (case x21=>k_is)
  (case x22=>k_is)
  (case x23=>k_is)
  (case x24=>k_is)
  (case x25=>k_is)
  (case x26=>k_is)
  (case x27=>k_is)
  (case x28=>k_is)
  (case x29=>k_is)
  (case x30=>k_is)
  (case x31=>k_is)
  (case x32=>k_is)
  (case x33=>k_is)
  (case x34=>k_is)
  (case x35=>k_is)
  (case x36=>k_is)
  (case x37=>k_is)
  (case x38=>k_is)
  (case x39=>k_is)
  (case x40=>k_is)
  (case x41=>k_is)
  (case x42=>k_is)
  (case x43=>k_is)
  (case x44=>k_is)
  (case x45=>k_is)
  (case x46=>k_is)
  (case x47=>k_is)
  (case x48=>k_is)
  (case x49=>k_is)
  (case x50=>k_is)
  (case x51=>k_is)
  (case x52=>k_is)
  (case x53=>k_is)
  (case x54=>k_is)
  (case x55=>k_is)
  (case x56=>k_is)
  (case x57=>k_is)
  (case x58=>k_is)
  (case x59=>k_is)
  (case x60=>k_is)
  (case x61=>k_is)
  (case x62=>k_is)
  (case x63=>k_is)
  (case x64=>k_is)
  (case x65=>k_is)
  (case x66=>k_is)
  (case x67=>k_is)
  (case x68=>k_is)
  (case x69=>k_is)
  (case x70=>k_is)
  (case x71=>k_is)
  (case x72=>k_is)
  (case x73=>k_is)
  (case x74=>k_is)
  (case x75=>k_is)
  (case x76=>k_is)
  (case x77=>k_is)
  (case x78=>k_is)
  (case x79=>k_is)
  (case x80=>k_is)
  (case x81=>k_is)
  (case x82=>k_is)
  (case x83=>k_is)
  (case x84=>k_is)
  (case x85=>k_is)
  (case x86=>k_is)
  (case x87=>k_is)
  (case x88=>k_is)
  (case x89=>k_is)
  (case x90=>k_is)
  (case x91=>k_is)
  (case x92=>k_is)
  (case x93=>k_is)
  (case x94=>k_is)
  (case x95=>k_is)
  (case x96=>k_is)
  (case x97=>k_is)
  (case x98=>k_is)
  (case x99=>k_is)
  (case x100=>k_is)
  (case x101=>k_is)
  (case x102=>k_is)
  (case x103=>k_is)
  (case x104=>k_is)
  (case x105=>k_is)
  (case x106=>k_is)
  (case x107=>k_is)
  (case x108=>k_is)
  (case x109=>k_is)
  (case x110=>k_is)
  (case x111=>k_is)
  (case x112=>k_is)
  (case x113=>k_is)
  (case x114=>k_is)
  (case x115=>k_is)
  (case x116=>k_is)
  (case x117=>k_is)
  (case x118=>k_is)
  (case x119=>k_is)
  (case x120=>k_is)
  (case x121=>k_is)
  (case x122=>k_is)
  (case x123=>k_is)
  (case x124=>k_is)
  (case x125=>k_is)
  (case x126=>k_is)
  (case x127=>k_is)
  (case x128=>k_is)
  (case x129=>k_is)
  (case x130=>k_is)
  (case x131=>k_is)
  (case x132=>k_is)
  (case x133=>k_is)
  (case x134=>k_is)
  (case x135=>k_is)
  (case x136=>k_is)
  (case x137=>k_is)
  (case x138=>k_is)
  (case x139=>k_is)
  (case x140=>k_is)
  (case x141=>k_is)
  (case x142=>k_is)
  (case x143=>k_is)
  (case x144=>k_is)
  (case x145=>k_is)
  (case x146=>k_is)
  (case x147=>k_is)
  (case x148=>k_is)
  (case x149=>k_is)
  (case x150=>k_is)
  (case x151=>k_is)
  (case x152=>k_is)
  (case x153=>k_is)
  (case x154=>k_is)
  (case x155=>k_is)
  (case x156=>k_is)
  (case x157=>k_is)
  (case x158=>k_is)
  (case x159=>k_is)
  (case x160=>k_is)
  (case x161=>k_is)
  (case x162=>k_is)
  (case x163=>k_is)
  (case x164=>k_is)
  (case x165=>k_is)
  (case x166=>k_is)
  (case x167=>k_is)
  (case x168=>k_is)
  (case x169=>k_is)
  (case x170=>k_is)
  (case x171=>k_is)
  (case x172=>k_is)
  (case x173=>k_is)
  (case x174=>k_is)
  (case x175=>k_is)
  (case x176=>k_is)
  (case x177=>k_is)
  (case x178=>k_is)
  (case x179=>k_is)
  (case x180=>k_is)
  (case x181=>k_is)
  (case x182=>k_is)
  (case x183=>k_is)
  (case x184=>k_is)
  (case x185=>k_is)
  (case x186=>k_is)
  (case x187=>k_is)
  (case x188=>k_is)
  (case x189=>k_is)
  (case x190=>k_is)
  (case x191=>k_is)
  (case x192=>k_is)
  (case x193=>k_is)
  (case x194=>k_is)
  (case x195=>k_is)
  (case x196=>k_is)
  (case x197=>k_is)
  (case x198=>k_is)
  (case x199=>k_is)
  (case x200=>k_is)
  (case x201=>k_is)
  (case x202=>k_is)
  (case x203=>k_is)
  (case x204=>k_is)
  (case x205=>k_is)
  (case x206=>k_is)
  (case x207=>k_is)
  (case x208=>k_is)
  (case x209=>k_is)
  (case x210=>k_is)
  (case x1_NoBox=>k_exc)
  (case x2_NoBox=>k_is)
  (case x3_NoBox=>k_is)
  (case x4_NoBox=>k_is)
  (case x5_NoBox=>k_is)
  (case x6_NoBox=>k_is)
  (case x7_NoBox=>k_is)
  (case x8_NoBox=>k_is)
  (case x9_NoBox=>k_is)
  (case x1_TooMany=>k_exc)
  (case x2_TooMany=>k_is)
  (case x3_TooMany=>k_is)
  (case x4_TooMany=>k_is)
  (case x5_TooMany=>k_is)
  (case x6_TooMany=>k_is)
  (case x7_TooMany=>k_is)
  (case x8_TooMany=>k_is)
  (case x9_TooMany=>k_is)
  (case y1_=>k_is)
  (case y2_=>kernel_rfl)
  (case y3_=>kernel_rfl)
  (case y4_=>k_is)
  (case y5_=>kernel_rfl)
  (case y6_=>k_is)
  (case y7_=>k_is)
  (case y8_=>k_is)
  (case y9_=>k_is)
  (case y10_=>rfl)
  (case y11_=>kernel_rfl)
  (case y12_=>kernel_rfl)
  (case y14_=>k_is)
  (case y15_=>k_is)
  (case y16_=>k_is)
  (case y17_=>k_is)
  (case y18_=>k_is)
  (case y19_=>k_is)
  (case y20_=>k_is)
  (case y21_=>k_is)
  (case y22_=>k_is)
  (case y23_=>k_is)
  (case y24_=>k_is)
  (case y25_=>k_is)
  (case y26_=>k_is)
  (case y27_=>k_is)
  (case y28_=>k_is)
  (case m_NoBox_NoBox=>kts_exm)
  (case m_TooMany_NoBox=>kts_exm)
  (case m_TooMany_TooMany=>kts_exm)
  (case m_NoSpot_NoBox=>kts_exm)
  (case m_NoSpot_TooMany=>kts_exm)
  (case m_NoSpot_NoSpot=>kts_exm)
  (case j_NoBox_TooMany_NoSpot=>kit_is)
  (case j_TooMany_NoBox_NoSpot=>kit_is)
end
namespace MA
noncomputable def sgn(n:Int):Int:=if n<0 then -1 else if 0<n then 1 else 0
theorem ph{n:Int}(h:0<n):sgn n=1:=by unfold sgn;rw[if_neg (by omega),if_pos h]
theorem pi{n:Int}(h:n<0):sgn n= -1:=by unfold sgn;rw[if_pos h]
theorem qt(n:Int):sgn n= -1∨sgn n=0∨sgn n=1:=by unfold sgn;split<;>(try split)<;>simp
noncomputable def ab(i:Int):Int:=if i<0 then -i else i
theorem xA(i:Int):ab i=(i.natAbs:Int):=by unfold ab;split<;>omega
theorem wV{a b:Int}(hb:0<b):aE b (a%b)=aE a b:=by
 rw[Int.gcd_comm a b];have h:aE b (a%b+b*(a /b))=aE b (a%b):=Int.gcd_add_mul_left_right ..
 rw[Int.emod_add_mul_ediv] at h;exact h.symm
theorem m5(a b:Int):aE (a.natAbs:Int) b=aE a b:=by
 rw[bI,bI];simp
theorem pW(a b:Int):aE a (b.natAbs:Int)=aE a b:=by
 rw[bI,bI];simp
theorem gcd_zero{a:Int}(ha:0<=a):(aE a 0:Int)=a:=by simp;omega
noncomputable def com(x y w:Int):Int:=(aE (aE w x) y:Int)*sgn w
structure IsPt(x y w a b c:Int):Prop where
 pos:0<c
 ex:a*w=x*c
 ey:b*w=y*c
 low:aE (aE a b) c=1
 la:a.natAbs<=x.natAbs
 lb:b.natAbs<=y.natAbs
 lc:c.natAbs<=w.natAbs
structure IsFr(x w a c:Int):Prop where
 pos:0<c
 ex:a*w=x*c
 low:aE a c=1
 la:a.natAbs<=x.natAbs
 lc:c.natAbs<=w.natAbs
theorem vZ{x y w:Int}(hw:w≠0):com x y w≠0:=by
 unfold com;have h1:aE (aE w x) y≠0:=by
  intro h;have:=dQ.mp h
  have h2:aE w x=0:=by have:=this.1;omega
  exact hw (dQ.mp h2).1
 intro h;rcases bu.mp h with h|h
 ·omega
 ·rcases d9 hw with z|z
  ·rw[pi z] at h;omega
  ·rw[ph z] at h;omega
theorem si(x y w:Int)(hw:w≠0):com x y w∣x /\ com x y w∣y /\ com x y w∣w:=by
 have key:∀z,(aE (aE w x) y:Int)∣z ->com x y w∣z:=by
  intro z hz;unfold com;rcases d9 hw with q|q
  ·rw[pi q];rw[show(aE (aE w x) y:Int)* -1= -(aE (aE w x) y:Int) by omega];exact Int.neg_dvd.mpr hz
  ·rw[ph q,dl];exact hz
 have g1:(aE (aE w x) y:Int)∣(aE w x:Int):=fg _ _
 exact⟨key x (dG g1 (eU _ _)),key y (eU _ _),key w (dG g1 (fg _ _))⟩
theorem kq{a b:Int}(h:b∣a):a.fdiv b=a /b:=by
 exact Int.fdiv_eq_ediv_of_dvd h
theorem jO(a b:Int)(h:b∣a):(a /b).natAbs<=a.natAbs:=by
 rw[Int.natAbs_ediv_of_dvd h];exact Nat.div_le_self _ _
theorem mU{x y w:Int}(hw:w≠0):IsPt x y w (x.fdiv (com x y w)) (y.fdiv (com x y w)) (w.fdiv (com x y w)):=by
 obtain⟨dx,dy,dw⟩:=si x y w hw
 have hc:=vZ (x:=x) (y:=y) hw
 rw[kq dx,kq dy,kq dw];obtain⟨a,ha⟩:=dx
 obtain⟨b,hb⟩:=dy
 obtain⟨c,hcw⟩:=dw
 have ea:x /com x y w=a:=by
  have:=cf a hc
  rw[<-ha] at this;exact this
 have eb:y /com x y w=b:=by
  have:=cf b hc
  rw[<-hb] at this;exact this
 have ec:w /com x y w=c:=by
  have:=cf c hc
  rw[<-hcw] at this;exact this
 have la:=jO x _ (⟨a,ha⟩:com x y w∣x)
 have lb:=jO y _ (⟨b,hb⟩:com x y w∣y)
 have lc:=jO w _ (⟨c,hcw⟩:com x y w∣w)
 rw[ea] at la⊢;rw[eb] at lb⊢;rw[ec] at lc⊢;generalize hG:com x y w=G at*;have hgg:(aE (aE w x) y:Int)*sgn w=G:=by rw[<-hG];rfl
 have gpos:0<(aE (aE w x) y:Int):=by
  have:(aE (aE w x) y:Int)≠0:=by
   intro z;rw[z,fe] at hgg;exact hc hgg.symm
  omega
 refine⟨?_,by rw[ha,hcw];grind,by rw[hb,hcw];grind,?_,la,lb,lc⟩
 ·--c is above 0
  rcases d9 hw with q|q
  ·rw[pi q] at hgg;have hGn:G<0:=by omega
   have h1:G*c<0:=by rw[<-hcw];exact q
   exact Int.pos_of_mul_neg_right h1 hGn
  ·rw[ph q,dl] at hgg;have h1:0<G*c:=by rw[<-hcw];exact q
   exact Int.pos_of_mul_pos_right h1 (by omega)
 ·--lowest terms
  have e1:aE (aE w x) y=G.natAbs:=by
   have:=congrArg Int.natAbs hgg
   rw[fO] at this;have h2:(sgn w).natAbs=1:=by
    rcases d9 hw with q|q
    ·rw[pi q];rfl
    ·rw[ph q];rfl
   rw[h2,Nat.mul_one] at this
   simpa using this
  have e2:aE (aE w x) y=G.natAbs*aE (aE c a) b:=by
   rw[hcw,ha,hb];rw[ie];have:((G.natAbs*aE c a:Nat):Int).gcd (G*b)=G.natAbs*aE (aE c a) b:=by
    rw[bI,fO];simp only[fJ];rw[ig,bI (aE c a:Int) b];simp
   exact this
  have gn:0<G.natAbs:=by omega
  have e3:aE (aE c a) b=1:=by
   rw[e1] at e2;have:G.natAbs*1=G.natAbs*aE (aE c a) b:=by omega
   exact(fP gn this).symm
  have e4:aE (aE a b) c=aE (aE c a) b:=by
   rw[Int.gcd_comm (aE a b:Int) c,Int.gcd_assoc]
  rw[e4,e3]
theorem yY{x w:Int}(hw:w≠0):IsFr x w (x.fdiv ((aE w x:Int)*sgn w)) (w.fdiv ((aE w x:Int)*sgn w)):=by
 have h:=mU (x:=x) (y:=0) (w:=w) hw
 have e:com x 0 w=(aE w x:Int)*sgn w:=by
  unfold com;simp
 rw[e] at h;have h0:(0:Int).fdiv ((aE w x:Int)*sgn w)=0:=Int.zero_fdiv _
 rw[h0] at h;refine⟨h.pos,h.ex,?_,h.la,h.lc⟩;have:=h.low
 rw[Int.gcd_zero,m5] at this;exact this
end MA
namespace MA
theorem isPt_same{x y w a b c x' y' w' a' b' c':Int}(h:IsPt x y w a b c)(k:IsPt x' y' w' a' b' c')(hw:w≠0)(hw':w'≠0)(e1:x*w'=x'*w)(e2:y*w'=y'*w):a=a' /\ b=b' /\ c=c':=by
 have f1:a*c'=a'*c:=by
  have h1:=h.ex
  have h2:=k.ex
  have:(w*w')*(a*c'-a'*c)=0:=by grind
  rcases bu.mp this with z|z
  ·rcases bu.mp z with z|z
   ·exact absurd z hw
   ·exact absurd z hw'
  ·omega
 have f2:b*c'=b'*c:=by
  have h1:=h.ey
  have h2:=k.ey
  have:(w*w')*(b*c'-b'*c)=0:=by grind
  rcases bu.mp this with z|z
  ·rcases bu.mp z with z|z
   ·exact absurd z hw
   ·exact absurd z hw'
  ·omega
 have dv:∀{a b c a' b' c':Int},aE (aE a b) c=1 ->a*c'=a'*c ->b*c'=b'*c ->c∣c':=by
  intro a b c a' b' c' hl e1 e2;have d1:c∣a*c':=⟨a',by rw[e1,gY]⟩
  have d2:c∣b*c':=⟨b',by rw[e2,gY]⟩
  have d3:c∣(aE (a*c') (b*c'):Int):=iz d1 d2
  rw[gU] at d3;have d4:c∣((aE a b:Int)*(c'.natAbs:Int)):=by
   have:=d3
   push_cast at this
   exact this
  have d5:c∣c*(c'.natAbs:Int):=Int.dvd_mul_right _ _
  have d6:c∣(aE ((aE a b:Int)*(c'.natAbs:Int)) (c*(c'.natAbs:Int)):Int):=iz d4 d5
  rw[gU,hl] at d6;simp only[Nat.one_mul,fJ] at d6;exact Int.dvd_natAbs.mp d6
 have g1:c∣c':=dv h.low f1 f2
 have g2:c'∣c:=dv k.low f1.symm f2.symm
 have ec:c=c':=Int.dvd_antisymm (by have:=h.pos;omega) (by have:=k.pos;omega) g1 g2
 subst ec;have hc:=h.pos
 exact⟨cS (by omega) f1,cS (by omega) f2,rfl⟩
structure IsLn(a b c x y z:Int):Prop where
 ex:∃g:Int,0<g /\ a=g*x /\ b=g*y /\ c=g*z /\ g=(aE (aE a b) c:Int)
 low:aE (aE x y) z=1
 la:x.natAbs<=a.natAbs
 lb:y.natAbs<=b.natAbs
 lc:z.natAbs<=c.natAbs
theorem pS{a b c:Int}(h:¬(a=0 /\ b=0)):IsLn a b c (a.fdiv (aE (aE a b) c:Int)) (b.fdiv (aE (aE a b) c:Int)) (c.fdiv (aE (aE a b) c:Int)) /\ (aE (aE a b) c:Int)≠0:=by
 have hne:aE (aE a b) c≠0:=by
  intro z;have z1:=(dQ.mp z).1
  have z2:aE a b=0:=by omega
  exact h (dQ.mp z2)
 have d0:(aE (aE a b) c:Int)∣(aE a b:Int):=fg _ _
 have da:(aE (aE a b) c:Int)∣a:=dG d0 (fg _ _)
 have db:(aE (aE a b) c:Int)∣b:=dG d0 (eU _ _)
 have dc:(aE (aE a b) c:Int)∣c:=eU _ _
 have la:=jO a _ da
 have lb:=jO b _ db
 have lc:=jO c _ dc
 refine⟨?_,by omega⟩;rw[kq da,kq db,kq dc];generalize hG:(aE (aE a b) c:Int)=G at*;have gp:0<G:=by omega
 have hG':aE (aE a b) c=G.natAbs:=by omega
 have ea:a=G*(a /G):=(fo da).symm
 have eb:b=G*(b /G):=(fo db).symm
 have ec:c=G*(c /G):=(fo dc).symm
 refine⟨⟨G,gp,ea,eb,ec,hG.symm⟩,?_,la,lb,lc⟩;generalize a /G=x at*;generalize b /G=y at*;generalize c /G=z at*;subst ea eb ec;rw[ie] at hG';have e2:((G.natAbs*aE x y:Nat):Int).gcd (G*z)=G.natAbs*aE (aE x y) z:=by
  rw[bI,fO];simp only[fJ];rw[ig,bI (aE x y:Int) z];simp
 rw[e2] at hG';have:G.natAbs*aE (aE x y) z=G.natAbs*1:=by omega
 exact fP (by omega) this
end MA
namespace MC
open MA
noncomputable abbrev V3:=Int×Int×Int
noncomputable def dt(a b c:V3):Int:=a.1*(b.2.1*c.2.2-b.2.2*c.2.1)-a.2.1*(b.1*c.2.2-b.2.2*c.1)+a.2.2*(b.1*c.2.1-b.2.1*c.1)
noncomputable def ex(m p:V3):Int:=m.1*p.1+m.2.1*p.2.1-m.2.2*p.2.2
noncomputable def cb(s:Int)(a:V3)(t:Int)(b:V3):V3:=(s*a.1+t*b.1,s*a.2.1+t*b.2.1,s*a.2.2+t*b.2.2)
theorem oO(a b c:V3):dt b c a=dt a b c:=by unfold dt;grind
theorem vP(a b c:V3):dt b a c= -dt a b c:=by unfold dt;grind
theorem oa(a b:V3):dt a b a=0:=by unfold dt;grind
theorem mD(a b:V3):dt a b b=0:=by unfold dt;grind
theorem vQ(a b:V3):dt a a b=0:=by unfold dt;grind
theorem zm(a b:V3)(s:Int)(c:V3)(t:Int)(d:V3):dt a b (cb s c t d)=s*dt a b c+t*dt a b d:=by unfold dt cb;grind
theorem w4(m:V3)(s:Int)(c:V3)(t:Int)(d:V3):ex m (cb s c t d)=s*ex m c+t*ex m d:=by unfold ex cb;grind
theorem mP(m a b c d:V3):dt a b c*ex m d=dt d b c*ex m a+dt a d c*ex m b+dt a b d*ex m c:=by unfold dt ex;grind
noncomputable def Sim(q v:V3):Prop:=∃s t:Int,0<s /\ 0<t /\ q.1*s=v.1*t /\ q.2.1*s=v.2.1*t /\ q.2.2*s=v.2.2*t
theorem Sim.dt{q v:V3}(h:Sim q v)(a b:V3):∃s t:Int,0<s /\ 0<t /\ dt a b q*s=dt a b v*t:=by
 obtain⟨s,t,hs,ht,e1,e2,e3⟩:=h
 refine⟨s,t,hs,ht,?_⟩;unfold MC.dt
 grind
theorem Sim.ex{q v:V3}(h:Sim q v)(m:V3):∃s t:Int,0<s /\ 0<t /\ ex m q*s=ex m v*t:=by
 obtain⟨s,t,hs,ht,e1,e2,e3⟩:=h
 refine⟨s,t,hs,ht,?_⟩;unfold MC.ex
 grind
theorem lu{x y s t:Int}(hs:0<s)(ht:0<t)(e:x*s=y*t):(0<x↔0<y) /\ (x=0↔y=0) /\ (x<0↔y<0):=by
 rcases dH x 0 with h|h|h
 ·have:=cp h hs
  have hy:y<0:=by
   rcases dH y 0 with q|q|q
   ·exact q
   ·subst q;omega
   ·have:=bp q ht;omega
  omega
 ·subst h;have hy:y=0:=by
   rcases dH y 0 with q|q|q
   ·have:=cp q ht;omega
   ·exact q
   ·have:=bp q ht;omega
  omega
 ·have:=bp h hs
  have hy:0<y:=by
   rcases dH y 0 with q|q|q
   ·have:=cp q ht;omega
   ·subst q;omega
   ·exact q
  omega
theorem Sim.dtp{q v:V3}(h:Sim q v)(a b:V3):(0<MC.dt a b q↔0<MC.dt a b v):=by
 obtain⟨s,t,hs,ht,e⟩:=h.dt a b
 exact(lu hs ht e).1
theorem Sim.exz{q v:V3}(h:Sim q v)(m:V3):(MC.ex m q=0↔MC.ex m v=0):=by
 obtain⟨s,t,hs,ht,e⟩:=h.ex m
 exact(lu hs ht e).2.1
theorem Sim.exn{q v:V3}(h:Sim q v)(m:V3):(MC.ex m q<0↔MC.ex m v<0):=by
 obtain⟨s,t,hs,ht,e⟩:=h.ex m
 exact(lu hs ht e).2.2
theorem Af{x y w a b c:Int}(h:IsPt x y w a b c)(hw:0<w):Sim (a,b,c) (x,y,w):=⟨w,c,hw,h.pos,h.ex,h.ey,by dsimp only;rw[gY]⟩
theorem yr{x y w a b c:Int}(h:IsPt x y w a b c)(hw:w<0):Sim (a,b,c) (-x,-y,-w):=by
 refine⟨-w,c,by omega,h.pos,?_,?_,?_⟩
 ·have:=h.ex;dsimp only;grind
 ·have:=h.ey;dsimp only;grind
 ·dsimp only;grind
noncomputable abbrev Vx:=V3×V3×Int
noncomputable def rot{α:Type}(l:List α):List α:=l.drop 1++l.take 1
noncomputable def edges(l:List Vx):List (Vx×Vx):=l.zip (rot l)
structure Edge(l:List Vx)(a b:Vx):Prop where
 ne:a.1≠b.1
 on1:ex a.2.1 a.1=0
 on2:ex a.2.1 b.1=0
 left:∀c∈l,c.1=a.1∨c.1=b.1∨0<dt a.1 b.1 c.1
 back:∀c∈l,c.1=a.1∨c.1=b.1∨ex a.2.1 c.1<0
structure Poly(l:List Vx):Prop where
 three:3<=l.length
 pos:∀v∈l,0<v.1.2.2
 low:∀v∈l,aE (aE v.1.1 v.1.2.1) v.1.2.2=1
 nd:(l.map (·.1)).Nodup
 edge:∀e∈edges l,Edge l e.1 e.2
theorem oN:∀l:List Vx,edges (rot l)=rot (edges l)
 |[]=>rfl
 |[x]=>rfl
 |x::y::t=>by
  show((y::t)++[x]).zip ((t++[x])++[y])=((y::t).zip (t++[x]))++[(x,y)]
  rw[List.zip_append (by simp)];rfl
theorem kT{α:Type}(l:List α)(a:α):a∈rot l↔a∈l:=by
 unfold rot;cases l with
 |nil=>simp
 |cons x r=>simp[or_comm]
noncomputable def rotk{α:Type}(k:Nat)(l:List α):List α:=l.drop k++l.take k
theorem l8{α:Type}(k:Nat)(l:List α)(h:k<l.length):rotk (k+1) l=rot (rotk k l):=by
 have e:=ck h
 show l.drop (k+1)++l.take (k+1)=rot (l.drop k++l.take k)
 rw[e];show l.drop (k+1)++l.take (k+1)=(l.drop (k+1)++l.take k)++[l[k]]
 rw[bD,aa h,bG];rfl
theorem wy{α:Type}(P:List α ->Prop)(l:List α)(h0:P l)(hs:∀m,P m ->P (rot m)):∀k,k<=l.length ->P (rotk k l):=by
 intro k
 induction k with
 |zero=>intro _;unfold rotk;simpa using h0
 |succ k ih=>
  intro hk;rw[l8 k l (by omega)];exact hs _ (ih (by omega))
theorem kJ{α:Type}(l:List α):(rot l).length=l.length:=by
 unfold rot;cases l with
 |nil=>rfl
 |cons x r=>simp
theorem u5{α β:Type}(f:α ->β)(l:List α):rot (l.map f)=(rot l).map f:=by
 unfold rot;rw[au,fT,cM]
theorem uZ{α:Type}(l:List α)(h:l.Nodup):(rot l).Nodup:=by
 unfold rot;cases l with
 |nil=>exact gF
 |cons x r=>
  have:=bE.mp h
  show(r++[x]).Nodup
  rw[bf];refine⟨this.2,by simp,fun a ha b hb e=> ?_⟩;simp only[av,aD,or_false] at hb;subst hb;subst e;exact this.1 ha
theorem Edge.mem{l m:List Vx}{a b:Vx}(h:Edge l a b)(hm:∀c∈m,c∈l):Edge m a b:=⟨h.ne,h.on1,h.on2,fun c hc=>h.left c (hm c hc),fun c hc=>h.back c (hm c hc)⟩
theorem Poly.rot{l:List Vx}(h:Poly l):Poly (rot l) where
 three:=by rw[kJ];exact h.three
 pos:=fun v hv=>h.pos v ((kT l v).mp hv)
 low:=fun v hv=>h.low v ((kT l v).mp hv)
 nd:=by rw[<-u5];exact uZ _ h.nd
 edge:=fun e he=>by
  rw[oN,kT] at he;exact(h.edge e he).mem fun c hc=>(kT l c).mp hc
theorem Poly.rotk{l:List Vx}(h:Poly l){k:Nat}(hk:k<=l.length):Poly (rotk k l):=wy Poly l h (fun _ q=>q.rot) k hk
theorem kX{p s:List Vx}{a b:Vx}:(a,b)∈edges (p++a::b::s):=by
 cases p with
 |nil=>
  show(a,b)∈(a::b::s).zip ((b::s)++[a])
  simp
 |cons x p=>
  show(a,b)∈(x::(p++a::b::s)).zip ((p++a::b::s)++[x])
  rw[du];refine⟨p.length+1,?_⟩;rw[bL];constructor
  ·simp
  ·rw[bG,aH (by omega)];simp
theorem kL{m:List Vx}{a b:Vx}:(a,b)∈edges (b::(m++[a])):=by
 show(a,b)∈(b::(m++[a])).zip ((m++[a])++[b])
 rw[du];refine⟨m.length+1,?_⟩;rw[bL];constructor
 ·simp
 ·rw[aH (by simp)];simp
theorem rY{l:List Vx}{a b:Vx}(h:(a,b)∈edges l)(h2:2<=l.length):(∃p s,l=p++a::b::s)∨∃m,l=b::(m++[a]):=by
 cases l with
 |nil=>simp at h2
 |cons x r=>
  rw[du] at h;obtain⟨i,hi⟩:=h
  have hi':((x::r).zip (r++[x]))[i]? =some (a,b):=hi
  rw[bL] at hi';obtain⟨h1,h3⟩:=hi'
  dsimp only at h1 h3
  by_cases hr:i<r.length
  ·left
   rw[aM hr] at h3;refine⟨(x::r).take i,r.drop (i+1),?_⟩;have e1:=ck (l:=x::r) (i:=i) (by simp;omega)
   have e2:=ck (l:=r) (i:=i) hr
   obtain⟨_,q1⟩:=ad.mp h1
   obtain⟨_,q3⟩:=ad.mp h3
   rw[q1] at e1;rw[q3] at e2;have:(x::r).drop (i+1)=r.drop i:=rfl
   rw[this,e2] at e1;rw[<-e1,dA]
  ·right
   have li:=(ad.mp h1).1
   have ei:i=r.length:=by simp at li;omega
   subst ei;rw[aH (by omega),fK] at h3;cases h3;cases r with
   |nil=>simp at h2
   |cons y t=>
    obtain⟨_,q1⟩:=ad.mp h1
    refine⟨(y::t).take t.length,?_⟩
    congr 1
    have e1:=ck (l:=y::t) (i:=t.length) (by simp)
    have e3:(y::t)[t.length]'(by simp)=a:=by
     have:(b::y::t)[(y::t).length]'(by simp)=(y::t)[t.length]'(by simp):=rfl
     rw[<-this];exact q1
    rw[e3] at e1;have e4:(y::t).drop (t.length+1)=[]:=gg (by simp)
    rw[e4] at e1;rw[<-e1,dA]
theorem yO{α:Type}(f:α ->Int):∀t:List α,(∀p x y s,t=p++x::y::s -> ¬(f x<=0 /\ 0<f y)) -> ∃D C,t=D++C /\ (∀d∈D,0<f d) /\ ∀c∈C,f c<=0
 |[],_=>⟨[],[],rfl,by simp,by simp⟩
 |x::r,h=>by
  obtain⟨D,C,e,hD,hC⟩:=yO f r fun p a b s q=>h (x::p) a b s (by rw[q];rfl)
  by_cases hx:0<f x
  ·exact⟨x::D,C,by rw[e];rfl,fun d hd=>by
    rcases av.mp hd with rfl|hd
    ·exact hx
    ·exact hD d hd,hC⟩
  ·cases D with
   |nil=>
    refine⟨[],x::C,by rw[e];rfl,by simp,fun c hc=> ?_⟩;rcases av.mp hc with rfl|hc
    ·omega
    ·exact hC c hc
   |cons d D=>
    exact absurd ⟨by omega,hD d (by simp)⟩ (h [] x d (D++C) (by rw[e];rfl))
end MC
namespace MC
open MA
theorem Edge.left_ge{l:List Vx}{a b c:Vx}(E:Edge l a b)(hc:c∈l):0<=dt a.1 b.1 c.1:=by
 rcases E.left c hc with e|e|e
 ·rw[e,oa];exact cG _
 ·rw[e,mD];exact cG _
 ·omega
theorem Edge.back_le{l:List Vx}{a b c:Vx}(E:Edge l a b)(hc:c∈l):ex a.2.1 c.1<=0:=by
 rcases E.back c hc with e|e|e
 ·rw[e,E.on1];exact cG _
 ·rw[e,E.on2];exact cG _
 ·omega
theorem Edge.left_of{l:List Vx}{a b c:Vx}(E:Edge l a b)(hc:c∈l)(h1:c.1≠a.1)(h2:c.1≠b.1):0<dt a.1 b.1 c.1:=(E.left c hc).elim (fun q=>absurd q h1) fun q=>q.elim (fun q=>absurd q h2) id
theorem Edge.back_of{l:List Vx}{a b c:Vx}(E:Edge l a b)(hc:c∈l)(h1:c.1≠a.1)(h2:c.1≠b.1):ex a.2.1 c.1<0:=(E.back c hc).elim (fun q=>absurd q h1) fun q=>q.elim (fun q=>absurd q h2) id
theorem lN{a b:Int}(h1:0<=a)(h2:0<=b):0<=a*b:=dg h1 h2
theorem sN{a b:Int}(h1:0<=a)(h2:b<=0):a*b<=0:=Int.mul_nonpos_of_nonneg_of_nonpos h1 h2
theorem zN{l:List Vx}{a b c d:Vx}(E:Edge l a b)(hc:c∈l)(hd:d∈l){s t:Int}(hs:0<=s)(ht:0<=t)
  (hh:(0<s /\ c.1≠a.1 /\ c.1≠b.1)∨(0<t /\ d.1≠a.1 /\ d.1≠b.1)):0<dt a.1 b.1 (cb s c.1 t d.1) /\ ex a.2.1 (cb s c.1 t d.1)<0:=by
 rw[zm,w4];have c1:=lN hs (E.left_ge hc)
 have d1:=lN ht (E.left_ge hd)
 have c2:=sN hs (E.back_le hc)
 have d2:=sN ht (E.back_le hd)
 rcases hh with⟨h,n1,n2⟩|⟨h,n1,n2⟩
 ·have q1:=bp h (E.left_of hc n1 n2)
  have q2:=bV h (E.back_of hc n1 n2)
  omega
 ·have q1:=bp h (E.left_of hd n1 n2)
  have q2:=bV h (E.back_of hd n1 n2)
  omega
theorem xX(s:Int)(a:V3)(t:Int)(b x:V3):dt (cb s a t b) x b= -(s*dt a b x):=by unfold dt cb;grind
theorem AM(s:Int)(a:V3)(t:Int)(b x:V3):dt x (cb s a t b) b=s*dt a b x:=by unfold dt cb;grind
theorem nE(m a b:V3):ex m (cb (ex m b) a (-(ex m a)) b)=0:=by rw[w4];grind
theorem uA{l:List Vx}(hP:Poly l){m:V3}{a b a' b':Vx}(e1:(a,b)∈edges l)(e2:(a',b')∈edges l)(m1:a∈l)(m2:b∈l)(m3:a'∈l)(m4:b'∈l)
  (h1:ex m a.1<=0) (h2:0<ex m b.1) (h3:ex m a'.1<=0) (h4:0<ex m b'.1):a.1=a'.1:=by
 refine Classical.byContradiction fun ne=> ?_
 have E1:=hP.edge _ e1
 have E2:=hP.edge _ e2
 dsimp only at E1 E2;have nb:a'.1≠b.1:=fun q=>by rw[q] at h3;omega
 have nb':a.1≠b'.1:=fun q=>by rw[q] at h1;omega
 have D1:=(zN E1 m3 m4 (s:=ex m b'.1) (t:= -(ex m a'.1)) (by omega) (by omega) (.inl ⟨h4,Ne.symm ne,nb⟩)).1
 have D2:=(zN E2 m1 m2 (s:=ex m b.1) (t:= -(ex m a.1)) (by omega) (by omega) (.inl ⟨h2,ne,nb'⟩)).1
 have P:=mP m (cb (ex m b.1) a.1 (-(ex m a.1)) b.1) (cb (ex m b'.1) a'.1 (-(ex m a'.1)) b'.1) b.1 b'.1
 rw[nE,nE,b8,b8,bH,bH,xX,AM] at P;have q1:=bp (bp h2 D1) h4
 have q2:=bp (bp h4 D2) h2
 rw[Int.neg_mul] at P;omega
noncomputable def pe{α:Type}:List α ->List (α×α)
 |[]=>[]
 |[_]=>[]
 |x::y::r=>(x,y)::pe (y::r)
theorem pe_app{α:Type}(a:α)(q:List α):∀p:List α,pe (p++a::q)=pe (p++[a])++pe (a::q)
 |[]=>by simp[pe]
 |[x]=>by simp[pe]
 |x::y::p=>by
  have:=pe_app a q (y::p)
  simp only[am,pe] at this⊢;rw[this]
theorem xE{α:Type}:∀(r:List α) (x z:α),(x::r).zip (r++[z])=pe (x::r++[z])
 |[],x,z=>rfl
 |y::r,x,z=>by
  have:=xE r y z
  simp only[am,gO,pe] at this⊢;rw[this]
theorem kW(x:Vx)(r:List Vx):edges (x::r)=pe (x::r++[x]):=xE r x x
theorem wx{α:Type}(u v:List α):rotk u.length (u++v)=v++u:=by
 unfold rotk;rw[List.drop_left,List.take_left]
theorem kh(l:List Vx):(edges l).length=l.length:=by
 unfold edges;rw[gr,kJ,Nat.min_self]
theorem um(l:List Vx):∀k,k<=l.length ->edges (rotk k l)=rotk k (edges l):=by
 intro k
 induction k with
 |zero=>intro _;unfold rotk;simp
 |succ k ih=>
  intro hk;rw[l8 k l (by omega),oN,ih (by omega),l8 k (edges l) (by rw[kh];omega)]
noncomputable def Rot{α:Type}(l m:List α):Prop:=∃u v,l=u++v /\ m=v++u
theorem Rot.refl{α:Type}(l:List α):Rot l l:=⟨[],l,rfl,by simp⟩
theorem Rot.symm{α:Type}{l m:List α}(h:Rot l m):Rot m l:=by
 obtain⟨u,v,e1,e2⟩:=h
 exact⟨v,u,e2,e1⟩
theorem Rot.trans{α:Type}{l m n:List α}(h1:Rot l m)(h2:Rot m n):Rot l n:=by
 obtain⟨u,v,rfl,rfl⟩:=h1
 obtain⟨p,q,e,rfl⟩:=h2
 rcases List.append_eq_append_iff.mp e with⟨w,e1,e2⟩|⟨w,e1,e2⟩
 ·exact⟨w,q++v,by rw[e2];simp,by rw[e1];simp⟩
 ·exact⟨u++p,w,by rw[e1];simp,by rw[e2];simp⟩
theorem Rot.of{α:Type}(k:Nat)(l:List α):Rot l (rotk k l):=⟨l.take k,l.drop k,(dA k l).symm,rfl⟩
theorem Rot.at{α:Type}{l m:List α}(h:Rot l m):∃k,k<=l.length /\ m=rotk k l:=by
 obtain⟨u,v,rfl,rfl⟩:=h
 exact⟨u.length,by simp,(wx u v).symm⟩
theorem Rot.poly{l m:List Vx}(h:Rot l m)(hP:Poly l):Poly m:=by
 obtain⟨k,hk,rfl⟩:=h.at
 exact hP.rotk hk
theorem Rot.mem{α:Type}{l m:List α}(h:Rot l m)(a:α):a∈m↔a∈l:=by
 obtain⟨u,v,rfl,rfl⟩:=h
 rw[aR,aR,or_comm]
theorem Rot.edges{l m:List Vx}(h:Rot l m):Rot (edges l) (edges m):=by
 obtain⟨k,hk,rfl⟩:=h.at
 rw[um l k hk];exact .of k _
theorem Rot.flat{α β:Type}{l m:List α}(h:Rot l m)(f:α ->List β):Rot (l.flatMap f) (m.flatMap f):=by
 obtain⟨u,v,rfl,rfl⟩:=h
 exact⟨u.flatMap f,v.flatMap f,by rw[cH],by rw[cH]⟩
theorem ku{l:List Vx}{a b:Vx}(h:(a,b)∈edges l):a∈l /\ b∈l:=by
 have:=cO h
 exact⟨this.1,(kT l b).mp this.2⟩
theorem AV{l:List Vx}(hP:Poly l)(m:V3)(hp:∃v∈l,0<ex m v.1)(hn:∃v∈l,ex m v.1<=0):
  ∃C D,Rot l (C++D) /\ C≠[] /\ D≠[] /\ (∀c∈C,ex m c.1<=0) /\ ∀d∈D,0<ex m d.1:=by
 have up:∃a b,(a,b)∈edges l /\ ex m a.1<=0 /\ 0<ex m b.1:=by
  refine Classical.byContradiction fun no=> ?_
  obtain⟨D,C,e,hD,hC⟩:=yO (fun v:Vx=>ex m v.1) l fun p x y s q hxy=>no ⟨x,y,by rw[q];exact kX,hxy⟩
  obtain⟨v,hv,hv0⟩:=hp
  obtain⟨w,hw,hw0⟩:=hn
  cases D with
  |nil=>
   rw[e] at hv;have:=hC v (by simpa using hv)
   omega
  |cons d D=>
   cases hC':C.reverse with
   |nil=>
    have:C=[]:=by simpa using hC'
    subst this;rw[e] at hw;have:=hD w (by simpa using hw)
    omega
   |cons c R=>
    have eC:C=R.reverse++[c]:=by
     have:=congrArg gs hC'
     simpa using this
    refine no ⟨c,d,?_,hC c (by rw[eC];simp),hD d (by simp)⟩;rw[e,eC];have:=kL (m:=D++R.reverse) (a:=c) (b:=d)
    simpa using this
 obtain⟨a,b,hab,ha,hb⟩:=up
 have h2:2<=l.length:=by have:=hP.three;omega
 obtain⟨r,hr⟩:∃r,Rot l (b::(r++[a])):=by
  rcases rY hab h2 with⟨p,s,e⟩|⟨r,e⟩
  ·exact⟨s++p,p++[a],b::s,by rw[e];simp,by simp⟩
  ·exact⟨r,by rw[<-e];exact .refl l⟩
 have hPt:=hr.poly hP
 have memt:=hr.mem
 obtain⟨D,C,e,hD,hC⟩:=yO (fun v:Vx=>ex m v.1) (b::(r++[a])) fun p x y s q hxy=>by
  have exy:(x,y)∈edges (b::(r++[a])):=by rw[q];exact kX
  have eab:(a,b)∈edges (b::(r++[a])):=kL
  have u:=uA hPt (m:=m) eab exy (ku eab).1 (ku eab).2 (ku exy).1 (ku exy).2 ha hb hxy.1 hxy.2
  have nd:=hPt.nd
  rw[q,au,aJ,bf] at nd;have hx:=(bE.mp nd.2.1).1
  apply hx;have hlast:a∈y::s:=by
   have e1:(p++x::y::s).getLast?=some a:=by
    rw[<-q,show b::(r++[a])=(b::r)++[a] from rfl];exact List.getLast?_concat
   rw[List.getLast?_append] at e1;have e2:(x::y::s).getLast?=(y::s).getLast?:=rfl
   rw[e2] at e1;cases e3:(y::s).getLast? with
   |none=>simp at e3
   |some z=>
    rw[e3] at e1;have:z=a:=by simpa using e1
    subst this;exact List.mem_of_getLast? e3
  rw[<-u];exact ay.mpr ⟨a,hlast,rfl⟩
 have hRt:Rot (b::(r++[a])) (C++D):=⟨D,C,e,rfl⟩
 refine⟨C,D,hr.trans hRt,fun q=> ?_,fun q=> ?_,hC,hD⟩
 ·subst q;have:a∈D:=by
   have:a∈b::(r++[a]):=by simp
   rw[e] at this
   simpa using this
  have:=hD a this
  omega
 ·subst q;have:b∈C:=by
   have:b∈b::(r++[a]):=by simp
   rw[e] at this
   simpa using this
  have:=hC b this
  omega
end MC
namespace MC
open MA
noncomputable def jq(a b:V3)(h t:Int):V3:=
 ((a.1*t-b.1*h).fdiv (com (a.1*t-b.1*h) (a.2.1*t-b.2.1*h) (a.2.2*t-b.2.2*h)),
  (a.2.1*t-b.2.1*h).fdiv (com (a.1*t-b.1*h) (a.2.1*t-b.2.1*h) (a.2.2*t-b.2.2*h)),
  (a.2.2*t-b.2.2*h).fdiv (com (a.1*t-b.1*h) (a.2.1*t-b.2.1*h) (a.2.2*t-b.2.2*h)))
theorem tN{a b:V3}{h t:Int}(ha:0<a.2.2)(hb:0<b.2.2)(h1:h<0)(h2:0<t):IsPt (a.1*t-b.1*h) (a.2.1*t-b.2.1*h) (a.2.2*t-b.2.2*h) (jq a b h t).1 (jq a b h t).2.1 (jq a b h t).2.2 /\ Sim (jq a b h t) (cb t a (-h) b):=by
 have hw:0<a.2.2*t-b.2.2*h:=by
  have q1:=bp ha h2
  have q2:=bV hb h1
  omega
 have k:=mU (x:=a.1*t-b.1*h) (y:=a.2.1*t-b.2.1*h) (w:=a.2.2*t-b.2.2*h) (by omega)
 refine⟨k,?_⟩;have:=Af k hw
 rw[show cb t a (-h) b=(a.1*t-b.1*h,a.2.1*t-b.2.1*h,a.2.2*t-b.2.2*h) by unfold cb;refine cU ?_ (cU ?_ ?_)<;>(dsimp only;grind)]
 exact this
theorem oQ{a b:V3}{h t:Int}(ha:0<a.2.2)(hb:0<b.2.2)(h1:0<h)(h2:t<0):IsPt (a.1*t-b.1*h) (a.2.1*t-b.2.1*h) (a.2.2*t-b.2.2*h) (jq a b h t).1 (jq a b h t).2.1 (jq a b h t).2.2 /\ Sim (jq a b h t) (cb h b (-t) a):=by
 have hw:a.2.2*t-b.2.2*h<0:=by
  have q1:=bV ha h2
  have q2:=bp hb h1
  omega
 have k:=mU (x:=a.1*t-b.1*h) (y:=a.2.1*t-b.2.1*h) (w:=a.2.2*t-b.2.2*h) (by omega)
 refine⟨k,?_⟩;have:=yr k hw
 rw[show cb h b (-t) a=(-(a.1*t-b.1*h),-(a.2.1*t-b.2.1*h),-(a.2.2*t-b.2.2*h)) by unfold cb;refine cU ?_ (cU ?_ ?_)<;>(dsimp only;grind)]
 exact this
noncomputable def lT(m:V3)(num:Int)(e:Vx×Vx):List Vx:=
 (if ex m e.1.1<0∨(ex m e.1.1=0 /\ ex m e.2.1<=0) then[e.1] else if ex m e.1.1=0 then[(e.1.1,m,num)] else[])++
 (if ex m e.1.1<0 /\ 0<ex m e.2.1 then[(jq e.1.1 e.2.1 (ex m e.1.1) (ex m e.2.1),m,num)] else if 0<ex m e.1.1 /\ ex m e.2.1<0 then[(jq e.1.1 e.2.1 (ex m e.1.1) (ex m e.2.1),e.1.2)] else[])
noncomputable def jB(m:V3)(num:Int)(l:List Vx):List Vx:=(edges l).flatMap (lT m num)
theorem pY(m:V3)(num:Int)(a:Vx):∀p:List Vx,(∀c∈p++[a],ex m c.1<=0) ->(pe (p++[a])).flatMap (lT m num)=p
 |[],_=>rfl
 |[x],h=>by
  have h1:=h x (by simp)
  have h2:=h a (by simp)
  simp only[am,aN,pe,cj,fh,aK,lT];rw[if_pos (by omega),if_neg (by omega),if_neg (by omega)];rfl
 |x::y::p,h=>by
  have h1:=h x (by simp)
  have h2:=h y (by simp)
  have ih:=pY m num a (y::p) fun c hc=>h c (by simp at hc⊢;right;exact hc)
  simp only[am,pe,cj] at ih⊢;rw[ih];simp only[lT];rw[if_pos (by omega),if_neg (by omega),if_neg (by omega)];rfl
theorem tD(m:V3)(num:Int):∀p:List Vx,(∀c∈p,0<ex m c.1) ->(pe p).flatMap (lT m num)=[]
 |[],_=>rfl
 |[x],h=>rfl
 |x::y::p,h=>by
  have h1:=h x (by simp)
  have h2:=h y (by simp)
  have ih:=tD m num (y::p) fun c hc=>h c (by simp at hc⊢;right;exact hc)
  simp only[pe,cj] at ih⊢;rw[ih];simp only[lT];rw[if_neg (by omega),if_neg (by omega),if_neg (by omega),if_neg (by omega)];rfl
noncomputable def kF(m:V3)(num:Int)(k d:Vx):List Vx:=if ex m k.1<0 then[k,(jq k.1 d.1 (ex m k.1) (ex m d.1),m,num)] else[(k.1,m,num)]
noncomputable def kZ(m:V3)(z c:Vx):List Vx:=if ex m c.1<0 then[(jq z.1 c.1 (ex m z.1) (ex m c.1),z.2)] else[]
theorem oA{m:V3}{num:Int}{C1 D2:List Vx}{C2 D1:List Vx}{k d c z:Vx}(eC:C1++[k]=c::C2)(eD:D2++[z]=d::D1)
  (hC:∀x∈C1++[k],ex m x.1<=0) (hD:∀x∈d::D1,0<ex m x.1):jB m num ((C1++[k])++(d::D1))=C1++(kF m num k d++kZ m z c):=by
 have hk:=hC k (by simp)
 have hd:=hD d (by simp)
 have hc:=hC c (by rw[eC];simp)
 have hz:=hD z (by rw[<-eD];simp)
 have e1:edges ((C1++[k])++(d::D1))=pe (C1++[k])++((k,d)::(pe (d::D1)++[(z,c)])):=by
  rw[eC,am,kW];have e2:c::(C2++d::D1)++[c]=C1++k::(d::D1++[c]):=by
   rw[<-am, <-eC];simp
  rw[e2,pe_app, <-eC]
  congr 1
  show(k,d)::pe (d::(D1++[c]))=_
  congr 1
  rw[<-am, <-eD,bG];show pe (D2++z::[c])=_
  rw[pe_app,eD];rfl
 unfold jB;rw[e1,cH,cj,cH,pY m num k C1 hC,tD m num (d::D1) hD]
 congr 1
 simp only[cj,fh,aK,aN]
 congr 1
 ·unfold lT kF;dsimp only
  by_cases q:ex m k.1<0
  ·rw[if_pos (.inl q),if_pos ⟨q,hd⟩,if_pos q];rfl
  ·rw[if_neg (by omega),if_pos (by omega),if_neg (by omega),if_neg (by omega),if_neg q];rfl
 ·unfold lT kZ;dsimp only;rw[if_neg (by omega),if_neg (by omega),if_neg (by omega)]
  by_cases q:ex m c.1<0
  ·rw[if_pos ⟨hz,q⟩,if_pos q];rfl
  ·rw[if_neg (by omega),if_neg q];rfl
end MC
namespace MC
open MA
theorem Edge.congr{l:List Vx}{a b b':Vx}(h:Edge l a b)(e:b.1=b'.1):Edge l a b':=by
 obtain⟨h1,h2,h3,h4,h5⟩:=h
 rw[e] at h1 h3 h4 h5;exact⟨h1,h2,h3,h4,h5⟩
noncomputable def zw(a b:Vx)(p:V3):Prop:=p=a.1∨p=b.1∨(0<dt a.1 b.1 p /\ ex a.2.1 p<0)
theorem zj{l:List Vx}{a b:Vx}(h1:a.1≠b.1)(h2:ex a.2.1 a.1=0)(h3:ex a.2.1 b.1=0)(h:∀c∈l,zw a b c.1):Edge l a b:=
 ⟨h1,h2,h3,fun c hc=>(h c hc).imp id (fun q=>q.imp id (·.1)),fun c hc=>(h c hc).imp id (fun q=>q.imp id (·.2))⟩
theorem Edge.ok{l:List Vx}{a b c:Vx}(h:Edge l a b)(hc:c∈l):zw a b c.1:=by
 rcases h.left c hc with e|e|e
 ·exact .inl e
 ·exact .inr (.inl e)
 ·rcases h.back c hc with e'|e'|e'
  ·exact .inl e'
  ·exact .inr (.inl e')
  ·exact .inr (.inr ⟨e,e'⟩)
theorem ve{k k':Vx}(hk:k'.1=k.1):∀(p:List Vx) (a b:Vx),(a,b)∈pe (p++[k']) -> ∃b',(a,b')∈pe (p++[k]) /\ b'.1=b.1
 |[],a,b,h=>by simp[pe] at h
 |[x],a,b,h=>by
  simp only[am,aN,pe,av,aD,or_false,dR.injEq] at h⊢;obtain⟨rfl,rfl⟩:=h
  exact⟨k,⟨rfl,rfl⟩,hk.symm⟩
 |x::y::p,a,b,h=>by
  simp only[am,pe,av,dR.injEq] at h⊢;rcases h with⟨rfl,rfl⟩|h
  ·exact⟨b,.inl ⟨rfl,rfl⟩,rfl⟩
  ·obtain⟨b',h1,h2⟩:=ve hk (y::p) a b h
   exact⟨b',.inr h1,h2⟩
theorem oG{α:Type}:∀(p:List α) (a b:α),(a,b)∈pe p ->a∈p /\ b∈p
 |[],a,b,h=>by simp[pe] at h
 |[x],a,b,h=>by simp[pe] at h
 |x::y::p,a,b,h=>by
  simp only[pe,av,dR.injEq] at h;rcases h with⟨rfl,rfl⟩|h
  ·simp
  ·have:=oG (y::p) a b h
   exact⟨ba _ this.1,ba _ this.2⟩
theorem nU{α:Type}{p q:List α}{a b:α}(h:(a,b)∈pe p):(a,b)∈pe (p++q):=by
 cases hp:p.reverse with
 |nil=>
  have:p=[]:=by simpa using hp
  subst this;simp[pe] at h
 |cons x r=>
  have e:p=r.reverse++[x]:=by
   have:=congrArg gs hp
   simpa using this
  rw[e,bG,gt,pe_app, <-e];exact aO _ h
theorem vv{C:List Vx}{c0 k c:Vx}{C1 C2:List Vx}(e1:C=C1++[k])(e2:C=c0::C2)(hc:c∈C)(n1:c≠c0)(n2:c≠k):∃p a b s,C=p++a::c::b::s:=by
 obtain⟨p,s,e⟩:=gP hc
 cases hp:p.reverse with
 |nil=>
  have:p=[]:=by simpa using hp
  subst this;rw[e] at e2;simp at e2;exact absurd e2.1 n1
 |cons a r=>
  have ep:p=r.reverse++[a]:=by
   have:=congrArg gs hp
   simpa using this
  cases s with
  |nil=>
   rw[e] at e1;have:=congrArg gs e1
   simp at this;exact absurd this.1 n2
  |cons b s=>exact⟨r.reverse,a,b,s,by rw[e,ep];simp⟩
structure Cfg(m:V3)(C1 C2 D1 D2:List Vx)(k c d z:Vx):Prop where
 hP:Poly ((C1++[k])++(d::D1))
 eC:C1++[k]=c::C2
 eD:D2++[z]=d::D1
 hC:∀x∈C1++[k],ex m x.1<=0
 hD:∀x∈d::D1,0<ex m x.1
 neg:∃x∈C1++[k],ex m x.1<0
section
variable {m:V3} {num:Int} {C1 C2 D1 D2:List Vx} {k c d z:Vx}
noncomputable def Xp(m:V3)(k d:Vx):V3:=if ex m k.1<0 then jq k.1 d.1 (ex m k.1) (ex m d.1) else k.1
noncomputable def Yp(m:V3)(z c:Vx):V3:=if ex m c.1<0 then jq z.1 c.1 (ex m z.1) (ex m c.1) else c.1
namespace Cfg
theorem inC(h:Cfg m C1 C2 D1 D2 k c d z){x:Vx}(hx:x∈C1++[k]):x∈(C1++[k])++(d::D1):=aO _ hx
theorem inD(h:Cfg m C1 C2 D1 D2 k c d z){x:Vx}(hx:x∈d::D1):x∈(C1++[k])++(d::D1):=bK _ hx
theorem kC(h:Cfg m C1 C2 D1 D2 k c d z):k∈C1++[k]:=by simp
theorem cC(h:Cfg m C1 C2 D1 D2 k c d z):c∈C1++[k]:=by rw[h.eC];simp
theorem zD(h:Cfg m C1 C2 D1 D2 k c d z):z∈d::D1:=by rw[<-h.eD];simp
theorem dD(h:Cfg m C1 C2 D1 D2 k c d z):d∈d::D1:=by simp
theorem ekd(h:Cfg m C1 C2 D1 D2 k c d z):Edge ((C1++[k])++(d::D1)) k d:=by
 have:(k,d)∈edges ((C1++[k])++(d::D1)):=by
  have:=kX (p:=C1) (s:=D1) (a:=k) (b:=d)
  simpa using this
 exact h.hP.edge _ this
theorem ezc(h:Cfg m C1 C2 D1 D2 k c d z):Edge ((C1++[k])++(d::D1)) z c:=by
 have:(z,c)∈edges ((C1++[k])++(d::D1)):=by
  rw[h.eC, <-h.eD];have:=kL (m:=C2++D2) (a:=z) (b:=c)
  simpa using this
 exact h.hP.edge _ this
theorem cd(h:Cfg m C1 C2 D1 D2 k c d z){x y:Vx}(hx:x∈C1++[k])(hy:y∈d::D1):x.1≠y.1:=fun q=>by
 have h1:=h.hC x hx
 have h2:=h.hD y hy
 rw[q] at h1;omega
theorem inj(h:Cfg m C1 C2 D1 D2 k c d z){x y:Vx}(hx:x∈C1++[k])(hy:y∈C1++[k])(e:x.1=y.1):x=y:=by
 have nd:=h.hP.nd
 rw[au,bf] at nd;have nd:=nd.1
 generalize C1++[k]=C at hx hy nd
 induction C with
 |nil=>simp at hx
 |cons w C ih=>
  rw[aJ,bE] at nd;rcases av.mp hx with rfl|hx'<;>rcases av.mp hy with rfl|hy'
  ·rfl
  ·exact absurd (ay.mpr ⟨y,hy',e.symm⟩) nd.1
  ·exact absurd (ay.mpr ⟨x,hx',e⟩) nd.1
  ·exact ih hx' hy' nd.2
theorem two(h:Cfg m C1 C2 D1 D2 k c d z)(e:c.1=k.1):z.1≠d.1:=by
 have ek:c=k:=h.inj h.cC h.kC e
 have len:=h.hP.three
 have e1:C1=[]:=by
  cases C1 with
  |nil=>rfl
  |cons w C1'=>
   have hc:=h.eC
   rw[am] at hc;have hw:w=c:=(cJ.inj hc).1
   have nd:=h.hP.nd
   rw[au,bf,am,aJ,bE] at nd;refine absurd ?_ nd.1.1;rw[hw,e];exact ay.mpr ⟨k,by simp,rfl⟩
 subst e1;intro q;have hD2:=h.eD
 cases D1 with
 |nil=>simp at len
 |cons y D1'=>
  cases D2 with
  |nil=>simp at hD2
  |cons w D2'=>
   rw[am] at hD2;obtain⟨rfl,e3⟩:=cJ.inj hD2
   have nd:=h.hP.nd
   rw[au,bf,aJ,bE] at nd;refine absurd ?_ nd.2.1.1;rw[<-e3, <-q];exact ay.mpr ⟨z,by simp,rfl⟩
theorem wk(h:Cfg m C1 C2 D1 D2 k c d z){x:Vx}(hx:x∈(C1++[k])++(d::D1)):0<x.1.2.2:=h.hP.pos x hx
theorem simX(h:Cfg m C1 C2 D1 D2 k c d z):Sim (Xp m k d) (cb (ex m d.1) k.1 (-(ex m k.1)) d.1):=by
 unfold Xp;have hk:=h.hC k h.kC
 have hd:=h.hD d h.dD
 split
 ·rename_i q
  exact(tN (h.wk (h.inC h.kC)) (h.wk (h.inD h.dD)) q hd).2
 ·have e:ex m k.1=0:=by omega
  rw[e];refine⟨ex m d.1,1,hd,by decide,?_,?_,?_⟩<;>(unfold cb;dsimp only;grind)
theorem simY(h:Cfg m C1 C2 D1 D2 k c d z):Sim (Yp m z c) (cb (ex m z.1) c.1 (-(ex m c.1)) z.1):=by
 unfold Yp;have hc:=h.hC c h.cC
 have hz:=h.hD z h.zD
 split
 ·rename_i q
  exact(oQ (h.wk (h.inD h.zD)) (h.wk (h.inC h.cC)) hz q).2
 ·have e:ex m c.1=0:=by omega
  rw[e];refine⟨ex m z.1,1,hz,by decide,?_,?_,?_⟩<;>(unfold cb;dsimp only;grind)
theorem exX(h:Cfg m C1 C2 D1 D2 k c d z):ex m (Xp m k d)=0:=(h.simX.exz m).mpr (nE m k.1 d.1)
theorem exY(h:Cfg m C1 C2 D1 D2 k c d z):ex m (Yp m z c)=0:=(h.simY.exz m).mpr (nE m c.1 z.1)
theorem okX(h:Cfg m C1 C2 D1 D2 k c d z){a b:Vx}(ha:a∈C1++[k])(hb:b∈C1++[k])(E:Edge ((C1++[k])++(d::D1)) a b):zw a b (Xp m k d):=by
 have hk:=h.hC k h.kC
 have hd:=h.hD d h.dD
 by_cases q:ex m k.1<0
 ·have:=zN E (h.inC h.kC) (h.inD h.dD) (s:=ex m d.1) (t:= -(ex m k.1)) (by omega) (by omega) (.inr ⟨by omega,(h.cd ha h.dD).symm,(h.cd hb h.dD).symm⟩)
  exact .inr (.inr ⟨(h.simX.dtp a.1 b.1).mpr this.1,(h.simX.exn a.2.1).mpr this.2⟩)
 ·rw[show Xp m k d=k.1 from if_neg q];exact E.ok (h.inC h.kC)
theorem okY(h:Cfg m C1 C2 D1 D2 k c d z){a b:Vx}(ha:a∈C1++[k])(hb:b∈C1++[k])(E:Edge ((C1++[k])++(d::D1)) a b):zw a b (Yp m z c):=by
 have hc:=h.hC c h.cC
 have hz:=h.hD z h.zD
 by_cases q:ex m c.1<0
 ·have:=zN E (h.inC h.cC) (h.inD h.zD) (s:=ex m z.1) (t:= -(ex m c.1)) (by omega) (by omega) (.inr ⟨by omega,(h.cd ha h.zD).symm,(h.cd hb h.zD).symm⟩)
  exact .inr (.inr ⟨(h.simY.dtp a.1 b.1).mpr this.1,(h.simY.exn a.2.1).mpr this.2⟩)
 ·rw[show Yp m z c=c.1 from if_neg q];exact E.ok (h.inC h.cC)
theorem kdY(h:Cfg m C1 C2 D1 D2 k c d z)(q:ex m k.1<0∨c.1≠k.1):0<dt k.1 d.1 (Yp m z c) /\ ex k.2.1 (Yp m z c)<0:=by
 have hc:=h.hC c h.cC
 have hz:=h.hD z h.zD
 have cases:(0<ex m z.1 /\ c.1≠k.1 /\ c.1≠d.1)∨(0< -(ex m c.1) /\ z.1≠k.1 /\ z.1≠d.1):=by
  by_cases e:c.1=k.1
  ·right
   refine⟨?_,(h.cd h.kC h.zD).symm,h.two e⟩;rcases q with q|q
   ·rw[e];omega
   ·exact absurd e q
  ·exact .inl ⟨hz,e,h.cd h.cC h.dD⟩
 have:=zN h.ekd (h.inC h.cC) (h.inD h.zD) (s:=ex m z.1) (t:= -(ex m c.1)) (by omega) (by omega) cases
 exact⟨(h.simY.dtp k.1 d.1).mpr this.1,(h.simY.exn k.2.1).mpr this.2⟩
theorem zcX(h:Cfg m C1 C2 D1 D2 k c d z)(q:ex m c.1<0∨c.1≠k.1):0<dt z.1 c.1 (Xp m k d) /\ ex z.2.1 (Xp m k d)<0:=by
 have hk:=h.hC k h.kC
 have hd:=h.hD d h.dD
 have cases:(0<ex m d.1 /\ k.1≠z.1 /\ k.1≠c.1)∨(0< -(ex m k.1) /\ d.1≠z.1 /\ d.1≠c.1):=by
  by_cases e:c.1=k.1
  ·right
   refine⟨?_,(h.two e).symm,(h.cd h.cC h.dD).symm⟩;rcases q with q|q
   ·rw[<-e];omega
   ·exact absurd e q
  ·exact .inl ⟨hd,h.cd h.kC h.zD,Ne.symm e⟩
 have:=zN h.ezc (h.inC h.kC) (h.inD h.dD) (s:=ex m d.1) (t:= -(ex m k.1)) (by omega) (by omega) cases
 exact⟨(h.simX.dtp z.1 c.1).mpr this.1,(h.simX.exn z.2.1).mpr this.2⟩
theorem ends(h:Cfg m C1 C2 D1 D2 k c d z):ex m k.1<0∨c.1≠k.1:=by
 by_cases e:c.1=k.1
 ·left
  have ek:c=k:=h.inj h.cC h.kC e
  have e1:C1=[]:=by
   cases C1 with
   |nil=>rfl
   |cons w C1'=>
    have hc:=h.eC
    rw[am] at hc;have hw:w=c:=(cJ.inj hc).1
    have nd:=h.hP.nd
    rw[au,bf,am,aJ,bE] at nd;refine absurd ?_ nd.1.1;rw[hw,e];exact ay.mpr ⟨k,by simp,rfl⟩
  obtain⟨x,hx,hx0⟩:=h.neg
  subst e1;obtain rfl:x=k:=by simpa using hx
  exact hx0
 ·exact .inr e
theorem ends'(h:Cfg m C1 C2 D1 D2 k c d z):ex m c.1<0∨c.1≠k.1:=by
 rcases h.ends with q|q
 ·by_cases e:c.1=k.1
  ·exact .inl (by rw[e];exact q)
  ·exact .inr e
 ·exact .inr q
theorem xd(h:Cfg m C1 C2 D1 D2 k c d z):dt (Xp m k d) (Yp m z c) d.1<0:=by
 have hd:=h.hD d h.dD
 have q:=(h.kdY h.ends).1
 --X is a sum of k and d
 obtain⟨s,t,hs,ht,e1,e2,e3⟩:=h.simX
 have e:dt (Xp m k d) (Yp m z c) d.1*s= -(ex m d.1*dt k.1 d.1 (Yp m z c))*t:=by
  rw[<-xX (ex m d.1) k.1 (-(ex m k.1)) d.1 (Yp m z c)];generalize cb (ex m d.1) k.1 (-(ex m k.1)) d.1=v at e1 e2 e3;generalize Xp m k d=w at e1 e2 e3;unfold dt
  grind
 have q2:=bp hd q
 exact(lu hs ht e).2.2.mpr (by omega)
theorem xy(h:Cfg m C1 C2 D1 D2 k c d z):Xp m k d≠Yp m z c:=fun e=>by
 have:=h.xd
 rw[e,vQ] at this;omega
theorem newLeft(h:Cfg m C1 C2 D1 D2 k c d z){p:V3}(hp:ex m p<0):0<dt (Xp m k d) (Yp m z c) p:=by
 have hd:=h.hD d h.dD
 have P:=mP m (Xp m k d) (Yp m z c) p d.1
 rw[h.exX,h.exY,b8,b8,bH,bH] at P;have q:=Int.mul_pos_of_neg_of_neg h.xd hp
 rw[<-P] at q;rcases dH (dt (Xp m k d) (Yp m z c) p) 0 with r|r|r
 ·have:=cp r hd
  omega
 ·rw[r,fe] at q;omega
 ·exact r
theorem zero(h:Cfg m C1 C2 D1 D2 k c d z){x:Vx}(hx:x∈C1++[k])(h0:ex m x.1=0):x=c∨x=k:=by
 refine Classical.byContradiction fun no=> ?_
 have n1:x≠c:=fun q=>no (.inl q)
 have n2:x≠k:=fun q=>no (.inr q)
 obtain⟨p,a,b,s,e⟩:=vv (C:=C1++[k]) rfl h.eC hx n1 n2
 have l1:(a,x)∈edges ((C1++[k])++(d::D1)):=by
  rw[e];have:=kX (p:=p) (s:=b::s++(d::D1)) (a:=a) (b:=x)
  simpa using this
 have l2:(x,b)∈edges ((C1++[k])++(d::D1)):=by
  rw[e];have:=kX (p:=p++[a]) (s:=s++(d::D1)) (a:=x) (b:=b)
  simpa using this
 have E1:=h.hP.edge _ l1
 have E2:=h.hP.edge _ l2
 dsimp only at E1 E2;have ma:a∈C1++[k]:=by rw[e];simp
 have mb:b∈C1++[k]:=by rw[e];simp
 have nd:=h.hP.nd
 rw[au,bf,e,au,aJ,aJ,aJ,bf,bE,bE] at nd;have nab:b.1≠a.1:=fun q=>nd.1.2.1.1 (by rw[<-q];simp)
 have nxb:b.1≠x.1:=fun q=>nd.1.2.1.2.1 (by rw[<-q];simp)
 have A1:=E1.left_of (h.inC mb) nab nxb
 have A2:=E1.left_of (h.inD h.dD) (h.cd ma h.dD).symm (h.cd hx h.dD).symm
 have A3:=E2.left_of (h.inD h.dD) (h.cd hx h.dD).symm (h.cd mb h.dD).symm
 have P:=mP m a.1 x.1 b.1 d.1
 rw[h0,b8,gu, <-oO d.1 x.1 b.1] at P;have hd:=h.hD d h.dD
 have q1:=bp A1 hd
 have q2:=sN (cX A3) (h.hC a ma)
 have q3:=sN (cX A2) (h.hC b mb)
 omega
end Cfg
end
end MC
namespace MC
open MA
namespace Cfg
variable {m:V3} {num:Int} {C1 C2 D1 D2:List Vx} {k c d z:Vx}
theorem pts(h:Cfg m C1 C2 D1 D2 k c d z){v:Vx}(hv:v∈C1++(kF m num k d++kZ m z c)):(∃x∈C1++[k],v.1=x.1)∨v.1=Xp m k d∨v.1=Yp m z c:=by
 rcases aR.mp hv with q|q
 ·exact .inl ⟨v,aO _ q,rfl⟩
 ·rcases aR.mp q with q|q
  ·unfold kF at q
   by_cases e:ex m k.1<0
   ·rw[if_pos e] at q;simp only[av,aD,or_false] at q;rcases q with rfl|rfl
    ·exact .inl ⟨v,by simp,rfl⟩
    ·exact .inr (.inl (by unfold Xp;rw[if_pos e]))
   ·rw[if_neg e] at q;obtain rfl:v=(k.1,m,num):=by simpa using q
    exact .inl ⟨k,by simp,rfl⟩
  ·unfold kZ at q
   by_cases e:ex m c.1<0
   ·rw[if_pos e] at q;obtain rfl:v=(jq z.1 c.1 (ex m z.1) (ex m c.1),z.2):=by simpa using q
    exact .inr (.inr (by unfold Yp;rw[if_pos e]))
   ·rw[if_neg e] at q;simp at q
theorem edge_of3(h:Cfg m C1 C2 D1 D2 k c d z){a b:Vx}(h1:a.1≠b.1)(h2:ex a.2.1 a.1=0)(h3:ex a.2.1 b.1=0)(hC:∀x∈C1++[k],zw a b x.1)(hX:zw a b (Xp m k d))(hY:zw a b (Yp m z c)):
  Edge (C1++(kF m num k d++kZ m z c)) a b:=zj h1 h2 h3 fun v hv=>by
 rcases h.pts hv with⟨x,hx,e⟩|e|e
 ·rw[e];exact hC x hx
 ·rw[e];exact hX
 ·rw[e];exact hY
theorem eOld(h:Cfg m C1 C2 D1 D2 k c d z){a b:Vx}(ha:a∈C1++[k])(hb:b∈C1++[k])(E:Edge ((C1++[k])++(d::D1)) a b):Edge (C1++(kF m num k d++kZ m z c)) a b:=
 h.edge_of3 E.ne E.on1 E.on2 (fun x hx=>E.ok (h.inC hx)) (h.okX ha hb E) (h.okY ha hb E)
theorem Xne(h:Cfg m C1 C2 D1 D2 k c d z)(q:ex m k.1<0){x:Vx}(hx:x∈C1++[k]):x.1≠Xp m k d:=fun e=>by
 have h0:ex m x.1=0:=by rw[e];exact h.exX
 rcases h.zero hx h0 with rfl|rfl
 ·have:Yp m z x=x.1:=if_neg (by omega)
  exact h.xy (by rw[this,e])
 ·omega
theorem Yne(h:Cfg m C1 C2 D1 D2 k c d z)(q:ex m c.1<0){x:Vx}(hx:x∈C1++[k]):x.1≠Yp m z c:=fun e=>by
 have h0:ex m x.1=0:=by rw[e];exact h.exY
 rcases h.zero hx h0 with rfl|rfl
 ·omega
 ·have:Xp m x d=x.1:=if_neg (by omega)
  exact h.xy (by rw[this,e])
theorem eKX(h:Cfg m C1 C2 D1 D2 k c d z)(q:ex m k.1<0)(b:Vx)(hb:b.1=Xp m k d):Edge (C1++(kF m num k d++kZ m z c)) k b:=by
 have hd:=h.hD d h.dD
 have E:=h.ekd
 obtain⟨s,t,hs,ht,e1,e2,e3⟩:=h.simX
 have key:∀p:V3,0<dt k.1 d.1 p ->0<dt k.1 (Xp m k d) p:=by
  intro p hp;have e:dt k.1 (Xp m k d) p*s= -(ex m k.1)*dt k.1 d.1 p*t:=by
   generalize Xp m k d=w at e1 e2 e3;unfold cb at e1 e2 e3;dsimp only at e1 e2 e3;unfold dt
   grind
  have:0< -(ex m k.1)*dt k.1 d.1 p:=bp (by omega) hp
  exact(lu hs ht e).1.mpr this
 have on:ex k.2.1 (Xp m k d)=0:=(h.simX.exz k.2.1).mpr (by rw[w4,E.on1,E.on2];simp)
 refine Edge.congr (b:=(Xp m k d,m,num)) ?_ hb.symm;refine h.edge_of3 (h.Xne q h.kC) E.on1 on (fun x hx=> ?_) (.inr (.inl rfl)) ?_
 ·by_cases e:x.1=k.1
  ·exact .inl e
  ·exact .inr (.inr ⟨key _ (E.left_of (h.inC hx) e (h.cd hx h.dD)),E.back_of (h.inC hx) e (h.cd hx h.dD)⟩)
 ·exact .inr (.inr ⟨key _ (h.kdY h.ends).1,(h.kdY h.ends).2⟩)
theorem eXY(h:Cfg m C1 C2 D1 D2 k c d z)(a b:Vx)(ha:a.1=Xp m k d)(ha':a.2.1=m)(hb:b.1=Yp m z c):Edge (C1++(kF m num k d++kZ m z c)) a b:=by
 refine h.edge_of3 (by rw[ha,hb];exact h.xy) (by rw[ha,ha'];exact h.exX) (by rw[hb,ha'];exact h.exY) (fun x hx=> ?_) (.inl ha.symm) (.inr (.inl hb.symm))
 by_cases q:ex m x.1<0
 ·exact .inr (.inr ⟨by rw[ha,hb];exact h.newLeft q,by rw[ha'];exact q⟩)
 ·have h0:ex m x.1=0:=by have:=h.hC x hx;omega
  rcases h.zero hx h0 with rfl|rfl
  ·exact .inr (.inl (by rw[hb];unfold Yp;rw[if_neg q]))
  ·exact .inl (by rw[ha];unfold Xp;rw[if_neg q])
theorem eYC(h:Cfg m C1 C2 D1 D2 k c d z)(q:ex m c.1<0)(a b:Vx)(ha:a.1=Yp m z c)(ha':a.2.1=z.2.1)(hb:b.1=c.1):Edge (C1++(kF m num k d++kZ m z c)) a b:=by
 have hz:=h.hD z h.zD
 have E:=h.ezc
 obtain⟨s,t,hs,ht,e1,e2,e3⟩:=h.simY
 have key:∀p:V3,0<dt z.1 c.1 p ->0<dt (Yp m z c) c.1 p:=by
  intro p hp;have e:dt (Yp m z c) c.1 p*s= -(ex m c.1)*dt z.1 c.1 p*t:=by
   generalize Yp m z c=w at e1 e2 e3;unfold cb at e1 e2 e3;dsimp only at e1 e2 e3;unfold dt
   grind
  have:0< -(ex m c.1)*dt z.1 c.1 p:=bp (by omega) hp
  exact(lu hs ht e).1.mpr this
 have on:ex z.2.1 (Yp m z c)=0:=(h.simY.exz z.2.1).mpr (by rw[w4,E.on1,E.on2];simp)
 refine h.edge_of3 (by rw[ha,hb];exact(h.Yne q h.cC).symm) (by rw[ha,ha'];exact on) (by rw[hb,ha'];exact E.on2) (fun x hx=> ?_) ?_ (.inl ha.symm)
 ·by_cases e:x.1=c.1
  ·exact .inr (.inl (by rw[e,hb]))
  ·exact .inr (.inr ⟨by rw[ha,hb];exact key _ (E.left_of (h.inC hx) (h.cd hx h.zD) e),by rw[ha'];exact E.back_of (h.inC hx) (h.cd hx h.zD) e⟩)
 ·exact .inr (.inr ⟨by rw[ha,hb];exact key _ (h.zcX h.ends').1,by rw[ha'];exact(h.zcX h.ends').2⟩)
theorem len(h:Cfg m C1 C2 D1 D2 k c d z):3<=(C1++(kF m num k d++kZ m z c)).length:=by
 have hk:=h.hC k h.kC
 have hc:=h.hC c h.cC
 rw[al,al];unfold kF kZ;cases C1 with
 |nil=>
  have e:k=c:=by have:=h.eC;simp at this;exact this.1
  obtain⟨x,hx,hx0⟩:=h.neg
  obtain rfl:x=k:=by simpa using hx
  rw[if_pos hx0, <-e,if_pos hx0];simp
 |cons w C1'=>
  cases C1' with
  |nil=>
   have e:w=c:=by have:=h.eC;simp at this;exact this.1
   obtain⟨x,hx,hx0⟩:=h.neg
   simp only[am,aN,av,aD,or_false] at hx;rcases hx with rfl|rfl
   ·rw[<-e,if_pos hx0];split<;>simp
   ·rw[if_pos hx0];split<;>simp
  |cons w' C1''=>
   simp only[bC];split<;>simp<;>omega
theorem nodup_snoc{α:Type}{l:List α}{a:α}(h:l.Nodup)(n:a∉l):(l++[a]).Nodup:=by
 rw[bf];refine⟨h,by simp,fun x hx y hy e=> ?_⟩;obtain rfl:y=a:=by simpa using hy
 exact n (e▸hx)
theorem ndAll(h:Cfg m C1 C2 D1 D2 k c d z):((C1++(kF m num k d++kZ m z c)).map (·.1)).Nodup:=by
 have nd:=h.hP.nd
 rw[au,bf] at nd;have n0:=nd.1
 have e1:(C1++(kF m num k d++kZ m z c)).map (·.1)=((C1++[k]).map (·.1)++(if ex m k.1<0 then[Xp m k d] else[]))++(if ex m c.1<0 then[Yp m z c] else[]):=by
  unfold kF kZ Xp Yp
  by_cases q1:ex m k.1<0<;>by_cases q2:ex m c.1<0<;>simp[q1,q2]
 rw[e1];have n1:((C1++[k]).map (·.1)++(if ex m k.1<0 then[Xp m k d] else[])).Nodup:=by
  by_cases q:ex m k.1<0
  ·rw[if_pos q];refine nodup_snoc n0 fun hm=> ?_
   obtain⟨x,hx,e⟩:=ay.mp hm
   exact h.Xne q hx e
  ·rw[if_neg q,aK];exact n0
 by_cases q:ex m c.1<0
 ·rw[if_pos q];refine nodup_snoc n1 fun hm=> ?_
  rcases aR.mp hm with hm|hm
  ·obtain⟨x,hx,e⟩:=ay.mp hm
   exact h.Yne q hx e
  ·by_cases q':ex m k.1<0
   ·rw[if_pos q'] at hm;have e:Yp m z c=Xp m k d:=by simpa using hm
    exact h.xy e.symm
   ·rw[if_neg q'] at hm;simp at hm
 ·rw[if_neg q,aK];exact n1
theorem lowX(h:Cfg m C1 C2 D1 D2 k c d z)(q:ex m k.1<0):0<(Xp m k d).2.2 /\ aE (aE (Xp m k d).1 (Xp m k d).2.1) (Xp m k d).2.2=1:=by
 have:=(tN (h.wk (h.inC h.kC)) (h.wk (h.inD h.dD)) q (h.hD d h.dD)).1
 unfold Xp;rw[if_pos q];exact⟨this.pos,this.low⟩
theorem lowY(h:Cfg m C1 C2 D1 D2 k c d z)(q:ex m c.1<0):0<(Yp m z c).2.2 /\ aE (aE (Yp m z c).1 (Yp m z c).2.1) (Yp m z c).2.2=1:=by
 have:=(oQ (h.wk (h.inD h.zD)) (h.wk (h.inC h.cC)) (h.hD z h.zD) q).1
 unfold Yp;rw[if_pos q];exact⟨this.pos,this.low⟩
theorem low3(h:Cfg m C1 C2 D1 D2 k c d z){v:Vx}(hv:v∈C1++(kF m num k d++kZ m z c)):0<v.1.2.2 /\ aE (aE v.1.1 v.1.2.1) v.1.2.2=1:=by
 rcases h.pts hv with⟨x,hx,e⟩|e|e
 ·rw[e];exact⟨h.hP.pos x (h.inC hx),h.hP.low x (h.inC hx)⟩
 ·rw[e]
  by_cases q:ex m k.1<0
  ·exact h.lowX q
  ·rw[show Xp m k d=k.1 from if_neg q];exact⟨h.hP.pos k (h.inC h.kC),h.hP.low k (h.inC h.kC)⟩
 ·rw[e]
  by_cases q:ex m c.1<0
  ·exact h.lowY q
  ·rw[show Yp m z c=c.1 from if_neg q];exact⟨h.hP.pos c (h.inC h.cC),h.hP.low c (h.inC h.cC)⟩
theorem poly(h:Cfg m C1 C2 D1 D2 k c d z):Poly (C1++(kF m num k d++kZ m z c)) where
 three:=h.len
 pos:=fun v hv=>(h.low3 hv).1
 low:=fun v hv=>(h.low3 hv).2
 nd:=h.ndAll
 edge:=fun e he=>by
  obtain⟨a,b⟩:=e
  --the head of the list has the point of c
  obtain⟨t0,T,eT,ht0⟩:∃t0 T,kF m num k d++kZ m z c=t0::T /\ t0.1=k.1:=by
   unfold kF;split
   ·exact⟨_,_,rfl,rfl⟩
   ·exact⟨_,_,rfl,rfl⟩
  obtain⟨hd0,R,eR,hhd⟩:∃hd0 R,C1++(t0::T)=hd0::R /\ hd0.1=c.1:=by
   cases C1 with
   |nil=>
    refine⟨t0,T,rfl,?_⟩;have:k=c:=by have:=h.eC;simp at this;exact this.1
    rw[ht0,this]
   |cons w C1'=>
    refine⟨w,C1'++(t0::T),rfl,?_⟩;have:=h.eC
    rw[am] at this;rw[(cJ.inj this).1]
  rw[eT,eR,kW, <-eR] at he;have he:(a,b)∈pe (C1++t0::(T++[hd0])):=by simpa using he
  rw[pe_app] at he;rcases aR.mp he with q|q
  ·obtain⟨b',hb',eb⟩:=ve ht0 C1 a b q
   have m2:=oG _ _ _ hb'
   have E:Edge ((C1++[k])++(d::D1)) a b':=by
    have:(a,b')∈edges ((C1++[k])++(d::D1)):=by
     rw[h.eC,am,kW, <-am, <-h.eC,bG];exact nU hb'
    exact h.hP.edge _ this
   exact(h.eOld m2.1 m2.2 E).congr eb
  ·unfold kF kZ at eT
   by_cases q1:ex m k.1<0<;>by_cases q2:ex m c.1<0
   ·rw[if_pos q1,if_pos q2] at eT;simp only[am,aN,aK,cJ.injEq] at eT;obtain⟨rfl,rfl⟩:=eT
    simp only[am,aN,pe,av,aD,or_false,dR.injEq] at q;rcases q with⟨rfl,rfl⟩|⟨rfl,rfl⟩|⟨rfl,rfl⟩
    ·exact h.eKX q1 _ (by unfold Xp;rw[if_pos q1])
    ·exact h.eXY _ _ (by unfold Xp;rw[if_pos q1]) rfl (by unfold Yp;rw[if_pos q2])
    ·exact h.eYC q2 _ _ (by unfold Yp;rw[if_pos q2]) rfl hhd
   ·rw[if_pos q1,if_neg q2] at eT;simp only[am,aN,aK,cJ.injEq] at eT;obtain⟨rfl,rfl⟩:=eT
    simp only[am,aN,aK,pe,av,aD,or_false,dR.injEq] at q;rcases q with⟨rfl,rfl⟩|⟨rfl,rfl⟩
    ·exact h.eKX q1 _ (by unfold Xp;rw[if_pos q1])
    ·exact h.eXY _ _ (by unfold Xp;rw[if_pos q1]) rfl (by unfold Yp;rw[if_neg q2];exact hhd)
   ·rw[if_neg q1,if_pos q2] at eT;simp only[am,aN,aK,cJ.injEq] at eT;obtain⟨rfl,rfl⟩:=eT
    simp only[am,aN,pe,av,aD,or_false,dR.injEq] at q;rcases q with⟨rfl,rfl⟩|⟨rfl,rfl⟩
    ·exact h.eXY _ _ (by unfold Xp;rw[if_neg q1]) rfl (by unfold Yp;rw[if_pos q2])
    ·exact h.eYC q2 _ _ (by unfold Yp;rw[if_pos q2]) rfl hhd
   ·rw[if_neg q1,if_neg q2] at eT;simp only[am,aN,aK,cJ.injEq] at eT;obtain⟨rfl,rfl⟩:=eT
    simp only[am,aN,aK,pe,av,aD,or_false,dR.injEq] at q;obtain⟨rfl,rfl⟩:=q
    exact h.eXY _ _ (by unfold Xp;rw[if_neg q1]) rfl (by unfold Yp;rw[if_neg q2];exact hhd)
end Cfg
theorem lM{l:List Vx}(hP:Poly l)(m:V3)(num:Int)(hp:∃v∈l,0<ex m v.1)(hn:∃v∈l,ex m v.1<0):Poly (jB m num l):=by
 obtain⟨C,D,hR,nC,nD,hC,hD⟩:=AV hP m hp (by obtain⟨v,hv,q⟩:=hn;exact⟨v,hv,by omega⟩)
 obtain⟨c,C2,eC⟩:∃c C2,C=c::C2:=by cases C with|nil=>exact absurd rfl nC|cons c C2=>exact⟨c,C2,rfl⟩
 obtain⟨d,D1,eD⟩:∃d D1,D=d::D1:=by cases D with|nil=>exact absurd rfl nD|cons c C2=>exact⟨c,C2,rfl⟩
 obtain⟨C1,k,eC'⟩:∃C1 k,C=C1++[k]:=⟨C.dropLast,C.getLast nC,(cr nC).symm⟩
 obtain⟨D2,z,eD'⟩:∃D2 z,D=D2++[z]:=⟨D.dropLast,D.getLast nD,(cr nD).symm⟩
 have cfg:Cfg m C1 C2 D1 D2 k c d z:=by
  refine⟨by rw[<-eC', <-eD];exact hR.poly hP,by rw[<-eC',eC],by rw[<-eD',eD],by rw[<-eC'];exact hC,by rw[<-eD];exact hD,?_⟩;obtain⟨v,hv,q⟩:=hn
  have:=(hR.mem v).mpr hv
  rcases aR.mp this with w|w
  ·exact⟨v,by rw[<-eC'];exact w,q⟩
  ·have:=hD v w
   omega
 have e:=oA (num:=num) cfg.eC cfg.eD cfg.hC cfg.hD
 have hRr:Rot (jB m num l) (jB m num (C++D)):=hR.edges.flat (lT m num)
 rw[eC',eD,e] at hRr;exact hRr.symm.poly cfg.poly
end MC
namespace MC
open MA
namespace Cfg
variable {m:V3} {num:Int} {C1 C2 D1 D2:List Vx} {k c d z:Vx}
theorem edgesN(h:Cfg m C1 C2 D1 D2 k c d z){a b:Vx}(he:(a,b)∈edges (C1++(kF m num k d++kZ m z c))):
  (∃b',(a,b')∈edges ((C1++[k])++(d::D1)) /\ a∈C1++[k] /\ b'∈C1++[k] /\ b'.1=b.1)∨(ex m k.1<0 /\ a=k /\ b.1=Xp m k d)∨(a=(Xp m k d,m,num) /\ b.1=Yp m z c)∨(ex m c.1<0 /\ a=(Yp m z c,z.2) /\ b.1=c.1):=by
 obtain⟨t0,T,eT,ht0⟩:∃t0 T,kF m num k d++kZ m z c=t0::T /\ t0.1=k.1:=by
  unfold kF;split
  ·exact⟨_,_,rfl,rfl⟩
  ·exact⟨_,_,rfl,rfl⟩
 obtain⟨hd0,R,eR,hhd⟩:∃hd0 R,C1++(t0::T)=hd0::R /\ hd0.1=c.1:=by
  cases C1 with
  |nil=>
   refine⟨t0,T,rfl,?_⟩;have:k=c:=by have:=h.eC;simp at this;exact this.1
   rw[ht0,this]
  |cons w C1'=>
   refine⟨w,C1'++(t0::T),rfl,?_⟩;have:=h.eC
   rw[am] at this;rw[(cJ.inj this).1]
 rw[eT,eR,kW, <-eR] at he;have he:(a,b)∈pe (C1++t0::(T++[hd0])):=by simpa using he
 rw[pe_app] at he;rcases aR.mp he with q|q
 ·obtain⟨b',hb',eb⟩:=ve ht0 C1 a b q
  have m2:=oG _ _ _ hb'
  refine .inl ⟨b',?_,m2.1,m2.2,eb⟩;rw[h.eC,am,kW, <-am, <-h.eC,bG];exact nU hb'
 ·unfold kF kZ at eT
  by_cases q1:ex m k.1<0<;>by_cases q2:ex m c.1<0
  ·rw[if_pos q1,if_pos q2] at eT;simp only[am,aN,aK,cJ.injEq] at eT;obtain⟨rfl,rfl⟩:=eT
   simp only[am,aN,pe,av,aD,or_false,dR.injEq] at q;rcases q with⟨rfl,rfl⟩|⟨rfl,rfl⟩|⟨rfl,rfl⟩
   ·exact .inr (.inl ⟨q1,rfl,by unfold Xp;rw[if_pos q1]⟩)
   ·exact .inr (.inr (.inl ⟨by unfold Xp;rw[if_pos q1],by unfold Yp;rw[if_pos q2]⟩))
   ·exact .inr (.inr (.inr ⟨q2,by unfold Yp;rw[if_pos q2],hhd⟩))
  ·rw[if_pos q1,if_neg q2] at eT;simp only[am,aN,aK,cJ.injEq] at eT;obtain⟨rfl,rfl⟩:=eT
   simp only[am,aN,aK,pe,av,aD,or_false,dR.injEq] at q;rcases q with⟨rfl,rfl⟩|⟨rfl,rfl⟩
   ·exact .inr (.inl ⟨q1,rfl,by unfold Xp;rw[if_pos q1]⟩)
   ·exact .inr (.inr (.inl ⟨by unfold Xp;rw[if_pos q1],by unfold Yp;rw[if_neg q2];exact hhd⟩))
  ·rw[if_neg q1,if_pos q2] at eT;simp only[am,aN,aK,cJ.injEq] at eT;obtain⟨rfl,rfl⟩:=eT
   simp only[am,aN,pe,av,aD,or_false,dR.injEq] at q;rcases q with⟨rfl,rfl⟩|⟨rfl,rfl⟩
   ·exact .inr (.inr (.inl ⟨by unfold Xp;rw[if_neg q1],by unfold Yp;rw[if_pos q2]⟩))
   ·exact .inr (.inr (.inr ⟨q2,by unfold Yp;rw[if_pos q2],hhd⟩))
  ·rw[if_neg q1,if_neg q2] at eT;simp only[am,aN,aK,cJ.injEq] at eT;obtain⟨rfl,rfl⟩:=eT
   simp only[am,aN,aK,pe,av,aD,or_false,dR.injEq] at q;obtain⟨rfl,rfl⟩:=q
   exact .inr (.inr (.inl ⟨by unfold Xp;rw[if_neg q1],by unfold Yp;rw[if_neg q2];exact hhd⟩))
theorem newIn(h:Cfg m C1 C2 D1 D2 k c d z):∃b,((Xp m k d,m,num),b)∈edges (C1++(kF m num k d++kZ m z c)) /\ b.1=Yp m z c:=by
 have hX:(Xp m k d,m,num)∈kF m num k d:=by
  unfold kF Xp;split<;>simp
 have hX2:(Xp m k d,m,num)∈C1++(kF m num k d++kZ m z c):=by simp[hX]
 --each corner begins an edge
 have:∃b,((Xp m k d,m,num),b)∈edges (C1++(kF m num k d++kZ m z c)):=by
  generalize C1++(kF m num k d++kZ m z c)=N at hX2;obtain⟨i,hi⟩:=aX hX2
  have li:=(ad.mp hi).1
  have lr:i<(rot N).length:=by rw[kJ];exact li
  refine⟨(rot N)[i],?_⟩;unfold edges;rw[du];exact⟨i,by rw[bL];exact⟨hi,aa lr⟩⟩
 obtain⟨b,hb⟩:=this
 refine⟨b,hb,?_⟩;rcases h.edgesN hb with⟨b',h1,h2,h3,h4⟩|⟨q,e,h2⟩|⟨e,h2⟩|⟨q,e,h2⟩
 ·exfalso
  have hk:ex m k.1<0∨¬ex m k.1<0:=Classical.em _
  rcases hk with q|q
  ·exact h.Xne q h2 rfl
  ·have e:Xp m k d=k.1:=if_neg q
   have ek:((Xp m k d,m,num):Vx)=k:=h.inj h2 h.kC e
   rw[ek] at h1;have E:=h.hP.edge _ h1
   dsimp only at E;have eL:k.2.1=m:=by rw[<-ek]
   rcases E.back d (h.inD h.dD) with w|w|w
   ·exact h.cd h.kC h.dD w.symm
   ·exact h.cd h3 h.dD w.symm
   ·rw[eL] at w;have:=h.hD d h.dD
    omega
 ·exfalso
  have:(Xp m k d)=k.1:=congrArg Prod.fst e
  exact h.Xne q h.kC this.symm
 ·exact h2
 ·exfalso
  exact h.xy (congrArg Prod.fst e)
theorem dtXY(h:Cfg m C1 C2 D1 D2 k c d z)(p:V3):0<=dt (Xp m k d) (Yp m z c) p↔ex m p<=0:=by
 have hd:=h.hD d h.dD
 have hx:=h.xd
 have P:=mP m (Xp m k d) (Yp m z c) p d.1
 rw[h.exX,h.exY,b8,b8,bH,bH] at P;constructor
 ·intro q;have:=lN q (cX hd)
  rw[P] at this;refine Classical.byContradiction fun no=> ?_
  have:=cp hx (show 0<ex m p by omega)
  omega
 ·intro q;have:0<=dt (Xp m k d) (Yp m z c) d.1*ex m p:=dX (cX hx) q
  rw[<-P] at this;refine Classical.byContradiction fun no=> ?_
  have:=cp (show dt (Xp m k d) (Yp m z c) p<0 by omega) hd
  omega
theorem ptsN(h:Cfg m C1 C2 D1 D2 k c d z){p:V3}(hp:∀e∈edges ((C1++[k])++(d::D1)),0<=dt e.1.1 e.2.1 p):
  (∀e∈edges (C1++(kF m num k d++kZ m z c)),0<=dt e.1.1 e.2.1 p)↔ex m p<=0:=by
 have kd:(k,d)∈edges ((C1++[k])++(d::D1)):=by
  have:=kX (p:=C1) (s:=D1) (a:=k) (b:=d)
  simpa using this
 have zc:(z,c)∈edges ((C1++[k])++(d::D1)):=by
  rw[h.eC, <-h.eD];have:=kL (m:=C2++D2) (a:=z) (b:=c)
  simpa using this
 constructor
 ·intro q;obtain⟨b,hb,e⟩:=h.newIn (num:=num)
  have:=q _ hb
  dsimp only at this;rw[e] at this;exact(h.dtXY p).mp this
 ·rintro q ⟨a,b⟩ he;dsimp only;rcases h.edgesN he with⟨b',h1,h2,h3,h4⟩|⟨q1,rfl,h2⟩|⟨rfl,h2⟩|⟨q1,rfl,h2⟩
  ·rw[<-h4];exact hp _ h1
  ·rw[h2];obtain⟨s,t,hs,ht,e1,e2,e3⟩:=h.simX
   have e:dt a.1 (Xp m a d) p*s= -(ex m a.1)*dt a.1 d.1 p*t:=by
    generalize Xp m a d=w at e1 e2 e3;unfold cb at e1 e2 e3;dsimp only at e1 e2 e3;unfold dt
    grind
   have hkd:0<=dt a.1 d.1 p:=hp _ kd
   have:=lN (show 0<= -(ex m a.1) by omega) hkd
   have w:=lu hs ht e
   omega
  ·rw[h2];exact(h.dtXY p).mpr q
  ·rw[h2];dsimp only;obtain⟨s,t,hs,ht,e1,e2,e3⟩:=h.simY
   have e:dt (Yp m z c) c.1 p*s= -(ex m c.1)*dt z.1 c.1 p*t:=by
    generalize Yp m z c=w at e1 e2 e3;unfold cb at e1 e2 e3;dsimp only at e1 e2 e3;unfold dt
    grind
   have hzc:0<=dt z.1 c.1 p:=hp _ zc
   have:=lN (show 0<= -(ex m c.1) by omega) hzc
   have w:=lu hs ht e
   omega
end Cfg
theorem qW{l:List Vx}(hP:Poly l)(m:V3)(hp:∃v∈l,0<ex m v.1)(hn:∃v∈l,ex m v.1<0):
  ∃C1 C2 D1 D2 k c d z,Cfg m C1 C2 D1 D2 k c d z /\ Rot l ((C1++[k])++(d::D1)) /\ ∀num,Rot (jB m num l) (C1++(kF m num k d++kZ m z c)):=by
 obtain⟨C,D,hR,nC,nD,hC,hD⟩:=AV hP m hp (by obtain⟨v,hv,q⟩:=hn;exact⟨v,hv,by omega⟩)
 obtain⟨c,C2,eC⟩:∃c C2,C=c::C2:=by cases C with|nil=>exact absurd rfl nC|cons c C2=>exact⟨c,C2,rfl⟩
 obtain⟨d,D1,eD⟩:∃d D1,D=d::D1:=by cases D with|nil=>exact absurd rfl nD|cons c C2=>exact⟨c,C2,rfl⟩
 obtain⟨C1,k,eC'⟩:∃C1 k,C=C1++[k]:=⟨C.dropLast,C.getLast nC,(cr nC).symm⟩
 obtain⟨D2,z,eD'⟩:∃D2 z,D=D2++[z]:=⟨D.dropLast,D.getLast nD,(cr nD).symm⟩
 have cfg:Cfg m C1 C2 D1 D2 k c d z:=by
  refine⟨by rw[<-eC', <-eD];exact hR.poly hP,by rw[<-eC',eC],by rw[<-eD',eD],by rw[<-eC'];exact hC,by rw[<-eD];exact hD,?_⟩;obtain⟨v,hv,q⟩:=hn
  have:=(hR.mem v).mpr hv
  rcases aR.mp this with w|w
  ·exact⟨v,by rw[<-eC'];exact w,q⟩
  ·have:=hD v w
   omega
 refine⟨C1,C2,D1,D2,k,c,d,z,cfg,by rw[<-eC', <-eD];exact hR,fun num=> ?_⟩;have e:=oA (num:=num) cfg.eC cfg.eD cfg.hC cfg.hD
 have hRr:Rot (jB m num l) (jB m num (C++D)):=hR.edges.flat (lT m num)
 rw[eC',eD,e] at hRr;exact hRr
theorem uq{l:List Vx}(hP:Poly l)(m:V3)(num:Int)(hp:∃v∈l,0<ex m v.1)(hn:∃v∈l,ex m v.1<0){p:V3}(hin:∀e∈edges l,0<=dt e.1.1 e.2.1 p):
  (∀e∈edges (jB m num l),0<=dt e.1.1 e.2.1 p)↔ex m p<=0:=by
 obtain⟨C1,C2,D1,D2,k,c,d,z,cfg,h1,h2⟩:=qW hP m hp hn
 rw[<-cfg.ptsN (num:=num) (fun e he=>hin e ((h1.edges.mem e).mp he))];exact⟨fun q e he=>q e (((h2 num).edges.mem e).mp he),fun q e he=>q e (((h2 num).edges.mem e).mpr he)⟩
end MC
namespace MC
open MA L2
theorem yQ{L M X:V3}(h1:ex L X=0)(h2:ex M X=0)(hW:0<X.2.2)(hg:aE (aE X.1 X.2.1) X.2.2=1)(hn:L.1*M.2.1-L.2.1*M.1≠0):
  X.1.natAbs<=(L.2.2*M.2.1-L.2.1*M.2.2).natAbs /\ X.2.1.natAbs<=(L.1*M.2.2-L.2.2*M.1).natAbs /\ X.2.2.natAbs<=(L.1*M.2.1-L.2.1*M.1).natAbs:=by
 have k1:=mU (x:=L.2.2*M.2.1-L.2.1*M.2.2) (y:=L.1*M.2.2-L.2.2*M.1) hn
 have k2:IsPt X.1 X.2.1 X.2.2 X.1 X.2.1 X.2.2:=⟨hW,rfl,rfl,hg,aI _,aI _,aI _⟩
 unfold ex at h1 h2;obtain⟨e1,e2,e3⟩:=isPt_same k1 k2 hn (by omega) (by grind) (by grind)
 have a:=k1.la
 have b:=k1.lb
 have c:=k1.lc
 rw[e1] at a;rw[e2] at b;rw[e3] at c;exact⟨a,b,c⟩
theorem yM{L U v w c:V3}(h1:ex L v=0)(h2:ex L w=0)(h3:ex U v=0)(h4:ex U w≠0)(hv:0<v.2.2)(hc:ex L c≠0):U.1*L.2.1-U.2.1*L.1≠0:=by
 intro D;have e:ex U w*v.2.2=U.1*(w.1*v.2.2-v.1*w.2.2)+U.2.1*(w.2.1*v.2.2-v.2.1*w.2.2):=by unfold ex at h3⊢;grind
 have z:L.1*(w.1*v.2.2-v.1*w.2.2)+L.2.1*(w.2.1*v.2.2-v.2.1*w.2.2)=0:=by unfold ex at h1 h2;grind
 have n:ex U w*v.2.2≠0:=gw h4 (by omega)
 have q1:L.1*(ex U w*v.2.2)=0:=by rw[e];grind
 have q2:L.2.1*(ex U w*v.2.2)=0:=by rw[e];grind
 have l1:L.1=0:=(bu.mp q1).elim id fun q=>absurd q n
 have l2:L.2.1=0:=(bu.mp q2).elim id fun q=>absurd q n
 unfold ex at h1 hc;rw[l1,l2,fe,fe,bH] at h1 hc;have l3:L.2.2=0:=by
  have:L.2.2*v.2.2=0:=by omega
  exact(bu.mp this).elim id fun q=>by omega
 rw[l3,fe] at hc;omega
noncomputable def LnB(n:Nat)(l:List Vx):Prop:=∀v∈l,Bd n v.2.1.1 /\ Bd n v.2.1.2.1 /\ Bd n v.2.1.2.2
theorem v6{n:Nat}{a b c d:Int}(h1:Bd n a)(h2:Bd n b)(h3:Bd n c)(h4:Bd n d):Bd (2*n+1) (a*b-c*d):=by
 have p:=h1.mul h2
 have q:=h3.mul h4
 unfold Bd at*;rw[Nat.pow_succ,Nat.two_mul];omega
theorem og{l:List Vx}(hP:Poly l){n:Nat}(hB:LnB n l){v:Vx}(hv:v∈l):Bd (2*n+1) v.1.1 /\ Bd (2*n+1) v.1.2.1 /\ Bd (2*n+1) v.1.2.2:=by
 --the list turned so that v is the second
 obtain⟨p,s,e⟩:=gP hv
 have hR:Rot l (v::(s++p)):=⟨p,v::s,e,by simp⟩
 have hPt:=hR.poly hP
 have len:=hPt.three
 obtain⟨w,r,u,er⟩:∃w r u,s++p=w::(r++[u]):=by
  generalize s++p=t at len
  match t,len with
  |w::y::t',_=>
   refine⟨w,(y::t').dropLast,(y::t').getLast (by simp),?_⟩;rw[cr]
 rw[er] at hPt hR;have e1:(v,w)∈edges (v::(w::(r++[u]))):=by
  have:=kX (p:=[]) (s:=r++[u]) (a:=v) (b:=w)
  simpa using this
 have e2:(u,v)∈edges (v::(w::(r++[u]))):=by
  have:=kL (m:=w::r) (a:=u) (b:=v)
  simpa using this
 have E1:=hPt.edge _ e1
 have E2:=hPt.edge _ e2
 dsimp only at E1 E2;have nd:=hPt.nd
 simp only[aJ,au,bR,bE,av,aR,aD,or_false,not_or] at nd;have nwu:w.1≠u.1:=nd.2.1.2
 have nwv:w.1≠v.1:=fun q=>nd.1.1 q.symm
 have nuv:u.1≠v.1:=fun q=>nd.1.2.2 q.symm
 have B:=E2.back_of (c:=w) (by simp) nwu nwv
 have B':=E1.back_of (c:=u) (by simp) nuv (Ne.symm nwu)
 have np:=yM (L:=v.2.1) (U:=u.2.1) (v:=v.1) (w:=w.1) (c:=u.1) E1.on1 E1.on2 E2.on2 (by omega) (hP.pos v hv) (by omega)
 have mu:u∈l:=(hR.mem u).mp (by simp)
 obtain⟨a1,a2,a3⟩:=hB v hv
 obtain⟨b1,b2,b3⟩:=hB u mu
 obtain⟨q1,q2,q3⟩:=yQ (L:=u.2.1) (M:=v.2.1) E2.on2 E1.on1 (hP.pos v hv) (hP.low v hv) np
 exact⟨aU q1 (v6 b3 a2 b2 a3),aU q2 (v6 b1 a3 b3 a1),aU q3 (v6 b1 a2 b2 a1)⟩
theorem mL{m:V3}{num:Int}{l:List Vx}{v:Vx}(hv:v∈jB m num l):v.2=(m,num)∨∃u∈l,v.2=u.2:=by
 unfold jB at hv;obtain⟨e,he,hv⟩:=dN.mp hv
 have me:=(ku (l:=l) (a:=e.1) (b:=e.2) he).1
 unfold lT at hv;rcases aR.mp hv with q|q
 ·split at q
  ·obtain rfl:v=e.1:=by simpa using q
   exact .inr ⟨e.1,me,rfl⟩
  ·split at q
   ·obtain rfl:v=(e.1.1,m,num):=by simpa using q
    exact .inl rfl
   ·simp at q
 ·split at q
  ·obtain rfl:v=_:=by simpa using q
   exact .inl rfl
  ·split at q
   ·obtain rfl:v=_:=by simpa using q
    exact .inr ⟨e.1,me,rfl⟩
   ·simp at q
theorem pr{m:V3}{num:Int}{l:List Vx}{n:Nat}(hB:LnB n l)(hm:Bd n m.1 /\ Bd n m.2.1 /\ Bd n m.2.2):LnB n (jB m num l):=by
 intro v hv;rcases mL hv with e|⟨u,hu,e⟩
 ·rw[e];exact hm
 ·rw[e];exact hB u hu
theorem sf{l:List Vx}(hP:Poly l)(m:V3)(num:Int)(hp:∃v∈l,0<ex m v.1)(hn:∃v∈l,ex m v.1<0):(jB m num l).length<=l.length+1:=by
 obtain⟨C1,C2,D1,D2,k,c,d,z,cfg,h1,h2⟩:=qW hP m hp hn
 obtain⟨u,v,e1,e2⟩:=h1
 obtain⟨u',v',e3,e4⟩:=h2 num
 have l1:l.length=((C1++[k])++(d::D1)).length:=by rw[e2,e1,al,al];omega
 have l2:(jB m num l).length=(C1++(kF m num k d++kZ m z c)).length:=by rw[e4,e3,al,al];omega
 rw[l1,l2];unfold kF kZ;simp only[al,bC,bQ];split<;>split<;>simp<;>omega
end MC
namespace MC
theorem n8{x y v:Int}(hv:0<v)(h:x*v<y*v):x<y:=by
 rcases Int.lt_or_le x y with q|q
 ·exact q
 ·have:=bX q (cX hv)
  omega
theorem AJ{a w b v c u:Int}(hw:0<w)(hv:0<v)(hu:0<u)(h1:a*v<b*w)(h2:b*u<c*v):a*u<c*w:=by
 refine n8 hv ?_;have q1:=cx h1 hu
 have q2:=cx h2 hw
 have e1:a*v*u=a*u*v:=by grind
 have e2:b*w*u=b*u*w:=by grind
 have e3:c*v*w=c*w*v:=by grind
 omega
theorem Bh{a w b v c u:Int}(hw:0<w)(hv:0<v)(hu:0<u)(h1:a*v<b*w)(h2:b*u=c*v):a*u<c*w:=by
 refine n8 hv ?_;have q1:=cx h1 hu
 have e1:a*v*u=a*u*v:=by grind
 have e2:b*w*u=b*u*w:=by grind
 have e3:c*v*w=c*w*v:=by grind
 rw[h2] at e2;omega
theorem Bj{a w b v c u:Int}(hw:0<w)(hv:0<v)(hu:0<u)(h1:a*v=b*w)(h2:b*u<c*v):a*u<c*w:=by
 refine n8 hv ?_;have q2:=cx h2 hw
 have e1:a*v*u=a*u*v:=by grind
 have e2:b*w*u=b*u*w:=by grind
 have e3:c*v*w=c*w*v:=by grind
 rw[h1] at e1;omega
theorem Bk{a w b v c u:Int}(hv:0<v)(h1:a*v=b*w)(h2:b*u=c*v):a*u=c*w:=by
 have:a*u*v=c*w*v:=by grind
 exact cS (by omega) this
noncomputable def Ahd(a b:V3):Prop:=a.1*b.2.2<b.1*a.2.2∨(a.1*b.2.2=b.1*a.2.2 /\ a.2.1*b.2.2<b.2.1*a.2.2)
noncomputable instance(a b:V3):Decidable (Ahd a b):=by unfold Ahd;exact inferInstance
theorem Ahd.trans{a b c:V3}(ha:0<a.2.2)(hb:0<b.2.2)(hc:0<c.2.2)(h1:Ahd a b)(h2:Ahd b c):Ahd a c:=by
 rcases h1 with h1|⟨h1,k1⟩
 ·rcases h2 with h2|⟨h2,k2⟩
  ·exact .inl (AJ ha hb hc h1 h2)
  ·exact .inl (Bh ha hb hc h1 h2)
 ·rcases h2 with h2|⟨h2,k2⟩
  ·exact .inl (Bj ha hb hc h1 h2)
  ·exact .inr ⟨Bk hb h1 h2,AJ ha hb hc k1 k2⟩
theorem Ahd.irr(a:V3):¬Ahd a a:=by
 rintro(h|⟨_,h⟩)<;>exact Int.lt_irrefl _ h
theorem Ahd.total{a b:V3}(ha:0<a.2.2)(hb:0<b.2.2)(ga:aE (aE a.1 a.2.1) a.2.2=1)(gb:aE (aE b.1 b.2.1) b.2.2=1)(h1:¬Ahd a b)(h2:¬Ahd b a):a=b:=by
 unfold Ahd at h1 h2;have e1:a.1*b.2.2=b.1*a.2.2:=by omega
 have e2:a.2.1*b.2.2=b.2.1*a.2.2:=by omega
 have k1:MA.IsPt a.1 a.2.1 a.2.2 a.1 a.2.1 a.2.2:=⟨ha,rfl,rfl,ga,aI _,aI _,aI _⟩
 have k2:MA.IsPt b.1 b.2.1 b.2.2 b.1 b.2.1 b.2.2:=⟨hb,rfl,rfl,gb,aI _,aI _,aI _⟩
 obtain⟨q1,q2,q3⟩:=MA.isPt_same k1 k2 (by omega) (by omega) e1 e2
 obtain⟨a1,a2,a3⟩:=a
 obtain⟨b1,b2,b3⟩:=b
 dsimp only at q1 q2 q3;rw[q1,q2,q3]
end MC
namespace MC
open MA L2
noncomputable def ky(x y u v:Int):List Vx:=[((x,y,1),(0,-1,-y),-1),((u,y,1),(1,0,u),-2),((u,v,1),(0,1,v),-3),((x,v,1),(-1,0,-x),-4)]
theorem tQ{x y u v:Int}(h1:x<u)(h2:y<v):Poly (ky x y u v) where
 three:=by show 3<=4;decide
 pos:=by
  intro w hw;simp only[ky,av,aD,or_false] at hw;rcases hw with rfl|rfl|rfl|rfl<;>exact fC
 low:=by
  intro w hw;simp only[ky,av,aD,or_false] at hw;rcases hw with rfl|rfl|rfl|rfl<;>exact Int.gcd_one_right _
 nd:=by
  simp only[ky,aJ,bR,bE,av,aD,or_false,dR.injEq,not_or,gF,and_true,not_false_eq_true];omega
 edge:=by
  intro e he;have he':e∈[(((x,y,1),(0,-1,-y),-1),((u,y,1),(1,0,u),-2)),(((u,y,1),(1,0,u),-2),((u,v,1),(0,1,v),-3)),(((u,v,1),(0,1,v),-3),((x,v,1),(-1,0,-x),-4)),(((x,v,1),(-1,0,-x),-4),((x,y,1),(0,-1,-y),-1))]:=he
  have pp:0<(u-x)*(v-y):=bp (by omega) (by omega)
  simp only[av,aD,or_false] at he';rcases he' with rfl|rfl|rfl|rfl
  all_goals
   refine⟨?_,?_,?_,?_,?_⟩
   ·simp only[ne_eq,dR.injEq];omega
   ·simp only[ex];omega
   ·simp only[ex];omega
   ·intro c hc;simp only[ky,av,aD,or_false] at hc;rcases hc with rfl|rfl|rfl|rfl
    all_goals first|exact .inl rfl|exact .inr (.inl rfl)|(refine .inr (.inr ?_);simp only[dt];grind)
   ·intro c hc;simp only[ky,av,aD,or_false] at hc;rcases hc with rfl|rfl|rfl|rfl
    all_goals first|exact .inl rfl|exact .inr (.inl rfl)|(refine .inr (.inr ?_);simp only[ex];omega)
noncomputable def dot(h p:V3):Int:=h.1*p.1+h.2.1*p.2.1+h.2.2*p.2.2
noncomputable def xZ(a b:V3):V3:=(a.2.1*b.2.2-a.2.2*b.2.1,a.2.2*b.1-a.1*b.2.2,a.1*b.2.1-a.2.1*b.1)
theorem tI(a b p:V3):dt a b p=dot (xZ a b) p:=by unfold dt dot xZ;grind
theorem xV(m p:V3):ex m p=dot (m.1,m.2.1,-m.2.2) p:=by unfold ex dot;grind
noncomputable def Hull(cs:List V3)(p:V3):Prop:=∀h:V3,(∀v∈cs,0<=dot h v) ->0<=dot h p
noncomputable def ju(l:List Vx)(p:V3):Prop:=∀e∈edges l,0<=dt e.1.1 e.2.1 p
noncomputable instance(l:List Vx)(p:V3):Decidable (ju l p):=by unfold ju;exact inferInstance
theorem Hull.self{cs:List V3}{p:V3}(h:p∈cs):Hull cs p:=fun _ q=>q p h
theorem Edge.left0{l:List Vx}{a b c:Vx}(E:Edge l a b)(hc:c∈l):0<=dt a.1 b.1 c.1:=by
 rcases E.left c hc with q|q|q
 ·rw[q,oa];exact cG 0
 ·rw[q,mD];exact cG 0
 ·exact cX q
theorem Hull.inside{l:List Vx}(hP:Poly l){p:V3}(h:Hull (l.map (·.1)) p):ju l p:=by
 intro e he;rw[tI];refine h _ fun v hv=> ?_
 obtain⟨c,hc,rfl⟩:=ay.mp hv
 rw[<-tI];exact(hP.edge e he).left0 hc
theorem Hull.ex{cs:List V3}{p m:V3}(h:Hull cs p)(q:∀v∈cs,0<=ex m v):0<=ex m p:=by
 rw[xV];exact h _ fun v hv=>by rw[<-xV];exact q v hv
theorem Rot.inside{l l':List Vx}(h:Rot l l')(p:V3):ju l' p↔ju l p:=by
 unfold ju;exact⟨fun q e he=>q e ((h.edges.mem e).mpr he),fun q e he=>q e ((h.edges.mem e).mp he)⟩
theorem Hull.exn{cs:List V3}{p m:V3}(h:Hull cs p)(q:∀v∈cs,MC.ex m v<=0):MC.ex m p<=0:=by
 have e:∀p,dot (-m.1,-m.2.1,m.2.2) p= -MC.ex m p:=fun p=>by unfold dot MC.ex;grind
 have:=h (-m.1,-m.2.1,m.2.2) fun v hv=>by
  rw[e];have:=q v hv
  omega
 rw[e] at this;omega
theorem LnB.rot{n:Nat}{l l':List Vx}(h:LnB n l)(r:Rot l l'):LnB n l':=fun v hv=>h v ((r.mem v).mp hv)
theorem Rot.len{α:Type}{l m:List α}(h:Rot l m):m.length=l.length:=by
 obtain⟨u,v,rfl,rfl⟩:=h
 rw[al,al,gX]
end MC
namespace MC
open MA L2
noncomputable def kz:List V3 ->Int
 |[]=>1
 |v::r=>v.2.2*kz r
theorem qC:∀{l:List V3},(∀v∈l,0<v.2.2) ->0<kz l
 |[],_=>fC
 |v::r,h=>bp (h v (by simp)) (qC fun x hx=>h x (by simp[hx]))
theorem qD:∀{l:List V3} {v:V3},v∈l ->v.2.2∣kz l
 |x::r,v,h=>by
  rcases av.mp h with e|h
  ·rw[e];exact⟨kz r,rfl⟩
  ·obtain⟨k,hk⟩:=qD h
   exact⟨x.2.2*k,by rw[kz,hk];grind⟩
end MC
namespace MC
open MA L2
noncomputable abbrev U2:=Int×Int
noncomputable def crs(a b:U2):Int:=a.1*b.2-b.1*a.2
noncomputable def lU:List U2 ->Int
 |[]=>0
 |[_]=>0
 |a::b::r=>crs a b+lU (b::r)
noncomputable def cyc:List U2 ->Int
 |[]=>0
 |a::r=>lU (a::r++[a])
theorem nF(a:U2):crs a a=0:=by unfold crs;grind
theorem sh(a b:U2):crs b a= -crs a b:=by unfold crs;grind
theorem mf(x:U2)(r:List U2):∀l:List U2,lU (l++x::r)=lU (l++[x])+lU (x::r)
 |[]=>by simp[lU]
 |[a]=>by simp[lU]
 |a::b::l=>by
  have:=mf x r (b::l)
  simp only[am,lU] at this⊢;omega
theorem xg(a:U2)(r:List U2):cyc (r++[a])=cyc (a::r):=by
 cases r with
 |nil=>rfl
 |cons b r=>
  show lU (b::(r++[a])++[b])=crs a b+lU (b::r++[a])
  have:=mf a [b] (b::r)
  rw[show b::(r++[a])++[b]=b::r++a::[b] by simp,this];simp only[lU];omega
theorem vW:∀(u v:List U2),cyc (v++u)=cyc (u++v)
 |[],v=>by simp
 |a::u,v=>by
  have h1:=vW u (v++[a])
  have h2:=xg a (u++v)
  rw[bG,gt] at h1;rw[h1, <-bG,h2];rfl
theorem p8{α:Type}(f:α ->U2){l m:List α}(h:Rot l m):cyc (m.map f)=cyc (l.map f):=by
 obtain⟨u,v,rfl,rfl⟩:=h
 rw[au,au,vW]
noncomputable def sc(S:Int)(z:V3):U2:=(z.1*(S /z.2.2),z.2.1*(S /z.2.2))
theorem A9{S:Int}{a b c:V3}(ha:a.2.2∣S)(hb:b.2.2∣S)(hc:c.2.2∣S):
  S*(crs (sc S a) (sc S b)+crs (sc S b) (sc S c)+crs (sc S c) (sc S a))=(S /a.2.2)*((S /b.2.2)*((S /c.2.2)*dt a b c)):=by
 have e1:=fD ha
 have e2:=fD hb
 have e3:=fD hc
 unfold sc crs dt;dsimp only;generalize S /a.2.2=A at e1⊢;generalize S /b.2.2=B at e2⊢;generalize S /c.2.2=C at e3⊢
 grind
theorem sw{S:Int}(hS:0<S){a b c:V3}(ha:a.2.2∣S)(hb:b.2.2∣S)(hc:c.2.2∣S)(h:dt a b c=0):
  crs (sc S a) (sc S b)+crs (sc S b) (sc S c)+crs (sc S c) (sc S a)=0:=by
 have e:=A9 ha hb hc
 rw[h,b8,b8,b8] at e;rcases bu.mp e with q|q
 ·omega
 ·exact q
theorem xQ{α β:Type}(f:α ->β):∀l:List α,pe (l.map f)=(pe l).map fun e=>(f e.1,f e.2)
 |[]=>rfl
 |[_]=>rfl
 |x::y::r=>by
  have:=xQ f (y::r)
  simp only[aJ,pe] at this⊢;rw[this]
end MC
namespace MC
open MA L2
noncomputable def ng(m:V3):V3:=(-m.1,-m.2.1,-m.2.2)
theorem n9(m p:V3):ex (ng m) p= -ex m p:=by unfold ex ng;grind
theorem zo(x y w:Int):com (-x) (-y) (-w)= -com x y w:=by
 unfold com;have e:sgn (-w)= -sgn w:=by
  unfold sgn;split<;>split<;>(try split)<;>(try split)<;>omega
 rw[e];simp only[Int.gcd_neg,Int.neg_gcd,Int.mul_neg]
theorem oR(a b:V3)(h t:Int):jq a b (-h) (-t)=jq a b h t:=by
 unfold jq;have e:∀x y:Int,x* -t-y* -h= -(x*t-y*h):=fun x y=>by grind
 rw[e,e,e,zo,f6,f6,f6]
theorem vV{a kk:U2}{r r':List U2}(e:a::r=r'++[kk])(t:List U2):cyc (a::(r++t))=lU (a::r)+lU (kk::(t++[a])):=by
 show lU (a::(r++t)++[a])=_
 have:a::(r++t)++[a]=r'++kk::(t++[a]):=by
  rw[<-am,e];simp
 rw[this,mf, <-e]
section
variable {m:V3} {num:Int} {C1 C2 D1 D2:List Vx} {k c d z:Vx}
namespace Cfg
theorem behind(h:Cfg m C1 C2 D1 D2 k c d z)(f:V3 ->U2):cyc ((C1++(kF m num k d++kZ m z c)).map fun v=>f v.1)=lU ((C1++[k]).map fun v=>f v.1)+crs (f k.1) (f (Xp m k d))+crs (f (Xp m k d)) (f (Yp m z c))+crs (f (Yp m z c)) (f c.1):=by
 have eC:f c.1::C2.map (fun v=>f v.1)=C1.map (fun v=>f v.1)++[f k.1]:=by
  have:=congrArg (iK fun v:Vx=>f v.1) h.eC
  simpa using this.symm
 have tail:∀t:List U2,(C1++(kF m num k d++kZ m z c)).map (fun v=>f v.1)=(C1.map (fun v=>f v.1)++[f k.1])++t ->cyc ((C1++(kF m num k d++kZ m z c)).map fun v=>f v.1)=lU ((C1++[k]).map fun v=>f v.1)+lU (f k.1::(t++[f c.1])):=by
  intro t e;rw[e, <-eC,am,vV eC t,eC];simp
 unfold kF kZ Xp Yp at*
 by_cases hk:ex m k.1<0
 ·by_cases hc:ex m c.1<0
  ·simp only[if_pos hk,if_pos hc] at tail⊢;rw[tail [f (jq k.1 d.1 (ex m k.1) (ex m d.1)),f (jq z.1 c.1 (ex m z.1) (ex m c.1))] (by simp)];simp only[am,aN,lU];omega
  ·simp only[if_pos hk,if_neg hc] at tail⊢;rw[tail [f (jq k.1 d.1 (ex m k.1) (ex m d.1))] (by simp)];have:=nF (f c.1)
   simp only[am,aN,lU];omega
 ·by_cases hc:ex m c.1<0
  ·simp only[if_neg hk,if_pos hc] at tail⊢;rw[tail [f (jq z.1 c.1 (ex m z.1) (ex m c.1))] (by simp)];have:=nF (f k.1)
   simp only[am,aN,lU];omega
  ·simp only[if_neg hk,if_neg hc] at tail⊢;rw[tail [] (by simp)];have:=nF (f k.1)
   have:=nF (f c.1)
   simp only[am,aN,lU];omega
theorem tE{m':V3}:∀p:List Vx,(∀e∈pe p,0<ex m' e.1.1 /\ 0<=ex m' e.2.1) ->(pe p).flatMap (lT m' num)=[]:=by
 intro p h;rw[List.flatMap_eq_nil_iff];intro e he;obtain⟨h1,h2⟩:=h e he
 unfold lT;rw[if_neg (by omega),if_neg (by omega),if_neg (by omega),if_neg (by omega)];rfl
theorem edgesCD(h:Cfg m C1 C2 D1 D2 k c d z):edges ((C1++[k])++(d::D1))=pe (C1++[k])++((k,d)::(pe (d::D1)++[(z,c)])):=by
 rw[h.eC,am,kW];have e2:c::(C2++d::D1)++[c]=C1++k::(d::D1++[c]):=by
  rw[<-am, <-h.eC];simp
 rw[e2,pe_app, <-h.eC]
 congr 1
 show(k,d)::pe (d::(D1++[c]))=_
 congr 1
 rw[<-am, <-h.eD,bG];show pe (D2++z::[c])=_
 rw[pe_app,h.eD];rfl
theorem partA(h:Cfg m C1 C2 D1 D2 k c d z):((pe (C1++[k])).flatMap (lT (ng m) num)).map (·.1)=if ex m c.1<0 then[] else[Yp m z c]:=by
 have hc:=h.hC c h.cC
 have nd:=h.hP.nd
 rw[au,bf] at nd;have nd:=nd.1
 have src:∀e∈pe (C1++[k]),e.1∈C1:=by
  intro e he;have:∀(p:List Vx) (x:Vx) (e:Vx×Vx),e∈pe (p++[x]) ->e.1∈p:=by
   intro p
   induction p with
   |nil=>intro x e he;simp[pe] at he
   |cons a p ih=>
    intro x e he;cases p with
    |nil=>
     simp only[am,aN,pe,bO] at he;rw[he];simp
    |cons b p=>
     simp only[am,pe,av] at he;rcases he with he|he
     ·rw[he];simp
     ·exact ba _ (ih x e (by simpa using he))
  exact this C1 k e he
 have notk:∀x∈C1,x≠k:=by
  intro x hx e;rw[e] at hx;rw[au,bf] at nd;exact nd.2.2 k.1 (ay.mpr ⟨k,hx,rfl⟩) k.1 (by simp) rfl
 have tgt:∀e∈pe (C1++[k]),e.2∈C1++[k]:=fun e he=>(oG _ _ _ he).2
 have neg:∀x∈C1,x≠c ->ex m x.1<0:=by
  intro x hx nc;have hx':=h.hC x (aO _ hx)
  rcases Int.lt_or_eq_of_le hx' with q|q
  ·exact q
  ·rcases h.zero (aO _ hx) q with e|e
   ·exact absurd e nc
   ·exact absurd e (notk x hx)
 by_cases q:ex m c.1<0
 ·rw[if_pos q,tE]
  ·rfl
  ·intro e he;have h1:=src e he
   have h2:=h.hC _ (tgt e he)
   rw[n9,n9]
   by_cases ec:e.1=c
   ·rw[ec];omega
   ·have:=neg _ h1 ec
    omega
 ·rw[if_neg q];have c0:ex m c.1=0:=by omega
  have ey:Yp m z c=c.1:=if_neg q
  --the list has two or more
  obtain⟨b,C3,e3⟩:∃b C3,C2=b::C3:=by
   cases hC2:C2 with
   |nil=>
    have e:=h.eC
    rw[hC2] at e;have l1:C1=[]:=by
     have:=congrArg fB e
     simp at this;exact this
    rw[l1] at e;simp at e;have:=h.ends
    rw[e] at this;rcases this with w|w
    ·omega
    ·exact absurd rfl w
   |cons b C3=>exact⟨b,C3,rfl⟩
  have eC:=h.eC
  rw[e3] at eC;rw[eC,pe,cj,au,tE,bR,aK]
  ·have hb:=h.hC b (by rw[eC];simp)
   unfold lT;rw[n9,n9,c0];dsimp only
   by_cases w:ex m b.1=0
   ·rw[w,if_pos (by omega),if_neg (by omega),if_neg (by omega),ey];rfl
   ·rw[if_neg (by omega),if_pos (by omega),if_neg (by omega),if_neg (by omega),ey];rfl
  ·intro e he;have he':e∈pe (C1++[k]):=by
    rw[eC,pe];exact ba _ he
   have h1:=src e he'
   have h2:=h.hC _ (tgt e he')
   have h3:e.1≠c:=by
    intro ec;have mm:=(oG _ _ _ he).1
    rw[ec] at mm;rw[eC,aJ,bE] at nd;exact nd.1 (ay.mpr ⟨c,mm,rfl⟩)
   have:=neg _ h1 h3
   rw[n9,n9];omega
theorem beyond(h:Cfg m C1 C2 D1 D2 k c d z):Rot (Xp m k d::((d::D1).map (·.1)++[Yp m z c])) ((jB (ng m) num ((C1++[k])++(d::D1))).map (·.1)):=by
 have hk:=h.hC k h.kC
 have hd:=h.hD d h.dD
 have hc:=h.hC c h.cC
 have hz:=h.hD z h.zD
 have pB:(lT (ng m) num (k,d)).map (·.1)=[Xp m k d]:=by
  unfold lT Xp;rw[n9,n9];dsimp only
  by_cases q:ex m k.1<0
  ·rw[if_neg (by omega),if_neg (by omega),if_neg (by omega),if_pos (by omega),if_pos q,oR];rfl
  ·rw[if_pos (by omega),if_neg (by omega),if_neg (by omega),if_neg q];rfl
 have pC:(pe (d::D1)).flatMap (lT (ng m) num)=D2:=by
  rw[<-h.eD];refine pY _ _ _ _ fun x hx=> ?_
  rw[h.eD] at hx;have:=h.hD x hx
  rw[n9];omega
 have pD:(lT (ng m) num (z,c)).map (·.1)=z.1::(if ex m c.1<0 then[Yp m z c] else[]):=by
  unfold lT Yp;rw[n9,n9];dsimp only
  by_cases q:ex m c.1<0
  ·rw[if_pos (by omega),if_pos (by omega),if_pos q,if_pos q,oR];rfl
  ·rw[if_pos (by omega),if_neg (by omega),if_neg (by omega),if_neg q];rfl
 have eD:D2.map (·.1)++[z.1]=(d::D1).map (·.1):=by
  rw[<-h.eD];simp
 unfold jB;rw[h.edgesCD,cH,cj,cH,au,au,au,h.partA,pB,pC,cj,fh,aK,pD, <-eD]
 by_cases q:ex m c.1<0
 ·rw[if_pos q,if_pos q];have:([]:List V3)++([Xp m k d]++(D2.map (·.1)++z.1::[Yp m z c]))=Xp m k d::(D2.map (·.1)++[z.1]++[Yp m z c]):=by simp
  rw[this];exact .refl _
 ·rw[if_neg q,if_neg q];exact⟨Xp m k d::(D2.map (·.1)++[z.1]),[Yp m z c],by simp,by simp⟩
end Cfg
end
end MC
namespace MC
open MA L2
section
variable {m:V3} {num:Int} {C1 C2 D1 D2:List Vx} {k c d z:Vx}
namespace Cfg
theorem colX(h:Cfg m C1 C2 D1 D2 k c d z):dt k.1 (Xp m k d) d.1=0:=by
 rw[oO];obtain⟨s,t,hs,ht,e⟩:=h.simX.dt d.1 k.1
 rw[zm,mD,oa] at e;have:dt d.1 k.1 (Xp m k d)*s=0:=by rw[e];simp
 rcases bu.mp this with q|q
 ·exact q
 ·omega
theorem colY(h:Cfg m C1 C2 D1 D2 k c d z):dt z.1 (Yp m z c) c.1=0:=by
 rw[oO];obtain⟨s,t,hs,ht,e⟩:=h.simY.dt c.1 z.1
 rw[zm,mD,oa] at e;have:dt c.1 z.1 (Yp m z c)*s=0:=by rw[e];simp
 rcases bu.mp this with q|q
 ·exact q
 ·omega
theorem sums(h:Cfg m C1 C2 D1 D2 k c d z){S:Int}(hS:0<S)(hd:∀v∈(C1++[k])++(d::D1),v.1.2.2∣S)(hX:(Xp m k d).2.2∣S)(hY:(Yp m z c).2.2∣S)(num':Int):
  cyc ((C1++(kF m num k d++kZ m z c)).map fun v=>sc S v.1)+cyc ((jB (ng m) num' ((C1++[k])++(d::D1))).map fun v=>sc S v.1)=cyc (((C1++[k])++(d::D1)).map fun v=>sc S v.1):=by
 rw[h.behind (sc S)];have eB:cyc ((jB (ng m) num' ((C1++[k])++(d::D1))).map fun v=>sc S v.1)=cyc ((Xp m k d::((d::D1).map (·.1)++[Yp m z c])).map (sc S)):=by
  rw[<-p8 (sc S) (h.beyond (num:=num')),gZ];rfl
 have eD:((d::D1).map (·.1)).map (sc S)=(D2.map fun v=>sc S v.1)++[sc S z.1]:=by
  rw[<-h.eD];simp
 have eB2:cyc ((Xp m k d::((d::D1).map (·.1)++[Yp m z c])).map (sc S))=crs (sc S (Xp m k d)) (sc S d.1)+lU ((d::D1).map fun v=>sc S v.1)+crs (sc S z.1) (sc S (Yp m z c))+crs (sc S (Yp m z c)) (sc S (Xp m k d)):=by
  rw[aJ,au,eD];show lU (sc S (Xp m k d)::((D2.map fun v=>sc S v.1)++[sc S z.1]++[sc S (Yp m z c)])++[sc S (Xp m k d)])=_
  have e1:sc S (Xp m k d)::((D2.map fun v=>sc S v.1)++[sc S z.1]++[sc S (Yp m z c)])++[sc S (Xp m k d)]=(sc S (Xp m k d)::(D2.map fun v=>sc S v.1))++sc S z.1::[sc S (Yp m z c),sc S (Xp m k d)]:=by simp
  rw[e1,mf];have e2:(sc S (Xp m k d)::(D2.map fun v=>sc S v.1))++[sc S z.1]=sc S (Xp m k d)::((d::D1).map fun v=>sc S v.1):=by
   rw[<-h.eD];simp
  rw[e2];simp only[aJ,lU];omega
 have eL:cyc (((C1++[k])++(d::D1)).map fun v=>sc S v.1)=lU ((C1++[k]).map fun v=>sc S v.1)+crs (sc S k.1) (sc S d.1)+lU ((d::D1).map fun v=>sc S v.1)+crs (sc S z.1) (sc S c.1):=by
  have eC:sc S c.1::C2.map (fun v=>sc S v.1)=C1.map (fun v=>sc S v.1)++[sc S k.1]:=by
   have:=congrArg (iK fun v:Vx=>sc S v.1) h.eC
   simpa using this.symm
  have e0:((C1++[k])++(d::D1)).map (fun v=>sc S v.1)=sc S c.1::(C2.map (fun v=>sc S v.1)++(d::D1).map fun v=>sc S v.1):=by
   rw[au, <-am,eC];simp
  rw[e0,vV eC,eC];have e1:(C1++[k]).map (fun v=>sc S v.1)=C1.map (fun v=>sc S v.1)++[sc S k.1]:=by simp
  rw[e1];have e2:sc S k.1::((d::D1).map (fun v=>sc S v.1)++[sc S c.1])=(sc S k.1::D2.map (fun v=>sc S v.1))++sc S z.1::[sc S c.1]:=by
   rw[<-h.eD];simp
  have e4:=mf (sc S z.1) [sc S c.1] (sc S k.1::D2.map (fun v=>sc S v.1))
  rw[e2,e4];have e3:(sc S k.1::D2.map (fun v=>sc S v.1))++[sc S z.1]=sc S k.1::((d::D1).map fun v=>sc S v.1):=by
   rw[<-h.eD];simp
  rw[e3];simp only[aJ,lU];omega
 rw[eB,eB2,eL];have t1:=sw hS (hd k (h.inC h.kC)) hX (hd d (h.inD h.dD)) h.colX
 have t2:=sw hS (hd z (h.inD h.zD)) hY (hd c (h.inC h.cC)) h.colY
 have n1:=sh (sc S k.1) (sc S d.1)
 have n2:=sh (sc S z.1) (sc S c.1)
 have n3:=sh (sc S (Xp m k d)) (sc S (Yp m z c))
 omega
theorem inX(h:Cfg m C1 C2 D1 D2 k c d z):∃v∈C1++(kF m num k d++kZ m z c),v.1=Xp m k d:=by
 unfold kF Xp;split
 ·exact⟨(jq k.1 d.1 (ex m k.1) (ex m d.1),m,num),by simp,rfl⟩
 ·exact⟨(k.1,m,num),by simp,rfl⟩
theorem inY(h:Cfg m C1 C2 D1 D2 k c d z):(∃v∈C1++(kF m num k d++kZ m z c),v.1=Yp m z c)∨Yp m z c=c.1:=by
 unfold kZ Yp;split
 ·exact .inl ⟨(jq z.1 c.1 (ex m z.1) (ex m c.1),z.2),by simp,rfl⟩
 ·exact .inr rfl
end Cfg
end
theorem vY{l:List Vx}(hP:Poly l)(m:V3)(n1 n2:Int)(hp:∃v∈l,0<ex m v.1)(hn:∃v∈l,ex m v.1<0){S:Int}(hS:0<S)(h0:∀v∈l,v.1.2.2∣S)(h1:∀v∈jB m n1 l,v.1.2.2∣S):
  cyc ((jB m n1 l).map fun v=>sc S v.1)+cyc ((jB (ng m) n2 l).map fun v=>sc S v.1)=cyc (l.map fun v=>sc S v.1):=by
 obtain⟨C1,C2,D1,D2,k,c,d,z,cfg,r1,r2⟩:=qW hP m hp hn
 have r3:Rot (jB (ng m) n2 l) (jB (ng m) n2 ((C1++[k])++(d::D1))):=r1.edges.flat (lT (ng m) n2)
 have hX:(Xp m k d).2.2∣S:=by
  obtain⟨v,hv,e⟩:=cfg.inX (num:=n1)
  rw[<-e];exact h1 v (((r2 n1).mem v).mp hv)
 have hY:(Yp m z c).2.2∣S:=by
  rcases cfg.inY (num:=n1) with⟨v,hv,e⟩|e
  ·rw[<-e];exact h1 v (((r2 n1).mem v).mp hv)
  ·rw[e];exact h0 c ((r1.mem c).mp (cfg.inC cfg.cC))
 rw[<-p8 (fun v:Vx=>sc S v.1) (r2 n1), <-p8 (fun v:Vx=>sc S v.1) r3, <-p8 (fun v:Vx=>sc S v.1) r1];exact cfg.sums hS (fun v hv=>h0 v ((r1.mem v).mp hv)) hX hY n2
theorem Sim.dot{q v:V3}(h:Sim q v)(g:V3):∃s t:Int,0<s /\ 0<t /\ dot g q*s=dot g v*t:=by
 obtain⟨s,t,hs,ht,e1,e2,e3⟩:=h
 refine⟨s,t,hs,ht,?_⟩;unfold MC.dot
 grind
theorem AO(g:V3)(s:Int)(c:V3)(t:Int)(d:V3):dot g (cb s c t d)=s*dot g c+t*dot g d:=by unfold dot cb;grind
theorem xj{l:List Vx}(hP:Poly l)(m:V3)(num:Int)(hp:∃v∈l,0<ex m v.1)(hn:∃v∈l,ex m v.1<0){v:Vx}(hv:v∈jB m num l):Hull (l.map (·.1)) v.1:=by
 obtain⟨C1,C2,D1,D2,k,c,d,z,cfg,h1,h2⟩:=qW hP m hp hn
 have hv':=((h2 num).mem v).mpr hv
 have ml:∀{x:Vx},x∈(C1++[k])++(d::D1) ->x.1∈l.map (·.1):=fun hx=>ay.mpr ⟨_,(h1.mem _).mp hx,rfl⟩
 have hk:=cfg.hC k cfg.kC
 have hd:=cfg.hD d cfg.dD
 have hc:=cfg.hC c cfg.cC
 have hz:=cfg.hD z cfg.zD
 have two:∀{q x y:V3} {s t:Int},0<=s ->0<=t ->x∈l.map (·.1) ->y∈l.map (·.1) ->Sim q (cb s x t y) ->Hull (l.map (·.1)) q:=by
  intro q x y s t hs ht hx hy hq g hg;obtain⟨s',t',hs',ht',e⟩:=hq.dot g
  have w:=lu hs' ht' e
  rw[AO] at w;have q1:=lN hs (hg x hx)
  have q2:=lN ht (hg y hy)
  omega
 rcases cfg.pts hv' with⟨x,hx,e⟩|e|e
 ·rw[e];exact .self (ml (cfg.inC hx))
 ·rw[e];exact two (by omega) (by omega) (ml (cfg.inC cfg.kC)) (ml (cfg.inD cfg.dD)) cfg.simX
 ·rw[e];exact two (by omega) (by omega) (ml (cfg.inC cfg.cC)) (ml (cfg.inD cfg.zD)) cfg.simY
end MC
namespace MC
open MA L2
noncomputable def m9(p:Int×Int)(z:V3×V3):Int×Int:=(p.1*(z.1.2.2*z.2.2.2)+(z.1.1*z.2.2.1-z.2.1*z.1.2.1)*p.2,p.2*(z.1.2.2*z.2.2.2))
noncomputable def zu(l:List (V3×V3)):Int×Int:=l.foldl m9 (0,1)
noncomputable def prs:List (U2×U2) ->Int
 |[]=>0
 |z::r=>crs z.1 z.2+prs r
theorem wA:∀(r:List U2) (a b:U2),prs ((a::r).zip (r++[b]))=lU (a::r++[b]):=by
 intro r
 induction r with
 |nil=>intro a b;simp[prs,lU]
 |cons c r ih=>
  intro a b;have:=ih c b
  simp only[am,gO,prs,lU] at this⊢;rw[this]
theorem yB(l:List U2):prs (l.zip (rot l))=cyc l:=by
 cases l with
 |nil=>rfl
 |cons a r=>exact wA r a a
theorem AW(w:Int)(u:V3 ->U2):∀L:List (V3×V3),(∀z∈L,(0<z.1.2.2 /\ z.1.1*w=(u z.1).1*z.1.2.2 /\ z.1.2.1*w=(u z.1).2*z.1.2.2) /\ (0<z.2.2.2 /\ z.2.1*w=(u z.2).1*z.2.2.2 /\ z.2.2.1*w=(u z.2).2*z.2.2.2)) ->
  ∀p:Int×Int,∀S:Int,p.2≠0 ->p.1*(w*w)=p.2*S ->(L.foldl m9 p).2≠0 /\ (L.foldl m9 p).1*(w*w)=(L.foldl m9 p).2*(S+prs (L.map fun z=>(u z.1,u z.2))):=by
 intro L
 induction L with
 |nil=>
  intro _ p S h0 h;exact⟨h0,by simpa[prs] using h⟩
 |cons z L ih=>
  intro hz p S h0 h;obtain⟨⟨k1,k2,k3⟩,⟨k4,k5,k6⟩⟩:=hz z (by simp)
  have:=ih (fun z hz'=>hz z (by simp[hz'])) (m9 p z) (S+crs (u z.1) (u z.2)) ?_ ?_
  ·simp only[iq,aJ,prs];rw[<-Int.add_assoc];exact this
  ·unfold m9;have:z.1.2.2*z.2.2.2≠0:=gw (by omega) (by omega)
   exact gw h0 this
  ·unfold m9 crs;dsimp only
   grind
theorem yu{S:Int}{z:V3}(h:z.2.2∣S)(hz:0<z.2.2):0<z.2.2 /\ z.1*S=(sc S z).1*z.2.2 /\ z.2.1*S=(sc S z).2*z.2.2:=by
 obtain⟨k,rfl⟩:=h
 have e:z.2.2*k /z.2.2=k:=cf k (by omega)
 refine⟨hz,?_,?_⟩
 all_goals
  unfold sc;dsimp only;rw[e]
  grind
end MC
namespace MC
open MA L2
theorem nR(h a b c d:V3):dt a b c*dot h d=dt d b c*dot h a+dt a d c*dot h b+dt a b d*dot h c:=by unfold dt dot;grind
theorem tF{h a p:V3}(ha:0<=dot h a):∀(s:List V3) (x:V3),0<=dt a x p ->(∀z∈(x::s).getLast?,dt a z p<=0) ->s≠[] ->(∀e∈pe (x::s),0<=dt e.1 e.2 p /\ 0<dt a e.1 e.2) ->(∀v∈x::s,0<=dot h v) ->0<=dot h p
 |[],x,_,_,hn,_,_=>absurd rfl hn
 |y::s,x,h1,h2,_,h3,h4=>by
  have e:=h3 (x,y) (by simp[pe])
  dsimp only at e
  by_cases q:dt a y p<=0
  ·have pl:=nR h a x y p
   have r1:dt p x y=dt x y p:=(oO p x y).symm
   have r2:dt a p y= -dt a y p:=by unfold dt;grind
   rw[r1,r2] at pl;have m1:=lN e.1 ha
   have m2:=lN (a:= -dt a y p) (by omega) (h4 x (by simp))
   have m3:=lN h1 (h4 y (by simp))
   refine Classical.byContradiction fun z=> ?_
   have:=bV e.2 (show dot h p<0 by omega)
   omega
  ·refine tF ha s y (by omega) (fun z hz=>h2 z (by rw[List.getLast?_cons_cons];exact hz)) ?_ (fun e he=>h3 e (by simp only[pe,av];exact .inr he)) (fun v hv=>h4 v (ba _ hv));intro z;subst z;exact q (h2 y (by simp))
theorem pU{l:List Vx}(hP:Poly l){p:V3}(hin:ju l p):Hull (l.map (·.1)) p:=by
 intro h hh;have h3:=hP.three
 match l,h3,hP,hin,hh with
 |a::b::c::r,_,hP,hin,hh=>
  have nd:=hP.nd
  rw[aJ,bE] at nd;have ee:edges (a::b::c::r)=pe (a::(b::c::r)++[a]):=kW a (b::c::r)
  refine tF (a:=a.1) (hh _ (by simp)) ((c::r).map (·.1)) b.1 ?_ ?_ (by simp) ?_ fun v hv=>hh v (by rw[aJ];exact ba _ hv)
  ·exact hin (a,b) (kX (p:=[]))
  ·intro z hz;rw[<-aJ (f:=fun v:Vx=>v.1),List.getLast?_map] at hz;obtain⟨z',hz',e⟩:=dh.mp hz
   subst e;obtain⟨m,hm⟩:∃m,b::c::r=m++[z']:=List.getLast?_eq_some_iff.mp hz'
   have el:(z',a)∈edges (a::b::c::r):=by
    rw[hm];exact kL
   have:=hin _ el
   dsimp only at this;rw[vP] at this;omega
  ·intro e he;rw[<-aJ (f:=fun v:Vx=>v.1),xQ] at he;obtain⟨e',he',rfl⟩:=ay.mp he
   have hl:e'∈edges (a::b::c::r):=by
    rw[ee];have:(e'.1,e'.2)∈pe (b::c::r++[a]):=nU he'
    simp only[am,pe,av] at this⊢;exact .inr this
   have E:=hP.edge e' hl
   obtain⟨m1,m2⟩:=oG _ _ _ he'
   have n1:a.1≠e'.1.1:=fun z=>nd.1 (ay.mpr ⟨e'.1,m1,z.symm⟩)
   have n2:a.1≠e'.2.1:=fun z=>nd.1 (ay.mpr ⟨e'.2,m2,z.symm⟩)
   refine⟨hin e' hl,?_⟩;have:=E.left_of (c:=a) (by simp) n1 n2
   rw[oO] at this;exact this
theorem Hull.trans{cs ds:List V3}{p:V3}(h1:Hull ds p)(h2:∀d∈ds,Hull cs d):Hull cs p:=fun g hg=>h1 g fun d hd=>h2 d hd g hg
theorem p9{l l':List Vx}{m:V3}{num:Int}(hP:Poly l)(hp:∃v∈l,0<ex m v.1)(hn:∃v∈l,ex m v.1<0)(r:Rot (jB m num l) l')(p:V3):ju l' p↔ju l p /\ ex m p<=0:=by
 have P':=r.poly (lM hP m num hp hn)
 have key:ju l p ->(ju l' p↔ex m p<=0):=fun q=>(r.inside p).trans (uq hP m num hp hn q)
 constructor
 ·intro q;have i1:ju l p:=Hull.inside hP (Hull.trans (pU P' q) fun d hd=>by
   obtain⟨v,hv,rfl⟩:=ay.mp hd
   exact xj hP m num hp hn ((r.mem v).mp hv))
  exact⟨i1,(key i1).mp q⟩
 ·rintro⟨i1,q⟩;exact(key i1).mpr q
theorem lI{l:List Vx}{m:V3}(hP:Poly l)(h:∀v∈l,ex m v.1<=0)(p:V3):ju l p↔ju l p /\ ex m p<=0:=
 ⟨fun q=>⟨q,(pU hP q).exn fun v hv=>by
  obtain⟨u,hu,rfl⟩:=ay.mp hv
  exact h u hu⟩,fun q=>q.1⟩
theorem nN{l:List Vx}{m p:V3}(hP:Poly l)(hin:ju l p)(h:ex m p<0):∃v∈l,ex m v.1<0:=by
 refine Classical.byContradiction fun z=> ?_
 have:=(pU hP hin).ex (m:=m) fun v hv=>by
  obtain⟨u,hu,rfl⟩:=ay.mp hv
  exact Int.not_lt.mp fun q=>z ⟨u,hu,q⟩
 omega
theorem kN{x y u v:Int}(h1:x<u)(h2:y<v)(p:V3):ju (ky x y u v) p↔(x*p.2.2<=p.1 /\ p.1<=u*p.2.2) /\ (y*p.2.2<=p.2.1 /\ p.2.1<=v*p.2.2):=by
 have e1:dt (x,y,1) (u,y,1) p=(u-x)*(p.2.1-y*p.2.2):=by unfold dt;grind
 have e2:dt (u,y,1) (u,v,1) p=(v-y)*(u*p.2.2-p.1):=by unfold dt;grind
 have e3:dt (u,v,1) (x,v,1) p=(u-x)*(v*p.2.2-p.2.1):=by unfold dt;grind
 have e4:dt (x,v,1) (x,y,1) p=(v-y)*(p.1-x*p.2.2):=by unfold dt;grind
 have nn:∀{a b:Int},0<a ->(0<=a*b↔0<=b):=fun {a b} ha=>⟨fun q=>Classical.byContradiction fun z=>by
  have:=bV ha (show b<0 by omega)
  omega,fun q=>dg (by omega) q⟩
 have key:ju (ky x y u v) p↔0<=dt (x,y,1) (u,y,1) p /\ 0<=dt (u,y,1) (u,v,1) p /\ 0<=dt (u,v,1) (x,v,1) p /\ 0<=dt (x,v,1) (x,y,1) p:=by
  unfold ju ky edges rot;simp
 rw[key,e1,e2,e3,e4,nn (by omega),nn (by omega),nn (by omega),nn (by omega)];omega
noncomputable def sq2(z:V3)(r:U2):Int:=(z.1-r.1*z.2.2)^2+(z.2.1-r.2*z.2.2)^2
noncomputable def lnB(r s:U2):V3:=
 let a:=2*(s.1-r.1);let b:=2*(s.2-r.2);let c:=s.1*s.1+s.2*s.2-r.1*r.1-r.2*r.2
 (a /(aE (aE a b) c:Int),b /(aE (aE a b) c:Int),c /(aE (aE a b) c:Int))
theorem pT{a b c x y z:Int}(h:IsLn a b c x y z):x=a /(aE (aE a b) c:Int) /\ y=b /(aE (aE a b) c:Int) /\ z=c /(aE (aE a b) c:Int):=by
 obtain⟨g,hg,e1,e2,e3,e4⟩:=h.ex
 rw[<-e4];refine⟨?_,?_,?_⟩
 ·rw[e1,cf _ (by omega)]
 ·rw[e2,cf _ (by omega)]
 ·rw[e3,cf _ (by omega)]
theorem AB{r s:U2}(h:r≠s):∃g:Int,0<g /\ ∀p:V3,g*ex (lnB r s) p*p.2.2=sq2 p r-sq2 p s:=by
 have hab:¬(2*(s.1-r.1)=0 /\ 2*(s.2-r.2)=0):=fun q=>h (cU (by omega) (by omega))
 have L:=(pS (c:=s.1*s.1+s.2*s.2-r.1*r.1-r.2*r.2) hab).1
 have E:=pT L
 obtain⟨g,hg,e1,e2,e3,e4⟩:=L.ex
 rw[E.1] at e1;rw[E.2.1] at e2;rw[E.2.2] at e3;refine⟨g,hg,fun p=> ?_⟩;have e:g*ex (lnB r s) p=2*(s.1-r.1)*p.1+2*(s.2-r.2)*p.2.1-(s.1*s.1+s.2*s.2-r.1*r.1-r.2*r.2)*p.2.2:=by
  unfold ex lnB;dsimp only;generalize(2*(s.1-r.1)) /_=A at e1⊢;generalize(2*(s.2-r.2)) /_=B at e2⊢;generalize(s.1*s.1+s.2*s.2-r.1*r.1-r.2*r.2) /_=D at e3⊢;rw[e1,e2,e3]
  grind
 rw[e];unfold sq2
 grind
theorem kG{r s:U2}(h:r≠s){p:V3}(hp:0<p.2.2):(ex (lnB r s) p<=0↔sq2 p r<=sq2 p s) /\ (ex (lnB r s) p<0↔sq2 p r<sq2 p s) /\ (ex (lnB r s) p=0↔sq2 p r=sq2 p s):=by
 obtain⟨g,hg,e⟩:=AB h
 have e:=e p
 have q:=lu (x:=ex (lnB r s) p) (y:=sq2 p r-sq2 p s) (s:=g*p.2.2) (t:=1) (bp hg hp) (by decide) (by rw[dl, <-e];grind)
 omega
theorem rR{n:Nat}{a b c d:Int}(h1:Bd n a)(h2:Bd n b)(h3:Bd n c)(h4:Bd n d):Bd (2*n+4) (2*(c-a)) /\ Bd (2*n+4) (c*c+d*d-a*a-b*b):=by
 have p1:(2:Nat)^(2*n+4)=2^(2*n)*16:=by rw[Nat.pow_add]
 have p2:(2:Nat)^n<=2^(2*n):=dI (by decide) (by omega)
 have sqb:∀{i:Int},Bd n i ->(i*i).natAbs<2^(2*n):=fun {i} hi=>by
  have:=hi.mul hi
  unfold Bd at this;rw[show 2*n=n+n by omega];exact this
 have q1:=sqb h1
 have q2:=sqb h2
 have q3:=sqb h3
 have q4:=sqb h4
 unfold Bd at h1 h2 h3 h4⊢;generalize(2:Nat)^(2*n+4)=T at p1⊢;generalize(2:Nat)^(2*n)=T1 at p1 p2 q1 q2 q3 q4;generalize(2:Nat)^n=T2 at p2 h1 h2 h3 h4;generalize a*a=A at*;generalize b*b=B at*;generalize c*c=C at*;generalize d*d=D at*;constructor
 ·omega
 ·omega
theorem sP{r s:U2}{n:Nat}(h1:Bd n r.1)(h2:Bd n r.2)(h3:Bd n s.1)(h4:Bd n s.2)(h:r≠s):Bd (2*n+4) (lnB r s).1 /\ Bd (2*n+4) (lnB r s).2.1 /\ Bd (2*n+4) (lnB r s).2.2:=by
 have hab:¬(2*(s.1-r.1)=0 /\ 2*(s.2-r.2)=0):=fun q=>h (cU (by omega) (by omega))
 have L:=(pS (c:=s.1*s.1+s.2*s.2-r.1*r.1-r.2*r.2) hab).1
 have E:=pT L
 have la:=L.la
 have lb:=L.lb
 have lc:=L.lc
 rw[E.1] at la;rw[E.2.1] at lb;rw[E.2.2] at lc;have b1:=(rR h1 h2 h3 h4).1
 have b2:=(rR h2 h1 h4 h3).1
 have b3:=(rR h1 h2 h3 h4).2
 exact⟨aU la b1,aU lb b2,aU lc b3⟩
end MC
namespace MC
open MA L2
theorem kS(a:Int):0<=a*a:=by
 rcases g9 0 a with h|h
 ·exact dg h h
 ·exact dX h h
noncomputable def nms(l:List Vx):List Int:=l.map fun v=>v.2.2
theorem Rot.nodup{α β:Type}(f:α ->β){l m:List α}(h:Rot l m)(hn:(l.map f).Nodup):(m.map f).Nodup:=by
 obtain⟨u,v,rfl,rfl⟩:=h
 rw[au,bf] at hn⊢;exact⟨hn.2.1,hn.1,fun a ha b hb e=>hn.2.2 b hb a ha e.symm⟩
theorem tZ{l:List Vx}(hP:Poly l)(m:V3)(num:Int)(hp:∃v∈l,0<ex m v.1)(hn:∃v∈l,ex m v.1<0)(nd:(nms l).Nodup)(nn:num∉nms l):(nms (jB m num l)).Nodup:=by
 obtain⟨C1,C2,D1,D2,k,c,d,z,cfg,h1,h2⟩:=qW hP m hp hn
 refine(h2 num).symm.nodup (fun v:Vx=>v.2.2) ?_;have N:=h1.nodup (fun v:Vx=>v.2.2) nd
 have nn':∀v∈(C1++[k])++(d::D1),v.2.2≠num:=fun v hv e=>nn (ay.mpr ⟨v,(h1.mem v).mp hv,e⟩)
 rw[au,bf] at N;obtain⟨N1,N2,N3⟩:=N
 have zD:=cfg.zD
 have zz:∀v∈C1++[k],v.2.2≠z.2.2:=fun v hv=>N3 _ (ay.mpr ⟨v,hv,rfl⟩) _ (ay.mpr ⟨z,zD,rfl⟩)
 have nz:=nn' z (cfg.inD zD)
 have hk:k.2.2∉C1.map (fun v=>v.2.2) /\ (C1.map fun v=>v.2.2).Nodup:=by
  rw[au,bf] at N1;refine⟨fun q=>N1.2.2 _ q k.2.2 (by simp) rfl,N1.1⟩
 have nC:∀v∈C1,v.2.2≠num:=fun v hv=>nn' v (cfg.inC (by simp[hv]))
 have nk:=nn' k (cfg.inC cfg.kC)
 have zC:∀v∈C1,v.2.2≠z.2.2:=fun v hv=>zz v (by simp[hv])
 have zk:=zz k cfg.kC
 have nC':num∉C1.map (fun v=>v.2.2):=fun q=>by
  obtain⟨v,hv,e⟩:=ay.mp q
  exact nC v hv e
 have zC':z.2.2∉C1.map (fun v=>v.2.2):=fun q=>by
  obtain⟨v,hv,e⟩:=ay.mp q
  exact zC v hv e
 have app:∀(A B:List Int),A.Nodup ->B.Nodup ->(∀b∈B,b∉A) ->(A++B).Nodup:=fun A B a b c=>bf.mpr ⟨a,b,fun x hx y hy e=>c y hy (e▸hx)⟩
 rw[au];refine app _ _ hk.2 ?_ ?_
 ·unfold kF kZ;split<;>split<;>simp<;>(try omega)
 ·intro b hb;unfold kF kZ at hb;rw[au,aR] at hb;rcases hb with hb|hb
  ·split at hb
   ·simp only[aJ,bR,av,aD,or_false] at hb;rcases hb with rfl|rfl
    ·exact hk.1
    ·exact nC'
   ·simp only[aJ,bR,av,aD,or_false] at hb;rw[hb];exact nC'
  ·split at hb
   ·simp only[aJ,bR,av,aD,or_false] at hb;rw[hb];exact zC'
   ·simp at hb
structure LandOk(x y u v:Int)(rs:List U2)(r:U2)(js:List Nat)(l:List Vx):Prop where
 poly:Poly l
 lnb:LnB 300 l
 len:l.length<=4+js.length
 pts:∀p,ju l p↔ju (ky x y u v) p /\ ∀j∈js,∀s,rs[j]? =some s ->ex (lnB r s) p<=0
 lead:∀w∈l,∀h∈l.head?,¬Ahd w.1 h.1
 nm:∀w∈l,(∃b∈ky x y u v,w.2=b.2)∨∃j∈js,∃s,rs[j]? =some s /\ w.2=(lnB r s,(j:Int))
 nd:(nms l).Nodup
theorem sT{x y u v:Int}(rs:List U2)(r:U2)(h1:x<u)(h2:y<v)(b:Bd 300 x /\ Bd 300 y /\ Bd 300 u /\ Bd 300 v):LandOk x y u v rs r [] (ky x y u v) where
 poly:=tQ h1 h2
 lnb:=by
  intro w hw;simp only[ky,av,aD,or_false] at hw;have l0:Bd 300 0:=Bd.mono (m:=10) (Bd.of_le 0 (by decide) (by decide) (by decide)) (by decide)
  have l1:Bd 300 1:=Bd.mono (m:=10) (Bd.of_le 1 (by decide) (by decide) (by decide)) (by decide)
  have l2:Bd 300 (-1):=Bd.mono (m:=10) (Bd.of_le 1 (by decide) (by decide) (by decide)) (by decide)
  obtain⟨b1,b2,b3,b4⟩:=b
  rcases hw with rfl|rfl|rfl|rfl
  ·exact⟨l0,l2,b2.neg⟩
  ·exact⟨l1,l0,b3⟩
  ·exact⟨l0,l1,b4⟩
  ·exact⟨l2,l0,b1.neg⟩
 len:=aI 4
 pts:=fun p=>⟨fun q=>⟨q,fun j hj=>absurd hj aD⟩,fun q=>q.1⟩
 lead:=by
  intro w hw h hh;simp only[ky,List.head?_cons,Option.mem_def,bA.injEq] at hh;subst hh;simp only[ky,av,aD,or_false] at hw;unfold Ahd;rcases hw with rfl|rfl|rfl|rfl<;>dsimp only<;>omega
 nm:=fun w hw=> .inl ⟨w,hw,rfl⟩
 nd:=by
  show([-1,-2,-3,-4]:List Int).Nodup
  decide
theorem vB{x y u v:Int}{rs:List U2}{r s:U2}{js:List Nat}{l:List Vx}(h:LandOk x y u v rs r js l){j:Nat}(hj:rs[j]? =some s)(q:∀w∈l,ex (lnB r s) w.1<=0):LandOk x y u v rs r (js++[j]) l where
 poly:=h.poly
 lnb:=h.lnb
 len:=by
  have:=h.len
  rw[al];omega
 pts:=fun p=>by
  constructor
  ·intro i;have i2:=(lI h.poly q p).mp i
   refine⟨((h.pts p).mp i).1,fun j' hj' s' hs'=> ?_⟩;rcases aR.mp hj' with z|z
   ·exact((h.pts p).mp i).2 j' z s' hs'
   ·rw[bO] at z;subst z;rw[hj] at hs';cases hs';exact i2.2
  ·rintro⟨a,b⟩;exact(h.pts p).mpr ⟨a,fun j' hj'=>b j' (aO _ hj')⟩
 lead:=h.lead
 nm:=fun w hw=>by
  rcases h.nm w hw with z|⟨j',hj',z⟩
  ·exact .inl z
  ·exact .inr ⟨j',aO _ hj',z⟩
 nd:=h.nd
theorem wO{x y u v:Int}{rs:List U2}{r s:U2}{js:List Nat}{l l':List Vx}(h:LandOk x y u v rs r js l){j:Nat}(hj:rs[j]? =some s)(hn:j∉js)(bm:Bd 300 (lnB r s).1 /\ Bd 300 (lnB r s).2.1 /\ Bd 300 (lnB r s).2.2)
  (q1:∃w∈l,0<ex (lnB r s) w.1) (q2:∃w∈l,ex (lnB r s) w.1<0) (rt:Rot (jB (lnB r s) (j:Int) l) l') (ld:∀w∈jB (lnB r s) (j:Int) l,∀h∈l'.head?,¬Ahd w.1 h.1):LandOk x y u v rs r (js++[j]) l' where
 poly:=rt.poly (lM h.poly _ _ q1 q2)
 lnb:=(pr h.lnb bm).rot rt
 len:=by
  have:=h.len
  have c:=sf h.poly (lnB r s) (j:Int) q1 q2
  rw[rt.len,al];show _<=4+(js.length+1)
  omega
 pts:=fun p=>by
  rw[p9 h.poly q1 q2 rt p,h.pts p];constructor
  ·rintro⟨⟨a,b⟩,c⟩;refine⟨a,fun j' hj' s' hs'=> ?_⟩;rcases aR.mp hj' with z|z
   ·exact b j' z s' hs'
   ·rw[bO] at z;subst z;rw[hj] at hs';cases hs';exact c
  ·rintro⟨a,b⟩;exact⟨⟨a,fun j' hj'=>b j' (aO _ hj')⟩,b j (by simp) s hj⟩
 lead:=fun w hw=>ld w ((rt.mem w).mp hw)
 nm:=fun w hw=>by
  rcases mL ((rt.mem w).mp hw) with z|⟨w',hw',z⟩
  ·exact .inr ⟨j,by simp,s,hj,z⟩
  ·rw[z];rcases h.nm w' hw' with z|⟨j',hj',z⟩
   ·exact .inl z
   ·exact .inr ⟨j',aO _ hj',z⟩
 nd:=by
  refine rt.nodup (fun v:Vx=>v.2.2) (tZ h.poly _ _ q1 q2 h.nd ?_);intro hm;obtain⟨w,hw,e⟩:=ay.mp hm
  rcases h.nm w hw with⟨b,hb,z⟩|⟨j',hj',s',hs',z⟩
  ·rw[z] at e;simp only[ky,av,aD,or_false] at hb;rcases hb with rfl|rfl|rfl|rfl<;>dsimp only at e<;>omega
  ·rw[z] at e;dsimp only at e;have:j'=j:=by omega
   subst this;exact hn hj'
theorem wN{x y u v:Int}{rs:List U2}{r:U2}{js:List Nat}{l:List Vx}(h:LandOk x y u v rs r js l)(h1:x<u)(h2:y<v)(hr:x<=r.1 /\ r.1<=u /\ y<=r.2 /\ r.2<=v)(nd:∀j∈js,rs[j]? ≠some r):ju l (r.1,r.2,1):=by
 refine(h.pts _).mpr ⟨(kN h1 h2 _).mpr (by dsimp only;omega),fun j hj s hs=> ?_⟩;have ne:r≠s:=fun z=>nd j hj (by rw[hs,z])
 refine(kG ne (show(0:Int)<1 by decide)).1.mpr ?_;unfold sq2;dsimp only;have e:(r.1-r.1*1)^2+(r.2-r.2*1)^2=0:=by grind
 rw[e];have p1:0<=(r.1-s.1*1)^2:=by rw[fL,fL,Int.pow_zero,iA];exact kS _
 have p2:0<=(r.2-s.2*1)^2:=by rw[fL,fL,Int.pow_zero,iA];exact kS _
 omega
end MC
namespace MC
open MA L2
theorem vk{r s:U2}(ne:r≠s):ex (lnB r s) (r.1,r.2,1)<0:=by
 refine(kG ne (show(0:Int)<1 by decide)).2.1.mpr ?_;unfold sq2;dsimp only;have e:(r.1-r.1*1)^2+(r.2-r.2*1)^2=0:=by grind
 rw[e];have e1:(r.1-s.1*1)^2=(r.1-s.1)*(r.1-s.1):=by grind
 have e2:(r.2-s.2*1)^2=(r.2-s.2)*(r.2-s.2):=by grind
 rw[e1,e2];have p1:=kS (r.1-s.1)
 have p2:=kS (r.2-s.2)
 refine Classical.byContradiction fun z=>ne ?_
 have z1:(r.1-s.1)*(r.1-s.1)=0:=by omega
 have z2:(r.2-s.2)*(r.2-s.2)=0:=by omega
 rcases bu.mp z1 with a|a<;>rcases bu.mp z2 with b|b<;>exact cU (by omega) (by omega)
noncomputable def jC(n i:Nat):List Nat:=(eO n).filter fun j=>decide (j≠i)
theorem qF(n i:Nat):jC (n+1) i=if n≠i then jC n i++[n] else jC n i:=by
 unfold jC;rw[gx,ef]
 by_cases h:n=i
 ·subst h;simp
 ·simp[h]
theorem mem_othersL{n i j:Nat}:j∈jC n i↔j<n /\ j≠i:=by
 unfold jC;simp
theorem pE(n i:Nat):(jC n i).Nodup:=List.nodup_range.filter _
theorem j6(n i:Nat):(jC n i).length<=n:=by
 unfold jC;exact bJ (cK _ _) (by rw[eV];exact aI _)
end MC
namespace MC
open MA L2
theorem yF{l:List Vx}(hP:Poly l){i j:Nat}{a b:Vx}(hi:l[i]? =some a)(hj:l[j]? =some b)(h:i≠j):a.1≠b.1:=fun e=>by
 have n:=hP.nd
 have h1:(l.map (·.1))[i]? =some a.1:=by rw[ax,hi];rfl
 have h2:(l.map (·.1))[j]? =some b.1:=by rw[ax,hj];rfl
 have a1:=ad.mp h1
 have a2:=ad.mp h2
 exact h ((cz (h₀:=a1.1) (h₁:=a2.1) n).mp (a1.2.trans (e.trans a2.2.symm)))
end MC
namespace MC
open MA L2
theorem rK{l:List Vx}{v:Vx}(hv:v∈l):∃w∈l,(v,w)∈edges l:=by
 obtain⟨i,hi,e⟩:=gC.mp hv
 have h2:i<(rot l).length:=by rw[kJ];exact hi
 refine⟨(rot l)[i],(kT _ _).mp (cE h2),?_⟩;have hz:i<(l.zip (rot l)).length:=by rw[gr];omega
 have:=cE hz
 rw[ii,e] at this;exact this
theorem yC{l:List Vx}{v:Vx}(hv:v∈l):∃u∈l,(u,v)∈edges l:=by
 obtain⟨i,hi,e⟩:=gC.mp ((kT l v).mpr hv)
 have h2:i<l.length:=by rw[<-kJ l];exact hi
 refine⟨l[i],cE h2,?_⟩;have hz:i<(l.zip (rot l)).length:=by rw[gr];omega
 have:=cE hz
 rw[ii,e] at this;exact this
theorem xF:∀l:List Vx,∃N:Int,0<=N /\ ∀c∈l,c.1.2.2<=N
 |[]=>⟨0,by decide,fun _ h=>nomatch h⟩
 |v::r=>by
  obtain⟨N,h1,h2⟩:=xF r
  refine⟨N+v.1.2.2.natAbs,by omega,fun c hc=> ?_⟩;rcases av.mp hc with e|hc
  ·rw[e];omega
  ·have:=h2 c hc;omega
theorem rC{l:List Vx}(hP:Poly l){v:Vx}(hv:v∈l):ju l v.1:=Hull.inside hP (.self (ay.mpr ⟨v,hv,rfl⟩))
theorem third{l:List Vx}(hP:Poly l)(a b:V3):∃c∈l,c.1≠a /\ c.1≠b:=by
 have h3:=hP.three
 have nd:=hP.nd
 match l,h3,nd with
 |x::y::z::r,_,nd=>
  simp only[aJ,bE,av,not_or] at nd
  by_cases h1:x.1=a∨x.1=b
  ·by_cases h2:y.1=a∨y.1=b
   ·refine⟨z,by simp,?_,?_⟩
    ·intro q;have n1:=nd.1.2.1
     have n2:=nd.2.1.1
     have n3:=nd.1.1
     rcases h1 with h1|h1<;>rcases h2 with h2|h2
     ·exact n3 (h1.trans h2.symm)
     ·exact n1 (h1.trans q.symm)
     ·exact n2 (h2.trans q.symm)
     ·exact n3 (h1.trans h2.symm)
    ·intro q;have n1:=nd.1.2.1
     have n2:=nd.2.1.1
     have n3:=nd.1.1
     rcases h1 with h1|h1<;>rcases h2 with h2|h2
     ·exact n3 (h1.trans h2.symm)
     ·exact n2 (h2.trans q.symm)
     ·exact n1 (h1.trans q.symm)
     ·exact n3 (h1.trans h2.symm)
   ·exact⟨y,by simp,fun q=>h2 (.inl q),fun q=>h2 (.inr q)⟩
  ·exact⟨x,by simp,fun q=>h1 (.inl q),fun q=>h1 (.inr q)⟩
theorem wJ{c v:V3}{D t:Int}(hD:0<D)(hc:0<c.2.2)(hv:0<v.2.2)(gc:aE (aE c.1 c.2.1) c.2.2=1)(gv:aE (aE v.1 v.2.1) v.2.2=1)
  (e1:D*c.1=t*v.1) (e2:D*c.2.1=t*v.2.1) (e3:D*c.2.2=t*v.2.2):c=v:=by
 have k1:c.1*v.2.2=v.1*c.2.2:=fQ (dB hD) (by
  have:D*(c.1*v.2.2)=(D*c.1)*v.2.2:=by grind
  rw[this,e1];have:D*(v.1*c.2.2)=v.1*(D*c.2.2):=by grind
  rw[this,e3]
  grind)
 have k2:c.2.1*v.2.2=v.2.1*c.2.2:=fQ (dB hD) (by
  have:D*(c.2.1*v.2.2)=(D*c.2.1)*v.2.2:=by grind
  rw[this,e2];have:D*(v.2.1*c.2.2)=v.2.1*(D*c.2.2):=by grind
  rw[this,e3]
  grind)
 refine Ahd.total hc hv gc gv (fun q=> ?_) fun q=> ?_
 ·unfold Ahd at q;omega
 ·unfold Ahd at q;omega
noncomputable abbrev xB(l l':List Vx):Prop:=∀p:V3,0<p.2.2 ->(ju l p↔ju l' p)
theorem lB{l l':List Vx}(hP:Poly l)(hP':Poly l')(h:xB l l'){v:Vx}(hv:v∈l):∃v'∈l',v'.1=v.1:=by
 obtain⟨u,hu,eu⟩:=yC hv
 obtain⟨w,hw,ew⟩:=rK hv
 have E1:=hP.edge _ eu
 have E2:=hP.edge _ ew
 dsimp only at E1 E2;have wu:w.1≠u.1:=fun q=>by
  obtain⟨c,hc,n1,n2⟩:=third hP u.1 v.1
  have a1:=(E1.left c hc).resolve_left n1|>.resolve_left n2
  have a2:=(E2.left c hc).resolve_left n2|>.resolve_left (q▸n1)
  rw[q,vP] at a2;omega
 have D0:=(E1.left w hw).resolve_left wu|>.resolve_left (Ne.symm E2.ne)
 have vin:ju l' v.1:=(h _ (hP.pos v hv)).mp (rC hP hv)
 have hull:=pU hP' vin
 have gn:∀c∈l',0<=dt u.1 v.1 c.1 /\ 0<=dt v.1 w.1 c.1:=fun c hc=>by
  have q:=(h _ (hP'.pos c hc)).mpr (rC hP' hc)
  exact⟨q _ eu,q _ ew⟩
 obtain⟨N,N0,hN⟩:=xF l'
 have gd:∀p:V3,dot (N*((xZ u.1 v.1).1+(xZ v.1 w.1).1),N*((xZ u.1 v.1).2.1+(xZ v.1 w.1).2.1),N*((xZ u.1 v.1).2.2+(xZ v.1 w.1).2.2)-1) p=N*(dt u.1 v.1 p+dt v.1 w.1 p)-p.2.2:=fun p=>by
  rw[tI,tI];unfold dot
  grind
 have ex0:∃c∈l',dt u.1 v.1 c.1+dt v.1 w.1 c.1=0:=by
  refine Classical.byContradiction fun z=> ?_
  have q:=hull _ (fun x hx=>by
   obtain⟨c,hc,rfl⟩:=ay.mp hx
   rw[gd];have a:=gn c hc
   have b:=hN c hc
   have d:1<=dt u.1 v.1 c.1+dt v.1 w.1 c.1:=by
    have:¬(dt u.1 v.1 c.1+dt v.1 w.1 c.1=0):=fun y=>z ⟨c,hc,y⟩
    omega
   have m:=Int.mul_le_mul_of_nonneg_left d N0
   rw[dl] at m;omega)
  rw[gd,mD,oa] at q;have:=hP.pos v hv
  simp at q;omega
 obtain⟨c,hc,e0⟩:=ex0
 obtain⟨a1,a2⟩:=gn c hc
 have z1:dt u.1 v.1 c.1=0:=by omega
 have z2:dt v.1 w.1 c.1=0:=by omega
 refine⟨c,hc,?_⟩;have pl:∀g:V3,dt u.1 v.1 w.1*dot g c.1=dt u.1 c.1 w.1*dot g v.1:=fun g=>by
  have q:=nR g u.1 v.1 w.1 c.1
  have r1:dt c.1 v.1 w.1=dt v.1 w.1 c.1:=(oO c.1 v.1 w.1).symm
  rw[r1,z1,z2] at q
  simpa using q
 have p1:=pl (1,0,0)
 have p2:=pl (0,1,0)
 have p3:=pl (0,0,1)
 simp only[dot,iA,fe,bH,gu] at p1 p2 p3;exact wJ D0 (hP'.pos c hc) (hP.pos v hv) (hP'.low c hc) (hP.low v hv) p1 p2 p3
noncomputable def pes(l:List Vx):List (V3×V3):=(edges l).map fun e=>(e.1.1,e.2.1)
theorem yI{l l':List Vx}(hP:Poly l)(hP':Poly l')(h:xB l l'):∀e∈pes l,e∈pes l':=by
 intro e he;obtain⟨⟨v,w⟩,hvw,rfl⟩:=ay.mp he
 dsimp only;have hv:v∈l:=(cO hvw).1
 have hw:w∈l:=(kT _ _).mp (cO hvw).2
 obtain⟨v',hv',ev⟩:=lB hP hP' h hv
 obtain⟨w3,hw3,e3⟩:=lB hP hP' h hw
 obtain⟨w',hw',ew⟩:=rK hv'
 obtain⟨w2,hw2,e2⟩:=lB hP' hP (fun p hp=>(h p hp).symm) hw'
 have E:=hP.edge _ hvw
 have E':=hP'.edge _ ew
 dsimp only at E E';have key:w'.1=w.1:=by
  rcases E.left w2 hw2 with q|q|q
  ·exact absurd (ev.trans (q.symm.trans e2)) E'.ne
  ·rw[<-e2,q]
  ·rcases E'.left w3 hw3 with q'|q'|q'
   ·exact absurd (ev.symm.trans (q'.symm.trans e3)) E.ne
   ·rw[<-q',e3]
   ·rw[e2] at q;rw[e3,ev] at q';have:dt v.1 w'.1 w.1= -dt v.1 w.1 w'.1:=by unfold dt;grind
    omega
 exact ay.mpr ⟨(v',w'),ew,by dsimp only;rw[ev,key]⟩
end MC
namespace MC
open MA L2
noncomputable def tw(l:List Vx):Rat:=((zu ((l.map (·.1)).zip (rot (l.map (·.1))))).1:Rat) /((zu ((l.map (·.1)).zip (rot (l.map (·.1))))).2:Rat)
theorem xM{x:Int}(h:x≠0):(x:Rat)≠0:=fun q=>h (by exact_mod_cast q)
theorem ym{l:List Vx}(hP:Poly l){S:Int}(hS:0<S)(hd:∀v∈l,v.1.2.2∣S):tw l*((S*S:Int):Rat)=((cyc (l.map fun v=>sc S v.1):Int):Rat):=by
 have ok:∀z∈l.map (·.1),0<z.2.2 /\ z.1*S=(sc S z).1*z.2.2 /\ z.2.1*S=(sc S z).2*z.2.2:=fun z hz=>by
  obtain⟨v,hv,rfl⟩:=ay.mp hz
  exact yu (hd v hv) (hP.pos v hv)
 have q:=AW S (sc S) ((l.map (·.1)).zip (rot (l.map (·.1)))) (fun z hz=>⟨ok _ (cO hz).1,ok _ ((kT _ _).mp (cO hz).2)⟩) (0,1) 0 (by decide) (by simp)
 have e:((l.map (·.1)).zip (rot (l.map (·.1)))).map (fun z=>(sc S z.1,sc S z.2))=((l.map fun v=>sc S v.1)).zip (rot (l.map fun v=>sc S v.1)):=by
  have e2:(l.map fun v=>sc S v.1)=(l.map (·.1)).map (sc S):=by rw[gZ];rfl
  rw[e2];generalize l.map (·.1)=cs;rw[u5,List.zip_map];rfl
 rw[e,yB,bH] at q;obtain⟨q1,q2⟩:=q
 unfold tw zu;generalize gS m9 (0,1) _=A at q1 q2;have n:=xM q1
 have k:((A.1*(S*S):Int):Rat)=((A.2*cyc (l.map fun v=>sc S v.1):Int):Rat):=by rw[q2]
 rw[Rat.intCast_mul,Rat.intCast_mul] at k
 grind
theorem r8(l:List Vx)(h:∀v∈l,0<v.1.2.2):0<kz (l.map (·.1)) /\ ∀v∈l,v.1.2.2∣kz (l.map (·.1)):=
 ⟨qC fun v hv=>by obtain⟨c,hc,rfl⟩:=ay.mp hv;exact h c hc,fun v hv=>qD (ay.mpr ⟨v,hv,rfl⟩)⟩
theorem A8{S:Int}(h:0<S):((S*S:Int):Rat)≠0:=xM (dB (bp h h))
noncomputable def Bx(X:V3 ->Prop):Prop:=∀l,Poly l -> ¬∀p:V3,0<p.2.2 ->ju l p ->X p
noncomputable def Ar(X:V3 ->Prop)(q:Rat):Prop:=(∃l,Poly l /\ (∀p:V3,0<p.2.2 ->(ju l p↔X p)) /\ tw l=q)∨(Bx X /\ q=0)
theorem Ar.congr{X Y:V3 ->Prop}{q:Rat}(a:Ar X q)(h:∀p:V3,0<p.2.2 ->(X p↔Y p)):Ar Y q:=by
 rcases a with⟨l,h1,h2,e⟩|⟨h1,e⟩
 ·exact .inl ⟨l,h1,fun p hp=>(h2 p hp).trans (h p hp),e⟩
 ·exact .inr ⟨fun l hl z=>h1 l hl fun p hp hi=>(h p hp).mpr (z p hp hi),e⟩
theorem y6{l:List Vx}(hP:Poly l){m:V3}(hm:∃d,ex m d≠0)(h:∀v∈l,ex m v.1=0):False:=by
 obtain⟨d,hd⟩:=hm
 have h3:=hP.three
 match l,h3,hP,h with
 |a::b::c::r,_,hP,h=>
  have e:(a,b)∈edges (a::b::c::r):=kX (p:=[])
  have E:=hP.edge _ e
  have nd:=hP.nd
  simp only[aJ,bE,av,not_or] at nd;have L:=(E.left c (by simp)).resolve_left (fun q=>nd.1.2.1 q.symm)|>.resolve_left fun q=>nd.2.1.1 q.symm
  have pl:=mP m a.1 b.1 c.1 d
  rw[h a (by simp),h b (by simp),h c (by simp)] at pl;dsimp only at L;rw[b8,b8,b8,gu,gu] at pl;rcases bu.mp pl with z|z
  ·omega
  ·exact hd z
theorem rJ(m p:V3):ex (ng m) p= -ex m p:=by unfold ex ng;grind
theorem Ar.split{X:V3 ->Prop}{q:Rat}(a:Ar X q){m:V3}(hm:∃d,ex m d≠0):∃q1 q2,Ar (fun p=>X p /\ ex m p<=0) q1 /\ Ar (fun p=>X p /\ 0<=ex m p) q2 /\ q1+q2=q:=by
 rcases a with⟨l,hP,h2,e⟩|⟨h1,e⟩
 ·have gen:∀m:V3,(∃d,ex m d≠0) ->(∀v∈l,ex m v.1<=0) ->Bx fun p=>X p /\ 0<=ex m p:=fun m hm hp l2 hl2 z=>by
   refine y6 hl2 hm fun v hv=> ?_
   obtain⟨x1,x2⟩:=z v.1 (hl2.pos v hv) (rC hl2 hv)
   have:=((lI hP hp v.1).mp ((h2 _ (hl2.pos v hv)).mpr x1)).2
   omega
  by_cases hp:∃v∈l,0<ex m v.1
  ·by_cases hn:∃v∈l,ex m v.1<0
   ·have hp':∃v∈l,0<ex (ng m) v.1:=by obtain⟨v,hv,q⟩:=hn;exact⟨v,hv,by rw[rJ];omega⟩
    have hn':∃v∈l,ex (ng m) v.1<0:=by obtain⟨v,hv,q⟩:=hp;exact⟨v,hv,by rw[rJ];omega⟩
    have P1:=lM hP m 0 hp hn
    have P2:=lM hP (ng m) 0 hp' hn'
    refine⟨_,_,.inl ⟨_,P1,fun p hp0=>(p9 hP hp hn (.refl _) p).trans (and_congr (h2 p hp0) Iff.rfl),rfl⟩,.inl ⟨_,P2,fun p hp0=>(p9 hP hp' hn' (.refl _) p).trans (and_congr (h2 p hp0) (by rw[rJ];omega)),rfl⟩,?_⟩;obtain⟨a1,a2⟩:=r8 l hP.pos
    obtain⟨b1,b2⟩:=r8 _ P1.pos
    obtain⟨c1,c2⟩:=r8 _ P2.pos
    have hS:=bp (bp a1 b1) c1
    have d0:∀v∈l,v.1.2.2∣kz (l.map (·.1))*kz ((jB m 0 l).map (·.1))*kz ((jB (ng m) 0 l).map (·.1)):=fun v hv=>dG (a2 v hv) ⟨kz ((jB m 0 l).map (·.1))*kz ((jB (ng m) 0 l).map (·.1)),by rw[Int.mul_assoc]⟩
    have d1:∀v∈jB m 0 l,v.1.2.2∣kz (l.map (·.1))*kz ((jB m 0 l).map (·.1))*kz ((jB (ng m) 0 l).map (·.1)):=fun v hv=>dG (b2 v hv) ⟨kz (l.map (·.1))*kz ((jB (ng m) 0 l).map (·.1)),by grind⟩
    have d2:∀v∈jB (ng m) 0 l,v.1.2.2∣kz (l.map (·.1))*kz ((jB m 0 l).map (·.1))*kz ((jB (ng m) 0 l).map (·.1)):=fun v hv=>dG (c2 v hv) ⟨kz (l.map (·.1))*kz ((jB m 0 l).map (·.1)),by grind⟩
    have s:=vY hP m 0 0 hp hn hS d0 d1
    have e0:=ym hP hS d0
    have e1:=ym P1 hS d1
    have e2:=ym P2 hS d2
    rw[<-s,Rat.intCast_add, <-e1, <-e2] at e0;have n:=A8 hS
    rw[<-e]
    grind
   ·have hn1:∀v∈l,ex (ng m) v.1<=0:=fun v hv=>by
     rw[rJ];have:¬ex m v.1<0:=fun y=>hn ⟨v,hv,y⟩
     omega
    refine⟨0,q,.inr ⟨?_,rfl⟩,.inl ⟨l,hP,fun p hp0=> ?_,e⟩,by grind⟩
    ·have g:=gen (ng m) (by obtain⟨d,hd⟩:=hm;exact⟨d,by rw[rJ];omega⟩) hn1
     intro l2 hl2 z;exact g l2 hl2 fun p hp0 hi=>⟨(z p hp0 hi).1,by rw[rJ];have:=(z p hp0 hi).2;omega⟩
    ·refine(lI hP hn1 p).trans (and_congr (h2 p hp0) (by rw[rJ];omega))
  ·have hp1:∀v∈l,ex m v.1<=0:=fun v hv=>Int.not_lt.mp fun y=>hp ⟨v,hv,y⟩
   exact⟨q,0,.inl ⟨l,hP,fun p hp0=>(lI hP hp1 p).trans (and_congr (h2 p hp0) Iff.rfl),e⟩,.inr ⟨gen m hm hp1,rfl⟩,by grind⟩
 ·refine⟨0,0,.inr ⟨fun l hl z=>h1 l hl fun p hp hi=>(z p hp hi).1,rfl⟩,.inr ⟨fun l hl z=>h1 l hl fun p hp hi=>(z p hp hi).1,rfl⟩,by rw[e];grind⟩
theorem pw2(a:Int):a^2=a*a:=by grind
theorem nn2(a:Int):0<=a*a:=by
 rcases g9 0 a with h|h
 ·exact dg h h
 ·have:=dg (show 0<= -a by omega) (show 0<= -a by omega)
  rwa [Int.neg_mul_neg] at this
theorem AA{r s:U2}(h:r≠s):∃d,ex (lnB r s) d≠0:=by
 refine⟨(r.1,r.2,1),fun q=> ?_⟩;have z:=((kG h (p:=(r.1,r.2,1)) fC).2.2).mp q
 unfold sq2 at z;dsimp only at z;have e1:(r.1-r.1*1)^2+(r.2-r.2*1)^2=(0:Int):=by grind
 rw[e1] at z;have a:r.1-s.1*1=0 /\ r.2-s.2*1=0:=by
  generalize r.1-s.1*1=a at z;generalize r.2-s.2*1=b at z;have h1:0<=a^2:=by rw[pw2];exact nn2 a
  have h2:0<=b^2:=by rw[pw2];exact nn2 b
  have z1:a^2=0:=by omega
  have z2:b^2=0:=by omega
  rw[pw2] at z1 z2;exact⟨(bu.mp z1).elim id id,(bu.mp z2).elim id id⟩
 exact h (cU (by omega) (by omega))
theorem Ar.by{r:Nat ->U2}{X:V3 ->Prop}{q:Rat}(a:Ar X q)(n:Nat):∀k,(∀j,j<k ->r n≠r j) -> ∃g,Ar (fun p=>X p /\ ∀j,j<k ->sq2 p (r n)<=sq2 p (r j)) g
 |0,_=>⟨q,a.congr fun p _=>⟨fun h=>⟨h,fun _ z=>absurd z (gy _)⟩,fun h=>h.1⟩⟩
 |k+1,h=>by
  obtain⟨g,hg⟩:=Ar.by a n k fun j hj=>h j (by omega)
  obtain⟨g1,_,h1,_,_⟩:=hg.split (AA (h k (by omega)))
  refine⟨g1,h1.congr fun p hp=> ?_⟩;rw[(kG (h k (by omega)) hp).1];constructor
  ·rintro⟨⟨x,y⟩,z⟩;refine⟨x,fun j hj=> ?_⟩;rcases gN (Nat.le_of_lt_succ hj) with q|q
   ·exact y j q
   ·subst q;exact z
  ·rintro⟨x,y⟩;exact⟨⟨x,fun j hj=>y j (by omega)⟩,y k (by omega)⟩
end MC
namespace MC
open MA L2
theorem xn{x y u v:Int}(h1:x<u)(h2:y<v){b:Vx}(hb:b∈ky x y u v):(∃d,ex b.2.1 d≠0) /\ ∀p,ju (ky x y u v) p ->ex b.2.1 p<=0:=by
 have hP:=tQ h1 h2
 obtain⟨b2,hb2,he⟩:=rK hb
 have E:=hP.edge _ he
 obtain⟨c,hc,n1,n2⟩:=third hP b.1 b2.1
 exact⟨⟨c.1,Int.ne_of_lt (E.back_of hc n1 n2)⟩,fun p hp=>((lI hP (fun v hv=>E.back_le hv) p).mp hp).2⟩
end MC
namespace MC
open MA L2
theorem Ag{D E T X:Int}(hD:0<D)(hX:X<0)(e:D*E=T*X):(0<E↔T<0) /\ (E=0↔T=0) /\ (E<0↔0<T):=by
 have q:=lu (x:=E) (y:= -T) (s:=D) (t:= -X) hD (by omega) (by grind)
 omega
theorem tH{l:List Vx}(hP:Poly l){a b:Vx}(he:(a,b)∈edges l)(d:V3):(0<ex a.2.1 d↔dt a.1 b.1 d<0) /\ (ex a.2.1 d=0↔dt a.1 b.1 d=0) /\ (ex a.2.1 d<0↔0<dt a.1 b.1 d):=by
 have E:=hP.edge _ he
 dsimp only at E;obtain⟨c,hc,n1,n2⟩:=third hP a.1 b.1
 have h1:=(E.left c hc).resolve_left n1|>.resolve_left n2
 have h2:=(E.back c hc).resolve_left n1|>.resolve_left n2
 have p:=mP a.2.1 a.1 b.1 c.1 d
 rw[E.on1,E.on2,b8,b8,bH,bH] at p;exact Ag h1 h2 p
theorem mz{l:List Vx}{i:Nat}(hi:i<l.length):∃a b,l[i]? =some a /\ l[(i+1)%l.length]? =some b /\ (a,b)∈edges l:=by
 have hj:(i+1)%l.length<l.length:=Nat.mod_lt _ (by omega)
 refine⟨l[i],l[(i+1)%l.length],aa hi,aa hj,?_⟩;have hr:(rot l)[i]? =some l[(i+1)%l.length]:=by
  unfold rot
  by_cases h:i+1<l.length
  ·rw[aM (by rw[aV];omega),dj];rw[aa (by omega)]
   congr 1
   have:(i+1)%l.length=1+i:=by rw[dO h];omega
   simp only[this]
  ·have e:i+1=l.length:=by omega
   rw[aH (by rw[aV];omega),aV];have z:(i+1)%l.length=0:=by rw[e,hJ]
   have z2:i-(l.length-1)=0:=by omega
   rw[z2,bF (by omega),aa (by omega)];simp only[z]
 refine ah (i:=i) ?_;unfold edges;rw[bL];exact⟨aa hi,hr⟩
noncomputable abbrev yf(l:List Vx):Prop:=∀w∈l,∀h∈l.head?,¬Ahd w.1 h.1
theorem oM{l l':List Vx}(hP:Poly l)(hP':Poly l')(h:xB l l')(d:yf l)(d':yf l'){a a':Vx}(ha:l[0]? =some a)(ha':l'[0]? =some a'):a.1=a'.1:=by
 have m:=ah ha
 have m':=ah ha'
 obtain⟨b,hb,e⟩:=lB hP hP' h m
 obtain⟨b',hb',e'⟩:=lB hP' hP (fun p hp=>(h p hp).symm) m'
 refine Ahd.total (hP.pos a m) (hP'.pos a' m') (hP.low a m) (hP'.low a' m') (fun q=> ?_) fun q=> ?_
 ·rw[<-e] at q;exact d' b hb a' (by rw[gh];exact ha') q
 ·rw[<-e'] at q;exact d b' hb' a (by rw[gh];exact ha) q
theorem mW{l:List Vx}(hP:Poly l){i j:Nat}{a b:Vx}(ha:l[i]? =some a)(hb:l[j]? =some b)(e:a.1=b.1):i=j:=Classical.byContradiction fun z=>yF hP ha hb z e
theorem uL{l l':List Vx}(hP:Poly l)(hP':Poly l')(h:xB l l'){i:Nat}{a b a' b':Vx}(ha:l[i]? =some a)(hb:l[(i+1)%l.length]? =some b)(he:(a,b)∈edges l)(ha':l'[i]? =some a')(hb':l'[(i+1)%l'.length]? =some b')(he':(a',b')∈edges l')(e:a.1=a'.1):b.1=b'.1:=by
 have q:=yI hP hP' h (a.1,b.1) (ay.mpr ⟨(a,b),he,rfl⟩)
 obtain⟨⟨c,d⟩,hcd,e2⟩:=ay.mp q
 simp only[dR.injEq] at e2;obtain⟨i2,hi2⟩:=aX hcd
 have e3:=bL.mp hi2
 have ei:=mW hP' e3.1 ha' (e2.1.trans e)
 subst ei;have hi:=(ad.mp ha').1
 obtain⟨a2,b2,g1,g2,g3⟩:=mz hi
 obtain⟨k,hk⟩:=aX g3
 have e4:=bL.mp hk
 rw[g1] at ha';cases ha';have ek:=mW hP' e4.1 g1 rfl
 subst ek;have:some b2=some d:=e4.2.symm.trans e3.2
 cases this;rw[g2] at hb';cases hb';exact e2.2.symm
theorem le_same{l l':List Vx}(hP:Poly l)(hP':Poly l')(h:xB l l')(d:yf l)(d':yf l'):∀(i:Nat) (a:Vx),l[i]? =some a -> ∃a':Vx,l'[i]? =some a' /\ a.1=a'.1
 |0,a,ha=>by
  have t:=hP'.three
  exact⟨l'[0],aa (by omega),oM hP hP' h d d' ha (aa (by omega))⟩
 |i+1,b,hb=>by
  have hi:=(ad.mp hb).1
  obtain⟨a,b2,g1,g2,g3⟩:=mz (l:=l) (i:=i) (by omega)
  rw[dO hi] at g2;rw[hb] at g2;cases g2;obtain⟨a',ha',e⟩:=le_same hP hP' h d d' i a g1
  have hi':=(ad.mp ha').1
  obtain⟨a2,b',k1,k2,k3⟩:=mz hi'
  rw[ha'] at k1;cases k1;have eb:=uL hP hP' h g1 (by rw[dO hi];exact hb) g3 ha' k2 k3 e
  by_cases hl:i+1<l'.length
  ·rw[dO hl] at k2;exact⟨b',k2,eb⟩
  ·have:(i+1)%l'.length=0:=by rw[show i+1=l'.length by omega,hJ]
   rw[this] at k2;have h0:l[0]? =some l[0]:=aa (by omega)
   have e0:=oM hP hP' h d d' h0 k2
   have:=mW hP h0 hb (e0.trans eb.symm)
   omega
theorem xS{l l':List Vx}(hP:Poly l)(hP':Poly l')(h:xB l l')(d:yf l)(d':yf l'):l.length<=l'.length:=by
 have t:=hP.three
 obtain⟨a',ha',_⟩:=le_same hP hP' h d d' (l.length-1) _ (aa (by omega))
 have:=(ad.mp ha').1
 omega
theorem m7{l l':List Vx}(hP:Poly l)(hP':Poly l')(h:xB l l')(d:yf l)(d':yf l'):l.map (·.1)=l'.map (·.1):=by
 have h1:=xS hP hP' h d d'
 have h2:=xS hP' hP (fun p hp=>(h p hp).symm) d' d
 apply fS;intro i;rw[ax,ax]
 by_cases hi:i<l.length
 ·have ha:l[i]? =some l[i]:=aa hi
  obtain⟨a',ha',e⟩:=le_same hP hP' h d d' i _ ha
  rw[ha,ha',cm,cm,e]
 ·rw[cg (by omega),cg (by omega)]
theorem qJ{l l':List Vx}(hP:Poly l)(hP':Poly l')(e:l.map (·.1)=l'.map (·.1)){i:Nat}{v v':Vx}(hv:l[i]? =some v)(hv':l'[i]? =some v')(d:V3):(0<ex v.2.1 d↔0<ex v'.2.1 d) /\ (ex v.2.1 d=0↔ex v'.2.1 d=0) /\ (ex v.2.1 d<0↔ex v'.2.1 d<0):=by
 have hl:l.length=l'.length:=by have:=congrArg fB e;rwa [ae,ae] at this
 obtain⟨a,b,g1,g2,g3⟩:=mz (ad.mp hv).1
 obtain⟨a',b',k1,k2,k3⟩:=mz (ad.mp hv').1
 rw[hv] at g1;cases g1;rw[hv'] at k1;cases k1;have at':∀{j:Nat} {w w':Vx},l[j]? =some w ->l'[j]? =some w' ->w.1=w'.1:=fun {j w w'} h1 h2=>by
  have q:(l.map (·.1))[j]? =(l'.map (·.1))[j]? :=by rw[e]
  rw[ax,ax,h1,h2] at q;exact bA.inj q
 have ea:=at' hv hv'
 rw[<-hl] at k2;have eb:=at' g2 k2
 have s1:=tH hP g3 d
 have s2:=tH hP' k3 d
 rw[<-ea, <-eb] at s2;omega
theorem sE{x y u v:Int}(h1:x<u)(h2:y<v){b:Vx}(hb:b∈ky x y u v):∃d:V3,0<ex b.2.1 d /\ ∀c∈ky x y u v,c.2≠b.2 ->ex c.2.1 d<0:=by
 simp only[ky,av,aD,or_false] at hb;rcases hb with rfl|rfl|rfl|rfl
 ·refine⟨(x+u,2*y-1,2),by simp only[ex];omega,fun c hc n=> ?_⟩;simp only[ky,av,aD,or_false] at hc;rcases hc with rfl|rfl|rfl|rfl<;>first|exact absurd rfl n|(simp only[ex];omega)
 ·refine⟨(2*u+1,y+v,2),by simp only[ex];omega,fun c hc n=> ?_⟩;simp only[ky,av,aD,or_false] at hc;rcases hc with rfl|rfl|rfl|rfl<;>first|exact absurd rfl n|(simp only[ex];omega)
 ·refine⟨(x+u,2*v+1,2),by simp only[ex];omega,fun c hc n=> ?_⟩;simp only[ky,av,aD,or_false] at hc;rcases hc with rfl|rfl|rfl|rfl<;>first|exact absurd rfl n|(simp only[ex];omega)
 ·refine⟨(2*x-1,y+v,2),by simp only[ex];omega,fun c hc n=> ?_⟩;simp only[ky,av,aD,or_false] at hc;rcases hc with rfl|rfl|rfl|rfl<;>first|exact absurd rfl n|(simp only[ex];omega)
end MC
namespace MC
open MA L2
structure CutsOk(x y u v:Int)(cs:List Vx)(l:List Vx):Prop where
 poly:Poly l
 lnb:LnB 300 l
 len:l.length<=4+cs.length
 pts:∀p,ju l p↔ju (ky x y u v) p /\ ∀c∈cs,ex c.1 p<=0
 lead:∀w∈l,∀h∈l.head?,¬Ahd w.1 h.1
 nm:∀w∈l,(∃b∈ky x y u v,w.2=b.2)∨∃c∈cs,w.2=(c.1,c.2.2)
theorem tM{x y u v:Int}(h1:x<u)(h2:y<v)(b:Bd 300 x /\ Bd 300 y /\ Bd 300 u /\ Bd 300 v):CutsOk x y u v [] (ky x y u v):=by
 have L:=sT [] (0,0) h1 h2 b
 exact⟨L.poly,L.lnb,L.len,fun p=>⟨fun q=>⟨q,fun c hc=>absurd hc aD⟩,fun q=>q.1⟩,L.lead,fun w hw=> .inl ⟨w,hw,rfl⟩⟩
theorem vX{x y u v:Int}{cs:List Vx}{l:List Vx}(h:CutsOk x y u v cs l){c:Vx}(q:∀w∈l,ex c.1 w.1<=0):CutsOk x y u v (cs++[c]) l where
 poly:=h.poly
 lnb:=h.lnb
 len:=by
  have:=h.len
  rw[al];omega
 pts:=fun p=>by
  constructor
  ·intro i;have i2:=(lI h.poly q p).mp i
   refine⟨((h.pts p).mp i).1,fun d hd=> ?_⟩;rcases aR.mp hd with z|z
   ·exact((h.pts p).mp i).2 d z
   ·rw[bO] at z;rw[z];exact i2.2
  ·rintro⟨a,b⟩;exact(h.pts p).mpr ⟨a,fun d hd=>b d (aO _ hd)⟩
 lead:=h.lead
 nm:=fun w hw=>(h.nm w hw).imp id fun⟨c,m,z⟩=>⟨c,aO _ m,z⟩
theorem xi{x y u v:Int}{cs:List Vx}{l l':List Vx}(h:CutsOk x y u v cs l){c:Vx}(bm:Bd 300 c.1.1 /\ Bd 300 c.1.2.1 /\ Bd 300 c.1.2.2)
  (q1:∃w∈l,0<ex c.1 w.1) (q2:∃w∈l,ex c.1 w.1<0) (rt:Rot (jB c.1 c.2.2 l) l') (ld:∀w∈jB c.1 c.2.2 l,∀h∈l'.head?,¬Ahd w.1 h.1):CutsOk x y u v (cs++[c]) l' where
 poly:=rt.poly (lM h.poly _ _ q1 q2)
 lnb:=(pr h.lnb bm).rot rt
 len:=by
  have:=h.len
  have e:=sf h.poly c.1 c.2.2 q1 q2
  rw[rt.len,al];show _<=4+(cs.length+1)
  omega
 pts:=fun p=>by
  rw[p9 h.poly q1 q2 rt p,h.pts p];constructor
  ·rintro⟨⟨a,b⟩,e⟩;refine⟨a,fun d hd=> ?_⟩;rcases aR.mp hd with z|z
   ·exact b d z
   ·rw[bO] at z;rw[z];exact e
  ·rintro⟨a,b⟩;exact⟨⟨a,fun d hd=>b d (aO _ hd)⟩,b c (by simp)⟩
 lead:=fun w hw=>ld w ((rt.mem w).mp hw)
 nm:=fun w hw=>by
  rcases mL ((rt.mem w).mp hw) with z|⟨w',hw',z⟩
  ·exact .inr ⟨c,by simp,z⟩
  ·rw[z];exact(h.nm w' hw').imp id fun⟨c,m,z⟩=>⟨c,aO _ m,z⟩
noncomputable def oi(x y u v:Int)(cs:List Vx):Prop:=∀p,ju (ky x y u v) p ->(∀c∈cs,ex c.1 p<0) ->False
theorem none_of{x y u v:Int}{cs:List Vx}{k:Nat}{l:List Vx}(h:CutsOk x y u v (cs.take k) l){c:Vx}(hc:cs[k]? =some c)(q:∀w∈l,0<=ex c.1 w.1):oi x y u v cs:=fun p hp hs=>by
 have hin:=(h.pts p).mpr ⟨hp,fun d hd=>cX (hs d (cV hd))⟩
 obtain⟨w,hw,lt⟩:=nN h.poly hin (hs c (ah hc))
 have:=q w hw
 omega
noncomputable def zy(rs:List U2)(r:U2)(j:Nat):Vx:=(lnB (rs.getD j (0,0)) r,lnB (rs.getD j (0,0)) r,(j:Int))
theorem oj{rs:List U2}{r s:U2}{j:Nat}(h:rs[j]? =some s):zy rs r j=(lnB s r,lnB s r,(j:Int)):=by
 unfold zy;rw[bq,h];rfl
theorem nodup_ne{α:Type}{rs:List α}(nd:rs.Nodup){i j:Nat}{r s:α}(hi:rs[i]? =some r)(hj:rs[j]? =some s)(ne:j≠i):r≠s:=fun z=>by
 subst z;have h1:=ad.mp hi
 have h2:=ad.mp hj
 exact ne ((cz (h₀:=h2.1) (h₁:=h1.1) nd).mp (h2.2.trans h1.2.symm))
noncomputable def j4(rs:List U2)(r:U2)(i:Nat):List Vx:=(jC rs.length i).map (zy rs r)
theorem far_mem{rs:List U2}{r:U2}{i:Nat}{c:Vx}:c∈j4 rs r i↔∃(k:Nat) (t:U2),rs[k]? =some t /\ k≠i /\ c=(lnB t r,lnB t r,(k:Int)):=by
 constructor
 ·intro h;obtain⟨k,hk,rfl⟩:=ay.mp h
  obtain⟨kl,ki⟩:=mem_othersL.mp hk
  exact⟨k,rs[k],aa kl,ki,oj (aa kl)⟩
 ·rintro⟨k,t,hk,ki,rfl⟩;exact ay.mpr ⟨k,mem_othersL.mpr ⟨(ad.mp hk).1,ki⟩,oj hk⟩
theorem zf{x y u v:Int}{rs:List U2}{L:List Vx}{r:U2}{i:Nat}(nd:rs.Nodup)(hi:rs[i]? =some r)(hL:CutsOk x y u v (j4 rs r i) L){z:V3}(hz:0<z.2.2):ju L z↔ju (ky x y u v) z /\ ∀s∈rs,sq2 z s<=sq2 z r:=by
 rw[hL.pts z];refine and_congr Iff.rfl ⟨fun q s hs=> ?_,fun q c hc=> ?_⟩
 ·obtain⟨j,hj⟩:=aX hs
  by_cases e:j=i
  ·subst e;rw[hi] at hj;cases hj;exact cG _
  ·exact(kG (nodup_ne nd hi hj e).symm hz).1.mp (q _ (far_mem.mpr ⟨j,s,hj,e,rfl⟩))
 ·obtain⟨k,t,hk,ki,rfl⟩:=far_mem.mp hc
  exact(kG (nodup_ne nd hi hk ki).symm hz).1.mpr (q t (ah hk))
end MC
namespace MC
open MA L2
noncomputable def nm2(e:Int):Int:=if e≥0 then 1-e else e
theorem xH{rs:List U2}(l2:rs.length=2){i j k:Nat}(ij:i+j=1)(hk:k<rs.length)(ne:k≠i):k=j:=by omega
theorem wY{x y u v:Int}{rs:List U2}{r s:U2}{i j:Nat}(xu:x<u)(yv:y<v)(l2:rs.length=2)(ij:i+j=1)(hi:rs[i]? =some r)(hj:rs[j]? =some s)(nd:rs.Nodup)(ins:∀s∈rs,x<=s.1 /\ s.1<=u /\ y<=s.2 /\ s.2<=v)(n:r≠s):¬oi x y u v (j4 rs r i):=fun h=>by
 have a:=ins s (ah hj)
 refine h (s.1,s.2,1) ((kN xu yv _).mpr (by dsimp only;omega)) fun c hc=> ?_
 obtain⟨k,t,hk,ne,rfl⟩:=far_mem.mp hc
 have ek:=xH l2 ij (ad.mp hk).1 ne
 subst ek;rw[hj] at hk;cases hk;exact vk n.symm
theorem wZ{x y u v:Int}{rs:List U2}{r s:U2}{i j:Nat}{js:List Nat}{l l':List Vx}(xu:x<u)(yv:y<v)(l2:rs.length=2)(ij:i+j=1)(hi:rs[i]? =some r)(hj:rs[j]? =some s)(n:r≠s)(hjs:∀k,k∈js↔k=i)(h:CutsOk x y u v (j4 rs r i) l)(h':LandOk x y u v rs s js l')(ins:∀s∈rs,x<=s.1 /\ s.1<=u /\ y<=s.2 /\ s.2<=v):
  l.map (·.1)=l'.map (·.1) /\ l.map (·.2.2)=l'.map (fun w=>nm2 w.2.2):=by
 have only:∀{k:Nat} {t:U2},rs[k]? =some t ->k≠i ->k=j /\ t=s:=fun {k t} hk ne=>by
  have ek:=xH l2 ij (ad.mp hk).1 ne
  subst ek;rw[hj] at hk;cases hk;exact⟨rfl,rfl⟩
 have mem:(lnB s r,lnB s r,(j:Int))∈j4 rs r i:=far_mem.mpr ⟨j,s,hj,by omega,rfl⟩
 have same:xB l l':=fun p _=>by
  rw[h.pts p,h'.pts p];refine and_congr Iff.rfl ⟨fun q k m t ht=> ?_,fun q c hc=> ?_⟩
  ·have ek:=(hjs k).mp m
   subst ek;rw[hi] at ht;cases ht;exact q _ mem
  ·obtain⟨k,t,hk,ne,rfl⟩:=far_mem.mp hc
   obtain⟨rfl,rfl⟩:=only hk ne
   exact q i ((hjs i).mpr rfl) r hi
 have ec:=m7 h.poly h'.poly same h.lead h'.lead
 refine⟨ec,?_⟩;have hl:l.length=l'.length:=by have:=congrArg fB ec;rwa [ae,ae] at this
 have bn:∀{b:Vx},b∈ky x y u v ->b.2.2<0:=fun {b} hb=>by
  simp only[ky,av,aD,or_false] at hb;rcases hb with rfl|rfl|rfl|rfl<;>(dsimp only;omega)
 apply fS;intro k;rw[ax,ax]
 by_cases hk:k<l.length
 ·have hv:l[k]? =some l[k]:=aa hk
  have hv':l'[k]? =some l'[k]:=aa (by omega)
  generalize l[k]=w at hv;generalize l'[k]=w' at hv';rw[hv,hv',cm,cm];have ln:=qJ h.poly h'.poly ec hv hv'
  have cross:∀{b:Vx} {m m':V3},b∈ky x y u v ->m=b.2.1 ->m'=lnB s r -> ¬(∀d,(0<ex m' d↔0<ex m d)):=fun {b m m'} hb e1 e2 q=>by
   subst e1;subst e2;have a:=ins r (ah hi)
   have p1:0<ex (lnB s r) (r.1,r.2,1):=by
    have o:=kG n.symm (p:=(r.1,r.2,1)) fC
    have z:¬sq2 (r.1,r.2,1) s<=sq2 (r.1,r.2,1) r:=fun g=>by
     have o2:=(kG n (p:=(r.1,r.2,1)) fC).2.1.mp (vk n)
     omega
    have:=o.1
    omega
   have p2:=(q _).mp p1
   have:=(xn xu yv hb).2 (r.1,r.2,1) ((kN xu yv _).mpr (by dsimp only;omega))
   omega
  rcases h.nm w (ah hv) with⟨b,hb,e⟩|⟨c,hc,e⟩
  ·rcases h'.nm w' (ah hv') with⟨b',hb',e'⟩|⟨j',mj',s',hs',e'⟩
   ·have eb:b'.2=b.2:=Classical.byContradiction fun eb=>by
     rw[e,e'] at ln;obtain⟨d,d1,d2⟩:=sE xu yv hb
     have:=d2 b' hb' eb
     have:=ln d
     omega
    rw[e,e',eb];have:=bn hb
    unfold nm2;rw[if_neg (by omega)]
   ·have ej:=(hjs j').mp mj'
    subst ej;rw[hi] at hs';cases hs';exact absurd (fun d=>by have:=(ln d).1;rw[e,e'] at this;exact this.symm) (cross hb rfl rfl)
  ·obtain⟨k',t,hk',ne,rfl⟩:=far_mem.mp hc
   obtain⟨rfl,rfl⟩:=only hk' ne
   rcases h'.nm w' (ah hv') with⟨b',hb',e'⟩|⟨j',mj',s',hs',e'⟩
   ·exact absurd (fun d=>by have:=(ln d).1;rw[e,e'] at this;exact this) (cross hb' rfl rfl)
   ·have ej:=(hjs j').mp mj'
    subst ej;rw[e,e'];show some (k':Int)=some (nm2 (j':Int))
    unfold nm2;rw[if_pos (by omega)]
    congr 1
    omega
 ·rw[cg (by omega),cg (by omega)];rfl
end MC
namespace MC
open MA L2
theorem qR{x y u v:Int}{rs:List U2}{r:U2}(xu:x<u)(yv:y<v)(l1:rs.length=1)(hi:rs[0]? =some r)(ins:x<=r.1 /\ r.1<=u /\ y<=r.2 /\ r.2<=v):¬oi x y u v (j4 rs r 0):=fun h=>by
 refine h (r.1,r.2,1) ((kN xu yv _).mpr (by dsimp only;omega)) fun c hc=> ?_
 obtain⟨k,t,hk,ne,rfl⟩:=far_mem.mp hc
 have:=(ad.mp hk).1
 omega
theorem ze{x y u v:Int}{rs:List U2}{r:U2}{l:List Vx}(xu:x<u)(yv:y<v)(bb:Bd 300 x /\ Bd 300 y /\ Bd 300 u /\ Bd 300 v)(l1:rs.length=1)(h:CutsOk x y u v (j4 rs r 0) l):l.map (·.1)=(ky x y u v).map (·.1) /\ l.map (·.2.2)=(ky x y u v).map (·.2.2):=by
 have no:∀{c:Vx},c∈j4 rs r 0 ->False:=fun {c} hc=>by
  obtain⟨k,t,hk,ne,rfl⟩:=far_mem.mp hc
  have:=(ad.mp hk).1
  omega
 have h':=tM xu yv bb
 have same:xB l (ky x y u v):=fun p _=>by
  rw[h.pts p];exact⟨fun q=>q.1,fun q=>⟨q,fun c hc=>(no hc).elim⟩⟩
 have ec:=m7 h.poly h'.poly same h.lead h'.lead
 refine⟨ec,?_⟩;have hl:l.length=(ky x y u v).length:=by have:=congrArg fB ec;rwa [ae,ae] at this
 apply fS;intro k;rw[ax,ax]
 by_cases hk:k<l.length
 ·have hv:l[k]? =some l[k]:=aa hk
  have hv':(ky x y u v)[k]? =some (ky x y u v)[k]:=aa (by omega)
  generalize l[k]=w at hv;generalize(ky x y u v)[k]'(by omega)=w' at hv';rw[hv,hv',cm,cm];have ln:=qJ h.poly h'.poly ec hv hv'
  rcases h.nm w (ah hv) with⟨b,hb,e⟩|⟨c,hc,_⟩
  ·have eb:w'.2=b.2:=Classical.byContradiction fun eb=>by
    rw[e] at ln;obtain⟨d,d1,d2⟩:=sE xu yv hb
    have:=d2 w' (ah hv') eb
    have:=ln d
    omega
   rw[e,eb]
  ·exact(no hc).elim
 ·rw[cg (by omega),cg (by omega)]
end MC
namespace RG
noncomputable abbrev Pt:=Rat×Rat
noncomputable def dq(p s:Pt):Rat:=(p.1-s.1)*(p.1-s.1)+(p.2-s.2)*(p.2-s.2)
theorem wm(x:Rat):0<=x*x:=by
 rcases Rat.le_total (a:=0) (b:=x) with h|h
 ·exact Rat.mul_nonneg h h
 ·have:=Rat.mul_nonneg (a:= -x) (b:= -x) (by grind) (by grind)
  grind
theorem w9(p s:Pt):0<=dq p s:=by
 unfold dq;have h1:=wm (p.1-s.1)
 have h2:=wm (p.2-s.2)
 grind
theorem uN{x:Rat}(h:x*x=0):x=0:=by
 rcases Rat.mul_eq_zero.mp h with h|h<;>exact h
theorem p7{p s:Pt}(h:dq p s<=0):p=s:=by
 unfold dq at h;have h1:=wm (p.1-s.1)
 have h2:=wm (p.2-s.2)
 have e1:=uN (x:=p.1-s.1) (by grind)
 have e2:=uN (x:=p.2-s.2) (by grind)
 exact cU (by grind) (by grind)
structure Held(a b c h:Pt)(R α β γ:Rat):Prop where
 a0:0<=α
 b0:0<=β
 c0:0<=γ
 pos:0<α+β+γ
 x:α*a.1+β*b.1+γ*c.1=(α+β+γ)*h.1
 y:α*a.2+β*b.2+γ*c.2=(α+β+γ)*h.2
 ia:dq h a<=R
 ib:dq h b<=R
 ic:dq h c<=R
 ea:α*(dq h a-R)=0
 eb:β*(dq h b-R)=0
 ec:γ*(dq h c-R)=0
theorem Held.far{a b c h:Pt}{R α β γ:Rat}(H:Held a b c h R α β γ)(P:Pt):R+dq P h<=dq P a∨R+dq P h<=dq P b∨R+dq P h<=dq P c:=by
 have id:α*dq P a+β*dq P b+γ*dq P c=(α+β+γ)*(R+dq P h):=by
  have x:=H.x
  have y:=H.y
  have ea:=H.ea
  have eb:=H.eb
  have ec:=H.ec
  unfold dq at*
  grind
 refine Classical.byContradiction fun z=> ?_
 have za:dq P a<R+dq P h:=by grind
 have zb:dq P b<R+dq P h:=by grind
 have zc:dq P c<R+dq P h:=by grind
 have ma:=Rat.mul_nonneg H.a0 (show 0<=R+dq P h-dq P a by grind)
 have mb:=Rat.mul_nonneg H.b0 (show 0<=R+dq P h-dq P b by grind)
 have mc:=Rat.mul_nonneg H.c0 (show 0<=R+dq P h-dq P c by grind)
 have pos:=H.pos
 have e1:α*(R+dq P h-dq P a)=0:=by grind
 have e2:β*(R+dq P h-dq P b)=0:=by grind
 have e3:γ*(R+dq P h-dq P c)=0:=by grind
 have q1:=(Rat.mul_eq_zero.mp e1).resolve_right (by grind)
 have q2:=(Rat.mul_eq_zero.mp e2).resolve_right (by grind)
 have q3:=(Rat.mul_eq_zero.mp e3).resolve_right (by grind)
 grind
noncomputable def mid(a b:Pt):Pt:=((a.1+b.1) /2,(a.2+b.2) /2)
noncomputable def ar2(a b c:Pt):Rat:=(b.1-a.1)*(c.2-a.2)-(b.2-a.2)*(c.1-a.1)
noncomputable def Br(a b c h:Pt):Prop:=h=mid a b∨h=mid b c∨h=mid c a∨(ar2 a b c≠0 /\ dq h a=dq h b /\ dq h a=dq h c)
theorem pH(a b c:Pt)(hc:dq a c+dq b c<=dq a b):Held a b c (mid a b) (dq a b /4) 1 1 0:=by
 unfold mid;refine⟨by grind,by grind,by grind,by grind,by grind,by grind,?_,?_,?_,?_,?_,by grind⟩
 all_goals(unfold dq at*;dsimp only at*;grind)
theorem ya{E1 E2 u1 u2 w1 w2:Rat}(t1:E1*u1+E2*u2=0)(t2:E1*w1+E2*w2=0)(D:u1*w2-u2*w1≠0):E1=0 /\ E2=0:=by
 have z1:(u1*w2-u2*w1)*E1=0:=by grind
 have z2:(u1*w2-u2*w1)*E2=0:=by grind
 exact⟨(Rat.mul_eq_zero.mp z1).resolve_left D,(Rat.mul_eq_zero.mp z2).resolve_left D⟩
theorem zS(a b c:Pt):∃h R α β γ,Held a b c h R α β γ /\ Br a b c h:=by
 by_cases h1:dq a c+dq b c<=dq a b
 ·exact⟨_,_,_,_,_,pH a b c h1,.inl rfl⟩
 by_cases h2:dq b a+dq c a<=dq b c
 ·have H:=pH b c a h2
  exact⟨_,_,0,1,1,⟨by grind,by grind,by grind,by grind,by have:=H.x;grind,by have:=H.y;grind,H.ic,H.ia,H.ib,by grind,H.ea,H.eb⟩,.inr (.inl rfl)⟩
 by_cases h3:dq c b+dq a b<=dq c a
 ·have H:=pH c a b h3
  exact⟨_,_,1,0,1,⟨by grind,by grind,by grind,by grind,by have:=H.x;grind,by have:=H.y;grind,H.ib,H.ic,H.ia,H.eb,by grind,H.ea⟩,.inr (.inr (.inl rfl))⟩
 have key:4*(ar2 a b c*ar2 a b c)=(dq a c+dq b c-dq a b)*(dq b a+dq c a-dq b c)+(dq b a+dq c a-dq b c)*(dq c b+dq a b-dq c a)+(dq c b+dq a b-dq c a)*(dq a c+dq b c-dq a b):=by
  unfold ar2 dq
  grind
 have pos:ar2 a b c≠0:=fun z=>by
  rw[z] at key;have m1:=Rat.mul_pos (show 0<dq a c+dq b c-dq a b by grind) (show 0<dq b a+dq c a-dq b c by grind)
  have m2:=Rat.mul_pos (show 0<dq b a+dq c a-dq b c by grind) (show 0<dq c b+dq a b-dq c a by grind)
  have m3:=Rat.mul_pos (show 0<dq c b+dq a b-dq c a by grind) (show 0<dq a c+dq b c-dq a b by grind)
  grind
 have ex:∃h:Pt,2*((b.1-a.1)*(h.1-a.1)+(b.2-a.2)*(h.2-a.2))=dq a b /\ 2*((c.1-a.1)*(h.1-a.1)+(c.2-a.2)*(h.2-a.2))=dq a c:=by
  refine⟨(a.1+((c.2-a.2)*dq a b-(b.2-a.2)*dq a c) /(2*ar2 a b c),a.2+((b.1-a.1)*dq a c-(c.1-a.1)*dq a b) /(2*ar2 a b c)),?_,?_⟩
  ·dsimp only;have e:ar2 a b c=(b.1-a.1)*(c.2-a.2)-(b.2-a.2)*(c.1-a.1):=rfl
   generalize ar2 a b c=D at*
   grind
  ·dsimp only;have e:ar2 a b c=(b.1-a.1)*(c.2-a.2)-(b.2-a.2)*(c.1-a.1):=rfl
   generalize ar2 a b c=D at*
   grind
 obtain⟨h,e1,e2⟩:=ex
 have ab:dq h a=dq h b:=by unfold dq at*;grind
 have ac:dq h a=dq h c:=by unfold dq at*;grind
 have s1:dq a b=dq b a:=by unfold dq;grind
 have s2:dq b c=dq c b:=by unfold dq;grind
 have s3:dq a c=dq c a:=by unfold dq;grind
 have pA:0<dq b c:=by grind
 have pB:0<dq c a:=by grind
 have pC:0<dq a b:=by grind
 have mA:=Rat.mul_pos pA (show 0<dq c a+dq a b-dq b c by grind)
 have mB:=Rat.mul_pos pB (show 0<dq a b+dq b c-dq c a by grind)
 have mC:=Rat.mul_pos pC (show 0<dq b c+dq c a-dq a b by grind)
 have uw:2*((b.1-a.1)*(c.1-a.1)+(b.2-a.2)*(c.2-a.2))=dq c a+dq a b-dq b c:=by unfold dq;grind
 have uu:(b.1-a.1)*(b.1-a.1)+(b.2-a.2)*(b.2-a.2)=dq a b:=by unfold dq;grind
 have ww:(c.1-a.1)*(c.1-a.1)+(c.2-a.2)*(c.2-a.2)=dq c a:=by unfold dq;grind
 have D0:(b.1-a.1)*(c.2-a.2)-(b.2-a.2)*(c.1-a.1)≠0:=pos
 rw[s3] at e2;clear key h1 h2 h3;refine⟨h,dq h a,_,_,_,⟨Rat.le_of_lt mA,Rat.le_of_lt mB,Rat.le_of_lt mC,by grind,?_,?_,by grind,by grind,by grind,by grind,by grind,by grind⟩,.inr (.inr (.inr ⟨pos,ab,ac⟩))⟩
 all_goals(
  clear pA pB pC mA mB mC s1 s2 s3 ab ac pos;generalize dq b c=A at*;generalize dq c a=B at*;generalize dq a b=C at*;generalize eu1:b.1-a.1=u1 at*;generalize eu2:b.2-a.2=u2 at*;generalize ew1:c.1-a.1=w1 at*;generalize ew2:c.2-a.2=w2 at*;generalize ek1:h.1-a.1=k1 at*;generalize ek2:h.2-a.2=k2 at*;have t1:(B*(C+A-B)*u1+C*(A+B-C)*w1-(A*(B+C-A)+B*(C+A-B)+C*(A+B-C))*k1)*u1+(B*(C+A-B)*u2+C*(A+B-C)*w2-(A*(B+C-A)+B*(C+A-B)+C*(A+B-C))*k2)*u2=0:=by grind
  have t2:(B*(C+A-B)*u1+C*(A+B-C)*w1-(A*(B+C-A)+B*(C+A-B)+C*(A+B-C))*k1)*w1+(B*(C+A-B)*u2+C*(A+B-C)*w2-(A*(B+C-A)+B*(C+A-B)+C*(A+B-C))*k2)*w2=0:=by grind
  obtain⟨y1,y2⟩:=ya t1 t2 D0
  grind)
theorem yb{p1 p2 p3 p4 q t:Pt}{m1 m2 m3 m4 R:Rat}(h1:0<=m1)(h2:0<=m2)(h3:0<=m3)(h4:0<=m4)(hp:0<m1+m2+m3+m4)(x:m1*p1.1+m2*p2.1+m3*p3.1+m4*p4.1=(m1+m2+m3+m4)*q.1)(y:m1*p1.2+m2*p2.2+m3*p3.2+m4*p4.2=(m1+m2+m3+m4)*q.2)
  (i1:m1*(R-dq p1 t)≥0) (i2:m2*(R-dq p2 t)≥0) (i3:m3*(R-dq p3 t)≥0) (i4:m4*(R-dq p4 t)≥0):dq q t<=R:=by
 have id:m1*dq p1 t+m2*dq p2 t+m3*dq p3 t+m4*dq p4 t=(m1+m2+m3+m4)*dq q t+(m1*dq p1 q+m2*dq p2 q+m3*dq p3 q+m4*dq p4 q):=by
  unfold dq
  grind
 have k1:=Rat.mul_nonneg h1 (w9 p1 q)
 have k2:=Rat.mul_nonneg h2 (w9 p2 q)
 have k3:=Rat.mul_nonneg h3 (w9 p3 q)
 have k4:=Rat.mul_nonneg h4 (w9 p4 q)
 refine Classical.byContradiction fun z=> ?_
 have m:=Rat.mul_pos hp (show 0<dq q t-R by grind)
 grind
theorem Ba(p1 p2 p3 p4:Pt):∃l1 l2 l3 l4:Rat,¬(l1=0 /\ l2=0 /\ l3=0 /\ l4=0) /\ l1+l2+l3+l4=0 /\ l1*p1.1+l2*p2.1+l3*p3.1+l4*p4.1=0 /\ l1*p1.2+l2*p2.2+l3*p3.2+l4*p4.2=0:=by
 by_cases d:(p1.1-p4.1)*(p2.2-p4.2)-(p1.2-p4.2)*(p2.1-p4.1)=0
 ·by_cases v:p1.1-p4.1=0 /\ p1.2-p4.2=0
  ·exact⟨1,0,0,-1,by grind,by grind,by grind,by grind⟩
  ·refine⟨-((p1.1-p4.1)*(p2.1-p4.1)+(p1.2-p4.2)*(p2.2-p4.2)),dq p1 p4,0,(p1.1-p4.1)*(p2.1-p4.1)+(p1.2-p4.2)*(p2.2-p4.2)-dq p1 p4,fun q=>v ?_,by grind,?_,?_⟩
   ·have:=p7 (p:=p1) (s:=p4) (by grind)
    rw[this]
    grind
   ·unfold dq;grind
   ·unfold dq;grind
 ·refine⟨(p2.1-p4.1)*(p3.2-p4.2)-(p2.2-p4.2)*(p3.1-p4.1),(p3.1-p4.1)*(p1.2-p4.2)-(p3.2-p4.2)*(p1.1-p4.1),(p1.1-p4.1)*(p2.2-p4.2)-(p1.2-p4.2)*(p2.1-p4.1),-(((p2.1-p4.1)*(p3.2-p4.2)-(p2.2-p4.2)*(p3.1-p4.1))+((p3.1-p4.1)*(p1.2-p4.2)-(p3.2-p4.2)*(p1.1-p4.1))+((p1.1-p4.1)*(p2.2-p4.2)-(p1.2-p4.2)*(p2.1-p4.1))),fun q=>d q.2.2.1,by grind,by grind,by grind⟩
theorem dvc{L a:Rat}(h:0<L):L*(a /L)=a:=by grind
noncomputable def pp(x:Rat):Rat:=if 0<=x then x else 0
noncomputable def pn(x:Rat):Rat:=if 0<=x then 0 else -x
theorem wB(x:Rat):x=pp x-pn x /\ 0<=pp x /\ 0<=pn x /\ (pp x=0∨pn x=0):=by
 unfold pp pn;split<;>grind
theorem Bg{p1 p2 p3 p4 t1 t2 t3 t4:Pt}{R:Rat}(a2:dq p1 t2<=R)(a3:dq p1 t3<=R)(a4:dq p1 t4<=R)(b1:dq p2 t1<=R)(b3:dq p2 t3<=R)(b4:dq p2 t4<=R)(c1:dq p3 t1<=R)(c2:dq p3 t2<=R)(c4:dq p3 t4<=R)(d1:dq p4 t1<=R)(d2:dq p4 t2<=R)(d3:dq p4 t3<=R):
  ∃q:Pt,dq q t1<=R /\ dq q t2<=R /\ dq q t3<=R /\ dq q t4<=R:=by
 obtain⟨l1,l2,l3,l4,nz,s,x,y⟩:=Ba p1 p2 p3 p4
 obtain⟨e1,u1,v1,o1⟩:=wB l1
 obtain⟨e2,u2,v2,o2⟩:=wB l2
 obtain⟨e3,u3,v3,o3⟩:=wB l3
 obtain⟨e4,u4,v4,o4⟩:=wB l4
 generalize pp l1=m1 at*;generalize pp l2=m2 at*;generalize pp l3=m3 at*;generalize pp l4=m4 at*;generalize pn l1=n1 at*;generalize pn l2=n2 at*;generalize pn l3=n3 at*;generalize pn l4=n4 at*;have hs:m1+m2+m3+m4=n1+n2+n3+n4:=by grind
 have hp:0<m1+m2+m3+m4:=by
  refine Classical.byContradiction fun z=>nz ?_
  have z1:m1=0:=by grind
  have z2:m2=0:=by grind
  have z3:m3=0:=by grind
  have z4:m4=0:=by grind
  have y1:n1=0:=by grind
  have y2:n2=0:=by grind
  have y3:n3=0:=by grind
  have y4:n4=0:=by grind
  grind
 obtain⟨q,qx,qy⟩:∃q:Pt,m1*p1.1+m2*p2.1+m3*p3.1+m4*p4.1=(m1+m2+m3+m4)*q.1 /\ m1*p1.2+m2*p2.2+m3*p3.2+m4*p4.2=(m1+m2+m3+m4)*q.2:=by
  refine⟨((m1*p1.1+m2*p2.1+m3*p3.1+m4*p4.1) /(m1+m2+m3+m4),(m1*p1.2+m2*p2.2+m3*p3.2+m4*p4.2) /(m1+m2+m3+m4)),?_,?_⟩
  all_goals(dsimp only;exact(dvc hp).symm)
 have qx':n1*p1.1+n2*p2.1+n3*p3.1+n4*p4.1=(n1+n2+n3+n4)*q.1:=by rw[<-hs];grind
 have qy':n1*p1.2+n2*p2.2+n3*p3.2+n4*p4.2=(n1+n2+n3+n4)*q.2:=by rw[<-hs];grind
 have nn:∀{m d:Rat},0<=m ->d<=R ->m*(R-d)≥0:=fun h1 h2=>Rat.mul_nonneg h1 (by grind)
 have zz:∀{m d:Rat},m=0 ->m*(R-d)≥0:=fun h1=>by rw[h1];grind
 have hp':0<n1+n2+n3+n4:=by rw[<-hs];exact hp
 refine⟨q,?_,?_,?_,?_⟩
 ·rcases o1 with o|o
  ·exact yb u1 u2 u3 u4 hp qx qy (zz o) (nn u2 b1) (nn u3 c1) (nn u4 d1)
  ·exact yb v1 v2 v3 v4 hp' qx' qy' (zz o) (nn v2 b1) (nn v3 c1) (nn v4 d1)
 ·rcases o2 with o|o
  ·exact yb u1 u2 u3 u4 hp qx qy (nn u1 a2) (zz o) (nn u3 c2) (nn u4 d2)
  ·exact yb v1 v2 v3 v4 hp' qx' qy' (nn v1 a2) (zz o) (nn v3 c2) (nn v4 d2)
 ·rcases o3 with o|o
  ·exact yb u1 u2 u3 u4 hp qx qy (nn u1 a3) (nn u2 b3) (zz o) (nn u4 d3)
  ·exact yb v1 v2 v3 v4 hp' qx' qy' (nn v1 a3) (nn v2 b3) (zz o) (nn v4 d3)
 ·rcases o4 with o|o
  ·exact yb u1 u2 u3 u4 hp qx qy (nn u1 a4) (nn u2 b4) (nn u3 c4) (zz o)
  ·exact yb v1 v2 v3 v4 hp' qx' qy' (nn v1 a4) (nn v2 b4) (nn v3 c4) (zz o)
theorem Bw{α:Type}(κ:α ->Rat):∀(l:List α),l≠[] -> ∃a∈l,∀b∈l,κ b<=κ a
 |[],h=>absurd rfl h
 |[a],_=>⟨a,by simp,fun b hb=>by rw[bO] at hb;rw[hb];grind⟩
 |a::b::l,_=>by
  obtain⟨c,hc,hm⟩:=Bw κ (b::l) (by simp)
  by_cases h:κ c<=κ a
  ·refine⟨a,by simp,fun d hd=> ?_⟩;rcases av.mp hd with rfl|hd
   ·grind
   ·exact Rat.le_trans (hm d hd) h
  ·refine⟨c,ba _ hc,fun d hd=> ?_⟩;rcases av.mp hd with rfl|hd
   ·grind
   ·exact hm d hd
theorem least(S:List Pt)(hS:S≠[]):∃a∈S,∃b∈S,∃c∈S,∃h R α β γ,Held a b c h R α β γ /\ Br a b c h /\ ∀s∈S,dq h s<=R:=by
 have ch:∀t:Pt×Pt×Pt,∃z:Pt×Rat×Rat×Rat×Rat,Held t.1 t.2.1 t.2.2 z.1 z.2.1 z.2.2.1 z.2.2.2.1 z.2.2.2.2 /\ Br t.1 t.2.1 t.2.2 z.1:=fun t=>by
  obtain⟨h,R,α,β,γ,H,C⟩:=zS t.1 t.2.1 t.2.2
  exact⟨(h,R,α,β,γ),H,C⟩
 obtain⟨f,hf⟩:=Classical.axiomOfChoice ch
 obtain⟨⟨a,b,c⟩,hm,hb⟩:=Bw (fun t=>(f t).2.1) (S.flatMap fun a=>S.flatMap fun b=>S.map fun c=>(a,b,c)) (by
  obtain⟨s,r,rfl⟩:=List.exists_cons_of_ne_nil hS
  simp)
 have mem:∀{a b c:Pt},(a,b,c)∈(S.flatMap fun a=>S.flatMap fun b=>S.map fun c=>(a,b,c))↔a∈S /\ b∈S /\ c∈S:=by
  intro a b c;constructor
  ·intro h;obtain⟨a',h1,h⟩:=dN.mp h
   obtain⟨b',h2,h⟩:=dN.mp h
   obtain⟨c',h3,e⟩:=ay.mp h
   cases e;exact⟨h1,h2,h3⟩
  ·rintro⟨h1,h2,h3⟩;exact dN.mpr ⟨a,h1,dN.mpr ⟨b,h2,ay.mpr ⟨c,h3,rfl⟩⟩⟩
 obtain⟨ha,hb',hc⟩:=mem.mp hm
 obtain⟨H,C⟩:=hf (a,b,c)
 dsimp only at H C;refine⟨a,ha,b,hb',c,hc,_,_,_,_,_,H,C,fun s hs=> ?_⟩;refine Classical.byContradiction fun z=> ?_
 obtain⟨Ha,_⟩:=hf (b,c,s)
 obtain⟨Hb,_⟩:=hf (a,c,s)
 obtain⟨Hc,_⟩:=hf (a,b,s)
 have ra:=hb (b,c,s) (mem.mpr ⟨hb',hc,hs⟩)
 have rb:=hb (a,c,s) (mem.mpr ⟨ha,hc,hs⟩)
 have rc:=hb (a,b,s) (mem.mpr ⟨ha,hb',hs⟩)
 dsimp only at Ha Hb Hc ra rb rc;obtain⟨q,q1,q2,q3,q4⟩:=Bg (p1:=(f (b,c,s)).1) (p2:=(f (a,c,s)).1) (p3:=(f (a,b,s)).1) (p4:=(f (a,b,c)).1) (t1:=a) (t2:=b) (t3:=c) (t4:=s) (R:=(f (a,b,c)).2.1)
  (Rat.le_trans Ha.ia ra) (Rat.le_trans Ha.ib ra) (Rat.le_trans Ha.ic ra) (Rat.le_trans Hb.ia rb) (Rat.le_trans Hb.ib rb) (Rat.le_trans Hb.ic rb) (Rat.le_trans Hc.ia rc) (Rat.le_trans Hc.ib rc) (Rat.le_trans Hc.ic rc) H.ia H.ib H.ic
 have e:q=(f (a,b,c)).1:=p7 (by rcases H.far q with y|y|y<;>grind)
 rw[e] at q4;exact z q4
end RG
namespace RG
noncomputable def Ring(S:List Pt)(h:Pt)(R:Rat):Prop:=(∃a∈S,∃b∈S,∃c∈S,∃α β γ,Held a b c h R α β γ) /\ ∀s∈S,dq h s<=R
theorem Ring.far{S:List Pt}{h:Pt}{R:Rat}(H:Ring S h R)(P:Pt):∃t∈S,R+dq P h<=dq P t:=by
 obtain⟨⟨a,ha,b,hb,c,hc,α,β,γ,K⟩,_⟩:=H
 rcases K.far P with q|q|q
 ·exact⟨a,ha,q⟩
 ·exact⟨b,hb,q⟩
 ·exact⟨c,hc,q⟩
theorem Ring.only{S:List Pt}{h P:Pt}{R:Rat}(H:Ring S h R)(hP:∀s∈S,dq P s<=R):P=h:=by
 obtain⟨t,ht,q⟩:=H.far P
 have:=hP t ht
 exact p7 (by grind)
theorem Ring.reach{S:List Pt}{h:Pt}{R:Rat}(H:Ring S h R):∃t∈S,dq h t=R:=by
 obtain⟨t,ht,q⟩:=H.far h
 have q2:=H.2 t ht
 have z:dq h h=0:=by unfold dq;grind
 exact⟨t,ht,by grind⟩
theorem Held.mid_ne{a b c h:Pt}{R α β γ:Rat}(H:Held a b c h R α β γ)(hR:R≠0)(e:h=mid a b):a≠b:=fun z=>by
 subst z;have ha:h=a:=by rw[e];unfold mid;exact cU (by grind) (by grind)
 have z0:dq h a=0:=by rw[ha];unfold dq;grind
 have ea:=H.ea
 have eb:=H.eb
 have ec:=H.ec
 rw[z0] at ea eb;have a0:α=0:=(Rat.mul_eq_zero.mp ea).resolve_right (by grind)
 have b0:β=0:=(Rat.mul_eq_zero.mp eb).resolve_right (by grind)
 have x:=H.x
 have y:=H.y
 have pos:=H.pos
 rw[a0,b0] at x y pos;have g0:γ≠0:=by grind
 have x1:γ*(c.1-h.1)=0:=by grind
 have y1:γ*(c.2-h.2)=0:=by grind
 have x2:=(Rat.mul_eq_zero.mp x1).resolve_left g0
 have y2:=(Rat.mul_eq_zero.mp y1).resolve_left g0
 have z2:dq h c=0:=by unfold dq;grind
 rw[z2] at ec;exact hR (by have:=(Rat.mul_eq_zero.mp ec).resolve_left g0;grind)
theorem Held.turn{a b c h:Pt}{R α β γ:Rat}(H:Held a b c h R α β γ):Held b c a h R β γ α:=
 ⟨H.b0,H.c0,H.a0,by have:=H.pos;grind,by have:=H.x;grind,by have:=H.y;grind,H.ib,H.ic,H.ia,H.eb,H.ec,H.ea⟩
theorem v0{a b c h h':Pt}(n:ar2 a b c≠0)(e1:dq h a=dq h b)(e2:dq h a=dq h c)(f1:dq h' a=dq h' b)(f2:dq h' a=dq h' c):h=h':=by
 have t1:(h.1-h'.1)*(b.1-a.1)+(h.2-h'.2)*(b.2-a.2)=0:=by unfold dq at*;grind
 have t2:(h.1-h'.1)*(c.1-a.1)+(h.2-h'.2)*(c.2-a.2)=0:=by unfold dq at*;grind
 obtain⟨z1,z2⟩:=ya t1 t2 n
 exact cU (by grind) (by grind)
theorem ring_of{S:List Pt}(hS:S≠[]){Cs:Pt ->Prop}(h1:∀a∈S,(∀b∈S,b=a) ->Cs a)(h2:∀a∈S,∀b∈S,a≠b ->Cs (mid a b))(h3:∀a∈S,∀b∈S,∀c∈S,ar2 a b c≠0 -> ∃h,Cs h /\ dq h a=dq h b /\ dq h a=dq h c):∃h R,Cs h /\ Ring S h R:=by
 obtain⟨a,ha,b,hb,c,hc,h,R,α,β,γ,H,C,w⟩:=least S hS
 have ring:Ring S h R:=⟨⟨a,ha,b,hb,c,hc,α,β,γ,H⟩,w⟩
 refine⟨h,R,?_,ring⟩
 by_cases hR:R=0
 ·subst hR;have all:∀s∈S,h=s:=fun s hs=>p7 (w s hs)
  have e:=all a ha
  rw[e];exact h1 a ha fun b hb=>by rw[<-e,all b hb]
 ·rcases C with e|e|e|⟨n,e1,e2⟩
  ·rw[e];exact h2 a ha b hb (H.mid_ne hR e)
  ·rw[e];exact h2 b hb c hc (H.turn.mid_ne hR e)
  ·rw[e];exact h2 c hc a ha (H.turn.turn.mid_ne hR e)
  ·obtain⟨h',hC,f1,f2⟩:=h3 a ha b hb c hc n
   rw[v0 n e1 e2 f1 f2];exact hC
end RG
section
open PySem L2 MA PyProof.Rows MC
local macro_rules| `(tactic|walk_at "RD")=> `(tactic|simp only[zF,dS,uH,Ac,tOp,tUn,rI,rI0,rU,zE,tC,yo,rW,zW,uI,tU,tT,zZ,tCB,zV,Aa,ixF,zX,zY,Ad,tOr,tB,uK,aK,cZ,de,eh,eG,bA.injEq,V.int.injEq,V.bl.injEq,V.ref.injEq,exists_eq_left',exists_eq_left,exists_eq_right,exists_and_left,exists_and_right,and_true,true_and,and_assoc,cJ.injEq,jh,lp,pj,zT,Ab,uG,tML,zv,zO,ud,zI,slF,tSl,uF,nK,tq,tm,sZ,sY,sX,sW,sV,jM,lW,lX,di,fV,fW,L2.stLC,frV,aJ,bR,bB,df,am,aN,dU,dJ,fi,xz,xw,xv,xr,if_true,if_false,cu,eI,reduceIte,reduceCtorEq,decide_eq_true_eq,dF,decide_eq_false_iff_not,eq_self,bC,bQ,fM,Nat.reduceAdd,Nat.reduceLT,iQ,eJ,Int.reduceToNat,Int.reducePow,Int.reduceLE,Int.reduceLT,Int.reduceSub,Int.reduceAdd,Int.reduceMul,Int.reduceNeg,A6,A5,bd2,bd3,bd4,pP,pO,pN,pR,pQ,pM,pL,pK,pJ,ne_eq,Int.reduceEq,not_false_eq_true,not_true_eq_false,false_or,or_false,false_and,and_false,exists_false,exists_const,ql,qm,lK,zK,fI,fI0,fU,uj,uk,zL,tDg,tDp,tK,uJ,nJ,nI,tAt,uE])
local macro_rules| `(tactic|o_head ⟨$a0⟩)=> `(tactic|simp only[zF,dS,uH,Ac,tOp,tUn,rI,rI0,rU,zE,tC,yo,rW,zW,uI,tU,tT,zZ,tCB,zV,Aa,ixF,zX,zY,Ad,tOr,tB,uK,aK,cZ,de,eh,eG,bA.injEq,V.int.injEq,V.bl.injEq,V.ref.injEq,exists_eq_left',exists_eq_left,exists_eq_right,exists_and_left,exists_and_right,and_true,true_and,and_assoc,cJ.injEq,jh,lp,pj,zT,Ab,uG,tML,zv,zO,ud,zI,slF,tSl,uF,nK,tq,tm,sZ,sY,sX,sW,sV,jM,lW,lX,di,fV,fW,L2.stLC,frV,aJ,bR,bB,df,am,aN,dU,dJ,fi,xz,xw,xv,xr,if_true,if_false,cu,eI,reduceIte,reduceCtorEq,decide_eq_true_eq,dF,decide_eq_false_iff_not,eq_self,bC,bQ,fM,Nat.reduceAdd,Nat.reduceLT,iQ,eJ,Int.reduceToNat,Int.reducePow,Int.reduceLE,Int.reduceLT,Int.reduceSub,Int.reduceAdd,Int.reduceMul,Int.reduceNeg,A6,A5,bd2,bd3,bd4,pP,pO,pN,pR,pQ,pM,pL,pK,pJ,ne_eq,Int.reduceEq,not_false_eq_true,not_true_eq_false,false_or,or_false,false_and,and_false,exists_false,exists_const,ql,qm,lK,zK,fI,fI0,fU,uj,uk,zL,tDg,tDp,tK,uJ,nJ,nI,tAt,uE, $a0:term])
local macro_rules| `(tactic|o_head ⟨$a0, $a1, $a2, $a3⟩)=> `(tactic|simp only[zF,dS,uH,Ac,tOp,tUn,rI,rI0,rU,zE,tC,yo,rW,zW,uI,tU,tT,zZ,tCB,zV,Aa,ixF,zX,zY,Ad,tOr,tB,uK,aK,cZ,de,eh,eG,bA.injEq,V.int.injEq,V.bl.injEq,V.ref.injEq,exists_eq_left',exists_eq_left,exists_eq_right,exists_and_left,exists_and_right,and_true,true_and,and_assoc,cJ.injEq,jh,lp,pj,zT,Ab,uG,tML,zv,zO,ud,zI,slF,tSl,uF,nK,tq,tm,sZ,sY,sX,sW,sV,jM,lW,lX,di,fV,fW,L2.stLC,frV,aJ,bR,bB,df,am,aN,dU,dJ,fi,xz,xw,xv,xr,if_true,if_false,cu,eI,reduceIte,reduceCtorEq,decide_eq_true_eq,dF,decide_eq_false_iff_not,eq_self,bC,bQ,fM,Nat.reduceAdd,Nat.reduceLT,iQ,eJ,Int.reduceToNat,Int.reducePow,Int.reduceLE,Int.reduceLT,Int.reduceSub,Int.reduceAdd,Int.reduceMul,Int.reduceNeg,A6,A5,bd2,bd3,bd4,pP,pO,pN,pR,pQ,pM,pL,pK,pJ,ne_eq,Int.reduceEq,not_false_eq_true,not_true_eq_false,false_or,or_false,false_and,and_false,exists_false,exists_const,ql,qm,lK,zK,fI,fI0,fU,uj,uk,zL,tDg,tDp,tK,uJ,nJ,nI,tAt,uE, $a0:term, $a1:term, $a2:term, $a3:term])
local macro_rules| `(tactic|o_head ⟨$a0, $a1, $a2, $a3, $a4, $a5, $a6, $a7, $a8, $a9, $a10, $a11⟩)=> `(tactic|simp only[zF,dS,uH,Ac,tOp,tUn,rI,rI0,rU,zE,tC,yo,rW,zW,uI,tU,tT,zZ,tCB,zV,Aa,ixF,zX,zY,Ad,tOr,tB,uK,aK,cZ,de,eh,eG,bA.injEq,V.int.injEq,V.bl.injEq,V.ref.injEq,exists_eq_left',exists_eq_left,exists_eq_right,exists_and_left,exists_and_right,and_true,true_and,and_assoc,cJ.injEq,jh,lp,pj,zT,Ab,uG,tML,zv,zO,ud,zI,slF,tSl,uF,nK,tq,tm,sZ,sY,sX,sW,sV,jM,lW,lX,di,fV,fW,L2.stLC,frV,aJ,bR,bB,df,am,aN,dU,dJ,fi,xz,xw,xv,xr,if_true,if_false,cu,eI,reduceIte,reduceCtorEq,decide_eq_true_eq,dF,decide_eq_false_iff_not,eq_self,bC,bQ,fM,Nat.reduceAdd,Nat.reduceLT,iQ,eJ,Int.reduceToNat,Int.reducePow,Int.reduceLE,Int.reduceLT,Int.reduceSub,Int.reduceAdd,Int.reduceMul,Int.reduceNeg,A6,A5,bd2,bd3,bd4,pP,pO,pN,pR,pQ,pM,pL,pK,pJ,ne_eq,Int.reduceEq,not_false_eq_true,not_true_eq_false,false_or,or_false,false_and,and_false,exists_false,exists_const,ql,qm,lK,zK,fI,fI0,fU,uj,uk,zL,tDg,tDp,tK,uJ,nJ,nI,tAt,uE, $a0:term, $a1:term, $a2:term, $a3:term, $a4:term, $a5:term, $a6:term, $a7:term, $a8:term, $a9:term, $a10:term, $a11:term])
local macro_rules| `(tactic|walk_at "ST")=> `(tactic|simp only[L2.start,aJ,bR,bC,bQ,Nat.reduceAdd,Nat.reduceSub,bB,df,am,aN,aK])
local macro_rules| `(tactic|walk_at "CM")=> `(tactic|(first|exact CMulA.left (by decide) (by decide)|exact CMulA.right (by decide) (by decide)|(apply CMulA.of;(repeat(first|assumption|apply Bd.mul|apply Bd.sub|apply Bd.add|apply Bd.neg|apply Bd.sq));all_goals decide)))
set_option maxHeartbeats 0
namespace LW
open PySem L2 MA PyProof.Rows
theorem Bf{A:Around}{k:Nat}(hr:Room k A):A.units+65<cLine:=by have:=hr.un;omega
theorem wb{A:Around}{k:Nat}(hr:Room k A):A.units+64<cLine:=hr.units
structure Cz where
 LandError:Addr
 NoBox:Addr
 TooMany:Addr
 NoSpot:Addr
structure Txt(P:Program)(K:ag)(mg:Str ->Option Value)(C:Cz):Prop where
 b_abs:mg "abs"=none
 b_enumerate:mg "enumerate"=none
 b_int:mg "int"=none
 b_isinstance:mg "isinstance"=none
 b_len:mg "len"=none
 b_list:mg "list"=none
 b_max:mg "max"=none
 b_min:mg "min"=none
 b_range:mg "range"=none
 b_super:mg "super"=none
 n_NoSpot:∃fI,ExcN P K C.NoSpot fI
 kp_NoSpot:aA K (.ref C.NoSpot)=true
 eb_NoSpot:uv K C.NoSpot
 at_NoSpot:bg K (.ref C.NoSpot) "at"=some none
 hd_NoSpot:gT K C.NoSpot=true
 g_LandError:mg "LandError"=some (.ref C.LandError)
 g_NoBox:mg "NoBox"=some (.ref C.NoBox)
 g_TooMany:mg "TooMany"=some (.ref C.TooMany)
 g_NoSpot:mg "NoSpot"=some (.ref C.NoSpot)
 x_NoBox:ExcC K C.NoBox
 x_TooMany:ExcC K C.TooMany
 n_MOST_SPOTS:∃t,mg "MOST_SPOTS"=some (.int 12 t)
 m_NoBox_NoBox:b7 K (.ref C.NoBox) (.ref C.NoBox)=some true
 m_TooMany_NoBox:b7 K (.ref C.TooMany) (.ref C.NoBox)=some false
 m_TooMany_TooMany:b7 K (.ref C.TooMany) (.ref C.TooMany)=some true
 m_NoSpot_NoBox:b7 K (.ref C.NoSpot) (.ref C.NoBox)=some false
 m_NoSpot_TooMany:b7 K (.ref C.NoSpot) (.ref C.TooMany)=some false
 m_NoSpot_NoSpot:b7 K (.ref C.NoSpot) (.ref C.NoSpot)=some true
 j_NoBox_TooMany_NoSpot:dM K (.ref C.NoBox) [(.ref C.TooMany),(.ref C.NoSpot)]=some false
 j_TooMany_NoBox_NoSpot:dM K (.ref C.TooMany) [(.ref C.NoBox),(.ref C.NoSpot)]=some false
end LW
namespace LW
open PySem L2 MA PyProof.Rows MC
noncomputable def jW:Sp:=fun vs H Q _=>∃a b:Int,vs=[.int a,.int b] /\ Q (.int (aE a b:Int)) H
noncomputable def mI:Sp:=fun vs H Q _=>∃n:Int,vs=[.int n] /\ Q (.int (sgn n)) H
noncomputable abbrev P3:=Int×Int×Int
noncomputable def CsAt(H:Hp)(qs:List Addr)(cs:List P3):Prop:=qs.length=cs.length /\ ∀(i:Nat) (q:Addr) (z:P3),qs[i]? =some q ->cs[i]? =some z ->H q=some (.tup [.int z.1,.int z.2.1,.int z.2.2])
theorem CsAt.ext{H H':Hp}{qs:List Addr}{rs:List P3}(h:CsAt H qs rs)(x:Ext H H'):CsAt H' qs rs:=⟨h.1,fun i q z a b=>x _ _ (h.2 i q z a b)⟩
theorem CsAt.snoc{H:Hp}{qs:List Addr}{R:List P3}(h:CsAt H qs R){q:Addr}{v:P3}(h2:H q=some (.tup [.int v.1,.int v.2.1,.int v.2.2])):CsAt H (qs++[q]) (R++[v]):=by
 refine⟨by rw[al,al,h.1];rfl,fun i t' v' a b=> ?_⟩
 by_cases hi:i<qs.length
 ·rw[aM hi] at a;rw[aM (by rw[<-h.1];exact hi)] at b;exact h.2 i t' v' a b
 ·rw[aH (by omega)] at a;rw[aH (by rw[<-h.1];omega), <-h.1] at b;have:i-qs.length=0:=by
   have:=(ad.mp a).1
   simp only[bC,bQ] at this;omega
  rw[this] at a b;cases a;cases b;exact h2
theorem CsAt.setL{H:Hp}{qs:List Addr}{R:List P3}{L:Addr}{xs ys:List V}(h:CsAt H qs R)(hL:H L=some (.lst xs)):CsAt (upd H L (.lst ys)) qs R:=⟨h.1,fun i t v a b=>by
 have h1:=h.2 i t v a b
 exact(jd (mR h1 hL (by intro z;cases z))).trans h1⟩
structure NewF(H:Hp)(f c e:Addr):Prop where
 nf:H f=none
 nc:H c=none
 ne:H e=none
 ce:c≠e
theorem jG{qs:List Addr}{i:Nat}{v:V}(h:(qs.map V.ref)[i]? =some v):∃q,qs[i]? =some q /\ v= .ref q:=by
 rw[ax] at h;cases e:qs[i]? with
 |none=>rw[e] at h;cases h
 |some q=>rw[e] at h;exact⟨q,rfl,(bA.inj h).symm⟩
theorem Ext.none{H H':Hp}{b:Addr}(f:Ext H H')(h:H' b=none):H b=none:=by
 cases q:H b with
 |none=>rfl
 |some o=>
  rw[f b o q] at h;cases h
structure FldAt(H:Hp)(f c e:Addr)(qs:List Addr)(l:List Vx):Prop where
 at_:H f=some (.tup [.ref c,.ref e])
 cs:H c=some (.lst (qs.map V.ref))
 pt:CsAt H qs (l.map (·.1))
 es:H e=some (.lst ((l.map (·.2.2)).map V.int))
theorem FldAt.ext{H H':Hp}{f c e:Addr}{qs:List Addr}{l:List Vx}(h:FldAt H f c e qs l)(x:Ext H H'):FldAt H' f c e qs l:=⟨x _ _ h.at_,x _ _ h.cs,h.pt.ext x,x _ _ h.es⟩
noncomputable def RwAt(H:Hp)(ts:List Addr)(R:List Vx):Prop:=ts.length=R.length /\ ∀(i:Nat) (t:Addr) (v:Vx),ts[i]? =some t ->R[i]? =some v -> ∃q,H t=some (.tup [.ref q,.int v.2.2]) /\ H q=some (.tup [.int v.1.1,.int v.1.2.1,.int v.1.2.2])
theorem RwAt.ext{H H':Hp}{ts:List Addr}{R:List Vx}(h:RwAt H ts R)(x:Ext H H'):RwAt H' ts R:=⟨h.1,fun i t v a b=>by
 obtain⟨q,h1,h2⟩:=h.2 i t v a b
 exact⟨q,x _ _ h1,x _ _ h2⟩⟩
theorem RwAt.snoc{H:Hp}{ts:List Addr}{R:List Vx}(h:RwAt H ts R){t q:Addr}{v:Vx}(h1:H t=some (.tup [.ref q,.int v.2.2]))(h2:H q=some (.tup [.int v.1.1,.int v.1.2.1,.int v.1.2.2])):RwAt H (ts++[t]) (R++[v]):=by
 refine⟨by rw[al,al,h.1];rfl,fun i t' v' a b=> ?_⟩
 by_cases hi:i<ts.length
 ·rw[aM hi] at a;rw[aM (by rw[<-h.1];exact hi)] at b;exact h.2 i t' v' a b
 ·rw[aH (by omega)] at a;rw[aH (by rw[<-h.1];omega), <-h.1] at b;have:i-ts.length=0:=by
   have:=(ad.mp a).1
   simp only[bC,bQ] at this;omega
  rw[this] at a b;cases a;cases b;exact⟨q,h1,h2⟩
theorem qc(xs:List V)(k:Nat):ur xs (some (k:Int)) none=xs.drop k:=by
 unfold ur;rw[HT.sIx_nat,HT.sIx_none,cR (by rw[aV];omega)]
 by_cases h:k<=xs.length
 ·rw[gz h]
 ·rw[il (by omega),im,gg (by omega)]
theorem mE(xs:List V)(k:Nat):ur xs none (some (k:Int))=xs.take k:=by
 unfold ur;rw[HT.sIx_nat,HT.sIx_none,dJ,Nat.sub_zero]
 by_cases h:k<=xs.length
 ·rw[gz h]
 ·rw[il (by omega),aW,cR (by omega)]
theorem getElem?_rot{α:Type}{l:List α}{k i:Nat}(hk:k<=l.length):(l.drop k++l.take k)[i]? =if i<l.length-k then l[k+i]? else if i<l.length then l[i-(l.length-k)]? else none:=by
 by_cases h:i<l.length-k
 ·rw[if_pos h,aM (by rw[aV];exact h),dj]
 ·rw[if_neg h,aH (by rw[aV];omega),aV]
  by_cases h2:i<l.length
  ·rw[if_pos h2,bF (by omega)]
  ·rw[if_neg h2,cg (by rw[aC];omega)]
theorem RwAt.rotk{H:Hp}{qs:List Addr}{rs:List Vx}(h:RwAt H qs rs){k:Nat}(hk:k<=qs.length):RwAt H (MC.rotk k qs) (MC.rotk k rs):=by
 unfold MC.rotk;refine⟨by simp only[al,aV,aC,h.1],fun i q z h1 h2=> ?_⟩;rw[getElem?_rot hk] at h1;rw[getElem?_rot (by rw[<-h.1];exact hk), <-h.1] at h2;split at h1
 ·rename_i hi
  rw[if_pos hi] at h2;exact h.2 _ q z h1 h2
 ·rename_i hi
  rw[if_neg hi] at h2;split at h1
  ·rename_i hi2
   rw[if_pos hi2] at h2;exact h.2 _ q z h1 h2
  ·cases h1
theorem wv{α β:Type}(f:α ->β)(k:Nat)(l:List α):(rotk k l).map f=rotk k (l.map f):=by
 unfold MC.rotk;rw[au,fT,cM]
theorem pq{α:Type}(k:Nat)(l:List α):(rotk k l).length=l.length:=by
 unfold MC.rotk;rw[al,aV,aC];omega
theorem uY{α:Type}{k:Nat}{l:List α}(h:k<l.length):(rotk k l).head?=l[k]? :=by
 unfold MC.rotk;rw[ck h,aa h];rfl
noncomputable abbrev P2:=Int×Int
noncomputable def R2At(H:Hp)(qs:List Addr)(rs:List P2):Prop:=qs.length=rs.length /\ ∀(i:Nat) (q:Addr) (z:P2),qs[i]? =some q ->rs[i]? =some z ->H q=some (.tup [.int z.1,.int z.2])
theorem R2At.ext{H H':Hp}{qs:List Addr}{rs:List P2}(h:R2At H qs rs)(x:Ext H H'):R2At H' qs rs:=⟨h.1,fun i q z a b=>x _ _ (h.2 i q z a b)⟩
theorem R2At.at{H:Hp}{qs:List Addr}{rs:List P2}(h:R2At H qs rs){i:Nat}{q:Addr}(hq:qs[i]? =some q):∃r,rs[i]? =some r /\ H q=some (.tup [.int r.1,.int r.2]):=by
 have li:=(ad.mp hq).1
 have e:=aa (l:=rs) (i:=i) (by rw[<-h.1];exact li)
 exact⟨_,e,h.2 i q _ hq e⟩
structure SpOk(H:Hp)(b l:Addr)(x y u v:Int)(qs:List Addr)(rs:List P2):Prop where
 bx:H b=some (.tup [.int x,.int y,.int u,.int v])
 sp:H l=some (.lst (qs.map V.ref))
 at_:R2At H qs rs
 xu:x<u
 yv:y<v
 ins:∀r∈rs,x<=r.1 /\ r.1<=u /\ y<=r.2 /\ r.2<=v
 nd:rs.Nodup
 n0:0<rs.length
 n12:rs.length<=12
 sz:(-(4*10^30)<=x /\ u<=4*10^30) /\ (-(4*10^30)<=y /\ v<=4*10^30)
theorem SpOk.ext{H H':Hp}{b l:Addr}{x y u v:Int}{qs:List Addr}{rs:List P2}(h:SpOk H b l x y u v qs rs)(e:Ext H H'):SpOk H' b l x y u v qs rs:=
 ⟨e _ _ h.bx,e _ _ h.sp,h.at_.ext e,h.xu,h.yv,h.ins,h.nd,h.n0,h.n12,h.sz⟩
theorem kO{n:Int}(h1: -(4*10^30)<=n)(h2:n<=4*10^30)(m:Nat)(hm:110<=m:=by decide):Bd m n:=Bd.mono (m:=110) (Bd.of_le (4*10^30) h1 h2 (by decide)) hm
theorem SpOk.b2{H:Hp}{b l:Addr}{x y u v:Int}{qs:List Addr}{rs:List P2}(h:SpOk H b l x y u v qs rs){r:P2}(hr:r∈rs):B2 200 r:=by
 have:=h.ins r hr
 have z:=h.sz
 exact⟨kO (by omega) (by omega) 200,kO (by omega) (by omega) 200⟩
noncomputable def t2d(r:P2):PyData:= .tuple [.int r.1,.int r.2]
theorem sH{K:ag}{H:Hp}:∀{qs:List Addr} {rs:List P2},R2At H qs rs ->RdyAll K H (qs.map V.ref) (rs.map t2d)
 |[],[],_=> .nil
 |[],_::_,h=>by simp[R2At] at h
 |_::_,[],h=>by simp[R2At] at h
 |p::ps,c::cs,h=> .cons (oB (h.2 0 p c rfl rfl)) (sH ⟨by simpa using h.1,fun i q z h1 h2=>h.2 (i+1) q z h1 h2⟩)
theorem R2At.take{H:Hp}{qs:List Addr}{rs:List P2}(h:R2At H qs rs)(k:Nat):R2At H (qs.take k) (rs.take k):=by
 refine⟨by rw[aC,aC,h.1],fun i q z h1 h2=> ?_⟩
 by_cases hi:i<k
 ·rw[bF hi] at h1 h2;exact h.2 i q z h1 h2
 ·rw[cg (by rw[aC];omega)] at h1;cases h1
theorem xT:∀rs:List P2,PyData.canLayAll0 (rs.map t2d)=true /\ PyData.depthAll (rs.map t2d)<=1
 |[]=>⟨rfl,by simp[PyData.depthAll]⟩
 |c::cs=>by
  obtain⟨a,b⟩:=xT cs
  constructor
  ·simp[t2d,PyData.canLayAll0,PyData.canLay0];exact a
  ·simp[t2d,PyData.depthAll,PyData.depth] at b⊢;omega
theorem nQ(rs:List P2):SeqAt.shaped (.list (rs.map t2d))=true:=by
 obtain⟨a,b⟩:=xT rs
 unfold SeqAt.shaped;rw[ci,decide_eq_true_eq];exact⟨by simp[PyData.canLay0,a],by simp[PyData.depth];omega⟩
theorem nP(r:P2):SeqAt.shaped (t2d r)=true:=by
 simp[t2d,SeqAt.shaped,PyData.canLay0,PyData.canLayAll0,PyData.depth,PyData.depthAll]
theorem mj(a b:P2):SeqAt.noMix (t2d a) (t2d b)=true:=by
 simp[t2d,SeqAt.noMix,SeqAt.noMixAll]
noncomputable def jQ:Sp:=fun vs H Q _=>∃x y w:Int,vs=[.int x,.int y,.int w] /\ w≠0 /\ Bd 8000 w /\
 ∀p a b c,H p=none ->IsPt x y w a b c ->Q (.ref p) (upd H p (.tup [.int a,.int b,.int c]))
noncomputable def jR:Sp:=fun vs H Q _=>∃(p:Addr) (a b:Int),vs=[.ref p] /\ H p=some (.tup [.int a,.int b]) /\ ∀t,H t=none ->Q (.ref t) (upd H t (.tup [.int a,.int b,.int 1]))
noncomputable def j9:Sp:=fun vs H Q _=>∃x w:Int,vs=[.int x,.int w] /\ w≠0 /\ Bd 8000 w /\
 ∀p a c,H p=none ->IsFr x w a c ->Q (.ref p) (upd H p (.tup [.int a,.int c]))
noncomputable def oZ:Sp:=fun vs H Q _=>∃(p q:Addr) (a b c d:Int),vs=[.ref p,.ref q] /\ H p=some (.tup [.int a,.int b]) /\ H q=some (.tup [.int c,.int d]) /\ (Bd 20000 a /\ Bd 20000 b /\ Bd 20000 c /\ Bd 20000 d) /\ Q (.bl (decide (a*d<c*b))) H
noncomputable def tR(a b c d e f:Int):Bool:=if¬(a*f-d*c=0) then decide (a*f-d*c<0) else decide (b*f<e*c)
noncomputable def ny:Sp:=fun vs H Q _=>∃(p q:Addr),vs=[.ref p,.ref q] /\ k7 (uD (H p)) fun x=>k7 (uD (H q)) fun y=>B3 2000 x /\ B3 2000 y /\ Q (.bl (tR x.1 x.2.1 x.2.2 y.1 y.2.1 y.2.2)) H
noncomputable def sqr(x:Int×Int×Int)(y:Int×Int):Int:=(x.1-y.1*x.2.2)^2+(x.2.1-y.2*x.2.2)^2
noncomputable def jt:Sp:=fun vs H Q _=>∃(p q:Addr),vs=[.ref p,.ref q] /\ k7 (uD (H p)) fun x=>k7 (wg (H q)) fun y=>B3 2000 x /\ B2 2000 y /\ Q (.int (sqr x y)) H
noncomputable def l5:Sp:=fun vs H Q _=>∃(p q:Addr),vs=[.ref p,.ref q] /\ k7 (uD (H p)) fun x=>k7 (wg (H q)) fun y=>B3 2000 x /\ B2 2000 y /\ 0<x.2.2 /\ ∀t a c,H t=none ->IsFr (sqr x y) (x.2.2^2) a c ->Q (.ref t) (upd H t (.tup [.int a,.int c]))
noncomputable def lD:Sp:=fun vs H Q _=>∃a b c:Int,vs=[.int a,.int b,.int c] /\ ¬(a=0 /\ b=0) /\ (Bd 4000 a /\ Bd 4000 b /\ Bd 4000 c) /\
 ∀p x y z,H p=none ->IsLn a b c x y z ->Q (.ref p) (upd H p (.tup [.int x,.int y,.int z]))
noncomputable def zB(x y:Int×Int)(H:Hp)(Q:VK):Prop:=¬x=y /\ ∀t,H t=none ->Q (.ref t) (upd H t (.tup [.int (lnB x y).1,.int (lnB x y).2.1,.int (lnB x y).2.2]))
noncomputable def jY:Sp:=fun vs H Q _=>∃(p q:Addr),vs=[.ref p,.ref q] /\ k7 (wg (H p)) fun x=>k7 (wg (H q)) fun y=>B2 400 x /\ B2 400 y /\ zB x y H Q
noncomputable def BI(x y:Int×Int×Int):Int:=x.1*y.1+x.2.1*y.2.1-x.2.2*y.2.2
noncomputable def l7:Sp:=fun vs H Q _=>∃(p q:Addr),vs=[.ref p,.ref q] /\ k7 (uD (H p)) fun x=>k7 (uD (H q)) fun y=>B3 2000 x /\ B3 2000 y /\ Q (.int (BI x y)) H
noncomputable def AZ(x y:Int×Int×Int)(H:Hp)(Q:VK):Prop:=(x.1*y.2.1=x.2.1*y.1 ->Q .non H) /\
 (¬x.1*y.2.1=x.2.1*y.1 -> ∀t a b c,H t=none ->IsPt (x.2.2*y.2.1-x.2.1*y.2.2) (x.1*y.2.2-x.2.2*y.1) (x.1*y.2.1-x.2.1*y.1) a b c ->Q (.ref t) (upd H t (.tup [.int a,.int b,.int c])))
noncomputable def oY:Sp:=fun vs H Q _=>∃(p q:Addr),vs=[.ref p,.ref q] /\ k7 (uD (H p)) fun x=>k7 (uD (H q)) fun y=>B3 1000 x /\ B3 1000 y /\ AZ x y H Q
noncomputable def lh:Sp:=fun vs H Q _=>∃(p:Addr) (x y u v:Int),vs=[.ref p] /\ H p=some (.tup [.int x,.int y,.int u,.int v]) /\ x<u /\ y<v /\ Q .non H
noncomputable def j1(C:Cz):Sp:=fun vs H Q E=>∃(p:Addr) (x y u v:Int),vs=[.ref p] /\ H p=some (.tup [.int x,.int y,.int u,.int v]) /\ ((x<u /\ y<v /\ Q .non H)∨(¬(x<u /\ y<v) /\ E (.ref C.NoBox) none H))
theorem xm{C:Cz}{vs:List V}{H:Hp}{Q:VK}{E:XK}(h:lh vs H Q E):j1 C vs H Q E:=by
 obtain⟨p,x,y,u,v,e,h1,h2,h3,h4⟩:=h
 exact⟨p,x,y,u,v,e,h1,.inl ⟨h2,h3,h4⟩⟩
noncomputable def qO(x y u v:Int)(z:P3):Bool:=decide (x*z.2.2<=z.1 /\ z.1<=u*z.2.2 /\ y*z.2.2<=z.2.1 /\ z.2.1<=v*z.2.2)
noncomputable def lg:Sp:=fun vs H Q _=>∃(p q:Addr) (x y u v:Int) (z:P3),vs=[.ref p,.ref q] /\ H p=some (.tup [.int x,.int y,.int u,.int v]) /\ H q=some (.tup [.int z.1,.int z.2.1,.int z.2.2]) /\ (Bd 2000 x /\ Bd 2000 y /\ Bd 2000 u /\ Bd 2000 v) /\ Bd 2000 z.2.2 /\ Q (.bl (qO x y u v z)) H
noncomputable def lE:Sp:=fun vs H Q _=>∃(p q:Addr) (x y u v a b:Int),vs=[.ref p,.ref q] /\ H p=some (.tup [.int x,.int y,.int u,.int v]) /\ H q=some (.tup [.int a,.int b]) /\ (Bd 2000 x /\ Bd 2000 y /\ Bd 2000 u /\ Bd 2000 v) /\ ∀H',Ext H H' ->Q (.bl (decide (x<=a /\ a<=u /\ y<=b /\ b<=v))) H'
noncomputable def jI(C:Cz):Sp:=fun vs H Q E=>∃(l:Addr) (xs:List V),vs=[.ref l] /\ H l=some (.lst xs) /\ ((0<xs.length /\ xs.length<=12 /\ Q .non H)∨(¬(0<xs.length /\ xs.length<=12) /\ E (.ref C.TooMany) none H))
structure LpOk(H:Hp)(l:Addr)(qs:List Addr)(rs:List P2):Prop where
 sp:H l=some (.lst (qs.map V.ref))
 at_:R2At H qs rs
 nd:rs.Nodup
 n0:0<rs.length
 n12:rs.length<=12
 sz:∀r∈rs,Bd 130 r.1 /\ Bd 130 r.2
theorem LpOk.ext{H H':Hp}{l:Addr}{qs:List Addr}{rs:List P2}(h:LpOk H l qs rs)(e:Ext H H'):LpOk H' l qs rs:=⟨e _ _ h.sp,h.at_.ext e,h.nd,h.n0,h.n12,h.sz⟩
theorem LpOk.get{H:Hp}{l:Addr}{qs:List Addr}{rs:List P2}(h:LpOk H l qs rs){i:Nat}{r:P2}(hi:rs[i]? =some r):∃q,qs[i]? =some q /\ H q=some (.tup [.int r.1,.int r.2]) /\ atI (qs.map V.ref) (i:Int)=some (.ref q) /\ Bd 130 r.1 /\ Bd 130 r.2:=by
 obtain⟨q,hq⟩:∃q,qs[i]? =some q:=⟨_,aa (by rw[h.at_.1];exact(ad.mp hi).1)⟩
 exact⟨q,hq,h.at_.2 i q r hq hi,jz (by rw[ax,hq];rfl),h.sz r (ah hi)⟩
noncomputable def FirstDup(rs:List P2)(i:Nat):Prop:=(rs.take i).Nodup /\ ∃r,rs[i]? =some r /\ r∈rs.take i
theorem oJ{rs:List P2}{i:Nat}{r:P2}:decide (Spec.countIn (t2d r) ((rs.take i).map t2d)≠0)=decide (r∈rs.take i):=by
 rw[<-any_eqv_countIn _ _ (fun y hy=>by obtain⟨z,_,rfl⟩:=ay.mp hy;exact mj z r)]
 by_cases h:r∈rs.take i
 ·rw[decide_eq_true h,io];exact⟨t2d r,ay.mpr ⟨r,h,rfl⟩,by show PyData.eqv (.tuple [.int r.1,.int r.2]) (.tuple [.int r.1,.int r.2])=true;rw[qS];simp⟩
 ·rw[decide_eq_false h,List.any_eq_false];intro y hy;obtain⟨z,hz,rfl⟩:=ay.mp hy
  show¬PyData.eqv (.tuple [.int z.1,.int z.2]) (.tuple [.int r.1,.int r.2])=true
  rw[qS,decide_eq_true_eq];rintro⟨e1,e2⟩;have ez:z=r:=cU e1 e2
  subst ez;exact h hz
theorem FirstDup.no{rs:List P2}(hn:rs.Nodup){i:Nat}(h:FirstDup rs i):False:=by
 obtain⟨_,r,h1,h2⟩:=h
 obtain⟨j,hj⟩:=aX h2
 have lj:=(ad.mp hj).1
 rw[aC] at lj;rw[bF (by omega)] at hj;obtain⟨g1,e1⟩:=ad.mp h1
 obtain⟨g2,e2⟩:=ad.mp hj
 have:=(cz (h₀:=g1) (h₁:=g2) hn).mp (e1.trans e2.symm)
 omega
theorem oH{rs:List P2}{i:Nat}{r:P2}(hn:(rs.take i).Nodup)(hi:rs[i]? =some r)(h:r∉rs.take i):(rs.take (i+1)).Nodup:=by
 rw[bD,hi];exact bf.mpr ⟨hn,by simp,fun a ha b hb e=>h (by simp at hb;rw[<-hb, <-e];exact ha)⟩
noncomputable def sD(K:ag)(C:Cz):Sp:=fun vs H Q E=>∃(l:Addr) (qs:List Addr) (rs:List P2),vs=[.ref l] /\ H l=some (.lst (qs.map V.ref)) /\ R2At H qs rs /\ (¬(0<rs.length /\ rs.length<=12) ->E (.ref C.TooMany) none H) /\
 (0<rs.length ->rs.length<=12 -> ∀H',Ext H H' ->(rs.Nodup ->Q .non H') /\ ∀i dx,FirstDup rs i ->H' dx=none ->E (.ref C.NoSpot) (some dx) (upd H' dx (.xd [("at",.int (i:Int))])))
noncomputable def ux(x y u v:Int)(r:P2):Prop:=x<=r.1 /\ r.1<=u /\ y<=r.2 /\ r.2<=v
noncomputable instance{x y u v:Int}{r:P2}:Decidable (ux x y u v r):=by unfold ux;infer_instance
noncomputable def xC(x y u v:Int)(rs:List P2)(i:Nat):Prop:=∃r,rs[i]? =some r /\ (¬ux x y u v r∨r∈rs.take i)
noncomputable def FirstBad(x y u v:Int)(rs:List P2)(i:Nat):Prop:=xC x y u v rs i /\ ∀j,j<i -> ¬xC x y u v rs j
noncomputable def AllOk(x y u v:Int)(rs:List P2):Prop:=∀j,¬xC x y u v rs j
theorem AllOk.ins{x y u v:Int}{rs:List P2}(h:AllOk x y u v rs):∀r∈rs,ux x y u v r:=fun r hr=>by
 obtain⟨j,hj⟩:=aX hr
 exact Classical.byContradiction fun z=>h j ⟨r,hj,.inl z⟩
theorem AllOk.nd{x y u v:Int}{rs:List P2}(h:AllOk x y u v rs):rs.Nodup:=by
 have key:∀k,k<=rs.length ->(rs.take k).Nodup:=by
  intro k
  induction k with
  |zero=>intro _;simp
  |succ k ih=>
   intro hk;have hi:rs[k]? =some rs[k]:=aa (by omega)
   exact oH (ih (by omega)) hi fun z=>h k ⟨_,hi,.inr z⟩
 have:=key rs.length (aI _)
 rwa [aW] at this
theorem AllOk.of{x y u v:Int}{rs:List P2}(h1:∀r∈rs,ux x y u v r)(h2:rs.Nodup):AllOk x y u v rs:=by
 rintro j ⟨r,hj,q|q⟩
 ·exact q (h1 r (ah hj))
 ·obtain⟨k,hk⟩:=aX q
  have lk:=(ad.mp hk).1
  rw[aC] at lk;rw[bF (by omega)] at hk;obtain⟨g1,e1⟩:=ad.mp hj
  obtain⟨g2,e2⟩:=ad.mp hk
  have:=(cz (h₀:=g1) (h₁:=g2) h2).mp (e1.trans e2.symm)
  omega
structure BxOk(H:Hp)(b l:Addr)(x y u v:Int)(qs:List Addr)(rs:List P2):Prop where
 bx:H b=some (.tup [.int x,.int y,.int u,.int v])
 sp:H l=some (.lst (qs.map V.ref))
 at_:R2At H qs rs
 b4:Bd 2000 x /\ Bd 2000 y /\ Bd 2000 u /\ Bd 2000 v
 few:rs.length<100000
theorem BxOk.ext{H H':Hp}{b l:Addr}{x y u v:Int}{qs:List Addr}{rs:List P2}(h:BxOk H b l x y u v qs rs)(e:Ext H H'):BxOk H' b l x y u v qs rs:=⟨e _ _ h.bx,e _ _ h.sp,h.at_.ext e,h.b4,h.few⟩
structure Vdt(C:Cz)(x y u v:Int)(rs:List P2)(H:Hp)(G:Hp ->Prop)(E:XK):Prop where
 box:¬(x<u /\ y<v) -> ∀H',Ext H H' ->E (.ref C.NoBox) none H'
 many:x<u ->y<v -> ¬(0<rs.length /\ rs.length<=12) -> ∀H',Ext H H' ->E (.ref C.TooMany) none H'
 spot:x<u ->y<v ->0<rs.length ->rs.length<=12 -> ∀i,FirstBad x y u v rs i -> ∀H' dx,Ext H H' ->H' dx=none ->E (.ref C.NoSpot) (some dx) (upd H' dx (.xd [("at",.int (i:Int))]))
 right:x<u ->y<v ->0<rs.length ->rs.length<=12 ->AllOk x y u v rs -> ∀H',Ext H H' ->G H'
noncomputable def uO(K:ag):Sp:=fun vs H Q _=>∃(b l:Addr) (x y u v:Int) (qs:List Addr) (rs:List P2),vs=[.ref b,.ref l] /\ SpOk H b l x y u v qs rs /\ ∀H',Ext H H' ->Q .non H'
noncomputable def nM(K:ag)(C:Cz):Sp:=fun vs H Q E=>∃(b l:Addr) (x y u v:Int) (qs:List Addr) (rs:List P2),vs=[.ref b,.ref l] /\ BxOk H b l x y u v qs rs /\ Vdt C x y u v rs H (fun H'=>Q .non H') E
theorem xl{K:ag}{C:Cz}{vs:List V}{H:Hp}{Q:VK}{E:XK}(h:uO K vs H Q E):nM K C vs H Q E:=by
 obtain⟨b,l,x,y,u,v,qs,rs,e,ok,h⟩:=h
 have z:=ok.sz
 have xu:=ok.xu
 have yv:=ok.yv
 have n0:=ok.n0
 have n12:=ok.n12
 have ao:AllOk x y u v rs:= .of ok.ins ok.nd
 exact⟨b,l,x,y,u,v,qs,rs,e,⟨ok.bx,ok.sp,ok.at_,⟨kO (by omega) (by omega) 2000,kO (by omega) (by omega) 2000,kO (by omega) (by omega) 2000,kO (by omega) (by omega) 2000⟩,by omega⟩,
  fun q=>(q ⟨xu,yv⟩).elim,fun _ _ q=>(q ⟨n0,n12⟩).elim,fun _ _ _ _ i f=>(ao i f.1).elim,fun _ _ _ _ _ H' x'=>h H' x'⟩
noncomputable def JsV(js:List Nat):List V:=js.map fun j:Nat=>V.int (j:Int)
theorem v9{js:List Nat}{k:Nat}{w:V}(hk:(JsV js)[k]? =some w):∃j:Nat,js[k]? =some j /\ w= .int (j:Int):=by
 unfold JsV at hk;rw[ax] at hk;cases e:js[k]? with
 |none=>rw[e] at hk;cases hk
 |some q=>rw[e] at hk;exact⟨q,rfl,(bA.inj hk).symm⟩
noncomputable def k9:Sp:=fun vs H Q _=>∃(l:Addr) (i:Nat) (xs:List V),vs=[.ref l,.int (i:Int)] /\ H l=some (.lst xs) /\ xs.length<=1000 /\ ∀D H',Ext H H' ->H D=none ->H' D=some (.lst (JsV (jC xs.length i))) ->Q (.ref D) H'
noncomputable def jX:Sp:=fun vs H Q _=>∃(p:Addr) (x y u v:Int),vs=[.ref p] /\ H p=some (.tup [.int x,.int y,.int u,.int v]) /\ x<u /\ y<v /\ ∀f c e qs H',Ext H H' ->NewF H f c e ->FldAt H' f c e qs (ky x y u v) ->Q (.ref f) H'
noncomputable def kR:Sp:=fun vs H Q _=>∃(p q:Addr) (h t:Int) (a b:P3),vs=[.ref p,.ref q,.int h,.int t] /\ H p=some (.tup [.int a.1,.int a.2.1,.int a.2.2]) /\ H q=some (.tup [.int b.1,.int b.2.1,.int b.2.2]) /\ B3 601 a /\ B3 601 b /\ Bd 3000 h /\ Bd 3000 t /\ a.2.2*t-b.2.2*h≠0 /\ ∀r,H r=none ->Q (.ref r) (upd H r (.tup [.int (jq a b h t).1,.int (jq a b h t).2.1,.int (jq a b h t).2.2]))
theorem vO{l:List Vx}{i:Nat}{a b:Vx}(ha:l[i]? =some a)(hb:l[(i+1)%l.length]? =some b):(edges l)[i]? =some (a,b):=by
 have li:=(ad.mp ha).1
 unfold edges;rw[bL];refine⟨ha,?_⟩;unfold MC.rot
 by_cases h:i+1<l.length
 ·rw[dO h] at hb;rw[aM (by rw[aV];omega),dj,gX];exact hb
 ·have e:i+1=l.length:=by omega
  rw[e,hJ] at hb;rw[aH (by rw[aV];omega),aV,show i-(l.length-1)=0 by omega,bF (by decide)];exact hb
theorem AK{m v:P3}(h1:B3 300 m)(h2:B3 601 v):Bd 3000 (ex m v):=(((h1.1.mul h2.1).add (h1.2.1.mul h2.2.1)).sub (h1.2.2.mul h2.2.2)).mono (by decide)
theorem w6(m:P3)(num:Int)(e:Vx×Vx):(lT m num e).length<=2:=by
 unfold lT;rw[al];have h1:(if ex m e.1.1<0∨(ex m e.1.1=0 /\ ex m e.2.1<=0) then[e.1] else if ex m e.1.1=0 then[(e.1.1,m,num)] else[]).length<=1:=by
  split
  ·simp
  ·split<;>simp
 have h2:(if ex m e.1.1<0 /\ 0<ex m e.2.1 then[(jq e.1.1 e.2.1 (ex m e.1.1) (ex m e.2.1),m,num)] else if 0<ex m e.1.1 /\ ex m e.2.1<0 then[(jq e.1.1 e.2.1 (ex m e.1.1) (ex m e.2.1),e.1.2)] else[]).length<=1:=by
  split
  ·simp
  ·split<;>simp
 omega
theorem tG(m:P3)(num:Int):∀es:List (Vx×Vx),(es.flatMap (lT m num)).length<=2*es.length
 |[]=>aI _
 |e::es=>by
  have h1:=w6 m num e
  have h2:=tG m num es
  rw[cj,al,bC];omega
theorem w8(m:P3)(num:Int)(l:List Vx)(i:Nat)(h:l.length<=30):(((edges l).take i).flatMap (lT m num)).length<=60:=by
 have h1:=tG m num ((edges l).take i)
 rw[aC,kh] at h1;omega
theorem RwAt.setL{H:Hp}{ts:List Addr}{R:List Vx}{L:Addr}{xs ys:List V}(h:RwAt H ts R)(hL:H L=some (.lst xs)):RwAt (upd H L (.lst ys)) ts R:=⟨h.1,fun i t v a b=>by
 obtain⟨q,h1,h2⟩:=h.2 i t v a b
 exact⟨q,(jd (mR h1 hL (by intro z;cases z))).trans h1,(jd (mR h2 hL (by intro z;cases z))).trans h2⟩⟩
theorem uX{H H5:Hp}{L p q:Addr}{ts:List Addr}{R:List Vx}{v:Vx}(hL:H L=none)(eL:H5 L=some (.lst (ts.map V.ref)))(x:Ext H H5)(r:RwAt H5 ts R)(hp:H5 p=none)(hq:H5 q=some (.tup [.int v.1.1,.int v.1.2.1,.int v.1.2.2])):
  upd H5 p (.tup [.ref q,.int v.2.2]) L=some (.lst (ts.map V.ref)) /\ RwAt (upd (upd H5 p (.tup [.ref q,.int v.2.2])) L (.lst (ts.map V.ref++[.ref p]))) (ts++[p]) (R++[v]) /\ Ext H (upd (upd H5 p (.tup [.ref q,.int v.2.2])) L (.lst (ts.map V.ref++[.ref p]))):=by
 have e:=iZ (o:= .tup [.ref q,.int v.2.2]) hp eL
 refine⟨e,?_,(x.then hp).set hL⟩;exact((r.ext (Ext.upd hp)).snoc iQ (iZ hp hq)).setL e
theorem mq(ts:List Addr)(p:Addr):ts.map V.ref++[.ref p]=(ts++[p]).map V.ref:=by simp
noncomputable def rA(K:ag):Sp:=fun vs H Q _=>∃(c e x:Addr) (num:Int) (qs:List Addr) (l:List Vx) (m:P3),vs=[.ref c,.ref e,.ref x,.int num] /\ H c=some (.lst (qs.map V.ref)) /\ CsAt H qs (l.map (·.1)) /\ H e=some (.lst ((l.map (·.2.2)).map V.int)) /\ H x=some (.lst ((l.map fun v=>ex m v.1).map V.int)) /\ (∀v∈l,0<v.1.2.2 /\ B3 601 v.1) /\ B3 300 m /\ 0<l.length /\ l.length<=30 /\ ∀t ts H',Ext H H' ->H t=none ->H' t=some (.lst (ts.map V.ref)) ->RwAt H' ts (jB m num l) ->Q (.ref t) H'
theorem v7(a b:P3):tR a.1 a.2.1 a.2.2 b.1 b.2.1 b.2.2=decide (Ahd a b):=by
 unfold tR Ahd;split
 ·rename_i h
  exact decide_eq_decide.mpr (by omega)
 ·rename_i h
  exact decide_eq_decide.mpr (by omega)
noncomputable def kP(K:ag):Sp:=fun vs H Q _=>∃(t:Addr) (ts:List Addr) (R:List Vx),vs=[.ref t] /\ H t=some (.lst (ts.map V.ref)) /\ RwAt H ts R /\ (∀v∈R,0<v.1.2.2 /\ B3 601 v.1) /\ 0<R.length /\ R.length<=60 /\ ∀f c e qs l' H',Ext H H' ->NewF H f c e ->FldAt H' f c e qs l' ->Rot R l' ->(∀v∈R,∀u∈l'.head?,¬Ahd v.1 u.1) ->Q (.ref f) H'
noncomputable def sC(K:ag):Sp:=fun vs H Q _=>∃(f ln:Addr) (num:Int) (c e:Addr) (qs:List Addr) (l:List Vx) (m:P3),vs=[.ref f,.ref ln,.int num] /\ FldAt H f c e qs l /\ H ln=some (.tup [.int m.1,.int m.2.1,.int m.2.2]) /\ Poly l /\ LnB 300 l /\ B3 300 m /\ l.length<=30 /\
 (∀H',Ext H H' ->(∀v∈l,0<=ex m v.1) ->(∃v∈l,0<ex m v.1) ->Q .non H') /\
 (∀f' c' e' qs' H',Ext H H' ->NewF H f' c' e' ->FldAt H' f' c' e' qs' l ->(∀v∈l,ex m v.1<=0) ->Q (.ref f') H') /\
 (∀f' c' e' qs' l' H',Ext H H' ->NewF H f' c' e' ->FldAt H' f' c' e' qs' l' ->(∃v∈l,0<ex m v.1) ->(∃v∈l,ex m v.1<0) ->Rot (jB m num l) l' ->(∀v∈jB m num l,∀u∈l'.head?,¬Ahd v.1 u.1) ->Q (.ref f') H')
noncomputable def lG(K:ag):Sp:=fun vs H Q _=>∃(f o c e:Addr) (ps:List Addr) (L:List Vx) (ts:List Addr) (cs:List Vx) (P:Nat ->List Vx ->Prop) (NN:Prop),vs=[.ref f,.ref o] /\ FldAt H f c e ps L /\ H o=some (.lst (ts.map V.ref)) /\ RwAt H ts cs /\ P 0 L /\
 (∀k w L',cs[k]? =some w ->P k L' ->Poly L' /\ LnB 300 L' /\ B3 300 w.1 /\ L'.length<=30 /\ ((∀v∈L',ex w.1 v.1<=0) ->P (k+1) L') /\ (∀l',(∃v∈L',0<ex w.1 v.1) ->(∃v∈L',ex w.1 v.1<0) ->Rot (jB w.1 w.2.2 L') l' ->(∀v∈jB w.1 w.2.2 L',∀u∈l'.head?,¬Ahd v.1 u.1) ->P (k+1) l') /\ ((∀v∈L',0<=ex w.1 v.1) ->(∃v∈L',0<ex w.1 v.1) ->NN)) /\
 (NN -> ∀H',Ext H H' ->Q .non H') /\ ∀f' c' e' ps' L' H',Ext H H' ->(NewF H f' c' e'∨(cs.length=0 /\ f'=f /\ c'=c /\ e'=e)) ->FldAt H' f' c' e' ps' L' ->P cs.length L' ->Q (.ref f') H'
noncomputable def mJ(K:ag):Sp:=fun vs H Q _=>∃(b l:Addr) (i:Nat) (x y u v:Int) (qs:List Addr) (rs:List P2) (r:P2),vs=[.ref b,.ref l,.int (i:Int)] /\ SpOk H b l x y u v qs rs /\ rs[i]? =some r /\
 (oi x y u v (j4 rs r i) -> ∀H',Ext H H' ->Q .non H') /\ ∀f c e ps L H',Ext H H' ->NewF H f c e ->FldAt H' f c e ps L ->CutsOk x y u v (j4 rs r i) L ->Q (.ref f) H'
noncomputable def zA(G:Hp)(D:Addr)(H:Hp)(x y u v:Int)(rs:List P2)(r:P2)(i:Nat)(w:V):Prop:=(w= .non /\ oi x y u v (j4 rs r i))∨∃f c e ps L,w= .ref f /\ c≠D /\ e≠D /\ FldAt H f c e ps L /\ CutsOk x y u v (j4 rs r i) L /\ NewF G f c e
noncomputable def FarsAt(G H:Hp)(vs:List V)(x y u v:Int)(rs:List P2):Prop:=vs.length=rs.length /\ ∀(i:Nat) (w:V) (r:P2),vs[i]? =some w ->rs[i]? =some r ->(w= .non /\ oi x y u v (j4 rs r i))∨∃f c e ps L,w= .ref f /\ FldAt H f c e ps L /\ CutsOk x y u v (j4 rs r i) L /\ NewF G f c e
theorem FarsAt.ext{G H H':Hp}{ws:List V}{x y u v:Int}{rs:List P2}(h:FarsAt G H ws x y u v rs)(e:Ext H H'):FarsAt G H' ws x y u v rs:=⟨h.1,fun i w r a b=>by
 rcases h.2 i w r a b with q|⟨f,c,e',ps,L,q1,q2,q3⟩
 ·exact .inl q
 ·exact .inr ⟨f,c,e',ps,L,q1,q2.ext e,q3⟩⟩
noncomputable def jU(K:ag):Sp:=fun vs H Q _=>∃(b l:Addr) (x y u v:Int) (qs:List Addr) (rs:List P2),vs=[.ref b,.ref l] /\ SpOk H b l x y u v qs rs /\ ∀t ws H',Ext H H' ->H t=none ->H' t=some (.lst ws) ->FarsAt H H' ws x y u v rs ->Q (.ref t) H'
noncomputable def kb(K:ag)(C:Cz):Sp:=fun vs H Q E=>∃(b l:Addr) (x y u v:Int) (qs:List Addr) (rs:List P2),vs=[.ref b,.ref l] /\ BxOk H b l x y u v qs rs /\ Vdt C x y u v rs H (fun H1=>((-(4*10^30)<=x /\ u<=4*10^30) /\ (-(4*10^30)<=y /\ v<=4*10^30)) /\ ∀t ws H',Ext H1 H' ->H1 t=none ->H' t=some (.lst ws) ->FarsAt H1 H' ws x y u v rs ->Q (.ref t) H') E
theorem FarsAt.back{G G' H:Hp}{ws:List V}{x y u v:Int}{rs:List P2}(h:FarsAt G' H ws x y u v rs)(e:Ext G G'):FarsAt G H ws x y u v rs:=⟨h.1,fun i w r a b=>by
 rcases h.2 i w r a b with q|⟨f,c,e',ps,L,q1,q2,q3,n⟩
 ·exact .inl q
 ·exact .inr ⟨f,c,e',ps,L,q1,q2,q3,⟨e.none n.nf,e.none n.nc,e.none n.ne,n.ce⟩⟩⟩
theorem kU{K:ag}{C:Cz}{vs:List V}{H:Hp}{Q:VK}{E:XK}(h:jU K vs H Q E):kb K C vs H Q E:=by
 obtain⟨b,l,x,y,u,v,qs,rs,e,ok,h⟩:=h
 have z:=ok.sz
 have xu:=ok.xu
 have yv:=ok.yv
 have n0:=ok.n0
 have n12:=ok.n12
 have ao:AllOk x y u v rs:= .of ok.ins ok.nd
 exact⟨b,l,x,y,u,v,qs,rs,e,⟨ok.bx,ok.sp,ok.at_,⟨kO (by omega) (by omega) 2000,kO (by omega) (by omega) 2000,kO (by omega) (by omega) 2000,kO (by omega) (by omega) 2000⟩,by omega⟩,
  fun q=>(q ⟨xu,yv⟩).elim,fun _ _ q=>(q ⟨n0,n12⟩).elim,fun _ _ _ _ i f=>(ao i f.1).elim,fun _ _ _ _ _ H' x'=>⟨z,fun t ws H2 x2 nt et fa=>h t ws H2 (x'.trans x2) (x'.none nt) et (fa.back x')⟩⟩
theorem qI{α:Type}(κ:α ->Int):∀(l:List α),0<l.length -> ∃(k:Nat) (a:α),l[k]? =some a /\ ∀b∈l,κ b<=κ a
 |[],h=>absurd h (cI _)
 |[a],_=>⟨0,a,rfl,fun b hb=>by rw[bO] at hb;rw[hb];exact cG _⟩
 |a::b::l,_=>by
  obtain⟨k,c,hk,hm⟩:=qI κ (b::l) (Nat.succ_pos _)
  by_cases h:κ c<=κ a
  ·refine⟨0,a,rfl,fun d hd=> ?_⟩;rcases av.mp hd with rfl|hd
   ·exact cG _
   ·exact fH (hm d hd) h
  ·refine⟨k+1,c,hk,fun d hd=> ?_⟩;rcases av.mp hd with rfl|hd
   ·omega
   ·exact hm d hd
noncomputable def FarM(rs:List P2)(z:P3)(M:Int):Prop:=(∃r∈rs,M=sqr z r) /\ ∀r∈rs,sqr z r<=M
noncomputable def sqV(H:Hp)(z:P3):V ->V
 | .ref q=>(match H q with
  |some (.tup [.int a,.int b])=> .int (sqr z (a,b))
  |_=> .non)
 |_=> .non
theorem rn{H:Hp}(z:P3):∀{qs:List Addr} {rs:List P2},R2At H qs rs ->(qs.map V.ref).map (sqV H z)=(rs.map (sqr z)).map V.int
 |[],[],_=>rfl
 |[],_::_,h=>by simp[R2At] at h
 |_::_,[],h=>by simp[R2At] at h
 |p::ps,c::cs,h=>by
  have e:=h.2 0 p c rfl rfl
  have ih:=rn z (qs:=ps) (rs:=cs) ⟨by simpa using h.1,fun i q z h1 h2=>h.2 (i+1) q z h1 h2⟩
  simp only[aJ,ih]
  congr 1
  simp only[sqV,e]
noncomputable def kQ(K:ag):Sp:=fun vs H Q _=>∃(l p:Addr) (qs:List Addr) (rs:List P2) (z:P3),vs=[.ref l,.ref p] /\ LpOk H l qs rs /\ H p=some (.tup [.int z.1,.int z.2.1,.int z.2.2]) /\ B3 2000 z /\ ∀t M H',Ext H H' ->H t=none ->H' t=some (.tup [.int M,.int (z.2.2^2)]) ->FarM rs z M ->Q (.ref t) H'
noncomputable def l6:Sp:=fun vs H Q _=>∃(p q:Addr),vs=[.ref p,.ref q] /\ k7 (wg (H p)) fun x=>k7 (wg (H q)) fun y=>∀t a b c,H t=none ->IsPt (x.1+y.1) (x.2+y.2) 2 a b c ->Q (.ref t) (upd H t (.tup [.int a,.int b,.int c]))
theorem sG{rs:List P2}(h:0<rs.length):rs[0]? =some (rs[0]):=aa h
noncomputable def IsC(c:P3):Prop:=0<c.2.2 /\ aE (aE c.1 c.2.1) c.2.2=1 /\ B3 2000 c /\ B3 1100 c
theorem vF{c:P3}(h1:0<c.2.2)(h2:aE (aE c.1 c.2.1) c.2.2=1)(b:B3 1100 c):IsC c:=⟨h1,h2,⟨b.1.mono (by decide),b.2.1.mono (by decide),b.2.2.mono (by decide)⟩,b⟩
structure CenOk(rs:List P2)(A:Nat ->Nat ->Prop)(B:Nat ->Nat ->Nat ->Prop)(cs:List P3):Prop where
 ok:∀c∈cs,IsC c
 one:∀r,rs[0]? =some r ->(r.1,r.2,1)∈cs
 two:∀i j p q,A i j ->rs[i]? =some p ->rs[j]? =some q -> ∃c∈cs,IsPt (p.1+q.1) (p.2+q.2) 2 c.1 c.2.1 c.2.2
 three:∀i j k p q s,B i j k ->rs[i]? =some p ->rs[j]? =some q ->rs[k]? =some s ->(q.1-p.1)*(s.2-p.2)≠(q.2-p.2)*(s.1-p.1) -> ∃c∈cs,sqr c p=sqr c q /\ sqr c p=sqr c s
theorem CenOk.mono{rs:List P2}{A A':Nat ->Nat ->Prop}{B B':Nat ->Nat ->Nat ->Prop}{cs:List P3}(h:CenOk rs A B cs)(h1:∀i j,A' i j ->A i j)(h2:∀i j k,B' i j k ->B i j k):CenOk rs A' B' cs:=
 ⟨h.ok,h.one,fun i j p q a=>h.two i j p q (h1 i j a),fun i j k p q s b=>h.three i j k p q s (h2 i j k b)⟩
theorem CenOk.put{rs:List P2}{A A':Nat ->Nat ->Prop}{B B':Nat ->Nat ->Nat ->Prop}{cs:List P3}(h:CenOk rs A B cs){c:P3}(hc:IsC c)(h1:∀i j p q,A' i j ->rs[i]? =some p ->rs[j]? =some q ->A i j∨IsPt (p.1+q.1) (p.2+q.2) 2 c.1 c.2.1 c.2.2)
  (h2:∀i j k p q s,B' i j k ->rs[i]? =some p ->rs[j]? =some q ->rs[k]? =some s ->B i j k∨(sqr c p=sqr c q /\ sqr c p=sqr c s)):CenOk rs A' B' (cs++[c]) where
 ok:=fun x hx=>by
  rcases aR.mp hx with q|q
  ·exact h.ok x q
  ·rw[bO] at q;rw[q];exact hc
 one:=fun r hr=>aO _ (h.one r hr)
 two:=fun i j p q a e1 e2=>by
  rcases h1 i j p q a e1 e2 with z|z
  ·obtain⟨x,hx,y⟩:=h.two i j p q z e1 e2
   exact⟨x,aO _ hx,y⟩
  ·exact⟨c,by simp,z⟩
 three:=fun i j k p q s b e1 e2 e3 n=>by
  rcases h2 i j k p q s b e1 e2 e3 with z|z
  ·obtain⟨x,hx,y⟩:=h.three i j k p q s z e1 e2 e3 n
   exact⟨x,aO _ hx,y⟩
  ·exact⟨c,by simp,z⟩
noncomputable def PA(a b:Nat)(i j:Nat):Prop:=j<i /\ (i<a∨(i=a /\ j<b))
noncomputable def PB(a b c:Nat)(i j k:Nat):Prop:=k<j /\ j<i /\ (i<a∨(i=a /\ (j<b∨(j=b /\ k<c))))
noncomputable def RcAt(rs:List P2)(H H':Hp)(D:Addr)(a b b' c n:Nat):Prop:=∃(ts:List Addr) (cs:List P3),Ext H H' /\ H' D=some (.lst (ts.map V.ref)) /\ CsAt H' ts cs /\ CenOk rs (PA a b) (PB a b' c) cs /\ cs.length<=n
theorem RcAt.mono{rs:List P2}{H H':Hp}{D:Addr}{a b b' c n a2 b2 b2' c2 n2:Nat}(h:RcAt rs H H' D a b b' c n)(h1:∀i j,PA a2 b2 i j ->PA a b i j)(h2:∀i j k,PB a2 b2' c2 i j k ->PB a b' c i j k)(h3:n<=n2):RcAt rs H H' D a2 b2 b2' c2 n2:=by
 obtain⟨ts,cs,x,e,hc,cen,l⟩:=h
 exact⟨ts,cs,x,e,hc,cen.mono h1 h2,bJ l h3⟩
noncomputable def Bq(H:Hp)(p q s:P2)(w:V):Prop:=(w= .non /\ (q.1-p.1)*(s.2-p.2)=(q.2-p.2)*(s.1-p.1))∨∃(t:Addr) (c:P3),w= .ref t /\ H t=some (.tup [.int c.1,.int c.2.1,.int c.2.2]) /\ IsC c /\ sqr c p=sqr c q /\ sqr c p=sqr c s
theorem vy{r s:P2}(h:¬r=s):∃g:Int,0<g /\ 2*(s.1-r.1)=g*(lnB r s).1 /\ 2*(s.2-r.2)=g*(lnB r s).2.1:=by
 have hab:¬(2*(s.1-r.1)=0 /\ 2*(s.2-r.2)=0):=fun q=>h (cU (by omega) (by omega))
 have L:=(pS (c:=s.1*s.1+s.2*s.2-r.1*r.1-r.2*r.2) hab).1
 have E:=pT L
 obtain⟨g,hg,e1,e2,e3,e4⟩:=L.ex
 rw[E.1] at e1;rw[E.2.1] at e2;exact⟨g,hg,e1,e2⟩
theorem yR{p q s:P2}(h1:¬p=q)(h2:¬p=s):(lnB p q).1*(lnB p s).2.1=(lnB p q).2.1*(lnB p s).1↔(q.1-p.1)*(s.2-p.2)=(q.2-p.2)*(s.1-p.1):=by
 obtain⟨g,hg,e1,e2⟩:=vy h1
 obtain⟨k,hk,f1,f2⟩:=vy h2
 have gk:=bp hg hk
 have id:4*((q.1-p.1)*(s.2-p.2)-(q.2-p.2)*(s.1-p.1))=(g*k)*((lnB p q).1*(lnB p s).2.1-(lnB p q).2.1*(lnB p s).1):=by
  have a:4*((q.1-p.1)*(s.2-p.2)-(q.2-p.2)*(s.1-p.1))=(2*(q.1-p.1))*(2*(s.2-p.2))-(2*(q.2-p.2))*(2*(s.1-p.1)):=by grind
  rw[a,e1,e2,f1,f2]
  grind
 constructor
 ·intro z;rw[z,Int.sub_self,b8] at id;omega
 ·intro z;rw[z,Int.sub_self,b8] at id;rcases bu.mp id.symm with y|y
  ·omega
  ·omega
theorem vx{x y:P3}{a b c:Int}(n:¬x.1*y.2.1=x.2.1*y.1)(h:IsPt (x.2.2*y.2.1-x.2.1*y.2.2) (x.1*y.2.2-x.2.2*y.1) (x.1*y.2.1-x.2.1*y.1) a b c):ex x (a,b,c)=0 /\ ex y (a,b,c)=0:=by
 have e1:=h.ex
 have e2:=h.ey
 have w0:x.1*y.2.1-x.2.1*y.1≠0:=fun z=>n (by omega)
 constructor
 ·have k:(x.1*y.2.1-x.2.1*y.1)*ex x (a,b,c)=0:=by unfold ex;dsimp only;grind
  exact(bu.mp k).resolve_left w0
 ·have k:(x.1*y.2.1-x.2.1*y.1)*ex y (a,b,c)=0:=by unfold ex;dsimp only;grind
  exact(bu.mp k).resolve_left w0
noncomputable def lH(K:ag):Sp:=fun vs H Q _=>∃(l:Addr) (qs:List Addr) (rs:List P2),vs=[.ref l] /\ LpOk H l qs rs /\ ∀t ts cs H',Ext H H' ->H t=none ->H' t=some (.lst (ts.map V.ref)) ->CsAt H' ts cs ->CenOk rs (PA rs.length 0) (PB rs.length 0 0) cs ->cs.length<=2000 ->Q (.ref t) H'
noncomputable def kg(ws:List Int)(n:Nat):List Int:=((eO n).filter fun i=>decide (∀a∈ws,a<=ws.getD i 0)).map fun i:Nat=>(i:Int)
theorem rL(ws:List Int)(n:Nat):kg ws (n+1)=if(∀a∈ws,a<=ws.getD n 0) then kg ws n++[(n:Int)] else kg ws n:=by
 unfold kg;rw[gx,ef,au]
 by_cases h:∀a∈ws,a<=ws.getD n 0
 ·have e:eZ (fun i=>decide (∀a∈ws,a<=ws.getD i 0)) [n]=[n]:=List.filter_eq_self.mpr fun i hi=>by
   obtain rfl:i=n:=by simpa using hi
   exact decide_eq_true h
  rw[if_pos h,e];rfl
 ·have e:eZ (fun i=>decide (∀a∈ws,a<=ws.getD i 0)) [n]=[]:=List.filter_eq_nil_iff.mpr fun i hi=>by
   obtain rfl:i=n:=by simpa using hi
   rw[decide_eq_true_eq];exact h
  rw[if_neg h,e,bR,aK]
theorem sO{ws:List Int}{M:Int}(hM:M∈ws)(hl:∀a∈ws,a<=M){n:Nat}(hn:n<ws.length):ws.getD n 0=M↔∀a∈ws,a<=ws.getD n 0:=by
 have hm:=lQ hn
 constructor
 ·intro e;rw[e];exact hl
 ·intro h;have h1:=h M hM
  have h2:=hl _ hm
  omega
open RG in
noncomputable def rp(z:P3):RG.Pt:=((z.1:Rat) /(z.2.2:Rat),(z.2.1:Rat) /(z.2.2:Rat))
noncomputable def spR(r:P2):RG.Pt:=((r.1:Rat),(r.2:Rat))
theorem rne{x:Int}(h:x≠0):(x:Rat)≠0:=fun q=>h (by exact_mod_cast q)
theorem tJ{z:P3}(hz:0<z.2.2)(r:P2):RG.dq (rp z) (spR r)=(sqr z r:Rat) /((z.2.2^2:Int):Rat):=by
 have n:=rne (dB hz)
 have e:sqr z r=(z.1-r.1*z.2.2)*(z.1-r.1*z.2.2)+(z.2.1-r.2*z.2.2)*(z.2.1-r.2*z.2.2):=by unfold sqr;grind
 have e2:z.2.2^2=z.2.2*z.2.2:=by grind
 rw[e,e2];simp only[Rat.intCast_add,Rat.intCast_mul,Rat.intCast_sub];unfold RG.dq rp spR;dsimp only;generalize(z.2.2:Rat)=W at n
 grind
structure RingOk(rs:List P2)(z:P3)(a b:Int):Prop where
 isC:IsC z
 ring:RG.Ring (rs.map spR) (rp z) ((a:Rat) /(b:Rat))
 b0:0<b
 low:aE a b=1
 bd:Bd 20000 a /\ Bd 5000 b
noncomputable def RowsAt(H:Hp)(rs:List P2)(ts:List Addr)(cs:List P3):Prop:=ts.length=cs.length /\ ∀(k:Nat) (t:Addr) (z:P3),ts[k]? =some t ->cs[k]? =some z -> ∃(c f:Addr) (M:Int),H t=some (.tup [.ref c,.ref f]) /\ H c=some (.tup [.int z.1,.int z.2.1,.int z.2.2]) /\ H f=some (.tup [.int M,.int (z.2.2^2)]) /\ FarM rs z M
theorem RowsAt.ext{H H':Hp}{rs:List P2}{ts:List Addr}{cs:List P3}(h:RowsAt H rs ts cs)(x:Ext H H'):RowsAt H' rs ts cs:=⟨h.1,fun k t z g1 g2=>by
 obtain⟨c,f,M,e1,e2,e3,fm⟩:=h.2 k t z g1 g2
 exact⟨c,f,M,x _ _ e1,x _ _ e2,x _ _ e3,fm⟩⟩
theorem RowsAt.setL{H:Hp}{rs:List P2}{ts:List Addr}{cs:List P3}(h:RowsAt H rs ts cs){D:Addr}{xs ys:List V}(hD:H D=some (.lst xs)):RowsAt (upd H D (.lst ys)) rs ts cs:=⟨h.1,fun k t z g1 g2=>by
 obtain⟨c,f,M,e1,e2,e3,fm⟩:=h.2 k t z g1 g2
 exact⟨c,f,M,(jd (mR e1 hD (by intro z;cases z))).trans e1,(jd (mR e2 hD (by intro z;cases z))).trans e2,(jd (mR e3 hD (by intro z;cases z))).trans e3,fm⟩⟩
theorem RowsAt.snoc{H:Hp}{rs:List P2}{ts:List Addr}{cs:List P3}(h:RowsAt H rs ts cs){t c f:Addr}{z:P3}{M:Int}(e1:H t=some (.tup [.ref c,.ref f]))(e2:H c=some (.tup [.int z.1,.int z.2.1,.int z.2.2]))(e3:H f=some (.tup [.int M,.int (z.2.2^2)]))(fm:FarM rs z M):RowsAt H rs (ts++[t]) (cs++[z]):=by
 refine⟨by rw[al,al,h.1];rfl,fun k t' z' a b=> ?_⟩
 by_cases hi:k<ts.length
 ·rw[aM hi] at a;rw[aM (by rw[<-h.1];exact hi)] at b;exact h.2 k t' z' a b
 ·rw[aH (by omega)] at a;rw[aH (by rw[<-h.1];omega), <-h.1] at b;have:k-ts.length=0:=by
   have:=(ad.mp a).1
   simp only[bC,bQ] at this;omega
  rw[this] at a b;cases a;cases b;exact⟨c,f,M,e1,e2,e3,fm⟩
theorem uM{z:P3}{r:P2}(h:B3 2000 z)(h1:Bd 130 r.1)(h2:Bd 130 r.2):Bd 20000 (sqr z r):=by
 have a:=(h.1.sub (h1.mul h.2.2)).sq
 have b:=(h.2.1.sub (h2.mul h.2.2)).sq
 exact(a.add b).mono (by decide)
noncomputable def LeastOf(rs:List P2)(cs:List P3)(n:Nat)(z:P3)(M:Int):Prop:=z∈cs /\ FarM rs z M /\ ∀k c N,k<n ->cs[k]? =some c ->FarM rs c N ->M*c.2.2^2<=N*z.2.2^2
theorem FarM.same{rs:List P2}{z:P3}{M N:Int}(h:FarM rs z M)(k:FarM rs z N):M=N:=by
 obtain⟨⟨r,hr,e⟩,h2⟩:=h
 obtain⟨⟨s,hs,f⟩,k2⟩:=k
 have:=h2 s hs
 have:=k2 r hr
 omega
noncomputable def Lst(H:Hp)(rs:List P2)(cs:List P3)(n:Nat)(t:Addr):Prop:=∃(z:P3) (c f:Addr) (M:Int),H t=some (.tup [.ref c,.ref f]) /\ H c=some (.tup [.int z.1,.int z.2.1,.int z.2.2]) /\ H f=some (.tup [.int M,.int (z.2.2^2)]) /\ LeastOf rs cs n z M
theorem LeastOf.keep{rs:List P2}{cs:List P3}{n:Nat}{z c:P3}{M N:Int}(h:LeastOf rs cs n z M)(hc:cs[n]? =some c)(hN:FarM rs c N)(q:¬N*z.2.2^2<M*c.2.2^2):LeastOf rs cs (n+1) z M:=by
 refine⟨h.1,h.2.1,fun k c' N' hk e hN'=> ?_⟩
 by_cases z:k<n
 ·exact h.2.2 k c' N' z e hN'
 ·have:k=n:=by omega
  subst this;rw[hc] at e;cases e;rw[hN'.same hN];omega
theorem LeastOf.take{rs:List P2}{cs:List P3}{n:Nat}{z c:P3}{M N:Int}(h:LeastOf rs cs n z M)(hz:0<z.2.2)(hc:cs[n]? =some c)(hN:FarM rs c N)(hc0:0<c.2.2)(q:N*z.2.2^2<M*c.2.2^2):LeastOf rs cs (n+1) c N:=by
 refine⟨ah hc,hN,fun k c' N' hk e hN'=> ?_⟩
 by_cases y:k<n
 ·have l:=h.2.2 k c' N' y e hN'
  have z2:0<z.2.2^2:=by rw[show z.2.2^2=z.2.2*z.2.2 by grind];exact bp hz hz
  have c2:0<=c.2.2^2:=by rw[show c.2.2^2=c.2.2*c.2.2 by grind];exact cX (bp hc0 hc0)
  have d2:0<=c'.2.2^2:=by
   rw[show c'.2.2^2=c'.2.2*c'.2.2 by grind];rcases g9 0 c'.2.2 with w|w
   ·exact dg w w
   ·have:=dg (show 0<= -c'.2.2 by omega) (show 0<= -c'.2.2 by omega);grind
  refine Int.le_of_mul_le_mul_left (a:=z.2.2^2) ?_ z2;have a1:=bX (cX q) d2
  have a2:=bX l c2
  generalize z.2.2^2=Z at*;generalize c.2.2^2=C at*;generalize c'.2.2^2=D at*;have e1:Z*(N*D)=N*Z*D:=by grind
  have e2:Z*(N'*C)=N'*Z*C:=by grind
  have e3:M*C*D=M*D*C:=by grind
  omega
 ·have:k=n:=by omega
  subst this;rw[hc] at e;cases e;rw[hN'.same hN];exact cG _
theorem FarM.ex{rs:List P2}(n0:0<rs.length)(z:P3):∃M,FarM rs z M:=by
 obtain⟨k,r,hr,hm⟩:=qI (sqr z) rs n0
 exact⟨_,⟨r,ah hr,rfl⟩,hm⟩
theorem vS{W A B:Rat}(w:0<W)(q:A<=B):A /W<=B /W:=by
 refine Classical.byContradiction fun z=> ?_
 have m:=Rat.mul_pos w (show 0<A /W-B /W by grind)
 have e:W*(A /W-B /W)=A-B:=by grind
 grind
theorem xk{m n x y:Rat}(a0:0<x)(b0:0<y)(q:m*y<=n*x):m /x<=n /y:=by
 refine Classical.byContradiction fun z=> ?_
 have h:=Rat.mul_pos (Rat.mul_pos a0 b0) (show 0<m /x-n /y by grind)
 have e:x*y*(m /x-n /y)=m*y-n*x:=by grind
 grind
theorem xU{rs:List P2}{c:P3}{N:Int}(hc:0<c.2.2)(h:FarM rs c N):(∀s∈rs.map spR,RG.dq (rp c) s<=(N:Rat) /((c.2.2^2:Int):Rat)) /\ ∃s∈rs.map spR,RG.dq (rp c) s=(N:Rat) /((c.2.2^2:Int):Rat):=by
 have w2:0<c.2.2^2:=by
  have e2:c.2.2^2=c.2.2*c.2.2:=by grind
  rw[e2];exact bp hc hc
 have w2r:(0:Rat)<((c.2.2^2:Int):Rat):=by exact_mod_cast w2
 constructor
 ·intro s hs;obtain⟨r,hr,rfl⟩:=ay.mp hs
  rw[tJ hc];have q:(sqr c r:Rat)<=(N:Rat):=by exact_mod_cast h.2 r hr
  generalize((c.2.2^2:Int):Rat)=W at w2r;generalize(sqr c r:Rat)=A at q;generalize(N:Rat)=B at q;exact vS w2r q
 ·obtain⟨⟨r,hr,e⟩,_⟩:=h
  exact⟨spR r,ay.mpr ⟨r,hr,rfl⟩,by rw[tJ hc,e]⟩
theorem y0{M N a b:Int}(ha:0<a)(hb:0<b)(h:M*b<=N*a):(M:Rat) /(a:Rat)<=(N:Rat) /(b:Rat):=by
 have a0:(0:Rat)<(a:Rat):=by exact_mod_cast ha
 have b0:(0:Rat)<(b:Rat):=by exact_mod_cast hb
 have q:(M:Rat)*(b:Rat)<=(N:Rat)*(a:Rat):=by
  rw[<-Rat.intCast_mul, <-Rat.intCast_mul]
  exact_mod_cast h
 generalize(M:Rat)=m at q;generalize(N:Rat)=n at q;generalize(a:Rat)=x at q a0;generalize(b:Rat)=y at q b0;exact xk a0 b0 q
theorem AN{c:P3}(hc:0<c.2.2){p q:P2}(h:sqr c p=sqr c q):RG.dq (rp c) (spR p)=RG.dq (rp c) (spR q):=by rw[tJ hc,tJ hc,h]
theorem wK{rs:List P2}(nd:rs.Nodup)(n0:0<rs.length){cs:List P3}(cen:CenOk rs (PA rs.length 0) (PB rs.length 0 0) cs){z:P3}{M:Int}(h:LeastOf rs cs cs.length z M):RG.Ring (rs.map spR) (rp z) ((M:Rat) /((z.2.2^2:Int):Rat)):=by
 have hS:rs.map spR≠[]:=fun q=>by
  have:=congrArg fB q
  rw[ae] at this;simp at this;rw[this] at n0;exact cI _ n0
 have ix:∀{a:RG.Pt},a∈rs.map spR -> ∃(i:Nat) (p:P2),rs[i]? =some p /\ a=spR p:=fun ha=>by
  obtain⟨p,hp,e⟩:=ay.mp ha
  obtain⟨i,hi⟩:=aX hp
  exact⟨i,p,hi,e.symm⟩
 have lt:∀{i:Nat} {p:P2},rs[i]? =some p ->i<rs.length:=fun hi=>(ad.mp hi).1
 have md:∀{c:P3} {p q:P2},IsC c ->IsPt (p.1+q.1) (p.2+q.2) 2 c.1 c.2.1 c.2.2 ->rp c=RG.mid (spR p) (spR q):=fun {c p q} ic hp=>by
  have e1:((c.1*2:Int):Rat)=(((p.1+q.1)*c.2.2:Int):Rat):=by rw[hp.ex]
  have e2:((c.2.1*2:Int):Rat)=(((p.2+q.2)*c.2.2:Int):Rat):=by rw[hp.ey]
  have n:=rne (dB ic.1)
  simp only[Rat.intCast_mul,Rat.intCast_add] at e1 e2;have t2:((2:Int):Rat)=2:=rfl
  rw[t2] at e1 e2;unfold rp RG.mid spR;dsimp only;generalize(c.2.2:Rat)=W at n e1 e2;exact cU (by dsimp only;grind) (by dsimp only;grind)
 obtain⟨hh,R,⟨c0,hc0,ec0⟩,ring⟩:=RG.ring_of hS (Cs:=fun p=>∃c∈cs,rp c=p)
  (fun a ha hall=>by
   refine⟨_,cen.one _ (sG n0),?_⟩;have e:=hall (spR rs[0]) (ay.mpr ⟨_,cE n0,rfl⟩)
   rw[<-e];unfold rp spR;have o:((1:Int):Rat)=1:=rfl
   dsimp only;rw[o];exact cU (by dsimp only;grind) (by dsimp only;grind))
  (fun a ha b hb ne=>by
   obtain⟨i,p,hi,rfl⟩:=ix ha
   obtain⟨j,q,hj,rfl⟩:=ix hb
   have li:=lt hi
   have lj:=lt hj
   rcases gV i j with z|z|z
   ·obtain⟨c,hc,e⟩:=cen.two j i q p ⟨z,.inl lj⟩ hj hi
    refine⟨c,hc,?_⟩;rw[md (cen.ok c hc) e];unfold RG.mid;exact cU (by dsimp only;grind) (by dsimp only;grind)
   ·subst z;rw[hi] at hj;cases hj;exact absurd rfl ne
   ·obtain⟨c,hc,e⟩:=cen.two i j p q ⟨z,.inl li⟩ hi hj
    exact⟨c,hc,md (cen.ok c hc) e⟩)
  (fun a ha b hb c hc n=>by
   obtain⟨i,p,hi,rfl⟩:=ix ha
   obtain⟨j,q,hj,rfl⟩:=ix hb
   obtain⟨k,s,hk,rfl⟩:=ix hc
   have li:=lt hi
   have lj:=lt hj
   have lk:=lt hk
   have ar:RG.ar2 (spR p) (spR q) (spR s)=(((q.1-p.1)*(s.2-p.2)-(q.2-p.2)*(s.1-p.1):Int):Rat):=by
    unfold RG.ar2 spR;simp only[Rat.intCast_mul,Rat.intCast_sub]
   have nz:(q.1-p.1)*(s.2-p.2)-(q.2-p.2)*(s.1-p.1)≠0:=fun z=>n (by rw[ar,z];rfl)
   have ij:i≠j:=fun z=>by subst z;rw[hi] at hj;cases hj;exact nz (by grind)
   have ik:i≠k:=fun z=>by subst z;rw[hi] at hk;cases hk;exact nz (by grind)
   have jk:j≠k:=fun z=>by subst z;rw[hj] at hk;cases hk;exact nz (by grind)
   have fin:∀c∈cs,sqr c p=sqr c q ->sqr c p=sqr c s -> ∃h,(∃c∈cs,rp c=h) /\ RG.dq h (spR p)=RG.dq h (spR q) /\ RG.dq h (spR p)=RG.dq h (spR s):=fun c hc e1 e2=>⟨rp c,⟨c,hc,rfl⟩,AN (cen.ok c hc).1 e1,AN (cen.ok c hc).1 e2⟩
   rcases(show(k<j /\ j<i)∨(j<k /\ k<i)∨(k<i /\ i<j)∨(i<k /\ k<j)∨(j<i /\ i<k)∨(i<j /\ j<k) by omega) with⟨z1,z2⟩|⟨z1,z2⟩|⟨z1,z2⟩|⟨z1,z2⟩|⟨z1,z2⟩|⟨z1,z2⟩
   ·obtain⟨c,hc,e1,e2⟩:=cen.three i j k p q s ⟨z1,z2,.inl li⟩ hi hj hk (fun w=>nz (by grind))
    exact fin c hc (by omega) (by omega)
   ·obtain⟨c,hc,e1,e2⟩:=cen.three i k j p s q ⟨z1,z2,.inl li⟩ hi hk hj (fun w=>nz (by grind))
    exact fin c hc (by omega) (by omega)
   ·obtain⟨c,hc,e1,e2⟩:=cen.three j i k q p s ⟨z1,z2,.inl lj⟩ hj hi hk (fun w=>nz (by grind))
    exact fin c hc (by omega) (by omega)
   ·obtain⟨c,hc,e1,e2⟩:=cen.three j k i q s p ⟨z1,z2,.inl lj⟩ hj hk hi (fun w=>nz (by grind))
    exact fin c hc (by omega) (by omega)
   ·obtain⟨c,hc,e1,e2⟩:=cen.three k i j s p q ⟨z1,z2,.inl lk⟩ hk hi hj (fun w=>nz (by grind))
    exact fin c hc (by omega) (by omega)
   ·obtain⟨c,hc,e1,e2⟩:=cen.three k j i s q p ⟨z1,z2,.inl lk⟩ hk hj hi (fun w=>nz (by grind))
    exact fin c hc (by omega) (by omega))
 obtain⟨hz,hM,hmin⟩:=h
 obtain⟨N,hN⟩:=FarM.ex n0 c0
 obtain⟨k,hk⟩:=aX hc0
 have le:=hmin k c0 N (ad.mp hk).1 hk hN
 have z0:=(cen.ok z hz).1
 have c00:=(cen.ok c0 hc0).1
 have sqp:∀{w:Int},0<w ->0<w^2:=fun {w} hw=>by
  have e2:w^2=w*w:=by grind
  rw[e2];exact bp hw hw
 have fl:=y0 (sqp z0) (sqp c00) le
 obtain⟨f1,s1,hs1,f2⟩:=xU z0 hM
 obtain⟨g1,s2,hs2,g2⟩:=xU c00 hN
 have NR:(N:Rat) /((c0.2.2^2:Int):Rat)<=R:=by
  rw[<-g2,ec0];exact ring.2 s2 hs2
 have ez:=ring.only (P:=rp z) fun s hs=>Rat.le_trans (f1 s hs) (Rat.le_trans fl NR)
 rw[ez];obtain⟨t,ht,e⟩:=ring.reach
 have e2:R=(M:Rat) /((z.2.2^2:Int):Rat):=by
  have q1:=f1 t ht
  rw[ez,e] at q1;exact Rat.le_antisymm q1 (Rat.le_trans fl NR)
 rw[<-e2];exact ring
theorem Bi{M W a b:Int}(k:IsFr M W a b)(w:W≠0):(a:Rat) /(b:Rat)=(M:Rat) /(W:Rat):=by
 have e:((a*W:Int):Rat)=((M*b:Int):Rat):=by rw[k.ex]
 rw[Rat.intCast_mul,Rat.intCast_mul] at e;have n1:=rne w
 have n2:=rne (dB k.pos)
 generalize(a:Rat)=A at e;generalize(M:Rat)=B at e;generalize(W:Rat)=C at e n1;generalize(b:Rat)=D at e n2
 grind
theorem vt{rs:List P2}{z:P3}{M:Int}(n0:0<rs.length)(h:FarM rs z M):∃(i:Nat) (r:P2),rs[i]? =some r /\ sqr z r=M /\ atI ((kg (rs.map (sqr z)) rs.length).map V.int) 0=some (.int (i:Int)):=by
 obtain⟨⟨r,hr,e⟩,hm⟩:=h
 obtain⟨j,hj⟩:=aX hr
 have gd:∀{k:Nat} {s:P2},rs[k]? =some s ->(rs.map (sqr z)).getD k 0=sqr z s:=fun hk=>by
  rw[bq,ax,hk];rfl
 have mem:(j:Nat)∈(eO rs.length).filter fun i=>decide (∀a∈rs.map (sqr z),a<=(rs.map (sqr z)).getD i 0):=by
  refine cN.mpr ⟨e8.mpr (ad.mp hj).1,decide_eq_true fun a ha=> ?_⟩;obtain⟨s,hs,rfl⟩:=ay.mp ha
  rw[gd hj, <-e];exact hm s hs
 cases hl:(eO rs.length).filter (fun i=>decide (∀a∈rs.map (sqr z),a<=(rs.map (sqr z)).getD i 0)) with
 |nil=>rw[hl] at mem;cases mem
 |cons i l=>
  have mi:i∈(eO rs.length).filter fun i=>decide (∀a∈rs.map (sqr z),a<=(rs.map (sqr z)).getD i 0):=by rw[hl];simp
  obtain⟨m1,m2⟩:=cN.mp mi
  have li:=e8.mp m1
  have m2:=of_decide_eq_true m2
  refine⟨i,rs[i],aa li,?_,?_⟩
  ·have a1:=m2 (sqr z r) (ay.mpr ⟨r,hr,rfl⟩)
   rw[gd (aa li)] at a1;have a2:=hm rs[i] (cE li)
   omega
  ·unfold kg;rw[hl];exact jz (j:=0) rfl
noncomputable def rz(K:ag):Sp:=fun vs H Q _=>∃(l:Addr) (qs:List Addr) (rs:List P2),vs=[.ref l] /\ LpOk H l qs rs /\ ∀t tc tp to z a b H',Ext H H' ->H' t=some (.tup [.ref tc,.ref tp,.ref to]) ->H' tc=some (.tup [.int z.1,.int z.2.1,.int z.2.2]) ->H' tp=some (.tup [.int a,.int b]) ->H' to=some (.lst ((kg (rs.map (sqr z)) rs.length).map V.int)) ->RingOk rs z a b ->H to=none ->Q (.ref t) H'
noncomputable def oX(K:ag)(C:Cz):Sp:=fun vs H Q E=>∃(l:Addr) (qs:List Addr) (rs:List P2),vs=[.ref l] /\ H l=some (.lst (qs.map V.ref)) /\ R2At H qs rs /\ (∀r∈rs,Bd 130 r.1 /\ Bd 130 r.2) /\ (¬(0<rs.length /\ rs.length<=12) ->E (.ref C.TooMany) none H) /\
 (0<rs.length ->rs.length<=12 -> ∀H',Ext H H' -> ∀i dx,FirstDup rs i ->H' dx=none ->E (.ref C.NoSpot) (some dx) (upd H' dx (.xd [("at",.int (i:Int))]))) /\
 (0<rs.length ->rs.length<=12 ->rs.Nodup -> ∀t tc tp to z a b H',Ext H H' ->H' t=some (.tup [.ref tc,.ref tp,.ref to]) ->H' tc=some (.tup [.int z.1,.int z.2.1,.int z.2.2]) ->H' tp=some (.tup [.int a,.int b]) ->H' to=some (.lst ((kg (rs.map (sqr z)) rs.length).map V.int)) ->RingOk rs z a b ->H to=none ->Q (.ref t) H')
theorem u6{K:ag}{C:Cz}{vs:List V}{H:Hp}{Q:VK}{E:XK}(h:rz K vs H Q E):oX K C vs H Q E:=by
 obtain⟨l,qs,rs,e,ok,h⟩:=h
 exact⟨l,qs,rs,e,ok.sp,ok.at_,ok.sz,fun n=>absurd ⟨ok.n0,ok.n12⟩ n,fun _ _ H' _ i dx fd=>(fd.no ok.nd).elim,fun _ _ _=>h⟩
noncomputable def A0(rs:List P2)(r:P2)(j:Nat):Vx:=(lnB r (rs.getD j (0,0)),lnB r (rs.getD j (0,0)),(j:Int))
theorem sr{rs:List P2}{r s:P2}{j:Nat}(h:rs[j]? =some s):A0 rs r j=(lnB r s,lnB r s,(j:Int)):=by
 unfold A0;rw[bq,h];rfl
theorem nodup_ne{α:Type}{rs:List α}(nd:rs.Nodup){i j:Nat}{r s:α}(hi:rs[i]? =some r)(hj:rs[j]? =some s)(ne:j≠i):r≠s:=fun z=>by
 subst z;have h1:=ad.mp hi
 have h2:=ad.mp hj
 exact ne ((cz (h₀:=h2.1) (h₁:=h1.1) nd).mp (h2.2.trans h1.2.symm))
theorem wF{js:List Nat}(nd:js.Nodup){k j:Nat}(hj:js[k]? =some j):j∉js.take k:=fun z=>by
 obtain⟨k',hk'⟩:=aX z
 have lk:=(ad.mp hk').1
 rw[aC] at lk;rw[bF (by omega)] at hk';have h1:=ad.mp hj
 have h2:=ad.mp hk'
 have:=(cz (h₀:=h1.1) (h₁:=h2.1) nd).mp (h1.2.trans h2.2.symm)
 omega
noncomputable def nL(K:ag):Sp:=fun vs H Q _=>∃(f l:Addr) (i:Nat) (o b:Addr) (x y u v:Int) (qs:List Addr) (rs:List P2) (c e:Addr) (ps:List Addr) (L:List Vx) (r:P2) (j0 js:List Nat),vs=[.ref f,.ref l,.int (i:Int),.ref o] /\ SpOk H b l x y u v qs rs /\ FldAt H f c e ps L /\ LandOk x y u v rs r j0 L /\ rs[i]? =some r /\ H o=some (.lst (JsV js)) /\ js.Nodup /\ j0.length+js.length<=12 /\ (∀j∈js,j<rs.length /\ j≠i /\ j∉j0) /\ (∀j∈j0,j≠i) /\
 ∀f' c' e' ps' L' H',Ext H H' ->(NewF H f' c' e'∨(js.length=0 /\ f'=f /\ c'=c /\ e'=e)) ->FldAt H' f' c' e' ps' L' ->LandOk x y u v rs r (j0++js) L' ->Q (.ref f') H'
noncomputable def pb(K:ag):Sp:=fun vs H Q _=>∃(b l:Addr) (i:Nat) (x y u v:Int) (qs:List Addr) (rs:List P2) (r:P2),vs=[.ref b,.ref l,.int (i:Int)] /\ SpOk H b l x y u v qs rs /\ rs[i]? =some r /\
 ∀f c e ps L H',Ext H H' ->NewF H f c e ->FldAt H' f c e ps L ->LandOk x y u v rs r (jC rs.length i) L ->Q (.ref f) H'
noncomputable def ss(H0 H:Hp)(fs:List Addr)(x y u v:Int)(rs:List P2):Prop:=∀(i:Nat) (f:Addr),fs[i]? =some f -> ∃c e ps L r,rs[i]? =some r /\ FldAt H f c e ps L /\ LandOk x y u v rs r (jC rs.length i) L /\ NewF H0 f c e
theorem FldAt.setL{H:Hp}{f c e:Addr}{ps:List Addr}{L:List Vx}(h:FldAt H f c e ps L){D:Addr}{ys:List V}(h1:c≠D)(h2:e≠D){xs:List V}(hD:H D=some (.lst xs)):FldAt (upd H D (.lst ys)) f c e ps L:=
 ⟨(jd (mR h.at_ hD (by intro z;cases z))).trans h.at_,(jd h1).trans h.cs,h.pt.setL hD,(jd h2).trans h.es⟩
noncomputable def nu(K:ag):Sp:=fun vs H Q _=>∃(b l:Addr) (x y u v:Int) (qs:List Addr) (rs:List P2),vs=[.ref b,.ref l] /\ SpOk H b l x y u v qs rs /\ ∀t fs H',Ext H H' ->H t=none ->H' t=some (.lst (fs.map V.ref)) ->fs.length=rs.length ->ss H H' fs x y u v rs ->Q (.ref t) H'
noncomputable abbrev fdL(c:Addr)(n l:Int):List (Key×V):=[(Sum.inr "cells",.ref c),(Sum.inr "at",.int n),(Sum.inr "left",.int l)]
theorem wX(c:Addr)(n l:Int):rm (fdL c n l) (Sum.inr "cells")=some (.ref c):=rfl
theorem Bm(c:Addr)(n l:Int):rm (fdL c n l) (Sum.inr "at")=some (.int n):=rfl
theorem zd(c:Addr)(n l:Int):rm (fdL c n l) (Sum.inr "left")=some (.int l):=rfl
theorem wW(c:Addr)(n l m:Int):qe (fdL c n l) (Sum.inr "at") (.int m)=fdL c m l:=rfl
theorem ui(c:Addr)(n l m:Int):qe (fdL c n l) (Sum.inr "left") (.int m)=fdL c n m:=rfl
noncomputable def FD(c:Addr)(b:Nat)(H:Hp)(p:Addr):Prop:=∃(ns:List Int) (n:Nat) (l:Int),H p=some (.dK (fdL c n l)) /\ H c=some (.lst (ns.map V.int)) /\ ns.length<=63 /\ n<=b
structure DX(c:Addr)(b:Nat)(p:Addr)(H H':Hp):Prop where
 feed:FD c b H' p
 keep:∀q o,q≠p ->H q=some o ->H' q=some o
theorem DX.trans{e:Addr}{a b:Nat}{p:Addr}{H H1 H2:Hp}(x:DX e a p H H1)(y:DX e b p H1 H2):DX e b p H H2:=⟨y.feed,fun c o hc h=>y.keep c o hc (x.keep c o hc h)⟩
theorem DX.refl{e:Addr}{b:Nat}{p:Addr}{H:Hp}(h:FD e b H p):DX e b p H H:=⟨h,fun _ _ _ h=>h⟩
theorem FD.ext{e:Addr}{b:Nat}{p:Addr}{H H':Hp}(h:FD e b H p)(x:Ext H H'):FD e b H' p:=by
 obtain⟨ns,n,l,h1,h2,h3,h4⟩:=h
 exact⟨ns,n,l,x _ _ h1,x _ _ h2,h3,h4⟩
theorem FD.upd{e:Addr}{b:Nat}{p q:Addr}{H:Hp}{o:HO}(h:FD e b H p)(hq:H q=none):FD e b (L2.upd H q o) p:=h.ext (Ext.upd hq)
theorem DX.ext{e:Addr}{b:Nat}{p:Addr}{H H1 H2:Hp}(d:DX e b p H H1)(x:Ext H1 H2):DX e b p H H2:=⟨d.feed.ext x,fun q o hq e=>x _ _ (d.keep q o hq e)⟩
theorem DX.upd{e:Addr}{b:Nat}{p q:Addr}{H H1:Hp}{o:HO}(a:DX e b p H H1)(h:H1 q=none):DX e b p H (L2.upd H1 q o):=a.ext (Ext.upd h)
theorem FD.mono{e:Addr}{a b:Nat}{p:Addr}{H:Hp}(h:FD e a H p)(hab:a<=b):FD e b H p:=by
 obtain⟨ns,n,l,h1,h2,h3,h4⟩:=h
 exact⟨ns,n,l,h1,h2,h3,by omega⟩
theorem DX.mono{e:Addr}{a b:Nat}{p:Addr}{H H':Hp}(h:DX e a p H H')(hab:a<=b):DX e b p H H':=⟨h.feed.mono hab,h.keep⟩
theorem FD.ne{e:Addr}{b:Nat}{p t:Addr}{H:Hp}(h:FD e b H p)(ht:H t=none):t≠p:=by
 obtain⟨ns,n,l,h1,_⟩:=h
 rintro rfl;rw[h1] at ht;cases ht
theorem FD.nc{e:Addr}{b:Nat}{p t:Addr}{H:Hp}(h:FD e b H p)(ht:H t=none):t≠e:=by
 obtain⟨ns,n,l,h1,h2,_⟩:=h
 rintro rfl;rw[h2] at ht;cases ht
theorem FD.tup{e:Addr}{b:Nat}{H:Hp}{p q:Addr}{xs:List V}(f:FD e b H p)(h:H q=some (.tup xs)):q≠p:=by
 obtain⟨ns,n,l,h1,_⟩:=f
 exact mR h h1 (by intro z;cases z)
theorem FD.lst{e:Addr}{b:Nat}{H:Hp}{p q:Addr}{xs:List V}(f:FD e b H p)(h:H q=some (.lst xs)):q≠p:=by
 obtain⟨ns,n,l,h1,_⟩:=f
 exact mR h h1 (by intro z;cases z)
theorem FD.set{e:Addr}{b:Nat}{p D:Addr}{H:Hp}{o:HO}(f:FD e b H p)(h1:D≠p)(h2:D≠e):FD e b (L2.upd H D o) p:=by
 obtain⟨ns,n,l,g1,g2,r⟩:=f
 exact⟨ns,n,l,(jd h1.symm).trans g1,(jd h2.symm).trans g2,r⟩
theorem DX.set{e:Addr}{b b0:Nat}{p D:Addr}{H H1:Hp}{o:HO}(d:DX e b p H H1)(hD:H D= .none)(f:FD e b0 H p):DX e b p H (L2.upd H1 D o):=⟨d.feed.set (f.ne hD) (f.nc hD),fun q u hq e=>by rw[jd (jm e hD)];exact d.keep q u hq e⟩
theorem DX.none{e:Addr}{b:Nat}{p t:Addr}{H H':Hp}(x:DX e b p H H')(h:H' t=none):H t=none:=by
 by_cases c:t=p
 ·obtain⟨ns,n,l,h1,_⟩:=x.feed
  rw[c,h1] at h;cases h
 ·cases q:H t with
  |none=>rfl
  |some o=>
   rw[x.keep t o c q] at h;cases h
noncomputable def pc(K:ag):Sp:=fun vs H Q _=>∃(a:Addr) (ns:List Int),vs=[.ref a] /\ SqL K H a (ns.map V.int) /\ ns.length<=63 /\ ∀p c H',Ext H H' ->H p=none ->FD c 0 H' p ->Q (.ref p) H'
noncomputable def jx:Sp:=fun vs H Q _=>∃(p:Addr) (m:Int) (c:Addr) (b:Nat),vs=[.ref p,.int m] /\ FD c b H p /\ b<=1000000 /\ 0<m /\ m<=100000 /\ ∀r H',0<=r ->r<m ->DX c (b+1) p H H' ->Q (.int r) H'
noncomputable def nv:Sp:=fun vs H Q _=>∃(p:Addr) (k:Nat) (c:Addr) (b:Nat),vs=[.ref p,.int k] /\ FD c b H p /\ b<=100000 /\ k<=5 /\ ∀(r:Int) H',0<=r ->r<100000^k ->DX c (b+k) p H H' ->Q (.int r) H'
noncomputable def nr:Sp:=fun vs H Q _=>∃(p c:Addr) (b:Nat),vs=[.ref p] /\ FD c b H p /\ b<=10000 /\ ∀t m r u H',DX c (b+25) p H H' ->H' t=some (.tup [.int m,.int r,.int u]) ->(1<=m /\ m<=10^20) ->(-(10^25)<=r /\ r<=10^25) ->(-(10^25)<=u /\ u<=10^25) ->Q (.ref t) H'
theorem yd{xs:List Int}{r:Int}(h0:0<=r)(h1:r<xs.length):∃x,atI (xs.map V.int) r=some (.int x) /\ x∈xs:=by
 obtain⟨n,rfl⟩:=fX h0
 have hn:n<xs.length:=by omega
 exact⟨xs[n],jz (by rw[ax,aa hn];rfl),cE hn⟩
theorem atI_get{xs:List Int}{n:Nat}(h1:n<xs.length):∃x,atI (xs.map V.int) (n:Int)=some (.int x) /\ some x=xs[n]? :=
 ⟨xs[n],jz (by rw[ax,aa h1];rfl),(aa h1).symm⟩
noncomputable def oW:Sp:=fun vs H Q _=>∃(p:Addr) (st:Int) (c:Addr) (b:Nat),vs=[.ref p,.int st] /\ FD c b H p /\ b<=10000 /\ 0<=st /\ st<=5 /\ ∀t x y H',DX c (b+2) p H H' ->H' t=some (.tup [.int x,.int y]) ->(0<=x /\ x<=12) ->(0<=y /\ y<=12) ->Q (.ref t) H'
noncomputable def dzX:List Int:=[10,9,8,5,2,1,0,1,2,5,8,9]
noncomputable def dzY:List Int:=[5,8,9,10,9,8,5,2,1,0,1,2]
noncomputable def DzOk(way:Int)(k:Nat)(r:P2):Prop:=if way=0 then r=((k:Int)%4,(k:Int) /4) else if way=1 then some r.1=dzX[k]? /\ some r.2=dzY[k]? else r.1=k /\ 0<=r.2 /\ r.2<=10
theorem DzOk.inj{way:Int}{i j:Nat}{r:P2}(hi:i<12)(hj:j<12)(h1:DzOk way i r)(h2:DzOk way j r):i=j:=by
 unfold DzOk at h1 h2;split at h1
 ·rename_i c
  rw[if_pos c] at h2;have:=h1.symm.trans h2
  simp only[dR.injEq] at this;omega
 ·rename_i c
  rw[if_neg c] at h2;split at h1
  ·rename_i c2
   rw[if_pos c2] at h2;have e1:=h1.1.symm.trans h2.1
   have e2:=h1.2.symm.trans h2.2
   have key:∀i j:Fin 12,dzX[i.val]? =dzX[j.val]? ->dzY[i.val]? =dzY[j.val]? ->i=j:=by unfold dzX dzY;decide
   have:=key ⟨i,hi⟩ ⟨j,hj⟩ e1 e2
   exact congrArg Fin.val this
  ·rename_i c2
   rw[if_neg c2] at h2;omega
theorem DzOk.bd{way:Int}{i:Nat}{r:P2}(hi:i<12)(h:DzOk way i r):(0<=r.1 /\ r.1<=12) /\ (0<=r.2 /\ r.2<=12):=by
 unfold DzOk at h;split at h
 ·subst h;dsimp only;omega
 ·split at h
  ·have key:∀i:Fin 12,∀x,some x=dzX[i.val]? ->0<=x /\ x<=12:=by
    intro i x hx;have m:=ah hx.symm
    have bx:∀x∈dzX,0<=x /\ x<=12:=by unfold dzX;decide
    exact bx x m
   have key2:∀i:Fin 12,∀x,some x=dzY[i.val]? ->0<=x /\ x<=12:=by
    intro i x hx;have m:=ah hx.symm
    have bx:∀x∈dzY,0<=x /\ x<=12:=by unfold dzY;decide
    exact bx x m
   exact⟨key ⟨i,hi⟩ _ h.1,key2 ⟨i,hi⟩ _ h.2⟩
  ·omega
theorem R2At.drop{H:Hp}{qs:List Addr}{rs:List P2}(h:R2At H qs rs)(k:Nat):R2At H (qs.drop k) (rs.drop k):=by
 refine⟨by rw[aV,aV,h.1],fun i q z h1 h2=> ?_⟩;rw[dj] at h1 h2;exact h.2 _ q z h1 h2
theorem R2At.append{H:Hp}{qs qs':List Addr}{rs rs':List P2}(h:R2At H qs rs)(h':R2At H qs' rs'):R2At H (qs++qs') (rs++rs'):=by
 refine⟨by rw[al,al,h.1,h'.1],fun i q z h1 h2=> ?_⟩
 by_cases hi:i<qs.length
 ·rw[aM hi] at h1;rw[aM (by rw[<-h.1];exact hi)] at h2;exact h.2 i q z h1 h2
 ·rw[aH (by omega)] at h1;rw[aH (by rw[<-h.1];omega), <-h.1] at h2;exact h'.2 _ q z h1 h2
theorem R2At.one{H:Hp}{q:Addr}{r:P2}(h:H q=some (.tup [.int r.1,.int r.2])):R2At H [q] [r]:=⟨rfl,fun i q' z h1 h2=>by
 match i,h1,h2 with
 |0,h1,h2=>cases h1;cases h2;exact h⟩
theorem R2At.setL{H:Hp}{qs:List Addr}{R:List P2}{L:Addr}{xs ys:List V}(h:R2At H qs R)(hL:H L=some (.lst xs)):R2At (upd H L (.lst ys)) qs R:=⟨h.1,fun i t v a b=>by
 have h1:=h.2 i t v a b
 exact(jd (mR h1 hL (by intro z;cases z))).trans h1⟩
theorem R2At.dx{e:Addr}{b:Nat}{p:Addr}{H H':Hp}{qs:List Addr}{R:List P2}(h:R2At H qs R){b0:Nat}(f:FD e b0 H p)(d:DX e b p H H'):R2At H' qs R:=⟨h.1,fun i t v a c=>d.keep _ _ (f.tup (h.2 i t v a c)) (h.2 i t v a c)⟩
theorem rH{rs:List P2}{P:Nat ->P2 ->Prop}(h:∀i r,rs[i]? =some r ->P i r)(inj:∀i j r,i<rs.length ->j<rs.length ->P i r ->P j r ->i=j):rs.Nodup:=by
 rw[fE,List.pairwise_iff_getElem];intro i j hi hj hij e;have e1:rs[i]? =some rs[i]:=aa hi
 have e2:rs[j]? =some rs[i]:=by rw[aa hj,e]
 have:=inj i j _ hi hj (h i _ e1) (h j _ e2)
 omega
theorem vq{α:Type}{l:List α}(h:l.Nodup)(k:Nat):(l.drop k++l.take k).Nodup:=by
 have:(l.drop k++l.take k).Perm l:=by
  have:=List.perm_append_comm (l₁:=l.drop k) (l₂:=l.take k)
  rwa [dA] at this
 exact this.nodup_iff.mpr h
noncomputable def nw:Sp:=fun vs H Q _=>∃(p c:Addr) (b:Nat),vs=[.ref p] /\ FD c b H p /\ b<=1000 /\ ∀D qs rs H',DX c (b+20) p H H' ->H D=none ->H' D=some (.lst (qs.map V.ref)) ->R2At H' qs rs ->rs.Nodup ->10<=rs.length ->rs.length<=12 ->(∀r∈rs,(0<=r.1 /\ r.1<=12) /\ (0<=r.2 /\ r.2<=12)) ->Q (.ref D) H'
theorem AH(rs:List P2)(r:P2):decide (Spec.countIn (t2d r) (rs.map t2d)≠0)=decide (r∈rs):=by
 rw[<-any_eqv_countIn _ _ (fun y hy=>by obtain⟨z,_,rfl⟩:=ay.mp hy;exact mj z r)];rw[iu,io,decide_eq_true_eq];constructor
 ·rintro⟨y,hy,e⟩;obtain⟨z,hz,rfl⟩:=ay.mp hy
  have e':PyData.eqv (.tuple [.int z.1,.int z.2]) (.tuple [.int r.1,.int r.2])=true:=e
  rw[qS,decide_eq_true_eq] at e';have:z=r:=cU e'.1 e'.2
  rw[<-this];exact hz
 ·intro h;refine⟨t2d r,ay.mpr ⟨r,h,rfl⟩,?_⟩;show PyData.eqv (.tuple [.int r.1,.int r.2]) (.tuple [.int r.1,.int r.2])=true
  rw[qS,decide_eq_true_eq];exact⟨rfl,rfl⟩
noncomputable def WBd(n:Int)(rs:List P2):Prop:=∀r∈rs,(0<=r.1 /\ r.1<=n) /\ (0<=r.2 /\ r.2<=12)
theorem WBd.snoc{n:Int}{rs:List P2}(h:WBd n rs){r:P2}(hr:(0<=r.1 /\ r.1<=n) /\ (0<=r.2 /\ r.2<=12)):WBd n (rs++[r]):=fun z hz=>by
 rcases aR.mp hz with q|q
 ·exact h z q
 ·rw[bO] at q;rw[q];exact hr
theorem WBd.mono{m n:Int}{rs:List P2}(h:WBd m rs)(hmn:m<=n):WBd n rs:=fun z hz=>by
 have:=h z hz
 omega
theorem nodup_snoc{α:Type}{rs:List α}(h:rs.Nodup){r:α}(hr:r∉rs):(rs++[r]).Nodup:=bf.mpr ⟨h,by simp,fun x hx y hy e=>by
 rw[bO] at hy;subst hy;subst e;exact hr hx⟩
noncomputable def nq(K:ag):Sp:=fun vs H Q _=>∃(p:Addr) (n0 m0:Nat) (c:Addr) (b:Nat),vs=[.ref p,.int (n0:Int),.int (m0:Int)] /\ FD c b H p /\ b<=500 /\ 1<=n0 /\ n0<=6 /\ n0<=m0 /\ m0<=12 /\ ∀D qs rs H',DX c (b+60) p H H' ->H D=none ->H' D=some (.lst (qs.map V.ref)) ->R2At H' qs rs ->rs.Nodup ->n0<=rs.length ->rs.length<=12 ->WBd 24 rs ->Q (.ref D) H'
theorem vJ{ys:List V}(l:ys.length=4)(hv:∀v∈ys,∃x:Int,v= .int x /\ 0<=x /\ x<=7):∃e0 e1 e2 e3:Int,ys=[.int e0,.int e1,.int e2,.int e3] /\ (0<=e0 /\ e0<=7) /\ (0<=e1 /\ e1<=7) /\ (0<=e2 /\ e2<=7) /\ (0<=e3 /\ e3<=7):=by
 match ys,l with
 |[v1,v2,v3,v4],_=>
  obtain⟨e0,rfl,f0⟩:=hv v1 (by simp)
  obtain⟨e1,rfl,f1⟩:=hv v2 (by simp)
  obtain⟨e2,rfl,f2⟩:=hv v3 (by simp)
  obtain⟨e3,rfl,f3⟩:=hv v4 (by simp)
  exact⟨e0,e1,e2,e3,rfl,f0,f1,f2,f3⟩
theorem wt{k m:Int}(h1: -10<=k)(h2:k<=50)(m1:1<=m)(m2:m<=10^20): -(10^21)<=k*m /\ k*m<=50*10^20:=by
 constructor
 ·have:=bX h1 (show 0<=m by omega)
  omega
 ·have:=bX h2 (show 0<=m by omega)
  omega
theorem wo{k l m r:Int}(h:k<=l)(m1:1<=m):k*m+r<=l*m+r:=by
 have:=bX h (show 0<=m by omega)
 omega
theorem Ah{k l m r:Int}(h:k<l)(m1:1<=m):k*m+r<l*m+r:=by
 have:=cx h (show 0<m by omega)
 omega
theorem xK{k l m r:Int}(m1:1<=m)(h:k*m+r=l*m+r):k=l:=by
 have:k*m=l*m:=by omega
 exact cS (by omega) this
theorem wH{rs:List P2}(h:rs.Nodup){m r u:Int}(m1:1<=m):(rs.map fun z=>(z.1*m+r,z.2*m+u)).Nodup:=by
 rw[fE] at h⊢;rw[List.pairwise_map];refine h.imp fun {a b} ne e=>ne ?_
 simp only[dR.injEq] at e;exact cU (xK m1 e.1) (xK m1 e.2)
noncomputable def nl(K:ag):Sp:=fun vs H Q _=>∃(p:Addr) (n0 m0:Nat) (c:Addr) (b:Nat),vs=[.ref p,.int (n0:Int),.int (m0:Int)] /\ FD c b H p /\ b<=400 /\ 1<=n0 /\ n0<=6 /\ n0<=m0 /\ m0<=12 /\
 ∀t bx l x y u v qs rs H',DX c (b+90) p H H' ->H' t=some (.tup [.ref bx,.ref l]) ->SpOk H' bx l x y u v qs rs ->n0<=rs.length ->(-(10^26)<=x /\ u<=10^26) ->(-(10^26)<=y /\ v<=10^26) ->Q (.ref t) H'
noncomputable def rq:Sp:=fun vs H Q _=>∃(p q r:Addr) (A B D:P3),vs=[.ref p,.ref q,.ref r] /\ H p=some (.tup [.int A.1,.int A.2.1,.int A.2.2]) /\ H q=some (.tup [.int B.1,.int B.2.1,.int B.2.2]) /\ H r=some (.tup [.int D.1,.int D.2.1,.int D.2.2]) /\ B3 2000 A /\ B3 2000 B /\ B3 2000 D /\ Q (.int (dt A B D)) H
theorem xq{α:Type}{xs:List α}{i:Nat}{v:α}(h:xs[if i=0 then xs.length-1 else i-1]? =some v):atI xs ((0+(i:Int))-1)=some v:=by
 have hj:=(ad.mp h).1
 unfold atI ixN
 by_cases h0:i=0
 ·subst h0;rw[if_pos rfl] at h hj;rw[if_neg (by omega),if_pos (by omega)];rw[show((0+((0:Nat):Int)-1+(xs.length:Int)).toNat)=xs.length-1 by omega];exact h
 ·rw[if_neg h0] at h hj;rw[if_pos (by omega),if_pos (by omega)];rw[show((0+(i:Int)-1).toNat)=i-1 by omega];exact h
theorem uo{l:List Vx}{i:Nat}(hi:i<l.length):∃a b,(edges (rotk (l.length-1) l))[i]? =some (a,b) /\ l[if i=0 then l.length-1 else i-1]? =some a /\ l[i]? =some b:=by
 have e:MC.rot (rotk (l.length-1) l)=l:=by
  rw[<-l8 _ _ (by omega),show l.length-1+1=l.length by omega];unfold MC.rotk;rw[im,aW,aN]
 obtain⟨b,hb⟩:∃v,l[i]? =some v:=⟨_,aa hi⟩
 obtain⟨a,ha⟩:∃v,l[if i=0 then l.length-1 else i-1]? =some v:=⟨_,aa (by split<;>omega)⟩
 refine⟨a,b,?_,ha,hb⟩;unfold MC.edges;rw[e,bL];refine⟨?_,hb⟩;unfold MC.rotk;rw[getElem?_rot (by omega)]
 by_cases h0:i=0
 ·subst h0;rw[if_pos rfl] at ha;rw[if_pos (by omega)];exact ha
 ·rw[if_neg h0] at ha;rw[if_neg (by omega),if_pos hi,show i-(l.length-(l.length-1))=i-1 by omega];exact ha
noncomputable def sB(K:ag):Sp:=fun vs H Q _=>∃(f p c e:Addr) (qs:List Addr) (l:List Vx) (P:P3),vs=[.ref f,.ref p] /\ FldAt H f c e qs l /\ H p=some (.tup [.int P.1,.int P.2.1,.int P.2.2]) /\ (∀v∈l,B3 2000 v.1) /\ B3 2000 P /\ 0<l.length /\ l.length<=1000 /\ ∀H',Ext H H' ->Q (.bl (decide (ju l P))) H'
noncomputable def jE(cs:List P3)(es:List Int):PyData:= .tuple [.list (cs.map fun z=> .tuple [.int z.1,.int z.2.1,.int z.2.2]),.list (es.map PyData.int)]
theorem xL{K:ag}{H:Hp}:∀{ps:List Addr} {cs:List P3},CsAt H ps cs ->RdyAll K H (ps.map V.ref) (cs.map fun z=> .tuple [.int z.1,.int z.2.1,.int z.2.2])
 |[],[],_=> .nil
 |[],_::_,h=>by simp[CsAt] at h
 |_::_,[],h=>by simp[CsAt] at h
 |p::ps,c::cs,h=> .cons (Aj (h.2 0 p c rfl rfl)) (xL ⟨by simpa using h.1,fun i q z h1 h2=>h.2 (i+1) q z h1 h2⟩)
theorem sI{K:ag}{H:Hp}:∀es:List Int,RdyAll K H (es.map V.int) (es.map PyData.int)
 |[]=> .nil
 |e::es=> .cons (.int e) (sI es)
theorem rF{K:ag}{H:Hp}{f c e:Addr}{ps:List Addr}{cs:List P3}{es:List Int}(h1:H f=some (.tup [.ref c,.ref e]))(h2:H c=some (.lst (ps.map V.ref)))(h3:CsAt H ps cs)(h4:H e=some (.lst (es.map V.int))):Rdy K H (.ref f) (jE cs es):=
 .tup (SqT.of h1) (.cons (.lst (SqL.of h2) (xL h3)) (.cons (.lst (SqL.of h4) (sI es)) .nil))
theorem qU:∀cs:List P3,PyData.eqvAll (cs.map fun z=> .tuple [.int z.1,.int z.2.1,.int z.2.2]) (cs.map fun z=> .tuple [.int z.1,.int z.2.1,.int z.2.2])=true
 |[]=>by simp[PyData.eqvAll]
 |c::cs=>by simp[PyData.eqvAll,PyData.eqv,qU cs]
theorem qT:∀es:List Int,PyData.eqvAll (es.map PyData.int) (es.map PyData.int)=true
 |[]=>by simp[PyData.eqvAll]
 |c::cs=>by simp[PyData.eqvAll,PyData.eqv,qT cs]
theorem lO(cs:List P3)(es:List Int):PyData.eqv (jE cs es) (jE cs es)=true:=by
 simp only[jE,PyData.eqv,PyData.eqvAll,qU,qT,iL]
theorem vA:∀cs:List P3,PyData.canLayAll0 (cs.map fun z=> .tuple [.int z.1,.int z.2.1,.int z.2.2])=true /\ PyData.depthAll (cs.map fun z=> .tuple [.int z.1,.int z.2.1,.int z.2.2])<=1
 |[]=>⟨rfl,by simp[PyData.depthAll]⟩
 |c::cs=>by
  obtain⟨a,b⟩:=vA cs
  constructor
  ·simp[PyData.canLayAll0,PyData.canLay0,a]
  ·simp[PyData.depthAll,PyData.depth] at b⊢;omega
theorem sS:∀es:List Int,PyData.canLayAll0 (es.map PyData.int)=true /\ PyData.depthAll (es.map PyData.int)=0
 |[]=>⟨rfl,by simp[PyData.depthAll]⟩
 |c::cs=>by
  obtain⟨a,b⟩:=sS cs
  constructor
  ·simp[PyData.canLayAll0,PyData.canLay0,a]
  ·simp[PyData.depthAll,PyData.depth,b]
theorem oz(cs:List P3)(es:List Int):SeqAt.shaped (jE cs es)=true:=by
 obtain⟨a,b⟩:=vA cs
 obtain⟨c,d⟩:=sS es
 unfold SeqAt.shaped jE;rw[ci,decide_eq_true_eq];constructor
 ·simp[PyData.canLay0,PyData.canLayAll0,a,c]
 ·simp[PyData.depth,PyData.depthAll,d];omega
noncomputable def zJ(L:List Vx):PyData:=jE (L.map (·.1)) (L.map (·.2.2))
theorem FldAt.rdy{K:ag}{H:Hp}{f c e:Addr}{ps:List Addr}{L:List Vx}(h:FldAt H f c e ps L):Rdy K H (.ref f) (zJ L):=rF h.at_ h.cs h.pt h.es
noncomputable def sx(K:ag):Sp:=fun vs H Q _=>∃(b l:Addr) (x y u v:Int) (qs:List Addr) (rs:List P2),vs=[.ref b,.ref l] /\ SpOk H b l x y u v qs rs /\ rs.length=2 /\ ∀H',Ext H H' ->Q (.bl true) H'
noncomputable def uf:V ->Bool
 | .ref _=>true
 |_=>false
noncomputable def mK(ws:List V)(n:Nat):List Nat:=(eO n).filter fun i=>uf (ws.getD i .non)
theorem tX(ws:List V)(n:Nat):mK ws (n+1)=if uf (ws.getD n .non)=true then mK ws n++[n] else mK ws n:=by
 unfold mK;rw[gx,ef];split
 ·rename_i h
  rw[show eZ (fun i=>uf (ws.getD i .non)) [n]=[n] by simp only[ip,h,iB,if_true]]
 ·rename_i h
  rw[show eZ (fun i=>uf (ws.getD i .non)) [n]=[] by simp only[ip,h,iB];rfl,aK]
noncomputable def mt(z:P3)(rs:List P2)(k:Nat):Bool:=decide ((k:Int)∈kg (rs.map (sqr z)) rs.length)
theorem ug{z:P3}{rs:List P2}{k:Nat}{r:P2}(hk:rs[k]? =some r):mt z rs k=true↔∀s∈rs,sqr z s<=sqr z r:=by
 have g:(rs.map (sqr z)).getD k 0=sqr z r:=by
  rw[bq,ax,hk];rfl
 unfold mt kg;rw[decide_eq_true_eq];constructor
 ·intro h s hs;obtain⟨j,hj,e⟩:=ay.mp h
  have ej:j=k:=by omega
  subst ej;have m:=of_decide_eq_true (cN.mp hj).2
  have:=m (sqr z s) (ay.mpr ⟨s,hs,rfl⟩)
  rwa [g] at this
 ·intro h;refine ay.mpr ⟨k,cN.mpr ⟨e8.mpr (ad.mp hk).1,decide_eq_true fun a ha=> ?_⟩,rfl⟩;obtain⟨s,hs,rfl⟩:=ay.mp ha
  rw[g];exact h s hs
theorem wC(es:List Int):kf (.list (es.map PyData.int))=true:=by
 simp only[kf];exact nS _ (fun a=>by simp[kf]) _
theorem qr(es:List Int):SeqAt.shaped (.list (es.map PyData.int))=true:=by
 obtain⟨c,d⟩:=sS es
 unfold SeqAt.shaped;rw[ci,decide_eq_true_eq];constructor
 ·simp[PyData.canLay0,c]
 ·simp[PyData.depth,d]
theorem mv{xs:List Nat}{p:Nat ->Bool}{i k:Nat}(h:xs[i]? =some k):(xs.take (i+1)).filter p=if p k=true then(xs.take i).filter p++[k] else(xs.take i).filter p:=by
 rw[bD,h,ef];show _++eZ p [k]=_
 by_cases q:p k=true
 ·rw[if_pos q,show eZ p [k]=[k] by simp[q]]
 ·rw[if_neg q,show eZ p [k]=[] by simp[q],aK]
theorem vH(s:Int):∀l:List Int,inV (.int s) (l.map V.int)=decide (s∈l)
 |[]=>by simp[inV]
 |x::r=>by
  show(eqV (.int x) (.int s)||inV (.int s) (r.map V.int))=_
  rw[vH s r];show((x==s)||decide (s∈r))=_
  by_cases e:x=s
  ·subst e;simp
  ·have e':s≠x:=fun z=>e z.symm
   simp[e,e']
theorem y8(es:List Int):(es.map V.int).all pZ=true:=by
 rw[hV];intro y hy;obtain⟨_,_,rfl⟩:=ay.mp hy
 rfl
theorem vw{ws:List V}{n k:Nat}(h:k∈mK ws n):k<n /\ uf (ws.getD k .non)=true:=⟨e8.mp (cN.mp h).1,(cN.mp h).2⟩
noncomputable def sy(K:ag):Sp:=fun vs H Q _=>∃(b l:Addr) (x y u v:Int) (qs:List Addr) (rs:List P2),vs=[.ref b,.ref l] /\ SpOk H b l x y u v qs rs /\ ∀H',Ext H H' ->Q (.bl true) H'
noncomputable def Told(x y u v:Int)(rs:List P2)(ws:List V):Prop:=(¬(x<u /\ y<v) /\ ws=[.str "box",.bl false])∨((x<u /\ y<v) /\ ¬(0<rs.length /\ rs.length<=12) /\ ws=[.str "many",.bl false])∨((x<u /\ y<v) /\ (0<rs.length /\ rs.length<=12) /\ ∃i:Nat,FirstBad x y u v rs i /\ ws=[.str "spot",.int (i:Int)])
theorem FirstBad.uniq{x y u v:Int}{rs:List P2}{i j:Nat}(h:FirstBad x y u v rs i)(k:FirstBad x y u v rs j):i=j:=by
 rcases gV i j with l|l|l
 ·exact(k.2 i l h.1).elim
 ·exact l
 ·exact(h.2 j l k.1).elim
theorem Told.uniq{x y u v:Int}{rs:List P2}{ws ws':List V}(h:Told x y u v rs ws)(k:Told x y u v rs ws'):ws=ws':=by
 rcases h with⟨a,e⟩|⟨a,b,e⟩|⟨a,b,i,c,e⟩<;>rcases k with⟨a',e'⟩|⟨a',b',e'⟩|⟨a',b',i',c',e'⟩
 ·rw[e,e']
 ·exact absurd a' a
 ·exact absurd a' a
 ·exact absurd a a'
 ·rw[e,e']
 ·exact absurd b' b
 ·exact absurd a a'
 ·exact absurd b b'
 ·rw[e,e',c.uniq c']
noncomputable def j5(K:ag):Sp:=fun vs H Q _=>∃(b l:Addr) (x y u v:Int) (qs:List Addr) (rs:List P2),vs=[.ref b,.ref l] /\ BxOk H b l x y u v qs rs /\ ∃ws,Told x y u v rs ws /\ ∀t H',Ext H H' ->H' t=some (.tup ws) ->Q (.ref t) H'
theorem SpOk.dx{e:Addr}{n b0:Nat}{p b l:Addr}{H H':Hp}{x y u v:Int}{qs:List Addr}{rs:List P2}(h:SpOk H b l x y u v qs rs)(f:FD e b0 H p)(d:DX e n p H H'):SpOk H' b l x y u v qs rs:=⟨d.keep _ _ (f.tup h.bx) h.bx,d.keep _ _ (f.lst h.sp) h.sp,h.at_.dx f d,h.xu,h.yv,h.ins,h.nd,h.n0,h.n12,h.sz⟩
theorem SpOk.cut{b l l':Addr}{H:Hp}{x y u v:Int}{qs:List Addr}{rs:List P2}(h:SpOk H b l x y u v qs rs){k:Nat}(k0:0<k)(e:H l'=some (.lst ((qs.take k).map V.ref))):SpOk H b l' x y u v (qs.take k) (rs.take k):=⟨h.bx,e,h.at_.take k,h.xu,h.yv,fun r hr=>h.ins r (cV hr),(gR k rs).nodup h.nd,by have:=h.n0;rw[aC];omega,by have:=h.n12;rw[aC];omega,h.sz⟩
noncomputable def xJ(w:Str):PyData:= .tuple [.str w,.bool false]
noncomputable def tW(i:Int):PyData:= .tuple [.str "spot",.int i]
theorem kB{K:ag}{H:Hp}{t:Addr}{w:Str}(h:H t=some (.tup [.str w,.bl false])):Rdy K H (.ref t) (xJ w):= .tup (SqT.of h) (.cons (.str _) (.cons (.bl _) .nil))
theorem nA{K:ag}{H:Hp}{t:Addr}{i:Int}(h:H t=some (.tup [.str "spot",.int i])):Rdy K H (.ref t) (tW i):= .tup (SqT.of h) (.cons (.str _) (.cons (.int _) .nil))
theorem so2:PyData.strOk "box"=true:=by decide+kernel
theorem so3:PyData.strOk "many"=true:=by decide+kernel
theorem so4:PyData.strOk "spot"=true:=by decide+kernel
theorem sF:SeqAt.shaped (xJ "box")=true:=by simp only[xJ,SeqAt.shaped,PyData.canLay0,PyData.canLayAll0,PyData.depth,PyData.depthAll,so2]<;>decide
theorem pg:SeqAt.shaped (xJ "many")=true:=by simp only[xJ,SeqAt.shaped,PyData.canLay0,PyData.canLayAll0,PyData.depth,PyData.depthAll,so3]<;>decide
theorem pf(i:Int):SeqAt.shaped (tW i)=true:=by simp only[tW,SeqAt.shaped,PyData.canLay0,PyData.canLayAll0,PyData.depth,PyData.depthAll,so4]<;>decide
theorem p6(w:Str):PyData.eqv (xJ w) (xJ w)=true:=by simp[xJ,PyData.eqv,PyData.eqvAll]
theorem vN(i:Int):PyData.eqv (tW i) (tW i)=true:=by simp[tW,PyData.eqv,PyData.eqvAll]
theorem R2At.none{H:Hp}:R2At H [] []:=⟨rfl,fun i q z a=>by simp at a⟩
theorem R2At.rep{H:Hp}{qs:List Addr}{rs:List P2}(h:R2At H qs rs):∀n,R2At H (aZ n qs).flatten (aZ n rs).flatten
 |0=> .none
 |n+1=>by rw[bB,bB,cF,cF];exact h.append (h.rep n)
theorem rP(qs:List Addr):∀n,(aZ n (qs.map V.ref)).flatten=(aZ n qs).flatten.map V.ref
 |0=>rfl
 |n+1=>by rw[bB,bB,cF,cF,au,rP qs n]
theorem yc{x y u v:Int}{rs:List P2}{r:P2}{k:Nat}{rest:List P2}(ins:∀s∈rs,x<=s.1 /\ s.1<=u /\ y<=s.2 /\ s.2<=v)(nd:rs.Nodup)(hk:k<=rs.length)(bad:¬ux x y u v r∨r∈rs.take k):FirstBad x y u v (rs.take k++[r]++rest) k:=by
 have lt:(rs.take k).length=k:=by rw[aC];omega
 have e:∀{j:Nat},j<=k ->(rs.take k++[r]++rest).take j=rs.take j:=fun {j} hj=>by
  rw[bG,List.take_append_of_le_length (by omega),List.take_take,gz hj]
 refine⟨⟨r,by rw[bG,aH (by omega),lt,fK];rfl,by rw[e (aI _)];exact bad⟩,fun j hj=> ?_⟩;rintro⟨s,hs,q⟩;rw[bG,aM (by omega),bF hj] at hs;rw[e (by omega)] at q;rcases q with q|q
 ·exact q (ins s (ah hs))
 ·obtain⟨m,hm⟩:=aX q
  have lm:=(ad.mp hm).1
  rw[aC] at lm;rw[bF (by omega)] at hm;obtain⟨g1,e1⟩:=ad.mp hs
  obtain⟨g2,e2⟩:=ad.mp hm
  have:=(cz (h₀:=g1) (h₁:=g2) nd).mp (e1.trans e2.symm)
  omega
theorem qq(cs:List P3)(es:List Int):SeqAt.shaped (.list [jE cs es])=true:=by
 obtain⟨a,b⟩:=vA cs
 obtain⟨c,d⟩:=sS es
 unfold SeqAt.shaped jE;rw[ci,decide_eq_true_eq];constructor
 ·simp[PyData.canLay0,PyData.canLayAll0,a,c]
 ·simp[PyData.depth,PyData.depthAll,d];omega
theorem y9(cs:List P3)(es:List Int):PyData.eqv (.list [jE cs es]) (.list [jE cs es])=true:=by
 simp only[PyData.eqv,PyData.eqvAll,lO,iL]
theorem CsAt.none{H:Hp}:CsAt H [] []:=⟨rfl,fun i q z a=>by simp at a⟩
end LW
namespace LW
open PySem L2 MA PyProof.Rows MC
section
variable {P:Program} {w:World} {K:ag} {mg:Str ->Option Value} {base:Heap}
theorem sc_divisor:FnScope ["one","other"] ["one","other"] (iR s_divisor):=⟨rfl,rfl,rfl,by decide+kernel,rfl,by decide+kernel,by decide+kernel⟩
theorem ok_divisor{C:Cz}{f:Addr}{fd:FuncData}(F:Fun K "divisor" "divisor" s_divisor f fd)(T:Txt P K mg C):FnOk P w K mg base (CXE P w) 1 f fd ["one","other"] jW:=by
 refine okN F (k:=0) sc_divisor (fun vs H Q E h=> ?_) (fun cdv A outer s H vs Q E hr h=> ?_)
 ·obtain⟨a,b,rfl,_⟩:=h
  rfl
 ·obtain⟨a,b,rfl,h⟩:=h
  refine'⟨_,?main,?rest⟩
  case main=>
   refine' iU ?c1 ?c2
   case' c1=>refine' jg (i:=0) sc_divisor.nd rfl (aL rfl) ?c3
   case' c3=>refine' jf tP (by rfl) T.b_abs boot_abs ?c4
   case' c4=>exact iN (pvF 0) iP
   case' c2=>refine' iU ?c5 ?c6
   case' c5=>refine' jg (i:=1) sc_divisor.nd rfl (aL rfl) ?c7
   case' c7=>refine' jf tP (by rfl) T.b_abs boot_abs ?c8
   case' c8=>exact iN (pvF 1) iP
   case' c6=>refine' iU ?c9 ?c10
   case' c9=>refine' sK PassesOwn.never ?c11 ?c12
   case' c11=>exact i5 vm (pvF 1) iO (je _)
   case' c12=>refine' iS ?c13
   case' c13=>refine' Al (i:=0) (j:=1) rfl sc_divisor.nd rfl rfl (by decide) rfl rfl ?c14 rfl
   case' c14=>refine' iN (pvF 1) ?c15
   case' c15=>exact iN (iW (OpR.f lz) (pvF 0) (pvF 1)) iP
   case' c10=>exact iS (i9 (pvF 0))
  case rest=>
   walk_at "ST"
   walk_at "RD"
   refine⟨fun m σ H'=>∃x y:Int,σ=[some (.int x),some (.int y)] /\ H'=H /\ 0<=x /\ 0<=y /\ aE x y=aE a b /\ m=y.toNat,⟨_,_,_,rfl,rfl,?_,?_,?_,rfl⟩,?_⟩
   ·show 0<=ab a
    rw[xA];omega
   ·show 0<=ab b
    rw[xA];omega
   ·show aE (ab a) (ab b)=_
    rw[xA,xA,m5,pW]
   ·rintro m σ H' ⟨x,y,rfl,rfl,hx,hy,hg,rfl⟩;walk_at "RD"
    by_cases hy0:y=0
    ·subst hy0;rw[if_neg (by simp)];have e:=gcd_zero hx
     rw[hg] at e;rw[e] at h;exact h
    ·rw[if_pos (by simpa using hy0)];have hp:0<y:=by omega
     refine⟨fun σ' H1=>∃x y':Int,σ'=[some (.int x),some (.int y')] /\ H1=H' /\ 0<=x /\ 0<=y' /\ aE x y'=aE a b /\ y'<y,?_,?_⟩
     ·rintro σ' H1 ⟨x,y',rfl,rfl,h1,h2,h3,h4⟩;exact⟨y'.toNat,by omega,x,y',rfl,rfl,h1,h2,h3,rfl⟩
     ·walk_at "RD"
      exact⟨hp,hy,cQ _ hy0,by rw[wV hp];exact hg,cv _ hp⟩
theorem yt:FnScope ["number"] ["number"] (iR s_sign):=⟨rfl,rfl,rfl,by decide+kernel,rfl,by decide+kernel,by decide+kernel⟩
theorem ok_sign{C:Cz}{f:Addr}{fd:FuncData}(F:Fun K "sign" "sign" s_sign f fd)(T:Txt P K mg C):FnOk P w K mg base (CXE P w) 1 f fd ["number"] mI:=by
 refine okN F (k:=0) yt (fun vs H Q E h=> ?_) (fun cdv A outer s H vs Q E hr h=> ?_)
 ·obtain⟨n,rfl,_⟩:=h
  rfl
 ·obtain⟨n,rfl,h⟩:=h
  refine'⟨_,?main,?rest⟩
  case main=>
   refine' iU ?c1 ?c2
   case' c1=>refine' jF ?c3 ?c4 jj
   case' c3=>exact i5 (OpR.f0 ni) (pvF 0) iO (je _)
   case' c4=>refine' iS ?c5
   case' c5=>refine' i9 ?c6
   case' c6=>exact pz (UnR.f lV) iO
   case' c2=>refine' iU ?c7 ?c8
   case' c7=>refine' jF ?c9 ?c10 jj
   case' c9=>exact i5 (OpR.f0 pF) (pvF 0) iO (je _)
   case' c10=>refine' iS ?c11
   case' c11=>exact i9 iO
   case' c8=>refine' iS ?c12
   case' c12=>exact i9 iO
  case rest=>
   walk_at "ST"
   walk_at "RD"
   unfold sgn at h;split
   ·rename_i z
    rw[if_pos z] at h;exact h
   ·rename_i z
    rw[if_neg z] at h;split
    ·rename_i z
     rw[if_pos z] at h;exact h
    ·rename_i z
     rw[if_neg z] at h;exact h
theorem sc_point_of:FnScope ["x","y","w","common"] ["x","y","w"] (iR s_point_of):=⟨rfl,rfl,rfl,by decide+kernel,rfl,by decide+kernel,by decide+kernel⟩
theorem ok_point_of{C:Cz}{f:Addr}{fd:FuncData}(F:Fun K "point_of" "point_of" s_point_of f fd)(T:Txt P K mg C)(F_divisor:FnB P w K mg base (CXE P w) 1 "divisor" ["one","other"] jW)(F_sign:FnB P w K mg base (CXE P w) 1 "sign" ["number"] mI):FnOk P w K mg base (CXE P w) 2 f fd ["x","y","w"] jQ:=by
 refine okN F (k:=1) sc_point_of (fun vs H Q E h=> ?_) (fun cdv A outer s H vs Q E hr h=> ?_)
 ·obtain⟨x,y,u,rfl,_⟩:=h
  rfl
 ·obtain⟨x,y,u,rfl,h⟩:=h
  refine'⟨_,?main,?rest⟩
  case main=>
   refine' iU ?c1 ?c2
   case' c1=>refine' jF ?c3 ?c4 jj
   case' c3=>exact i5 j3 (pvF 2) iO (je _)
   case' c4=>exact iS nB
   case' c2=>refine' iU ?c5 ?c6
   case' c5=>refine' jg (i:=3) ?c7 ?c8 ?c9 ?c10
   case c7=>exact sc_point_of.nd
   case c8=>exact rfl
   case c9=>exact(aL rfl)
   case' c10=>refine' iW ?c11 ?c12 ?c13
   case c11=>exact(OpR.f iY)
   case' c12=>refine' ja F_divisor (hr.mono (by decide)) rfl iX ?c14
   case' c14=>refine' iN ?c15 ?c16
   case' c15=>refine' ja F_divisor (hr.mono (by decide)) rfl iX ?c17
   case' c17=>refine' iN (pvF 2) ?c18
   case' c18=>exact iN (pvF 0) iP
   case' c16=>exact iN (pvF 1) iP
   case' c13=>refine' ja F_sign (hr.mono (by decide)) rfl iX ?c19
   case' c19=>exact iN (pvF 2) iP
   case' c6=>refine' iS ?c20
   case' c20=>refine' i9 ?c21
   case' c21=>refine' jc ?c22
   case' c22=>refine' iN (iW (OpR.f jT) (pvF 0) (pvF 3)) ?c23
   case' c23=>refine' iN (iW (OpR.f jT) (pvF 1) (pvF 3)) ?c24
   case' c24=>exact iN (iW (OpR.f jT) (pvF 2) (pvF 3)) iP
  case rest=>
   obtain⟨hw,hb,h⟩:=h
   walk_at "ST"
   rw[zF]
   o_head ⟨jW,mI,hw,rI⟩
   have hc:com x y u=(aE (aE u x) y:Int)*sgn u:=rfl
   rw[<-hc];have h1:com x y u≠0:=vZ hw
   have h2:Bd 9000 (com x y u):=by
    refine Bd.mono (m:=8000) ?_ (by decide);have:=(si x y u hw).2.2
    exact aU (fY (by omega) (dC.mpr this)) hb
   refine⟨.inl (.inr ?_),h1,h2,h1,h2,h1,h2,by decide,fun p hp=>h p _ _ _ hp (mU hw)⟩;rcases qt u with e|e|e<;>rw[e]<;>decide
theorem po:FnScope ["spot"] ["spot"] (iR s_spot_point):=⟨rfl,rfl,rfl,by decide+kernel,rfl,by decide+kernel,by decide+kernel⟩
theorem ok_spot_point{C:Cz}{f:Addr}{fd:FuncData}(F:Fun K "spot_point" "spot_point" s_spot_point f fd)(T:Txt P K mg C):FnOk P w K mg base (CXE P w) 1 f fd ["spot"] jR:=by
 refine okN F (k:=0) po (fun vs H Q E h=> ?_) (fun cdv A outer s H vs Q E hr h=> ?_)
 ·obtain⟨p,a,b,rfl,_⟩:=h
  rfl
 ·obtain⟨p,a,b,rfl,h⟩:=h
  refine'⟨_,?main,?rest⟩
  case main=>
   refine' iS ?c1
   case' c1=>refine' i9 ?c2
   case' c2=>refine' jc ?c3
   case' c3=>refine' iN ?c4 ?c5
   case' c4=>exact i7 jv (pvF 0) iO (fun _ _=>rfl)
   case' c5=>refine' iN ?c6 ?c7
   case' c6=>exact i7 jv (pvF 0) iO (fun _ _=>rfl)
   case' c7=>exact iN iO iP
  case rest=>
   obtain⟨hp,h⟩:=h
   walk_at "ST"
   o_head ⟨hp⟩
   exact⟨by decide,h⟩
theorem sc_fraction_of:FnScope ["top","bottom","common"] ["top","bottom"] (iR s_fraction_of):=⟨rfl,rfl,rfl,by decide+kernel,rfl,by decide+kernel,by decide+kernel⟩
theorem ok_fraction_of{C:Cz}{f:Addr}{fd:FuncData}(F:Fun K "fraction_of" "fraction_of" s_fraction_of f fd)(T:Txt P K mg C)(F_divisor:FnB P w K mg base (CXE P w) 1 "divisor" ["one","other"] jW)(F_sign:FnB P w K mg base (CXE P w) 1 "sign" ["number"] mI):FnOk P w K mg base (CXE P w) 2 f fd ["top","bottom"] j9:=by
 refine okN F (k:=1) sc_fraction_of (fun vs H Q E h=> ?_) (fun cdv A outer s H vs Q E hr h=> ?_)
 ·obtain⟨x,u,rfl,_⟩:=h
  rfl
 ·obtain⟨x,u,rfl,h⟩:=h
  refine'⟨_,?main,?rest⟩
  case main=>
   refine' iU ?c1 ?c2
   case' c1=>refine' jF ?c3 ?c4 jj
   case' c3=>exact i5 j3 (pvF 1) iO (je _)
   case' c4=>exact iS nB
   case' c2=>refine' iU ?c5 ?c6
   case' c5=>refine' jg (i:=2) sc_fraction_of.nd rfl (aL rfl) ?c7
   case' c7=>refine' iW (OpR.f iY) ?c8 ?c9
   case' c8=>refine' ja F_divisor (hr.mono (by decide)) rfl iX ?c10
   case' c10=>refine' iN (pvF 1) ?c11
   case' c11=>exact iN (pvF 0) iP
   case' c9=>refine' ja F_sign (hr.mono (by decide)) rfl iX ?c12
   case' c12=>exact iN (pvF 1) iP
   case' c6=>refine' iS ?c13
   case' c13=>refine' i9 ?c14
   case' c14=>refine' jc ?c15
   case' c15=>refine' iN (iW (OpR.f jT) (pvF 0) (pvF 2)) ?c16
   case' c16=>exact iN (iW (OpR.f jT) (pvF 1) (pvF 2)) iP
  case rest=>
   obtain⟨hw,hb,h⟩:=h
   walk_at "ST"
   o_head ⟨jW,mI,hw,rI⟩
   have hc:com x 0 u=(aE u x:Int)*sgn u:=by unfold com;simp
   rw[<-hc];have h1:com x 0 u≠0:=vZ hw
   have h2:Bd 9000 (com x 0 u):=by
    refine Bd.mono (m:=8000) ?_ (by decide);have:=(si x 0 u hw).2.2
    exact aU (fY (by omega) (dC.mpr this)) hb
   have h3:=yY (x:=x) hw
   rw[<-hc] at h3;refine⟨.inl (.inr ?_),h1,h2,h1,h2,by decide,fun p hp=>h p _ _ hp h3⟩;rcases qt u with e|e|e<;>rw[e]<;>decide
theorem yw:FnScope ["one","other"] ["one","other"] (iR s_less):=⟨rfl,rfl,rfl,by decide+kernel,rfl,by decide+kernel,by decide+kernel⟩
theorem ok_less{C:Cz}{f:Addr}{fd:FuncData}(F:Fun K "less" "less" s_less f fd)(T:Txt P K mg C):FnOk P w K mg base (CXE P w) 1 f fd ["one","other"] oZ:=by
 refine okN F (k:=0) yw (fun vs H Q E h=> ?_) (fun cdv A outer s H vs Q E hr h=> ?_)
 ·obtain⟨p,q,a,b,c,d,rfl,_⟩:=h
  rfl
 ·obtain⟨p,q,a,b,c,d,rfl,h⟩:=h
  refine'⟨_,?main,?rest⟩
  case main=>
   refine' iS ?c1
   case' c1=>refine' i9 ?c2
   case' c2=>refine' lx ?c3 ?c4 ?c5 ?c6
   case c3=>exact(OpR.f0 ni)
   case' c4=>refine' iW (OpR.f iY) ?c7 ?c8
   case' c7=>exact i7 jv (pvF 0) iO (fun _ _=>rfl)
   case' c8=>exact i7 jv (pvF 1) iO (fun _ _=>rfl)
   case' c5=>refine' iW (OpR.f iY) ?c9 ?c10
   case' c9=>exact i7 jv (pvF 1) iO (fun _ _=>rfl)
   case' c10=>exact i7 jv (pvF 0) iO (fun _ _=>rfl)
   case c6=>exact(je _)
  case rest=>
   obtain⟨hp,hq,⟨b1,b2,b3,b4⟩,h⟩:=h
   walk_at "ST"
   o_head ⟨hp,hq,rI,rI⟩
   exact⟨.inr ⟨b1.mono (by decide),b4.mono (by decide)⟩,.inr ⟨b3.mono (by decide),b2.mono (by decide)⟩,h⟩
theorem sc_ahead:FnScope ["one","other","across"] ["one","other"] (iR s_ahead):=⟨rfl,rfl,rfl,by decide+kernel,rfl,by decide+kernel,by decide+kernel⟩
theorem ok_ahead{C:Cz}{f:Addr}{fd:FuncData}(F:Fun K "ahead" "ahead" s_ahead f fd)(T:Txt P K mg C):FnOk P w K mg base (CXE P w) 1 f fd ["one","other"] ny:=by
 refine okN F (k:=0) sc_ahead (fun vs H Q E h=> ?_) (fun cdv A outer s H vs Q E hr h=> ?_)
 ·obtain⟨p,q,rfl,_⟩:=h
  rfl
 ·obtain⟨p,q,rfl,h⟩:=h
  refine'⟨_,?main,?rest⟩
  case main=>
   refine' iU ?c1 ?c2
   case' c1=>refine' jg (i:=2) ?c3 ?c4 ?c5 ?c6
   case c3=>exact sc_ahead.nd
   case c4=>exact rfl
   case c5=>exact(aL rfl)
   case' c6=>refine' iW ?c7 ?c8 ?c9
   case c7=>exact(OpR.f0 jw)
   case' c8=>refine' iW (OpR.f iY) ?c10 ?c11
   case' c10=>exact i7 jv (pvF 0) iO (fun _ _=>rfl)
   case' c11=>exact i7 jv (pvF 1) iO (fun _ _=>rfl)
   case' c9=>refine' iW (OpR.f iY) ?c12 ?c13
   case' c12=>exact i7 jv (pvF 1) iO (fun _ _=>rfl)
   case' c13=>exact i7 jv (pvF 0) iO (fun _ _=>rfl)
   case' c2=>refine' iU ?c14 ?c15
   case' c14=>refine' jF ?c16 ?c17 jj
   case' c16=>exact i5 vm (pvF 2) iO (je _)
   case' c17=>refine' iS ?c18
   case' c18=>refine' i9 ?c19
   case' c19=>exact lx (OpR.f0 ni) (pvF 2) iO (je _)
   case' c15=>refine' iS ?c20
   case' c20=>refine' i9 ?c21
   case' c21=>refine' lx ?c22 ?c23 ?c24 ?c25
   case c22=>exact(OpR.f0 ni)
   case' c23=>refine' iW (OpR.f iY) ?c26 ?c27
   case' c26=>exact i7 jv (pvF 0) iO (fun _ _=>rfl)
   case' c27=>exact i7 jv (pvF 1) iO (fun _ _=>rfl)
   case' c24=>refine' iW (OpR.f iY) ?c28 ?c29
   case' c28=>exact i7 jv (pvF 1) iO (fun _ _=>rfl)
   case' c29=>exact i7 jv (pvF 0) iO (fun _ _=>rfl)
   case c25=>exact(je _)
  case rest=>
   obtain⟨⟨a,b,c⟩,hp,h⟩:=jo h
   obtain⟨⟨d,e,f⟩,hq,⟨b1,b2,b3⟩,⟨b4,b5,b6⟩,h⟩:=jo h
   replace hp:=k8 hp
   replace hq:=k8 hq
   dsimp only at hp hq b1 b2 b3 b4 b5 b6 h;walk_at "ST"
   o_head ⟨hp,hq,rI,rI⟩
   refine⟨(by walk_at "CM"),(by walk_at "CM"),?_⟩;unfold tR at h
   by_cases z:a*f-d*c=0
   ·rw[if_neg (by simpa using z)] at h;rw[if_neg (by simpa using z)];exact⟨(by walk_at "CM"),(by walk_at "CM"),h⟩
   ·rw[if_pos (by simpa using z)] at h;rw[if_pos (by simpa using z)];exact h
theorem sc_scaled_square:FnScope ["point","spot","x","y","w"] ["point","spot"] (iR s_scaled_square):=⟨rfl,rfl,rfl,by decide+kernel,rfl,by decide+kernel,by decide+kernel⟩
theorem ok_scaled_square{C:Cz}{f:Addr}{fd:FuncData}(F:Fun K "scaled_square" "scaled_square" s_scaled_square f fd)(T:Txt P K mg C):FnOk P w K mg base (CXE P w) 1 f fd ["point","spot"] jt:=by
 refine okN F (k:=0) sc_scaled_square (fun vs H Q E h=> ?_) (fun cdv A outer s H vs Q E hr h=> ?_)
 ·obtain⟨p,q,rfl,_⟩:=h
  rfl
 ·obtain⟨p,q,rfl,h⟩:=h
  refine'⟨_,?main,?rest⟩
  case main=>
   refine' iU ?c1 ?c2
   case' c1=>refine' kE (pvF 0) ?c3
   case' c3=>refine' na (n:=3) rfl ?c4
   case' c4=>refine' iT (iV (i:=2) sc_scaled_square.nd rfl (aL rfl)) ?c5
   case' c5=>refine' iT (iV (i:=3) sc_scaled_square.nd rfl (aL rfl)) ?c6
   case' c6=>exact iT (iV (i:=4) sc_scaled_square.nd rfl (aL rfl)) jr
   case' c2=>refine' iS ?c7
   case' c7=>refine' i9 ?c8
   case' c8=>refine' iW ?c9 ?c10 ?c11
   case c9=>exact(OpR.f0 jA)
   case' c10=>refine' iW (OpR.f nW) ?c12 iO
   case' c12=>refine' iW (OpR.f0 jw) (pvF 2) ?c13
   case' c13=>refine' iW (OpR.f iY) ?c14 (pvF 4)
   case' c14=>exact i7 jv (pvF 1) iO (fun _ _=>rfl)
   case' c11=>refine' iW (OpR.f nW) ?c15 iO
   case' c15=>refine' iW (OpR.f0 jw) (pvF 3) ?c16
   case' c16=>refine' iW (OpR.f iY) ?c17 (pvF 4)
   case' c17=>exact i7 jv (pvF 1) iO (fun _ _=>rfl)
  case rest=>
   obtain⟨⟨a,b,c⟩,hp,h⟩:=jo h
   obtain⟨⟨d,e⟩,hq,⟨b1,b2,b3⟩,⟨b4,b5⟩,h⟩:=jo h
   replace hp:=k8 hp
   replace hq:=mH hq
   dsimp only at hp hq b1 b2 b3 b4 b5 h;walk_at "ST"
   o_head ⟨kx,kA,om,hp,hq,rI,rI,rI,rI,rI,rI,rI⟩
   exact⟨(by walk_at "CM"),(b1.sub (b4.mul b3)).mono (by decide),(by walk_at "CM"),(b2.sub (b5.mul b3)).mono (by decide),h⟩
theorem uT:FnScope ["point","spot"] ["point","spot"] (iR s_square):=⟨rfl,rfl,rfl,by decide+kernel,rfl,by decide+kernel,by decide+kernel⟩
theorem ok_square{C:Cz}{f:Addr}{fd:FuncData}(F:Fun K "square" "square" s_square f fd)(T:Txt P K mg C)(F_scaled_square:FnB P w K mg base (CXE P w) 1 "scaled_square" ["point","spot"] jt)(F_fraction_of:FnB P w K mg base (CXE P w) 2 "fraction_of" ["top","bottom"] j9):FnOk P w K mg base (CXE P w) 3 f fd ["point","spot"] l5:=by
 refine okN F (k:=2) uT (fun vs H Q E h=> ?_) (fun cdv A outer s H vs Q E hr h=> ?_)
 ·obtain⟨p,q,rfl,_⟩:=h
  rfl
 ·obtain⟨p,q,rfl,h⟩:=h
  refine'⟨_,?main,?rest⟩
  case main=>
   refine' iS ?c1
   case' c1=>refine' i9 ?c2
   case' c2=>refine' ja ?c3 ?c4 ?c5 ?c6 ?c7
   case c3=>exact F_fraction_of
   case c4=>exact(hr.mono (by decide))
   case c5=>exact rfl
   case c6=>exact iX
   case' c7=>refine' iN ?c8 ?c9
   case' c8=>refine' ja F_scaled_square (hr.mono (by decide)) rfl iX ?c10
   case' c10=>refine' iN (pvF 0) ?c11
   case' c11=>exact iN (pvF 1) iP
   case' c9=>refine' iN ?c12 iP
   case' c12=>refine' iW (OpR.f nW) ?c13 iO
   case' c13=>exact i7 jv (pvF 0) iO (fun _ _=>rfl)
  case rest=>
   obtain⟨⟨a,b,c⟩,hp,h⟩:=jo h
   obtain⟨⟨d,e⟩,hq,⟨b1,b2,b3⟩,⟨b4,b5⟩,hc,h⟩:=jo h
   replace hp:=k8 hp
   replace hq:=mH hq
   dsimp only at hp hq b1 b2 b3 b4 b5 h hc;walk_at "ST"
   o_head ⟨jt,j9,hp,hq⟩
   refine⟨⟨b1,b2,b3⟩,⟨b4,b5⟩,b3.mono (by decide),?_,b3.sq.mono (by decide),fun t a' c' ht hf=>h t a' c' ht hf⟩;have:0<c^2:=Int.pow_pos hc
   omega
theorem sc_line_of:FnScope ["a","b","c","common"] ["a","b","c"] (iR s_line_of):=⟨rfl,rfl,rfl,by decide+kernel,rfl,by decide+kernel,by decide+kernel⟩
theorem ok_line_of{C:Cz}{f:Addr}{fd:FuncData}(F:Fun K "line_of" "line_of" s_line_of f fd)(T:Txt P K mg C)(F_divisor:FnB P w K mg base (CXE P w) 1 "divisor" ["one","other"] jW):FnOk P w K mg base (CXE P w) 2 f fd ["a","b","c"] lD:=by
 refine okN F (k:=1) sc_line_of (fun vs H Q E h=> ?_) (fun cdv A outer s H vs Q E hr h=> ?_)
 ·obtain⟨a,b,c,rfl,_⟩:=h
  rfl
 ·obtain⟨a,b,c,rfl,h⟩:=h
  refine'⟨_,?main,?rest⟩
  case main=>
   refine' jb ?c1 ?c2
   case' c1=>refine' jF ?c3 ?c4 ?c5
   case' c3=>refine' PW.pt ?c6
   case' c6=>refine' oE ?c7 ?c8
   case' c7=>exact i5 j3 (pvF 0) iO (je _)
   case' c8=>refine' mM ?c9
   case' c9=>exact i5 j3 (pvF 1) iO (je _)
   case' c4=>exact iS nB
   case c5=>exact jj
   case' c2=>refine' iU ?c10 ?c11
   case' c10=>refine' jg (i:=3) sc_line_of.nd rfl (aL rfl) ?c12
   case' c12=>refine' ja F_divisor (hr.mono (by decide)) rfl iX ?c13
   case' c13=>refine' iN ?c14 ?c15
   case' c14=>refine' ja F_divisor (hr.mono (by decide)) rfl iX ?c16
   case' c16=>refine' iN (pvF 0) ?c17
   case' c17=>exact iN (pvF 1) iP
   case' c15=>exact iN (pvF 2) iP
   case' c11=>refine' iS ?c18
   case' c18=>refine' i9 ?c19
   case' c19=>refine' jc ?c20
   case' c20=>refine' iN (iW (OpR.f jT) (pvF 0) (pvF 3)) ?c21
   case' c21=>refine' iN (iW (OpR.f jT) (pvF 1) (pvF 3)) ?c22
   case' c22=>exact iN (iW (OpR.f jT) (pvF 2) (pvF 3)) iP
  case rest=>
   obtain⟨hn,⟨b1,b2,b3⟩,h⟩:=h
   walk_at "ST"
   refine⟨fun σ H'=>σ=[some (.int a),some (.int b),some (.int c),none] /\ H'=H,?_,?_⟩
   ·walk_at "RD"
    split
    ·rename_i ea
     split
     ·rename_i eb
      exact absurd ⟨ea,eb⟩ hn
     ·trivial
    ·trivial
   ·rintro σ H' ⟨rfl,rfl⟩
    o_head ⟨jW⟩
    obtain⟨hl,hne⟩:=pS (c:=c) hn
    have hb:Bd 9000 (aE (aE a b) c:Int):=by
     refine Bd.mono (m:=4000) ?_ (by decide);obtain⟨g,hg,ea,eb,ec,eg⟩:=hl.ex
     rw[<-eg]
     by_cases z:a=0
     ·have:b≠0:=fun z'=>hn ⟨z,z'⟩
      exact aU (fY (by omega) (dC.mpr ⟨_,eb⟩)) b2
     ·exact aU (fY (by omega) (dC.mpr ⟨_,ea⟩)) b1
    exact⟨hne,hb,hne,hb,hne,hb,by decide,fun p hp=>h p _ _ _ hp hl⟩
theorem sc_between:FnScope ["one","other","x","y","u","v"] ["one","other"] (iR s_between):=⟨rfl,rfl,rfl,by decide+kernel,rfl,by decide+kernel,by decide+kernel⟩
theorem ok_between{C:Cz}{f:Addr}{fd:FuncData}(F:Fun K "between" "between" s_between f fd)(T:Txt P K mg C)(F_line_of:FnB P w K mg base (CXE P w) 2 "line_of" ["a","b","c"] lD):FnOk P w K mg base (CXE P w) 3 f fd ["one","other"] jY:=by
 refine okN F (k:=2) sc_between (fun vs H Q E h=> ?_) (fun cdv A outer s H vs Q E hr h=> ?_)
 ·obtain⟨p,q,rfl,_⟩:=h
  rfl
 ·obtain⟨p,q,rfl,h⟩:=h
  refine'⟨_,?main,?rest⟩
  case main=>
   refine' jb ?c1 ?c2
   case' c1=>refine' jF (i5 (rG (K:=K) rfl (wb hr)) (pvF 0) (pvF 1) (je _)) ?c3 jj
   case' c3=>exact iS nB
   case' c2=>refine' iU ?c4 ?c5
   case' c4=>refine' kE (pvF 0) ?c6
   case' c6=>refine' na (n:=2) rfl ?c7
   case' c7=>refine' iT (iV (i:=2) sc_between.nd rfl (aL rfl)) ?c8
   case' c8=>exact iT (iV (i:=3) sc_between.nd rfl (aL rfl)) jr
   case' c5=>refine' iU ?c9 ?c10
   case' c9=>refine' kE (pvF 1) ?c11
   case' c11=>refine' na (n:=2) rfl ?c12
   case' c12=>refine' iT (iV (i:=4) sc_between.nd rfl (aL rfl)) ?c13
   case' c13=>exact iT (iV (i:=5) sc_between.nd rfl (aL rfl)) jr
   case' c10=>refine' iS ?c14
   case' c14=>refine' i9 ?c15
   case' c15=>refine' ja ?c16 ?c17 ?c18 ?c19 ?c20
   case c16=>exact F_line_of
   case c17=>exact(hr.mono (by decide))
   case c18=>exact rfl
   case c19=>exact iX
   case' c20=>refine' iN ?c21 ?c22
   case' c21=>exact iW (OpR.f iY) iO (iW (OpR.f0 jw) (pvF 4) (pvF 2))
   case' c22=>refine' iN ?c23 ?c24
   case' c23=>exact iW (OpR.f iY) iO (iW (OpR.f0 jw) (pvF 5) (pvF 3))
   case' c24=>refine' iN ?c25 iP
   case' c25=>refine' iW (OpR.f0 jw) ?c26 (iW (OpR.f iY) (pvF 3) (pvF 3))
   case' c26=>refine' iW (OpR.f0 jw) ?c27 (iW (OpR.f iY) (pvF 2) (pvF 2))
   case' c27=>exact iW (OpR.f0 jA) (iW (OpR.f iY) (pvF 4) (pvF 4)) (iW (OpR.f iY) (pvF 5) (pvF 5))
  case rest=>
   obtain⟨⟨a,b⟩,hp,h⟩:=jo h
   obtain⟨⟨d,e⟩,hq,⟨b1,b2⟩,⟨b3,b4⟩,hne,h⟩:=jo h
   replace hp:=mH hp
   replace hq:=mH hq
   dsimp only at hp hq b1 b2 b3 b4;walk_at "ST"
   have hn:¬(a=d /\ b=e):=fun z=>hne (by rw[z.1,z.2])
   refine⟨fun σ H'=>σ=[some (.ref p),some (.ref q),none,none,none,none] /\ H'=H,?_,?_⟩
   ·walk_at "RD"
    refine⟨_,_,oB hp,oB hq,rfl,rfl,?_⟩;rw[qS,decide_eq_false hn]
    o_head ⟨id⟩
   ·rintro σ H' ⟨rfl,rfl⟩
    o_head ⟨kx,kA,om,hp,hq,lD,rI,rI,rI,rI,rI,rI⟩
    refine⟨.left (by decide) (by decide),.left (by decide) (by decide),(by walk_at "CM"),(by walk_at "CM"),(by walk_at "CM"),(by walk_at "CM"),fun z=>hn ⟨by omega,by omega⟩,?_,?_,?_,fun t x y z ht hl=> ?_⟩
    ·exact((Bd.of_le (n:=2) 2 (by decide) (by decide) (by decide)).mul (b3.sub b1)).mono (by decide)
    ·exact((Bd.of_le (n:=2) 2 (by decide) (by decide) (by decide)).mul (b4.sub b2)).mono (by decide)
    ·exact((((b3.mul b3).add (b4.mul b4)).sub (b1.mul b1)).sub (b2.mul b2)).mono (by decide)
    ·obtain⟨e1,e2,e3⟩:=pT hl
     have q:=h t ht
     unfold lnB at q;dsimp only at q;rw[<-e1, <-e2, <-e3] at q;exact q
theorem uW:FnScope ["line","point"] ["line","point"] (iR s_excess):=⟨rfl,rfl,rfl,by decide+kernel,rfl,by decide+kernel,by decide+kernel⟩
theorem ok_excess{C:Cz}{f:Addr}{fd:FuncData}(F:Fun K "excess" "excess" s_excess f fd)(T:Txt P K mg C):FnOk P w K mg base (CXE P w) 1 f fd ["line","point"] l7:=by
 refine okN F (k:=0) uW (fun vs H Q E h=> ?_) (fun cdv A outer s H vs Q E hr h=> ?_)
 ·obtain⟨p,q,rfl,_⟩:=h
  rfl
 ·obtain⟨p,q,rfl,h⟩:=h
  refine'⟨_,?main,?rest⟩
  case main=>
   refine' iS ?c1
   case' c1=>refine' i9 ?c2
   case' c2=>refine' iW ?c3 ?c4 ?c5
   case c3=>exact(OpR.f0 jw)
   case' c4=>refine' iW ?c6 ?c7 ?c8
   case c6=>exact(OpR.f0 jA)
   case' c7=>refine' iW (OpR.f iY) ?c9 ?c10
   case' c9=>exact i7 jv (pvF 0) iO (fun _ _=>rfl)
   case' c10=>exact i7 jv (pvF 1) iO (fun _ _=>rfl)
   case' c8=>refine' iW (OpR.f iY) ?c11 ?c12
   case' c11=>exact i7 jv (pvF 0) iO (fun _ _=>rfl)
   case' c12=>exact i7 jv (pvF 1) iO (fun _ _=>rfl)
   case' c5=>refine' iW (OpR.f iY) ?c13 ?c14
   case' c13=>exact i7 jv (pvF 0) iO (fun _ _=>rfl)
   case' c14=>exact i7 jv (pvF 1) iO (fun _ _=>rfl)
  case rest=>
   obtain⟨⟨a,b,c⟩,hp,h⟩:=jo h
   obtain⟨⟨d,e,f⟩,hq,⟨b1,b2,b3⟩,⟨b4,b5,b6⟩,h⟩:=jo h
   replace hp:=k8 hp
   replace hq:=k8 hq
   dsimp only at hp hq b1 b2 b3 b4 b5 b6 h;walk_at "ST"
   o_head ⟨hp,hq,rI,rI⟩
   exact⟨(by walk_at "CM"),(by walk_at "CM"),(by walk_at "CM"),h⟩
theorem sc_meet:FnScope ["one","other","a","b","c","d","e","f"] ["one","other"] (iR s_meet):=⟨rfl,rfl,rfl,by decide+kernel,rfl,by decide+kernel,by decide+kernel⟩
theorem ok_meet{C:Cz}{f:Addr}{fd:FuncData}(F:Fun K "meet" "meet" s_meet f fd)(T:Txt P K mg C)(F_point_of:FnB P w K mg base (CXE P w) 2 "point_of" ["x","y","w"] jQ):FnOk P w K mg base (CXE P w) 3 f fd ["one","other"] oY:=by
 refine okN F (k:=2) sc_meet (fun vs H Q E h=> ?_) (fun cdv A outer s H vs Q E hr h=> ?_)
 ·obtain⟨p,q,rfl,_⟩:=h
  rfl
 ·obtain⟨p,q,rfl,h⟩:=h
  refine'⟨_,?main,?rest⟩
  case main=>
   refine' iU ?c1 ?c2
   case' c1=>refine' kE (pvF 0) ?c3
   case' c3=>refine' na (n:=3) rfl ?c4
   case' c4=>refine' iT (iV (i:=2) sc_meet.nd rfl (aL rfl)) ?c5
   case' c5=>refine' iT (iV (i:=3) sc_meet.nd rfl (aL rfl)) ?c6
   case' c6=>exact iT (iV (i:=4) sc_meet.nd rfl (aL rfl)) jr
   case' c2=>refine' iU ?c7 ?c8
   case' c7=>refine' kE (pvF 1) ?c9
   case' c9=>refine' na (n:=3) rfl ?c10
   case' c10=>refine' iT (iV (i:=5) sc_meet.nd rfl (aL rfl)) ?c11
   case' c11=>refine' iT (iV (i:=6) sc_meet.nd rfl (aL rfl)) ?c12
   case' c12=>exact iT (iV (i:=7) sc_meet.nd rfl (aL rfl)) jr
   case' c8=>refine' iU ?c13 ?c14
   case' c13=>refine' jF ?c15 ?c16 jj
   case' c15=>exact i5 j3 (iW (OpR.f iY) (pvF 2) (pvF 6)) (iW (OpR.f iY) (pvF 3) (pvF 5)) (je _)
   case' c16=>refine' iS ?c17
   case' c17=>exact i9 vf
   case' c14=>refine' iS ?c18
   case' c18=>refine' i9 ?c19
   case' c19=>refine' ja ?c20 ?c21 ?c22 ?c23 ?c24
   case c20=>exact F_point_of
   case c21=>exact(hr.mono (by decide))
   case c22=>exact rfl
   case c23=>exact iX
   case' c24=>refine' iN ?c25 ?c26
   case' c25=>exact iW (OpR.f0 jw) (iW (OpR.f iY) (pvF 4) (pvF 6)) (iW (OpR.f iY) (pvF 3) (pvF 7))
   case' c26=>refine' iN ?c27 ?c28
   case' c27=>exact iW (OpR.f0 jw) (iW (OpR.f iY) (pvF 2) (pvF 7)) (iW (OpR.f iY) (pvF 4) (pvF 5))
   case' c28=>refine' iN ?c29 iP
   case' c29=>exact iW (OpR.f0 jw) (iW (OpR.f iY) (pvF 2) (pvF 6)) (iW (OpR.f iY) (pvF 3) (pvF 5))
  case rest=>
   obtain⟨⟨a,b,c⟩,hp,h⟩:=jo h
   obtain⟨⟨d,e,f⟩,hq,⟨b1,b2,b3⟩,⟨b4,b5,b6⟩,h1,h2⟩:=jo h
   replace hp:=k8 hp
   replace hq:=k8 hq
   dsimp only at hp hq b1 b2 b3 b4 b5 b6 h1 h2;walk_at "ST"
   o_head ⟨kx,kA,om,hp,hq,jQ,rI,rI,rI,rI,rI,rI⟩
   refine⟨(by walk_at "CM"),(by walk_at "CM"),?_⟩
   by_cases z:a*e=b*d
   ·rw[if_pos z];exact h1 z
   ·rw[if_neg z];refine⟨(by walk_at "CM"),(by walk_at "CM"),(by walk_at "CM"),(by walk_at "CM"),(by walk_at "CM"),(by walk_at "CM"),by omega,?_,fun t x y w' ht hpt=>h2 z t x y w' ht hpt⟩;exact((b1.mul b5).sub (b2.mul b4)).mono (by decide)
theorem sc_check_box:FnScope ["box","x","y","u","v"] ["box"] (iR s_check_box):=⟨rfl,rfl,rfl,by decide+kernel,rfl,by decide+kernel,by decide+kernel⟩
theorem ok_check_box{C:Cz}{f:Addr}{fd:FuncData}(F:Fun K "check_box" "check_box" s_check_box f fd)(T:Txt P K mg C):FnOk P w K mg base (CXE P w) 1 f fd ["box"] (j1 C):=by
 refine okE F (k:=0) sc_check_box (fun vs H Q E h=> ?_) (fun cdv A outer s H vs Q E hr h=> ?_)
 ·obtain⟨p,x,y,u,v,rfl,_⟩:=h
  rfl
 ·obtain⟨p,x,y,u,v,rfl,h⟩:=h
  refine'⟨_,?main,?rest⟩
  case main=>
   refine' iU ?c1 ?c2
   case' c1=>refine' kE ?c3 ?c4
   case c3=>exact(pvF 0)
   case' c4=>refine' na (n:=4) rfl ?c5
   case' c5=>refine' iT (iV (i:=1) sc_check_box.nd rfl (aL rfl)) ?c6
   case' c6=>refine' iT (iV (i:=2) sc_check_box.nd rfl (aL rfl)) ?c7
   case' c7=>refine' iT (iV (i:=3) sc_check_box.nd rfl (aL rfl)) ?c8
   case' c8=>exact iT (iV (i:=4) sc_check_box.nd rfl (aL rfl)) jr
   case' c2=>refine' iS ?c9
   case' c9=>refine' jF ?c10 ?c11 ?c12
   case' c10=>refine' PW.pt ?c13
   case' c13=>refine' ow (i5 (OpR.f0 ub) (pvF 1) (pvF 3) (je _)) ?c14
   case' c14=>exact mY (i5 (OpR.f0 ub) (pvF 2) (pvF 4) (je _))
   case' c11=>refine' iS ?c15
   case' c15=>refine' sL (K:=K) rfl Az T.x_NoBox rfl T.g_NoBox ?c16
   case' c16=>exact iN jL iP
   case c12=>exact jj
  case rest=>
   obtain⟨hp,h⟩:=h
   walk_at "ST"
   o_head ⟨kx,kA,om,hp⟩
   rcases h with⟨h1,h2,h⟩|⟨hn,h⟩
   ·rw[if_neg (by omega),if_neg (by omega)];exact h
   ·by_cases z:u<=x
    ·rw[if_pos (by omega)];exact⟨by decide,h⟩
    ·rw[if_neg (by omega),if_pos (by omega)];exact⟨by decide,h⟩
theorem sc_has_point:FnScope ["box","point","x","y","u","v","across","up","w"] ["box","point"] (iR s_has_point):=⟨rfl,rfl,rfl,by decide+kernel,rfl,by decide+kernel,by decide+kernel⟩
theorem ok_has_point{C:Cz}{f:Addr}{fd:FuncData}(F:Fun K "has_point" "has_point" s_has_point f fd)(T:Txt P K mg C):FnOk P w K mg base (CXE P w) 1 f fd ["box","point"] lg:=by
 refine okN F (k:=0) sc_has_point (fun vs H Q E h=> ?_) (fun cdv A outer s H vs Q E hr h=> ?_)
 ·obtain⟨p,q,x,y,u,v,z,rfl,_⟩:=h
  rfl
 ·obtain⟨p,q,x,y,u,v,z,rfl,h⟩:=h
  refine'⟨_,?main,?rest⟩
  case main=>
   refine' iU ?c1 ?c2
   case' c1=>refine' kE ?c3 ?c4
   case c3=>exact(pvF 0)
   case' c4=>refine' na (n:=4) rfl ?c5
   case' c5=>refine' iT (iV (i:=2) sc_has_point.nd rfl (aL rfl)) ?c6
   case' c6=>refine' iT (iV (i:=3) sc_has_point.nd rfl (aL rfl)) ?c7
   case' c7=>refine' iT (iV (i:=4) sc_has_point.nd rfl (aL rfl)) ?c8
   case' c8=>exact iT (iV (i:=5) sc_has_point.nd rfl (aL rfl)) jr
   case' c2=>refine' iU ?c9 ?c10
   case' c9=>refine' kE (pvF 1) ?c11
   case' c11=>refine' na (n:=3) rfl ?c12
   case' c12=>refine' iT (iV (i:=6) sc_has_point.nd rfl (aL rfl)) ?c13
   case' c13=>refine' iT (iV (i:=7) sc_has_point.nd rfl (aL rfl)) ?c14
   case' c14=>exact iT (iV (i:=8) sc_has_point.nd rfl (aL rfl)) jr
   case' c10=>refine' iS ?c15
   case' c15=>refine' i9 ?c16
   case' c16=>refine' As ?c17 ?c18
   case' c17=>exact sM (OpR.f0 t9) (OpR.f0 t9) (iW (OpR.f iY) (pvF 2) (pvF 8)) (pvF 6) (iW (OpR.f iY) (pvF 4) (pvF 8))
   case' c18=>refine' Ap ?c19
   case' c19=>exact sM (OpR.f0 t9) (OpR.f0 t9) (iW (OpR.f iY) (pvF 3) (pvF 8)) (pvF 7) (iW (OpR.f iY) (pvF 5) (pvF 8))
  case rest=>
   obtain⟨hp,hq,⟨b1,b2,b3,b4⟩,b5,h⟩:=h
   walk_at "ST"
   o_head ⟨kx,kA,om,hp,hq,xI,rI,rI,rI,rI,rI,rI⟩
   refine⟨.of b1 b5 (by decide) (by decide),?_⟩
   by_cases c1:x*z.2.2<=z.1
   ·rw[if_pos c1];refine⟨.of b3 b5 (by decide) (by decide),?_⟩
    by_cases c2:z.1<=u*z.2.2
    ·rw[if_pos c2];refine⟨.of b2 b5 (by decide) (by decide),?_⟩
     by_cases c3:y*z.2.2<=z.2.1
     ·rw[if_pos c3];refine⟨.of b4 b5 (by decide) (by decide),?_⟩;have e:qO x y u v z=decide (z.2.1<=v*z.2.2):=by
       unfold qO
       by_cases c4:z.2.1<=v*z.2.2
       ·rw[decide_eq_true c4,decide_eq_true ⟨c1,c2,c3,c4⟩]
       ·rw[decide_eq_false c4,decide_eq_false (fun q=>c4 q.2.2.2)]
      rw[<-e];exact h
     ·rw[if_neg c3];rw[show qO x y u v z=false from decide_eq_false fun q=>c3 q.2.2.1] at h;exact h
    ·rw[if_neg c2];rw[show qO x y u v z=false from decide_eq_false fun q=>c2 q.2.1] at h;exact h
   ·rw[if_neg c1];rw[show qO x y u v z=false from decide_eq_false fun q=>c1 q.1] at h;exact h
theorem uV:FnScope ["box","spot"] ["box","spot"] (iR s_in_box):=⟨rfl,rfl,rfl,by decide+kernel,rfl,by decide+kernel,by decide+kernel⟩
theorem ok_in_box{C:Cz}{f:Addr}{fd:FuncData}(F:Fun K "in_box" "in_box" s_in_box f fd)(T:Txt P K mg C)(F_spot_point:FnB P w K mg base (CXE P w) 1 "spot_point" ["spot"] jR)(F_has_point:FnB P w K mg base (CXE P w) 1 "has_point" ["box","point"] lg):FnOk P w K mg base (CXE P w) 2 f fd ["box","spot"] lE:=by
 refine okN F (k:=1) uV (fun vs H Q E h=> ?_) (fun cdv A outer s H vs Q E hr h=> ?_)
 ·obtain⟨p,q,x,y,u,v,a,b,rfl,_⟩:=h
  rfl
 ·obtain⟨p,q,x,y,u,v,a,b,rfl,h⟩:=h
  refine'⟨_,?main,?rest⟩
  case main=>
   refine' iS ?c1
   case' c1=>refine' i9 ?c2
   case' c2=>refine' ja F_has_point (hr.mono (by decide)) rfl iX ?c3
   case' c3=>refine' iN (pvF 0) ?c4
   case' c4=>refine' iN ?c5 iP
   case' c5=>refine' ja F_spot_point (hr.mono (by decide)) rfl iX ?c6
   case' c6=>exact iN (pvF 1) iP
  case rest=>
   obtain⟨hp,hq,hb,h⟩:=h
   walk_at "ST"
   o_head ⟨jR,hq,rI,rI⟩
   refine⟨a,b,rfl,fun t ht=> ?_⟩;refine⟨p,t,x,y,u,v,(a,b,1),rfl,iZ ht hp,iQ,hb,(Bd.lit (i:=1) (by decide) (by decide)),?_⟩;rw[show qO x y u v (a,b,1)=decide (x<=a /\ a<=u /\ y<=b /\ b<=v) from by unfold qO;dsimp only;rw[dl,dl,dl,dl]];exact h _ (.upd ht)
theorem ot:FnScope ["spots"] ["spots"] (iR s_check_count):=⟨rfl,rfl,rfl,by decide+kernel,rfl,by decide+kernel,by decide+kernel⟩
theorem ok_check_count{C:Cz}{f:Addr}{fd:FuncData}(F:Fun K "check_count" "check_count" s_check_count f fd)(T:Txt P K mg C):FnOk P w K mg base (CXE P w) 1 f fd ["spots"] (jI C):=by
 refine okE F (k:=0) ot (fun vs H Q E h=> ?_) (fun cdv A outer s H vs Q E hr h=> ?_)
 ·obtain⟨l,xs,rfl,_⟩:=h
  rfl
 ·obtain⟨l,xs,rfl,h⟩:=h
  refine'⟨_,?main,?rest⟩
  case main=>
   refine' iS ?c1
   case' c1=>refine' jF ?c2 ?c3 ?c4
   case' c2=>refine' PW.pt ?c5
   case' c5=>refine' ow ?c6 ?c7
   case' c6=>refine' i5 j3 ?c8 iO (je _)
   case' c8=>refine' jf jy (by rfl) T.b_len bS ?c9
   case' c9=>exact iN (pvF 0) iP
   case' c7=>refine' mY ?c10
   case' c10=>refine' i5 (OpR.f0 pF) ?c11 (wE rfl T.n_MOST_SPOTS) (je _)
   case' c11=>refine' jf jy (by rfl) T.b_len bS ?c12
   case' c12=>exact iN (pvF 0) iP
   case' c3=>refine' iS ?c13
   case' c13=>refine' sL (K:=K) rfl Az T.x_TooMany rfl T.g_TooMany ?c14
   case' c14=>exact iN jL iP
   case c4=>exact jj
  case rest=>
   obtain⟨hl,h⟩:=h
   walk_at "ST"
   o_head ⟨hl⟩
   rcases h with⟨h0,h12,h⟩|⟨hn,h⟩
   ·rw[if_neg (by omega),if_neg (by omega)];exact h
   ·by_cases z:xs.length=0
    ·rw[if_pos (by omega)];exact⟨by decide,h⟩
    ·rw[if_neg (by omega),if_pos (by omega)];exact⟨by decide,h⟩
theorem sc_check_spots:FnScope ["spots","number","spot"] ["spots"] (iR s_check_spots):=⟨rfl,rfl,rfl,by decide+kernel,rfl,by decide+kernel,by decide+kernel⟩
theorem ok_check_spots{C:Cz}{f:Addr}{fd:FuncData}(F:Fun K "check_spots" "check_spots" s_check_spots f fd)(T:Txt P K mg C)(F_check_count:FnB P w K mg base (CXE P w) 1 "check_count" ["spots"] (jI C)):FnOk P w K mg base (CXE P w) 2 f fd ["spots"] (sD K C):=by
 refine okE F (k:=1) sc_check_spots (fun vs H Q E h=> ?_) (fun cdv A outer s H vs Q E hr h=> ?_)
 ·obtain⟨l,qs,rs,rfl,_⟩:=h
  rfl
 ·obtain⟨l,qs,rs,rfl,h⟩:=h
  refine'⟨_,?main,?rest⟩
  case main=>
   refine' iU ?c1 ?c2
   case' c1=>refine' jJ ?c3
   case' c3=>refine' ja F_check_count (hr.mono (by decide)) rfl vh ?c4
   case' c4=>exact iN (pvF 0) iP
   case' c2=>refine' iS ?c5
   case' c5=>refine' kD ?c6 ?c7 ?c8 ?c9 ?c10
   case c6=>exact PassesOwn.leaving
   case c7=>exact rfl
   case' c8=>refine' nT (K:=K) rfl rfl T.b_enumerate ?c11
   case' c11=>exact iN (pvF 0) iP
   case' c9=>refine' na (n:=2) rfl ?c12
   case' c12=>refine' iT (iV (i:=1) sc_check_spots.nd rfl (aL rfl)) ?c13
   case' c13=>exact iT (iV (i:=2) sc_check_spots.nd rfl (aL rfl)) jr
   case' c10=>refine' iS ?c14
   case' c14=>refine' jF ?c15 ?c16 ?c17
   case' c15=>refine' i5 (vo (K:=K) rfl (Bf hr)) (pvF 2) ?c18 (by with_unfolding_all rfl)
   case' c18=>exact jS uR (pvF 0) kn (km (pvF 1))
   case' c16=>refine' iS ?c19
   case' c19=>refine' qA (K:=K) rfl Ay T.n_NoSpot T.kp_NoSpot rfl T.g_NoSpot T.b_super hr ?c20
   case' c20=>exact iN (pvF 1) iP
   case c17=>exact jj
  case rest=>
   obtain⟨sp,at_,hT,h⟩:=h
   have lq:(qs.map V.ref).length=rs.length:=by rw[ae,at_.1]
   walk_at "ST"
   o_head ⟨jI⟩
   by_cases hn:0<rs.length /\ rs.length<=12
   rotate_left
   ·exact⟨_,sp,.inr ⟨by rw[lq];exact hn,hT hn⟩⟩
   obtain⟨n0,n12⟩:=hn
   replace h:=h n0 n12
   refine⟨_,sp,.inl ⟨by rw[lq];exact n0,by rw[lq];exact n12,?_⟩⟩;refine lY (fun a' H1=>a'=l /\ H1=H) ?_ ?_
   ·intro R hR;walk_at "RD"
    exact hR _ _ ⟨rfl,rfl⟩
   ·rintro _ _ ⟨rfl,rfl⟩;refine⟨qs.map V.ref,fun i σ H'=>∃o2 o3:Option V,σ=[some (.ref _),o2,o3] /\ Ext _ H' /\ (rs.take i).Nodup,⟨_,_,rfl,.refl _,by simp⟩,?_,?_,?_⟩
    ·rintro i σ H' _ ⟨o2,o3,rfl,x',_⟩;exact SqL.of (x' _ _ sp)
    ·rintro i w1 t σ H' hi ⟨o2,o3,rfl,x',nd⟩ ht;obtain⟨q,hq,rfl⟩:=jG hi
     obtain⟨r,hr1,hr2⟩:=at_.at hq
     have xt:=x'.then (o:= .tup [.int (i:Int),.ref q]) ht
     have et:=iQ (H:=H') (a:=t) (o:= .tup [.int (i:Int),.ref q])
     generalize upd H' t (.tup [.int (i:Int),.ref q])=H2 at xt et⊢
     o_head ⟨kx,kA,om,et,xt _ _ sp,rI,rI,rI,rI,rI,rI,rI⟩
     rw[mE];refine fun s1 h1=> ?_
     have x4:=xt.then (o:= .lst ((qs.map V.ref).take i)) h1
     refine⟨t2d r,(rs.take i).map t2d,oB (iZ h1 (xt _ _ hr2)),.lst (xs:=(qs.take i).map V.ref) (SqL.of ?_) (sH ((at_.ext x4).take i)),nP r,nQ _,?_,?_⟩
     ·rw[iQ,cM]
     ·intro y hy;obtain⟨z',_,rfl⟩:=ay.mp hy
      exact mj z' r
     ·rw[oJ]
      by_cases hm:r∈rs.take i
      ·rw[decide_eq_true hm];walk_at "RD"
       exact fun dx hdx=>(h _ x4).2 i dx ⟨nd,r,hr1,hm⟩ hdx
      ·rw[decide_eq_false hm];walk_at "RD"
       exact⟨x4,oH nd hr1 hm⟩
    ·rintro σ H' ⟨o2,o3,rfl,x',nd⟩;rw[lq,aW] at nd;exact(h _ x').1 nd
theorem sc_check_box_and_spots:FnScope ["box","spots","number","spot"] ["box","spots"] (iR s_check_box_and_spots):=⟨rfl,rfl,rfl,by decide+kernel,rfl,by decide+kernel,by decide+kernel⟩
theorem ok_check_box_and_spots{C:Cz}{f:Addr}{fd:FuncData}(F:Fun K "check_box_and_spots" "check_box_and_spots" s_check_box_and_spots f fd)(T:Txt P K mg C)(F_in_box:FnB P w K mg base (CXE P w) 2 "in_box" ["box","spot"] lE)(F_check_count:FnB P w K mg base (CXE P w) 1 "check_count" ["spots"] (jI C))(F_check_box:FnB P w K mg base (CXE P w) 1 "check_box" ["box"] (j1 C)):FnOk P w K mg base (CXE P w) 3 f fd ["box","spots"] (nM K C):=by
 refine okE F (k:=2) sc_check_box_and_spots (fun vs H Q E h=> ?_) (fun cdv A outer s H vs Q E hr h=> ?_)
 ·obtain⟨b,l,x,y,u,v,qs,rs,rfl,_⟩:=h
  rfl
 ·obtain⟨b,l,x,y,u,v,qs,rs,rfl,h⟩:=h
  refine'⟨_,?main,?rest⟩
  case main=>
   refine' iU ?c1 ?c2
   case' c1=>refine' jJ ?c3
   case' c3=>refine' ja F_check_box (hr.mono (by decide)) rfl vh ?c4
   case' c4=>exact iN (pvF 0) iP
   case' c2=>refine' iU ?c5 ?c6
   case' c5=>refine' jJ ?c7
   case' c7=>refine' ja F_check_count (hr.mono (by decide)) rfl vh ?c8
   case' c8=>exact iN (pvF 1) iP
   case' c6=>refine' iS ?c9
   case' c9=>refine' kD ?c10 ?c11 ?c12 ?c13 ?c14
   case c10=>exact PassesOwn.leaving
   case c11=>exact rfl
   case' c12=>refine' nT (K:=K) rfl rfl T.b_enumerate ?c15
   case' c15=>exact iN (pvF 1) iP
   case' c13=>refine' na (n:=2) rfl ?c16
   case' c16=>refine' iT (iV (i:=2) sc_check_box_and_spots.nd rfl (aL rfl)) ?c17
   case' c17=>exact iT (iV (i:=3) sc_check_box_and_spots.nd rfl (aL rfl)) jr
   case' c14=>refine' iS ?c18
   case' c18=>refine' jF ?c19 ?c20 ?c21
   case' c19=>refine' PW.pt ?c22
   case' c22=>refine' ow ?c23 ?c24
   case' c23=>refine' u8 ?c25
   case' c25=>refine' mO ?c26
   case' c26=>refine' ja F_in_box (hr.mono (by decide)) rfl iX ?c27
   case' c27=>refine' iN (pvF 0) ?c28
   case' c28=>exact iN (pvF 3) iP
   case' c24=>refine' mY ?c29
   case' c29=>refine' i5 (vo (K:=K) rfl (Bf hr)) (pvF 3) ?c30 (by with_unfolding_all rfl)
   case' c30=>exact jS uR (pvF 1) kn (km (pvF 2))
   case' c20=>refine' iS ?c31
   case' c31=>refine' qA (K:=K) rfl Ay T.n_NoSpot T.kp_NoSpot rfl T.g_NoSpot T.b_super hr ?c32
   case' c32=>exact iN (pvF 2) iP
   case c21=>exact jj
  case rest=>
   obtain⟨ok,Vd⟩:=h
   have lq:(qs.map V.ref).length=rs.length:=by rw[ae,ok.at_.1]
   have few:=ok.few
   walk_at "ST"
   o_head ⟨j1,jI,rI,rI⟩
   refine⟨x,y,u,v,ok.bx,?_⟩
   by_cases hb:x<u /\ y<v
   rotate_left
   ·exact .inr ⟨hb,Vd.box hb _ (.refl _)⟩
   obtain⟨xu,yv⟩:=hb
   refine .inl ⟨xu,yv,_,ok.sp,?_⟩
   by_cases hn:0<rs.length /\ rs.length<=12
   rotate_left
   ·exact .inr ⟨by rw[lq];exact hn,Vd.many xu yv hn _ (.refl _)⟩
   obtain⟨n0,n12⟩:=hn
   refine .inl ⟨by rw[lq];exact n0,by rw[lq];exact n12,?_⟩;refine lY (fun a' H1=>a'=l /\ H1=H) ?_ ?_
   ·intro R hR;walk_at "RD"
    exact hR _ _ ⟨rfl,rfl⟩
   ·rintro _ _ ⟨rfl,rfl⟩;refine⟨qs.map V.ref,fun i σ H'=>∃o2 o3:Option V,σ=[some (.ref b),some (.ref _),o2,o3] /\ Ext _ H' /\ ∀j,j<i -> ¬xC x y u v rs j,⟨_,_,rfl,.refl _,fun j hj=>absurd hj (gy _)⟩,?_,?_,?_⟩
    ·rintro i σ H' _ ⟨o2,o3,rfl,x',_⟩;exact SqL.of (x' _ _ ok.sp)
    ·rintro i w1 t σ H' hi ⟨o2,o3,rfl,x',nb⟩ ht;obtain⟨q,hq,rfl⟩:=jG hi
     obtain⟨r,hr1,hr2⟩:=ok.at_.at hq
     have xt:=x'.then (o:= .tup [.int (i:Int),.ref q]) ht
     have et:=iQ (H:=H') (a:=t) (o:= .tup [.int (i:Int),.ref q])
     generalize upd H' t (.tup [.int (i:Int),.ref q])=H2 at xt et⊢;have ok2:=ok.ext xt
     o_head ⟨kx,kA,om,et,lE,rI,rI,rI,rI,rI,rI,rI⟩
     refine⟨_,_,_,_,ok2.bx,r.1,r.2,xt _ _ hr2,ok.b4.1,ok.b4.2.1,ok.b4.2.2.1,ok.b4.2.2.2,fun H3 x3=> ?_⟩;have ok3:=ok2.ext x3
     by_cases hin:ux x y u v r
     rotate_left
     ·rw[if_pos (show¬(x<=r.1 /\ r.1<=u /\ y<=r.2 /\ r.2<=v) from hin)];exact fun dx hdx=>Vd.spot xu yv n0 n12 i ⟨⟨r,hr1,.inl hin⟩,nb⟩ _ dx (xt.trans x3) hdx
     rw[if_neg (fun z=>z (show x<=r.1 /\ r.1<=u /\ y<=r.2 /\ r.2<=v from hin))]
     o_head ⟨ok3.sp⟩
     rw[mE];refine fun s1 h1=> ?_
     have x4:=(xt.trans x3).then (o:= .lst ((qs.map V.ref).take i)) h1
     have ok4:=ok.ext x4
     refine⟨t2d r,(rs.take i).map t2d,oB (x4 _ _ hr2),.lst (xs:=(qs.take i).map V.ref) (SqL.of ?_) (sH (ok4.at_.take i)),nP r,nQ _,?_,?_⟩
     ·rw[iQ,cM]
     ·intro y hy;obtain⟨z',_,rfl⟩:=ay.mp hy
      exact mj z' r
     ·rw[oJ]
      by_cases hm:r∈rs.take i
      ·rw[decide_eq_true hm];walk_at "RD"
       exact fun dx hdx=>Vd.spot xu yv n0 n12 i ⟨⟨r,hr1,.inr hm⟩,nb⟩ _ dx x4 hdx
      ·rw[decide_eq_false hm];walk_at "RD"
       refine⟨x4,fun j hj=> ?_⟩
       by_cases e:j=i
       ·subst e;rintro⟨r',h1',q|q⟩
        ·rw[hr1] at h1';cases h1';exact q hin
        ·rw[hr1] at h1';cases h1';exact hm q
       ·exact nb j (by omega)
    ·rintro σ H' ⟨o2,o3,rfl,x',nb⟩;rw[lq] at nb;refine Vd.right xu yv n0 n12 (fun j z=> ?_) _ x';obtain⟨r,h1,_⟩:=id z
     exact nb j (ad.mp h1).1 z
theorem qu:FnScope ["spots","number"] ["spots","number"] (iR s_others_of):=⟨rfl,rfl,rfl,by decide+kernel,rfl,by decide+kernel,by decide+kernel⟩
theorem ok_others_of{C:Cz}{f:Addr}{fd:FuncData}(F:Fun K "others_of" "others_of" s_others_of f fd)(T:Txt P K mg C):FnOk P w K mg base (CXE P w) 1 f fd ["spots","number"] k9:=by
 refine okN F (k:=0) qu (fun vs H Q E h=> ?_) (fun cdv A outer s H vs Q E hr h=> ?_)
 ·obtain⟨l,i,xs,rfl,_⟩:=h
  rfl
 ·obtain⟨l,i,xs,rfl,h⟩:=h
  refine'⟨_,?main,?rest⟩
  case main=>
   refine' iS ?c1
   case' c1=>refine' i9 ?c2
   case' c2=>refine' mQ (CScope.of_ok (dsc:=iR s_others_of) (N0:=["spots","number"]) (N:=["other","number"]) (k:=1) (js:=[1]) rfl rfl (by decide+kernel)) rfl ?c3 ?c4 ?c5 (fun _ _ _ _ _ _=>(pvF 0))
   case' c3=>refine' jK rfl T.b_range ?c6
   case' c6=>refine' iN ?c7 iP
   case' c7=>refine' jf jy (by rfl) T.b_len bS ?c8
   case' c8=>exact iN (pvF 0) iP
   case' c4=>intro _ _ _ _ _ _;exact(iV (i:=0) (by show bT (["other","number"]:List Str);decide+kernel) rfl (aL rfl))
   case' c5=>intro _ _ _ _ _ _;exact(l9 (i5 vm (pvF 0) (pvF 1) (je _)))
  case rest=>
   obtain⟨hl,hn,h⟩:=h
   walk_at "ST"
   walk_at "RD"
   refine kH xs.length (fun R hR=>by o_head ⟨hl⟩;exact hR) (by omega) (fun D k ys H'=>ys=JsV (jC k i) /\ H' D=some (.lst ys) /\ Ext H H') ?_ ?_ ?_ ?_
   ·intro D hD;exact⟨rfl,iQ,.upd hD⟩
   ·rintro D k ys H1 _ ⟨rfl,e1,x1⟩;refine⟨e1,?_⟩;unfold JsV;rw[ae];exact j6 k i
   ·rintro D k ys H1 hD hk ⟨rfl,e1,x1⟩;walk_at "RD"
    rw[qF]
    by_cases c:k=i
    ·rw[if_neg (fun z=>z (by omega)),if_neg (by omega)];exact⟨rfl,e1,x1⟩
    ·rw[if_pos (by omega),if_pos (by omega)];refine⟨e1,?_,x1.set hD⟩;unfold JsV;rw[au,bH];rfl
   ·rintro D ys H1 hD ⟨rfl,e1,x1⟩;exact h D H1 x1 hD e1
theorem sc_box_field:FnScope ["box","x","y","u","v"] ["box"] (iR s_box_field):=⟨rfl,rfl,rfl,by decide+kernel,rfl,by decide+kernel,by decide+kernel⟩
theorem ok_box_field{C:Cz}{f:Addr}{fd:FuncData}(F:Fun K "box_field" "box_field" s_box_field f fd)(T:Txt P K mg C)(F_check_box:FnB P w K mg base (CXE P w) 1 "check_box" ["box"] lh):FnOk P w K mg base (CXE P w) 2 f fd ["box"] jX:=by
 refine okN F (k:=1) sc_box_field (fun vs H Q E h=> ?_) (fun cdv A outer s H vs Q E hr h=> ?_)
 ·obtain⟨p,x,y,u,v,rfl,_⟩:=h
  rfl
 ·obtain⟨p,x,y,u,v,rfl,h⟩:=h
  refine'⟨_,?main,?rest⟩
  case main=>
   refine' iU ?c1 ?c2
   case' c1=>refine' jJ ?c3
   case' c3=>refine' ja F_check_box (hr.mono (by decide)) rfl iX ?c4
   case' c4=>exact iN (pvF 0) iP
   case' c2=>refine' iU ?c5 ?c6
   case' c5=>refine' kE ?c7 ?c8
   case c7=>exact(pvF 0)
   case' c8=>refine' na (n:=4) rfl ?c9
   case' c9=>refine' iT (iV (i:=1) sc_box_field.nd rfl (aL rfl)) ?c10
   case' c10=>refine' iT (iV (i:=2) sc_box_field.nd rfl (aL rfl)) ?c11
   case' c11=>refine' iT (iV (i:=3) sc_box_field.nd rfl (aL rfl)) ?c12
   case' c12=>exact iT (iV (i:=4) sc_box_field.nd rfl (aL rfl)) jr
   case' c6=>refine' iS ?c13
   case' c13=>refine' i9 ?c14
   case' c14=>refine' jc ?c15
   case' c15=>refine' iN ?c16 ?c17
   case' c16=>refine' jP ?c18
   case' c18=>refine' iN ?c19 ?c20
   case' c19=>refine' jc ?c21
   case' c21=>refine' iN (pvF 1) ?c22
   case' c22=>refine' iN (pvF 2) ?c23
   case' c23=>exact iN iO iP
   case' c20=>refine' iN ?c24 ?c25
   case' c24=>refine' jc ?c26
   case' c26=>refine' iN (pvF 3) ?c27
   case' c27=>refine' iN (pvF 2) ?c28
   case' c28=>exact iN iO iP
   case' c25=>refine' iN ?c29 ?c30
   case' c29=>refine' jc ?c31
   case' c31=>refine' iN (pvF 3) ?c32
   case' c32=>refine' iN (pvF 4) ?c33
   case' c33=>exact iN iO iP
   case' c30=>refine' iN ?c34 iP
   case' c34=>refine' jc ?c35
   case' c35=>refine' iN (pvF 1) ?c36
   case' c36=>refine' iN (pvF 4) ?c37
   case' c37=>exact iN iO iP
   case' c17=>refine' iN ?c38 ?c39
   case' c38=>refine' jP ?c40
   case' c40=>refine' iN ?c41 ?c42
   case' c41=>exact pz (UnR.f lV) iO
   case' c42=>refine' iN ?c43 ?c44
   case' c43=>exact pz (UnR.f lV) iO
   case' c44=>refine' iN ?c45 ?c46
   case' c45=>exact pz (UnR.f lV) iO
   case' c46=>refine' iN ?c47 iP
   case' c47=>exact pz (UnR.f lV) iO
   case c39=>exact iP
  case rest=>
   obtain⟨hp,h1,h2,h⟩:=h
   walk_at "ST"
   o_head ⟨lh⟩
   refine⟨_,_,_,_,hp,h1,h2,?_⟩
   o_head ⟨kx,kA,om,hp⟩
   refine⟨by decide,fun q1 k1=>⟨by decide,fun q2 k2=>⟨by decide,fun q3 k3=>⟨by decide,fun q4 k4=>⟨by decide,fun c kc=>⟨by decide,fun e ke=>⟨by decide,fun t kt=> ?_⟩⟩⟩⟩⟩⟩⟩;have x4:=(((Ext.upd (o:= .tup [.int x,.int y,.int 1]) k1).then (o:= .tup [.int u,.int y,.int 1]) k2).then (o:= .tup [.int u,.int v,.int 1]) k3).then (o:= .tup [.int x,.int v,.int 1]) k4
   have x5:=x4.then (o:= .lst [.ref q1,.ref q2,.ref q3,.ref q4]) kc
   have x6:=x5.then (o:= .lst [.int (-1),.int (-2),.int (-3),.int (-4)]) ke
   refine h t c e [q1,q2,q3,q4] _ (x6.then kt) ⟨x6.none kt,x4.none kc,x5.none ke,jm iQ ke⟩ ⟨iQ,iZ kt (iZ ke iQ),⟨rfl,fun i q z a b=> ?_⟩,iZ kt iQ⟩;have p1:=iZ (o:= .tup [.ref c,.ref e]) kt (iZ (o:= .lst [.int (-1),.int (-2),.int (-3),.int (-4)]) ke (iZ (o:= .lst [.ref q1,.ref q2,.ref q3,.ref q4]) kc (iZ (o:= .tup [.int x,.int v,.int 1]) k4 (iZ (o:= .tup [.int u,.int v,.int 1]) k3 (iZ (o:= .tup [.int u,.int y,.int 1]) k2 (iQ (H:=H) (a:=q1) (o:= .tup [.int x,.int y,.int 1])))))))
   have p2:=iZ (o:= .tup [.ref c,.ref e]) kt (iZ (o:= .lst [.int (-1),.int (-2),.int (-3),.int (-4)]) ke (iZ (o:= .lst [.ref q1,.ref q2,.ref q3,.ref q4]) kc (iZ (o:= .tup [.int x,.int v,.int 1]) k4 (iZ (o:= .tup [.int u,.int v,.int 1]) k3 (iQ (a:=q2) (o:= .tup [.int u,.int y,.int 1]))))))
   have p3:=iZ (o:= .tup [.ref c,.ref e]) kt (iZ (o:= .lst [.int (-1),.int (-2),.int (-3),.int (-4)]) ke (iZ (o:= .lst [.ref q1,.ref q2,.ref q3,.ref q4]) kc (iZ (o:= .tup [.int x,.int v,.int 1]) k4 (iQ (a:=q3) (o:= .tup [.int u,.int v,.int 1])))))
   have p4:=iZ (o:= .tup [.ref c,.ref e]) kt (iZ (o:= .lst [.int (-1),.int (-2),.int (-3),.int (-4)]) ke (iZ (o:= .lst [.ref q1,.ref q2,.ref q3,.ref q4]) kc (iQ (a:=q4) (o:= .tup [.int x,.int v,.int 1]))))
   match i,a,b with
   |0,a,b=>cases a;cases b;exact p1
   |1,a,b=>cases a;cases b;exact p2
   |2,a,b=>cases a;cases b;exact p3
   |3,a,b=>cases a;cases b;exact p4
   |i+4,a,b=>cases a
theorem rE:FnScope ["one","other","here","there"] ["one","other","here","there"] (iR s_crossing):=⟨rfl,rfl,rfl,by decide+kernel,rfl,by decide+kernel,by decide+kernel⟩
theorem ok_crossing{C:Cz}{f:Addr}{fd:FuncData}(F:Fun K "crossing" "crossing" s_crossing f fd)(T:Txt P K mg C)(F_point_of:FnB P w K mg base (CXE P w) 2 "point_of" ["x","y","w"] jQ):FnOk P w K mg base (CXE P w) 3 f fd ["one","other","here","there"] kR:=by
 refine okN F (k:=2) rE (fun vs H Q E h=> ?_) (fun cdv A outer s H vs Q E hr h=> ?_)
 ·obtain⟨p,q,hh,t,a,b,rfl,_⟩:=h
  rfl
 ·obtain⟨p,q,hh,t,a,b,rfl,h⟩:=h
  refine'⟨_,?main,?rest⟩
  case main=>
   refine' iS ?c1
   case' c1=>refine' i9 ?c2
   case' c2=>refine' ja ?c3 ?c4 ?c5 ?c6 ?c7
   case c3=>exact F_point_of
   case c4=>exact(hr.mono (by decide))
   case c5=>exact rfl
   case c6=>exact iX
   case' c7=>refine' iN ?c8 ?c9
   case' c8=>refine' iW (OpR.f0 jw) ?c10 ?c11
   case' c10=>refine' iW (OpR.f iY) ?c12 (pvF 3)
   case' c12=>exact i7 jv (pvF 0) iO (fun _ _=>rfl)
   case' c11=>refine' iW (OpR.f iY) ?c13 (pvF 2)
   case' c13=>exact i7 jv (pvF 1) iO (fun _ _=>rfl)
   case' c9=>refine' iN ?c14 ?c15
   case' c14=>refine' iW (OpR.f0 jw) ?c16 ?c17
   case' c16=>refine' iW (OpR.f iY) ?c18 (pvF 3)
   case' c18=>exact i7 jv (pvF 0) iO (fun _ _=>rfl)
   case' c17=>refine' iW (OpR.f iY) ?c19 (pvF 2)
   case' c19=>exact i7 jv (pvF 1) iO (fun _ _=>rfl)
   case' c15=>refine' iN ?c20 iP
   case' c20=>refine' iW (OpR.f0 jw) ?c21 ?c22
   case' c21=>refine' iW (OpR.f iY) ?c23 (pvF 3)
   case' c23=>exact i7 jv (pvF 0) iO (fun _ _=>rfl)
   case' c22=>refine' iW (OpR.f iY) ?c24 (pvF 2)
   case' c24=>exact i7 jv (pvF 1) iO (fun _ _=>rfl)
  case rest=>
   obtain⟨hp,hq,⟨b1,b2,b3⟩,⟨b4,b5,b6⟩,bh,bt,hw,h⟩:=h
   walk_at "ST"
   o_head ⟨hp,hq,jQ,rI⟩
   have bw:Bd 8000 (a.2.2*t-b.2.2*hh):=((b3.mul bt).sub (b6.mul bh)).mono (by decide)
   refine⟨.of b1 bt (by decide) (by decide),.of b4 bh (by decide) (by decide),.of b2 bt (by decide) (by decide),.of b5 bh (by decide) (by decide),.of b3 bt (by decide) (by decide),.of b6 bh (by decide) (by decide),hw,bw,fun r x1 y1 w1 hr' k1=> ?_⟩;have k2:=mU (x:=a.1*t-b.1*hh) (y:=a.2.1*t-b.2.1*hh) hw
   obtain⟨e1,e2,e3⟩:=isPt_same k1 k2 hw hw rfl rfl
   rw[e1,e2,e3];exact h r hr'
theorem sc_rest:FnScope ["corners","edges","excesses","number","left","at","corner","following","here","there"] ["corners","edges","excesses","number"] (iR s_rest):=⟨rfl,rfl,rfl,by decide+kernel,rfl,by decide+kernel,by decide+kernel⟩
theorem ok_rest{C:Cz}{f:Addr}{fd:FuncData}(F:Fun K "rest" "rest" s_rest f fd)(T:Txt P K mg C)(F_crossing:FnB P w K mg base (CXE P w) 3 "crossing" ["one","other","here","there"] kR):FnOk P w K mg base (CXE P w) 4 f fd ["corners","edges","excesses","number"] (rA K):=by
 refine okN F (k:=3) sc_rest (fun vs H Q E h=> ?_) (fun cdv A outer s H vs Q E hr h=> ?_)
 ·obtain⟨c,e,x,num,qs,l,m,rfl,_⟩:=h
  rfl
 ·obtain⟨c,e,x,num,qs,l,m,rfl,h⟩:=h
  refine'⟨_,?main,?rest⟩
  case main=>
   refine' iU ?c1 ?c2
   case' c1=>refine' jg (i:=4) sc_rest.nd rfl (aL rfl) ?c3
   case' c3=>exact jP iP
   case' c2=>refine' iU ?c4 ?c5
   case' c4=>refine' kD ?c6 ?c7 ?c8 ?c9 ?c10
   case c6=>exact PassesOwn.never
   case c7=>exact rfl
   case' c8=>refine' nT (K:=K) rfl rfl T.b_enumerate ?c11
   case' c11=>exact iN (pvF 0) iP
   case' c9=>refine' na (n:=2) rfl ?c12
   case' c12=>refine' iT (iV (i:=5) sc_rest.nd rfl (aL rfl)) ?c13
   case' c13=>exact iT (iV (i:=6) sc_rest.nd rfl (aL rfl)) jr
   case' c10=>refine' jb ?c14 ?c15
   case' c14=>refine' jg (i:=7) sc_rest.nd rfl (aL rfl) ?c16
   case' c16=>refine' iW (OpR.f lz) ?c17 ?c18
   case' c17=>exact iW (OpR.f0 jA) (pvF 5) iO
   case' c18=>refine' jf jy (by rfl) T.b_len bS ?c19
   case' c19=>exact iN (pvF 0) iP
   case' c15=>refine' jb ?c20 ?c21
   case' c20=>exact jg (i:=8) sc_rest.nd rfl (aL rfl) (i7 jv (pvF 2) (pvF 5) (fun _ _=>rfl))
   case' c21=>refine' jb ?c22 ?c23
   case' c22=>exact jg (i:=9) sc_rest.nd rfl (aL rfl) (i7 jv (pvF 2) (pvF 7) (fun _ _=>rfl))
   case' c23=>refine' jb ?c24 ?c25
   case' c24=>refine' jF ?c26 ?c27 ?c28
   case' c26=>refine' PW.pt ?c29
   case' c29=>refine' ow ?c30 ?c31
   case' c30=>exact i5 (OpR.f0 ni) (pvF 8) iO (je _)
   case' c31=>refine' mY ?c32
   case' c32=>refine' PW.pt ?c33
   case' c33=>refine' oE ?c34 ?c35
   case' c34=>exact i5 j3 (pvF 8) iO (je _)
   case' c35=>refine' mM ?c36
   case' c36=>exact i5 (OpR.f0 t9) (pvF 9) iO (je _)
   case' c27=>refine' iS ?c37
   case' c37=>refine' jJ ?c38
   case' c38=>refine' pe_app (pvF 4) ?c39
   case' c39=>refine' iN ?c40 iP
   case' c40=>refine' jc ?c41
   case' c41=>refine' iN (pvF 6) ?c42
   case' c42=>exact iN (i7 jv (pvF 1) (pvF 5) (fun _ _=>rfl)) iP
   case' c28=>refine' iS ?c43
   case' c43=>refine' jF ?c44 ?c45 ?c46
   case' c44=>exact i5 j3 (pvF 8) iO (je _)
   case' c45=>refine' iS ?c47
   case' c47=>refine' jJ ?c48
   case' c48=>refine' pe_app (pvF 4) ?c49
   case' c49=>refine' iN ?c50 iP
   case' c50=>refine' jc ?c51
   case' c51=>refine' iN (pvF 6) ?c52
   case' c52=>exact iN (pvF 3) iP
   case c46=>exact jj
   case' c25=>refine' iS ?c53
   case' c53=>refine' jF ?c54 ?c55 ?c56
   case' c54=>refine' PW.pt ?c57
   case' c57=>refine' oE ?c58 ?c59
   case' c58=>exact i5 (OpR.f0 ni) (pvF 8) iO (je _)
   case' c59=>refine' mM ?c60
   case' c60=>exact i5 (OpR.f0 pF) (pvF 9) iO (je _)
   case' c55=>refine' iS ?c61
   case' c61=>refine' jJ ?c62
   case' c62=>refine' pe_app ?c63 ?c64
   case c63=>exact(pvF 4)
   case' c64=>refine' iN ?c65 ?c66
   case' c65=>refine' jc ?c67
   case' c67=>refine' iN ?c68 ?c69
   case' c68=>refine' ja F_crossing (hr.mono (by decide)) rfl iX ?c70
   case' c70=>refine' iN (pvF 6) ?c71
   case' c71=>refine' iN (i7 jv (pvF 0) (pvF 7) (fun _ _=>rfl)) ?c72
   case' c72=>refine' iN (pvF 8) ?c73
   case' c73=>exact iN (pvF 9) iP
   case' c69=>exact iN (pvF 3) iP
   case c66=>exact iP
   case' c56=>refine' iS ?c74
   case' c74=>refine' jF ?c75 ?c76 ?c77
   case' c75=>refine' PW.pt ?c78
   case' c78=>refine' oE ?c79 ?c80
   case' c79=>exact i5 (OpR.f0 pF) (pvF 8) iO (je _)
   case' c80=>refine' mM ?c81
   case' c81=>exact i5 (OpR.f0 ni) (pvF 9) iO (je _)
   case' c76=>refine' iS ?c82
   case' c82=>refine' jJ ?c83
   case' c83=>refine' pe_app ?c84 ?c85
   case c84=>exact(pvF 4)
   case' c85=>refine' iN ?c86 ?c87
   case' c86=>refine' jc ?c88
   case' c88=>refine' iN ?c89 ?c90
   case' c89=>refine' ja F_crossing (hr.mono (by decide)) rfl iX ?c91
   case' c91=>refine' iN (pvF 6) ?c92
   case' c92=>refine' iN (i7 jv (pvF 0) (pvF 7) (fun _ _=>rfl)) ?c93
   case' c93=>refine' iN (pvF 8) ?c94
   case' c94=>exact iN (pvF 9) iP
   case' c90=>exact iN (i7 jv (pvF 1) (pvF 5) (fun _ _=>rfl)) iP
   case c87=>exact iP
   case c77=>exact jj
   case' c5=>exact iS (i9 (pvF 4))
  case rest=>
   obtain⟨hc,hq,he,hx,hl,bm,l0,l30,h⟩:=h
   walk_at "ST"
   walk_at "RD"
   refine⟨cL _,fun L hL=> ?_⟩;have lq:qs.length=l.length:=by rw[hq.1,ae]
   refine lY (fun a' H1=>a'=c /\ H1=upd H L (.lst [])) ?_ ?_
   ·intro R hR;walk_at "RD"
    exact hR _ _ ⟨rfl,rfl⟩
   ·rintro c' _ ⟨ec,rfl⟩;subst c';refine⟨qs.map V.ref,fun i σ H'=>∃(o5 o6 o7 o8 o9:Option V) (ts:List Addr),σ=[some (.ref c),some (.ref e),some (.ref x),some (.int num),some (.ref L),o5,o6,o7,o8,o9] /\ H' L=some (.lst (ts.map V.ref)) /\ RwAt H' ts (((edges l).take i).flatMap (lT m num)) /\ Ext H H',⟨_,_,_,_,_,[],rfl,iQ,⟨rfl,fun i t v a=>by simp at a⟩,.upd hL⟩,?_,?_,?_⟩
    ·rintro i σ H' _ ⟨o5,o6,o7,o8,o9,ts,rfl,eL,rw',x'⟩;exact SqL.of (x' _ _ hc)
    ·rintro i w1 t σ H' hi ⟨o5,o6,o7,o8,o9,ts,rfl,eL,rw',x'⟩ ht;obtain⟨q,hqi,rfl⟩:=jG hi
     have li:i<l.length:=by rw[<-lq];exact(ad.mp hqi).1
     obtain⟨va,hva⟩:∃v,l[i]? =some v:=⟨_,aa li⟩
     have lj:(i+1)%l.length<l.length:=Nat.mod_lt _ l0
     obtain⟨vb,hvb⟩:∃v,l[(i+1)%l.length]? =some v:=⟨_,aa lj⟩
     obtain⟨qb,hqb⟩:∃q,qs[(i+1)%l.length]? =some q:=⟨_,aa (by rw[lq];exact lj)⟩
     have hE:=vO hva hvb
     have ha:=hl va (ah hva)
     have hb:=hl vb (ah hvb)
     have eqa:=hq.2 i q va.1 hqi (by rw[ax,hva];rfl)
     have eqb:=hq.2 _ qb vb.1 hqb (by rw[ax,hvb];rfl)
     have bh:Bd 3000 (ex m va.1):=AK bm ha.2
     have bt:Bd 3000 (ex m vb.1):=AK bm hb.2
     have xt:=x'.then (o:= .tup [.int (i:Int),.ref q]) ht
     have et:=iQ (H:=H') (a:=t) (o:= .tup [.int (i:Int),.ref q])
     have eLt:=iZ (o:= .tup [.int (i:Int),.ref q]) ht eL
     have rwt:=rw'.ext (Ext.upd (o:= .tup [.int (i:Int),.ref q]) ht)
     generalize upd H' t (.tup [.int (i:Int),.ref q])=H2 at xt et eLt rwt⊢
     o_head ⟨kx,kA,om,et⟩
     refine⟨fun σ H3=>σ=[some (.ref c),some (.ref e),some (.ref x),some (.int num),some (.ref L),some (.int (i:Int)),some (.ref q),some (.int (((i+1)%l.length:Nat):Int)),o8,o9] /\ H3=H2,?_,?_⟩
     ·o_head ⟨xt _ _ hc,ae,rI,rI⟩
      rw[lq];exact⟨by omega,by rw[Int.natCast_emod];rfl⟩
     ·rintro σ H3 ⟨rfl,rfl⟩;have ai:atI ((l.map fun v=>ex m v.1).map V.int) (i:Int)=some (.int (ex m va.1)):=jz (by rw[ax,ax,hva];rfl)
      have aj:atI ((l.map fun v=>ex m v.1).map V.int) (((i+1)%l.length:Nat):Int)=some (.int (ex m vb.1)):=jz (by rw[ax,ax,hvb];rfl)
      have an:atI ((l.map (·.2.2)).map V.int) (i:Int)=some (.int va.2.2):=jz (by rw[ax,ax,hva];rfl)
      have ac:atI (qs.map V.ref) (((i+1)%l.length:Nat):Int)=some (.ref qb):=jz (by rw[ax,hqb];rfl)
      refine⟨fun σ H4=>σ=[some (.ref c),some (.ref e),some (.ref x),some (.int num),some (.ref L),some (.int (i:Int)),some (.ref q),some (.int (((i+1)%l.length:Nat):Int)),some (.int (ex m va.1)),o9] /\ H4=H3,?_,?_⟩
      ·o_head ⟨xt _ _ hx,ai,rI,rI⟩
      ·rintro σ H4 ⟨rfl,rfl⟩;refine⟨fun σ H5=>σ=[some (.ref c),some (.ref e),some (.ref x),some (.int num),some (.ref L),some (.int (i:Int)),some (.ref q),some (.int (((i+1)%l.length:Nat):Int)),some (.int (ex m va.1)),some (.int (ex m vb.1))] /\ H5=H4,?_,?_⟩
       ·o_head ⟨xt _ _ hx,aj,rI,rI⟩
       ·rintro σ H5 ⟨rfl,rfl⟩;have len30:ts.length<=60:=by
         rw[rwt.1];exact w8 m num l i l30
        refine⟨fun σ H6=>∃ts':List Addr,σ=[some (.ref c),some (.ref e),some (.ref x),some (.int num),some (.ref L),some (.int (i:Int)),some (.ref q),some (.int (((i+1)%l.length:Nat):Int)),some (.int (ex m va.1)),some (.int (ex m vb.1))] /\ H6 L=some (.lst (ts'.map V.ref)) /\ ts'.length<=61 /\ RwAt H6 ts' (((edges l).take i).flatMap (lT m num)++(if ex m va.1<0∨(ex m va.1=0 /\ ex m vb.1<=0) then[va] else if ex m va.1=0 then[(va.1,m,num)] else[])) /\ Ext H H6,?_,?_⟩
        ·o_head ⟨xt _ _ he,an,eLt,rI⟩
         have one:∀(p:Addr) (v:Vx),v.1=va.1 ->H5 p=none ->k7 (ox (upd H5 p (.tup [.ref q,.int v.2.2]) L)) fun xs=>xs.length<1000000 /\ ∃ts':List Addr,HO.lst (xs++[V.ref p])=HO.lst (iK V.ref ts') /\ ts'.length<=61 /\ RwAt (upd (upd H5 p (.tup [.ref q,.int v.2.2])) L (.lst (xs++[V.ref p]))) ts' (((edges l).take i).flatMap (lT m num)++[v]) /\ Ext H (upd (upd H5 p (.tup [.ref q,.int v.2.2])) L (.lst (xs++[V.ref p]))):=by
          intro p v ev hp;obtain⟨A1,A2,A3⟩:=uX (v:=v) hL eLt xt rwt hp (by rw[ev];exact xt _ _ eqa)
          rw[A1,jM,jh];exact⟨by rw[ae];omega,ts++[p],by rw[mq],by rw[al];simp only[bC,bQ];omega,A2,A3⟩
         by_cases h1:ex m va.1<0
         ·rw[if_pos h1,if_pos (.inl h1)];exact⟨by decide,fun p hp=>one p va rfl hp⟩
         ·rw[if_neg h1]
          by_cases h2:ex m va.1=0
          ·rw[if_pos h2]
           by_cases h3:ex m vb.1<=0
           ·rw[if_pos h3,if_pos (.inr ⟨h2,h3⟩)];exact⟨by decide,fun p hp=>one p va rfl hp⟩
           ·rw[if_neg h3,if_pos h2,if_neg (fun z:_∨_=>z.elim h1 fun z=>h3 z.2),if_pos h2];exact⟨by decide,fun p hp=>one p (va.1,m,num) rfl hp⟩
          ·rw[if_neg h2,if_neg h2,if_neg (fun z:_∨_=>z.elim h1 fun z=>h2 z.1),if_neg h2,aK];exact⟨ts,rfl,by omega,rwt,xt⟩
        ·rintro σ H6 ⟨ts',rfl,eL6,len61,rw6,x6⟩;have el1:((edges l).take (i+1)).flatMap (lT m num)=(((edges l).take i).flatMap (lT m num)++(if ex m va.1<0∨(ex m va.1=0 /\ ex m vb.1<=0) then[va] else if ex m va.1=0 then[(va.1,m,num)] else[]))++(if ex m va.1<0 /\ 0<ex m vb.1 then[(jq va.1 vb.1 (ex m va.1) (ex m vb.1),m,num)] else if 0<ex m va.1 /\ ex m vb.1<0 then[(jq va.1 vb.1 (ex m va.1) (ex m vb.1),va.2)] else[]):=by
          rw[bD,hE,cH,bG];simp only[fN,cj,fh,aK];rfl
         rw[el1];generalize(((edges l).take i).flatMap (lT m num)++(if ex m va.1<0∨(ex m va.1=0 /\ ex m vb.1<=0) then[va] else if ex m va.1=0 then[(va.1,m,num)] else[]))=R1 at rw6⊢
         o_head ⟨x6 _ _ hc,ac,eL6,kR⟩
         have two:∀(H1:Hp) (r p:Addr) (v:Vx),v.1=jq va.1 vb.1 (ex m va.1) (ex m vb.1) ->H6 r=none ->H1=upd H6 r (.tup [.int (jq va.1 vb.1 (ex m va.1) (ex m vb.1)).1,.int (jq va.1 vb.1 (ex m va.1) (ex m vb.1)).2.1,.int (jq va.1 vb.1 (ex m va.1) (ex m vb.1)).2.2]) ->H1 p=none ->k7 (ox (upd H1 p (.tup [.ref r,.int v.2.2]) L)) fun xs=>xs.length<1000000 /\ (∃x,some (V.int (ex m vb.1))=x) /\ ∃ts':List Addr,HO.lst (xs++[V.ref p])=HO.lst (iK V.ref ts') /\ RwAt (upd (upd H1 p (.tup [.ref r,.int v.2.2])) L (.lst (xs++[V.ref p]))) ts' (R1++[v]) /\ Ext H (upd (upd H1 p (.tup [.ref r,.int v.2.2])) L (.lst (xs++[V.ref p]))):=by
          intro H1 r p v ev hr eH hp;subst eH;obtain⟨A1,A2,A3⟩:=uX (v:=v) hL (iZ hr eL6) (x6.then hr) (rw6.ext (Ext.upd hr)) hp (by rw[ev];exact iQ)
          rw[A1,jM,jh];exact⟨by rw[ae];omega,⟨_,rfl⟩,ts'++[p],by rw[mq],A2,A3⟩
         have nz1:ex m va.1<0 ->0<ex m vb.1 -> ¬va.1.2.2*ex m vb.1-vb.1.2.2*ex m va.1=0:=fun q1 q2=>by
          exact dB (Int.sub_pos_of_lt (Int.lt_trans (bV hb.1 q1) (bp ha.1 q2)))
         have nz2:0<ex m va.1 ->ex m vb.1<0 -> ¬va.1.2.2*ex m vb.1-vb.1.2.2*ex m va.1=0:=fun q1 q2=>by
          exact Int.ne_of_lt (Int.sub_neg_of_lt (Int.lt_trans (bV ha.1 q2) (bp hb.1 q1)))
         by_cases h1:ex m va.1<0
         ·rw[if_pos h1]
          by_cases h2:0<ex m vb.1
          ·rw[if_pos h2,if_pos ⟨h1,h2⟩];exact⟨va.1,x6 _ _ eqa,vb.1,x6 _ _ eqb,ha.2,hb.2,bh,bt,nz1 h1 h2,fun r hr=>⟨by decide,fun p hp=>two _ r p (_,m,num) rfl hr rfl hp⟩⟩
          ·rw[if_neg h2,if_neg (Int.lt_asymm h1),if_neg fun z=>h2 z.2,if_neg fun z=>Int.lt_asymm h1 z.1,aK];exact⟨⟨_,rfl⟩,ts',rfl,rw6,x6⟩
         ·rw[if_neg h1]
          by_cases h2:0<ex m va.1
          ·rw[if_pos h2]
           by_cases h3:ex m vb.1<0
           ·rw[if_pos h3,if_neg fun z=>h1 z.1,if_pos ⟨h2,h3⟩];refine⟨va.1,x6 _ _ eqa,vb.1,x6 _ _ eqb,ha.2,hb.2,bh,bt,nz2 h2 h3,fun r hr=> ?_⟩;rw[iZ hr (x6 _ _ he),lp,jh,an,jh];exact⟨by decide,fun p hp=>two _ r p (_,va.2) rfl hr rfl hp⟩
           ·rw[if_neg h3,if_neg fun z=>h1 z.1,if_neg fun z=>h3 z.2,aK];exact⟨⟨_,rfl⟩,ts',rfl,rw6,x6⟩
          ·rw[if_neg h2,if_neg fun z=>h1 z.1,if_neg fun z=>h2 z.1,aK];exact⟨⟨_,rfl⟩,ts',rfl,rw6,x6⟩
    ·rintro σ H' ⟨o5,o6,o7,o8,o9,ts,rfl,eL,rw',x'⟩;have el:(edges l).take (qs.map V.ref).length=edges l:=by
      rw[ae,lq];exact cR (by rw[kh];exact aI _)
     rw[el] at rw';walk_at "RD"
     exact h L ts H' x' hL eL rw'
theorem sc_from_first:FnScope ["rows","first","at","row","turned"] ["rows"] (iR s_from_first):=⟨rfl,rfl,rfl,by decide+kernel,rfl,by decide+kernel,by decide+kernel⟩
theorem ok_from_first{C:Cz}{f:Addr}{fd:FuncData}(F:Fun K "from_first" "from_first" s_from_first f fd)(T:Txt P K mg C)(F_ahead:FnB P w K mg base (CXE P w) 1 "ahead" ["one","other"] ny):FnOk P w K mg base (CXE P w) 2 f fd ["rows"] (kP K):=by
 refine okN F (k:=1) sc_from_first (fun vs H Q E h=> ?_) (fun cdv A outer s H vs Q E hr h=> ?_)
 ·obtain⟨t,ts,R,rfl,_⟩:=h
  rfl
 ·obtain⟨t,ts,R,rfl,h⟩:=h
  refine'⟨_,?main,?rest⟩
  case main=>
   refine' iU ?c1 ?c2
   case' c1=>exact jg (i:=1) sc_from_first.nd rfl (aL rfl) iO
   case' c2=>refine' iU ?c3 ?c4
   case' c3=>refine' kD ?c5 ?c6 ?c7 ?c8 ?c9
   case c5=>exact PassesOwn.never
   case c6=>exact rfl
   case' c7=>refine' nT (K:=K) rfl rfl T.b_enumerate ?c10
   case' c10=>exact iN (pvF 0) iP
   case' c8=>refine' na (n:=2) rfl ?c11
   case' c11=>refine' iT (iV (i:=2) sc_from_first.nd rfl (aL rfl)) ?c12
   case' c12=>exact iT (iV (i:=3) sc_from_first.nd rfl (aL rfl)) jr
   case' c9=>refine' iS ?c13
   case' c13=>refine' jF ?c14 ?c15 ?c16
   case' c14=>refine' mO ?c17
   case' c17=>refine' ja F_ahead (hr.mono (by decide)) rfl iX ?c18
   case' c18=>refine' iN ?c19 ?c20
   case' c19=>exact i7 jv (pvF 3) iO (fun _ _=>rfl)
   case' c20=>refine' iN ?c21 iP
   case' c21=>exact i7 jv (i7 jv (pvF 0) (pvF 1) (fun _ _=>rfl)) iO (fun _ _=>rfl)
   case' c15=>exact iS (jg (i:=1) sc_from_first.nd rfl (aL rfl) (pvF 2))
   case c16=>exact jj
   case' c4=>refine' jb ?c22 ?c23
   case' c22=>refine' jg (i:=4) sc_from_first.nd rfl (aL rfl) ?c24
   case' c24=>refine' iW nX ?c25 ?c26
   case' c25=>exact jS uR (pvF 0) (km (pvF 1)) kn
   case' c26=>exact jS uR (pvF 0) kn (km (pvF 1))
   case' c23=>refine' iS ?c27
   case' c27=>refine' i9 ?c28
   case' c28=>refine' jc ?c29
   case' c29=>refine' iN ?c30 ?c31
   case' c30=>refine' mQ (CScope.of_ok (dsc:=iR s_from_first) (N0:=["rows","first","at","row","turned"]) (N:=["row"]) (k:=1) (js:=[]) rfl rfl (by decide+kernel)) rfl (jD (K:=K) rfl (pvF 4)) ?c32 ?c33 ?c34
   case' c32=>intro _ _ _ _ _ _;exact(iV (i:=0) (by show bT (["row"]:List Str);decide+kernel) rfl (aL rfl))
   case' c33=>intro _ _ _ _ _ _;exact jH
   case' c34=>intro _ _ _ _ _ _;exact(i7 jv (pvF 0) iO (fun _ _=>rfl))
   case' c31=>refine' iN ?c35 ?c36
   case' c35=>refine' mQ (CScope.of_ok (dsc:=iR s_from_first) (N0:=["rows","first","at","row","turned"]) (N:=["row"]) (k:=1) (js:=[]) rfl rfl (by decide+kernel)) rfl (jD (K:=K) rfl (pvF 4)) ?c37 ?c38 ?c39
   case' c37=>intro _ _ _ _ _ _;exact(iV (i:=0) (by show bT (["row"]:List Str);decide+kernel) rfl (aL rfl))
   case' c38=>intro _ _ _ _ _ _;exact jH
   case' c39=>intro _ _ _ _ _ _;exact(i7 jv (pvF 0) iO (fun _ _=>rfl))
   case c36=>exact iP
  case rest=>
   obtain⟨ht,rw',hl,l0,l60,h⟩:=h
   have lt:ts.length=R.length:=rw'.1
   walk_at "ST"
   walk_at "RD"
   refine lY (fun a' H1=>a'=t /\ H1=H) ?_ ?_
   ·intro R' hR;walk_at "RD"
    exact hR _ _ ⟨rfl,rfl⟩
   ·rintro t' H1 ⟨et,eH⟩;subst t';subst H1;refine⟨ts.map V.ref,fun i σ H'=>∃(j:Nat) (o2 o3:Option V),σ=[some (.ref t),some (.int (j:Int)),o2,o3,none] /\ j<R.length /\ (∀u,R[j]? =some u -> ∀v∈R.take i,¬Ahd v.1 u.1) /\ Ext H H',⟨0,_,_,rfl,l0,fun u _ v hv=>by simp at hv,.refl _⟩,?_,?_,?_⟩
    ·rintro i σ H' _ ⟨j,o2,o3,rfl,hj,mn,x'⟩;exact SqL.of (x' _ _ ht)
    ·rintro i w1 p σ H' hi ⟨j,o2,o3,rfl,hj,mn,x'⟩ hp;obtain⟨ti,hti,rfl⟩:=jG hi
     have li:i<R.length:=by rw[<-lt];exact(ad.mp hti).1
     obtain⟨vi,hvi⟩:∃v,R[i]? =some v:=⟨_,aa li⟩
     obtain⟨vj,hvj⟩:∃v,R[j]? =some v:=⟨_,aa hj⟩
     obtain⟨tj,htj⟩:∃v,ts[j]? =some v:=⟨_,aa (by rw[lt];exact hj)⟩
     obtain⟨qi,r1,r2⟩:=rw'.2 i ti vi hti hvi
     obtain⟨qj,r3,r4⟩:=rw'.2 j tj vj htj hvj
     have bi:=hl vi (ah hvi)
     have bj:=hl vj (ah hvj)
     have mo:∀{a:P3},B3 601 a ->B3 2000 a:=fun q=>⟨q.1.mono (by decide),q.2.1.mono (by decide),q.2.2.mono (by decide)⟩
     have xt:=x'.then (o:= .tup [.int (i:Int),.ref ti]) hp
     have et:=iQ (H:=H') (a:=p) (o:= .tup [.int (i:Int),.ref ti])
     generalize upd H' p (.tup [.int (i:Int),.ref ti])=H2 at xt et⊢
     o_head ⟨kx,kA,om,et,ny,xt _ _ r1,xt _ _ r2,xt _ _ ht,jz (show(ts.map V.ref)[j]? =some (.ref tj) by rw[ax,htj];rfl),xt _ _ r3,xt _ _ r4,v7⟩;refine⟨mo bi.2,mo bj.2,?_⟩
     by_cases q:Ahd vi.1 vj.1
     ·refine(if_pos q).mpr ⟨i,rfl,li,fun u hu v hv=> ?_,xt⟩;rw[hvi] at hu;cases hu;rw[bD,hvi] at hv;rcases aR.mp hv with hv|hv
      ·exact fun z=>mn vj hvj v hv (z.trans (hl v (cV hv)).1 bi.1 bj.1 q)
      ·rw[fN,bO] at hv;rw[hv];exact Ahd.irr _
     ·refine(if_neg q).mpr ⟨j,rfl,hj,fun u hu v hv=> ?_,xt⟩;rw[hvj] at hu;cases hu;rw[bD,hvi] at hv;rcases aR.mp hv with hv|hv
      ·exact mn vj hvj v hv
      ·rw[fN,bO] at hv;rw[hv];exact q
    ·rintro σ H' ⟨j,o2,o3,rfl,hj,mn,x'⟩;have el:R.take (ts.map V.ref).length=R:=by
      rw[ae,lt];exact aW
     rw[el] at mn;refine⟨fun σ H1=>∃D,σ=[some (.ref t),some (.int (j:Int)),o2,o3,some (.ref D)] /\ H1 D=some (.lst ((rotk j ts).map V.ref)) /\ Ext H H1,?_,?_⟩
     ·o_head ⟨x' _ _ ht,qc,mE,rI⟩
      intro p hp;rw[iZ hp (x' _ _ ht),jM,jh];intro p1 hp1;rw[iZ hp1 iQ,jM,jh];refine⟨by rw[aV,aC,ae];omega,fun p2 hp2=>⟨?_,((x'.then hp).then hp1).then hp2⟩⟩;rw[wv];rfl
     ·rintro σ H1 ⟨D,rfl,eD,x1⟩;have rr:=(rw'.rotk (k:=j) (by omega)).ext x1
      have lr:((rotk j ts).map V.ref).length=(rotk j R).length:=by rw[ae,rr.1]
      have lr':(rotk j R).length=R.length:=pq j R
      walk_at "RD"
      refine j8 (K:=K) (a:=D) (xs:=(rotk j ts).map V.ref) (fun R h=>by walk_at "RD";exact h) (SqL.of eD) (by omega) (fun D' i ys H'=>∃qs':List Addr,ys=qs'.map V.ref /\ H' D'=some (.lst ys) /\ CsAt H' qs' (((rotk j R).take i).map (·.1)) /\ Ext H1 H') ?_ ?_ ?_ ?_
      ·intro D' hD';exact⟨[],rfl,iQ,⟨rfl,fun i q z a=>by simp at a⟩,.upd hD'⟩
      ·rintro D' i ys H2 _ ⟨qs',rfl,e2,c2,x2⟩;refine⟨e2,?_,SqL.of (x2 _ _ eD)⟩;rw[ae,c2.1,ae,aC];omega
      ·rintro D' i w1 ys H2 hD' hi ⟨qs',rfl,e2,c2,x2⟩;obtain⟨ti,hti,rfl⟩:=jG hi
       have li:i<(rotk j R).length:=by rw[<-rr.1];exact(ad.mp hti).1
       obtain⟨vi,hvi⟩:∃v,(rotk j R)[i]? =some v:=⟨_,aa li⟩
       obtain⟨q,r1,r2⟩:=rr.2 i ti vi hti hvi
       o_head ⟨x2 _ _ r1⟩
       refine⟨e2,qs'++[q],by rw[au];rfl,?_,x2.set hD'⟩;rw[bD,hvi,au];exact(c2.snoc (x2 _ _ r2)).setL e2
      ·rintro D' ys H2 hD' ⟨qs',rfl,e2,c2,x2⟩;rw[lr,aW] at c2;have rr2:=rr.ext x2
       refine j8 (K:=K) (a:=D) (xs:=(rotk j ts).map V.ref) (fun R h=>by walk_at "RD";exact h) (SqL.of (x2 _ _ eD)) (by omega) (fun D2 i ys H'=>ys=(((rotk j R).take i).map (·.2.2)).map V.int /\ H' D2=some (.lst ys) /\ Ext H2 H') ?_ ?_ ?_ ?_
       ·intro D2 hD2;exact⟨rfl,iQ,.upd hD2⟩
       ·rintro D2 i ys H3 _ ⟨rfl,e3,x3⟩;refine⟨e3,?_,SqL.of (x3 _ _ (x2 _ _ eD))⟩;rw[ae,ae,aC];omega
       ·rintro D2 i w1 ys H3 hD2 hi ⟨rfl,e3,x3⟩;obtain⟨ti,hti,rfl⟩:=jG hi
        have li:i<(rotk j R).length:=by rw[<-rr.1];exact(ad.mp hti).1
        obtain⟨vi,hvi⟩:∃v,(rotk j R)[i]? =some v:=⟨_,aa li⟩
        obtain⟨q,r1,r2⟩:=rr2.2 i ti vi hti hvi
        o_head ⟨x3 _ _ r1⟩
        refine⟨e3,?_,x3.set hD2⟩;rw[bD,hvi];simp only[gQ,au,aJ,bR]
       ·rintro D2 ys H3 hD2 ⟨rfl,e3,x3⟩;rw[lr,aW] at e3;refine⟨by decide,fun p hp=> ?_⟩;have xe:=(x2.trans x3).then (o:= .tup [.ref D',.ref D2]) hp
        refine h p D' D2 qs' (rotk j R) _ (x1.trans xe) ⟨(x1.trans (x2.trans x3)).none hp,x1.none hD',(x1.trans x2).none hD2,fun z=>by rw[z,hD2] at e2;cases e2⟩ ⟨iQ,iZ hp (x3 _ _ e2),(c2.ext x3).ext (Ext.upd hp),iZ hp e3⟩ (Rot.of j R) fun v hv u hu=> ?_
        rw[uY hj] at hu;exact mn u hu v hv
theorem sc_cut:FnScope ["field","line","number","corners","edges","excesses"] ["field","line","number"] (iR s_cut):=⟨rfl,rfl,rfl,by decide+kernel,rfl,by decide+kernel,by decide+kernel⟩
theorem ok_cut{C:Cz}{f:Addr}{fd:FuncData}(F:Fun K "cut" "cut" s_cut f fd)(T:Txt P K mg C)(F_rest:FnB P w K mg base (CXE P w) 4 "rest" ["corners","edges","excesses","number"] (rA K))(F_from_first:FnB P w K mg base (CXE P w) 2 "from_first" ["rows"] (kP K))(F_excess:FnB P w K mg base (CXE P w) 1 "excess" ["line","point"] l7):FnOk P w K mg base (CXE P w) 5 f fd ["field","line","number"] (sC K):=by
 refine okN F (k:=4) sc_cut (fun vs H Q E h=> ?_) (fun cdv A outer s H vs Q E hr h=> ?_)
 ·obtain⟨f,ln,num,c,e,qs,l,m,rfl,_⟩:=h
  rfl
 ·obtain⟨f,ln,num,c,e,qs,l,m,rfl,h⟩:=h
  refine'⟨_,?main,?rest⟩
  case main=>
   refine' jb ?c1 ?c2
   case' c1=>refine' kE (pvF 0) ?c3
   case' c3=>refine' na (n:=2) rfl ?c4
   case' c4=>refine' iT (iV (i:=3) sc_cut.nd rfl (aL rfl)) ?c5
   case' c5=>exact iT (iV (i:=4) sc_cut.nd rfl (aL rfl)) jr
   case' c2=>refine' jb ?c6 ?c7
   case' c6=>refine' qB (i:=5) ?c8 ?c9 ?c10 ?c11 ?c12 ?c13 ?c14 ?c15 ?c16
   case c8=>exact(CScope.of_ok (dsc:=iR s_cut) (N0:=["field","line","number","corners","edges","excesses"]) (N:=["corner","line"]) (k:=1) (js:=[1]) rfl rfl (by decide+kernel))
   case c9=>exact rfl
   case c10=>exact(jD (K:=K) rfl (pvF 3))
   case' c11=>intro _ _ _ _ _ _;exact(iV (i:=0) (by show bT (["corner","line"]:List Str);decide+kernel) rfl (aL rfl))
   case' c12=>intro _ _ _ _ _ _;exact jH
   case' c13=>intro _ _ _ _ _ _;refine' ja F_excess (hr.mono (by decide)) rfl iX ?c17
   case' c17=>refine' iN (pvF 1) ?c18
   case' c18=>exact iN (pvF 0) iP
   case c14=>exact sc_cut.nd
   case c15=>exact rfl
   case c16=>exact rfl
   case' c7=>refine' iU ?c19 ?c20
   case' c19=>refine' jF ?c21 ?c22 ?c23
   case' c21=>refine' i5 (OpR.f0 t9) ?c24 iO (je _)
   case' c24=>refine' jf (kj (K:=K) rfl rfl) (by rfl) T.b_max boot_max ?c25
   case' c25=>exact iN (pvF 5) iP
   case' c22=>refine' iS ?c26
   case' c26=>refine' i9 ?c27
   case' c27=>refine' jc ?c28
   case' c28=>refine' iN ?c29 ?c30
   case' c29=>refine' j2 j7 (by rfl) T.b_list boot_list ?c31
   case' c31=>exact iN (pvF 3) iP
   case' c30=>refine' iN ?c32 iP
   case' c32=>refine' j2 j7 (by rfl) T.b_list boot_list ?c33
   case' c33=>exact iN (pvF 4) iP
   case c23=>exact jj
   case' c20=>refine' iU ?c34 ?c35
   case' c34=>refine' jF ?c36 ?c37 ?c38
   case' c36=>refine' i5 (OpR.f0 ub) ?c39 iO (je _)
   case' c39=>refine' jf (kM (K:=K) rfl rfl) (by rfl) T.b_min boot_min ?c40
   case' c40=>exact iN (pvF 5) iP
   case' c37=>refine' iS ?c41
   case' c41=>exact i9 vf
   case c38=>exact jj
   case' c35=>refine' iS ?c42
   case' c42=>refine' i9 ?c43
   case' c43=>refine' ja F_from_first (hr.mono (by decide)) rfl iX ?c44
   case' c44=>refine' iN ?c45 iP
   case' c45=>refine' ja F_rest (hr.mono (by decide)) rfl iX ?c46
   case' c46=>refine' iN (pvF 3) ?c47
   case' c47=>refine' iN (pvF 4) ?c48
   case' c48=>refine' iN (pvF 5) ?c49
   case' c49=>exact iN (pvF 2) iP
  case rest=>
   obtain⟨hf,hln,hP,hB,bm,l30,hN,hS,hR⟩:=h
   have bc:∀v∈l,0<v.1.2.2 /\ B3 601 v.1:=fun v hv=>⟨hP.pos v hv,og hP hB hv⟩
   have lq:qs.length=l.length:=by rw[hf.pt.1,ae]
   have l3:=hP.three
   walk_at "ST"
   refine⟨fun σ H1=>σ=[some (.ref f),some (.ref ln),some (.int num),some (.ref c),some (.ref e),none] /\ H1=H,?_,?_⟩
   ·o_head ⟨hf.at_,kx,kA,om⟩
   ·rintro σ H1 ⟨rfl,eH⟩;subst H1;refine⟨fun σ H1=>∃D,σ=[some (.ref f),some (.ref ln),some (.int num),some (.ref c),some (.ref e),some (.ref D)] /\ H1 D=some (.lst ((l.map fun v=>ex m v.1).map V.int)) /\ Ext H H1,?_,?_⟩
    ·walk_at "RD"
     refine j8 (K:=K) (a:=c) (xs:=qs.map V.ref) (fun R h=>by walk_at "RD";exact h) (SqL.of hf.cs) (by rw[ae];omega) (fun D i ys H'=>ys=((l.take i).map fun v=>ex m v.1).map V.int /\ H' D=some (.lst ys) /\ Ext H H') ?_ ?_ ?_ ?_
     ·intro D hD;exact⟨rfl,iQ,.upd hD⟩
     ·rintro D i ys H1 _ ⟨rfl,e1,x1⟩;refine⟨e1,?_,SqL.of (x1 _ _ hf.cs)⟩;rw[ae,ae,aC];omega
     ·rintro D i w1 ys H1 hD hi ⟨rfl,e1,x1⟩;obtain⟨q,hq,rfl⟩:=jG hi
      have li:i<l.length:=by rw[<-lq];exact(ad.mp hq).1
      obtain⟨v,hv⟩:∃v,l[i]? =some v:=⟨_,aa li⟩
      have eqv:=hf.pt.2 i q v.1 hq (by rw[ax,hv];rfl)
      have bv:=(bc v (ah hv)).2
      o_head ⟨l7,x1 _ _ hln,x1 _ _ eqv,rI⟩
      refine⟨⟨bm.1.mono (by decide),bm.2.1.mono (by decide),bm.2.2.mono (by decide)⟩,⟨bv.1.mono (by decide),bv.2.1.mono (by decide),bv.2.2.mono (by decide)⟩,e1,?_,x1.set hD⟩;rw[bD,hv];simp only[gQ,au,aJ,bR];rfl
     ·rintro D ys H1 hD ⟨rfl,e1,x1⟩;rw[ae,lq,aW] at e1;walk_at "RD"
      exact⟨e1,x1⟩
    ·rintro σ H1 ⟨D,rfl,eD,x1⟩;have f1:=hf.ext x1
     walk_at "RD"
     refine⟨D,l.map (fun v=>ex m v.1),rfl,SqL.of eD,by rw[ae];omega,fun M hM hlM=> ?_⟩;obtain⟨u,hu,eu⟩:=ay.mp hM;dsimp only
     by_cases q1:M<=0
     ·rw[if_pos q1,f1.cs,lp,jh];intro p hp;rw[iZ hp f1.es,lp,jh];intro p1 hp1;refine⟨by decide,fun p2 hp2=> ?_⟩;have xa:=Ext.upd (o:= .lst (qs.map V.ref)) hp
      have xb:=xa.then (o:= .lst ((l.map (·.2.2)).map V.int)) hp1
      have xc:=xb.then (o:= .tup [.ref p,.ref p1]) hp2
      refine hS p2 p p1 qs _ (x1.trans xc) ⟨x1.none (xb.none hp2),x1.none hp,(x1.trans xa).none hp1,fun z=>by rw[<-z,iQ] at hp1;cases hp1⟩ ⟨iQ,iZ hp2 (iZ hp1 iQ),f1.pt.ext xc,iZ hp2 iQ⟩ fun v hv=>fH (hlM _ (ay.mpr ⟨v,hv,rfl⟩)) q1
     ·rw[if_neg q1];refine⟨D,l.map (fun v=>ex m v.1),rfl,SqL.of eD,by rw[ae];omega,fun M' hM' hlM'=> ?_⟩;obtain⟨u',hu',eu'⟩:=ay.mp hM';dsimp only
      have hp:∃v∈l,0<ex m v.1:=⟨u,hu,by omega⟩
      by_cases q2:0<=M'
      ·rw[if_pos q2];exact hN H1 x1 (fun v hv=>fH q2 (hlM' _ (ay.mpr ⟨v,hv,rfl⟩))) hp
      ·rw[if_neg q2];have hn:∃v∈l,ex m v.1<0:=⟨u',hu',by omega⟩
       have hP':=lM hP m num hp hn
       have hB':=pr (num:=num) hB bm
       refine⟨c,e,D,num,qs,l,m,rfl,f1.cs,f1.pt,f1.es,eD,bc,bm,by omega,l30,fun t ts H2 x2 ht2 et2 rw2=> ?_⟩;refine⟨t,ts,jB m num l,rfl,et2,rw2,fun v hv=>⟨hP'.pos v hv,og hP' hB' hv⟩,?_,?_,?_⟩
       ·have:=hP'.three
        omega
       ·have:=sf hP m num hp hn
        omega
       ·intro f' c' e' qs' l' H3 x3 nf ff rr ld;have x12:=x1.trans x2
        exact hR f' c' e' qs' l' H3 (x12.trans x3) ⟨x12.none nf.nf,x12.none nf.nc,x12.none nf.ne,nf.ce⟩ ff hp hn rr ld
theorem sc_cut_each:FnScope ["field","cuts","line","number"] ["field","cuts"] (iR s_cut_each):=⟨rfl,rfl,rfl,by decide+kernel,rfl,by decide+kernel,by decide+kernel⟩
theorem ok_cut_each{C:Cz}{f:Addr}{fd:FuncData}(F:Fun K "cut_each" "cut_each" s_cut_each f fd)(T:Txt P K mg C)(F_cut:FnB P w K mg base (CXE P w) 5 "cut" ["field","line","number"] (sC K)):FnOk P w K mg base (CXE P w) 6 f fd ["field","cuts"] (lG K):=by
 refine okN F (k:=5) sc_cut_each (fun vs H Q E h=> ?_) (fun cdv A outer s H vs Q E hr h=> ?_)
 ·obtain⟨f,o,c,e,ps,L,ts,cs,P',NN,rfl,_⟩:=h
  rfl
 ·obtain⟨f,o,c,e,ps,L,ts,cs,P',NN,rfl,h⟩:=h
  refine'⟨_,?main,?rest⟩
  case main=>
   refine' iU ?c1 ?c2
   case' c1=>refine' kD ?c3 ?c4 ?c5 ?c6 ?c7
   case c3=>exact PassesOwn.never
   case c4=>exact rfl
   case c5=>exact(jD (K:=K) rfl (pvF 1))
   case' c6=>refine' na (n:=2) rfl ?c8
   case' c8=>refine' iT (iV (i:=2) sc_cut_each.nd rfl (aL rfl)) ?c9
   case' c9=>exact iT (iV (i:=3) sc_cut_each.nd rfl (aL rfl)) jr
   case' c7=>refine' iU ?c10 ?c11
   case' c10=>refine' jF ?c12 ?c13 jj
   case' c12=>exact u9 (At (pvF 0))
   case' c13=>refine' iS ?c14
   case' c14=>exact i9 vf
   case' c11=>refine' iS ?c15
   case' c15=>refine' jg (i:=0) sc_cut_each.nd rfl (aL rfl) ?c16
   case' c16=>refine' ja F_cut (hr.mono (by decide)) rfl iX ?c17
   case' c17=>refine' iN (pvF 0) ?c18
   case' c18=>refine' iN (pvF 2) ?c19
   case' c19=>exact iN (pvF 3) iP
   case' c2=>exact iS (i9 (pvF 0))
  case rest=>
   obtain⟨hf,ho,hcs,hP0,hst,hN,h⟩:=h
   walk_at "ST"
   walk_at "RD"
   refine qh (K:=K) (a:=o) (xs:=ts.map V.ref) (fun R h=>by walk_at "RD";exact h) (fun k σ H'=>∃(va:V) (o2 o3:Option V),σ=[some va,some (.ref o),o2,o3] /\ Ext H H' /\ ((va= .non /\ NN)∨∃(f' c' e':Addr) (ps':List Addr) (L':List Vx),va= .ref f' /\ (NewF H f' c' e'∨(k=0 /\ f'=f /\ c'=c /\ e'=e)) /\ FldAt H' f' c' e' ps' L' /\ P' k L')) ⟨_,_,_,rfl,.refl _,.inr ⟨f,c,e,ps,L,rfl,.inr ⟨rfl,rfl,rfl,rfl⟩,hf,hP0⟩⟩ ?_ ?_ ?_
   ·rintro k σ H1 _ ⟨va,o2,o3,rfl,x1,_⟩;exact SqL.of (x1 _ _ ho)
   ·rintro k w1 σ H1 hk ⟨va,o2,o3,rfl,x1,hv⟩;obtain⟨t,ht,rfl⟩:=jG hk
    have li:=(ad.mp ht).1
    obtain⟨w',hw⟩:∃z,cs[k]? =some z:=⟨_,aa (by rw[<-hcs.1];exact li)⟩
    obtain⟨q,et,eq⟩:=hcs.2 k t w' ht hw
    o_head ⟨kx,kA,om,x1 _ _ et⟩
    rcases hv with⟨rfl,nn⟩|⟨f',c',e',ps',L',rfl,nf1,hf1,hP1⟩
    ·walk_at "RD"
     exact hN nn H1 x1
    ·obtain⟨s1,s2,s3,s4,s5,s6,s7⟩:=hst k w' L' hw hP1
     o_head ⟨sC⟩
     refine⟨c',e',ps',L',hf1,w'.1,x1 _ _ eq,s1,s2,s3,s4,?_,?_,?_⟩
     ·intro H2 x2 q1 q2;exact⟨x1.trans x2,s7 q1 q2⟩
     ·intro f2 c2 e2 ps2 H2 x2 nf2 hf2 q1;exact⟨x1.trans x2,c2,e2,⟨x1.none nf2.nf,x1.none nf2.nc,x1.none nf2.ne,nf2.ce⟩,ps2,L',hf2,s5 q1⟩
     ·intro f2 c2 e2 ps2 L2 H2 x2 nf2 hf2 q1 q2 rt ld;exact⟨x1.trans x2,c2,e2,⟨x1.none nf2.nf,x1.none nf2.nc,x1.none nf2.ne,nf2.ce⟩,ps2,L2,hf2,s6 L2 q1 q2 rt ld⟩
   ·rintro σ H1 ⟨va,o2,o3,rfl,x1,hv⟩;walk_at "RD"
    rcases hv with⟨rfl,nn⟩|⟨f',c',e',ps',L',rfl,nf1,hf1,hP1⟩
    ·exact hN nn H1 x1
    ·rw[ae,hcs.1] at hP1 nf1;exact h f' c' e' ps' L' H1 x1 nf1 hf1 hP1
theorem sc_far_land:FnScope ["box","spots","number","cuts"] ["box","spots","number"] (iR s_far_land):=⟨rfl,rfl,rfl,by decide+kernel,rfl,by decide+kernel,by decide+kernel⟩
theorem ok_far_land{C:Cz}{f:Addr}{fd:FuncData}(F:Fun K "far_land" "far_land" s_far_land f fd)(T:Txt P K mg C)(F_box_field:FnB P w K mg base (CXE P w) 2 "box_field" ["box"] jX)(F_cut_each:FnB P w K mg base (CXE P w) 6 "cut_each" ["field","cuts"] (lG K))(F_others_of:FnB P w K mg base (CXE P w) 1 "others_of" ["spots","number"] k9)(F_between:FnB P w K mg base (CXE P w) 3 "between" ["one","other"] jY):FnOk P w K mg base (CXE P w) 7 f fd ["box","spots","number"] (mJ K):=by
 refine okN F (k:=6) sc_far_land (fun vs H Q E h=> ?_) (fun cdv A outer s H vs Q E hr h=> ?_)
 ·obtain⟨b,l,i,x,y,u,v,qs,rs,r,rfl,_⟩:=h
  rfl
 ·obtain⟨b,l,i,x,y,u,v,qs,rs,r,rfl,h⟩:=h
  refine'⟨_,?main,?rest⟩
  case main=>
   refine' jb ?c1 ?c2
   case' c1=>refine' qB (i:=3) ?c3 ?c4 ?c5 ?c6 ?c7 ?c8 ?c9 ?c10 ?c11
   case c3=>exact(CScope.of_ok (dsc:=iR s_far_land) (N0:=["box","spots","number","cuts"]) (N:=["other","spots","number"]) (k:=1) (js:=[1,2]) rfl rfl (by decide+kernel))
   case c4=>exact rfl
   case' c5=>refine' jD (K:=K) rfl ?c12
   case' c12=>refine' PE.up ?c13
   case' c13=>refine' ja F_others_of (hr.mono (by decide)) rfl iX ?c14
   case' c14=>refine' iN (pvF 1) ?c15
   case' c15=>exact iN (pvF 2) iP
   case' c6=>intro _ _ _ _ _ _;exact(iV (i:=0) (by show bT (["other","spots","number"]:List Str);decide+kernel) rfl (aL rfl))
   case' c7=>intro _ _ _ _ _ _;exact jH
   case' c8=>intro _ _ _ _ _ _;refine' jc ?c16
   case' c16=>refine' iN ?c17 ?c18
   case' c17=>refine' ja F_between (hr.mono (by decide)) rfl iX ?c19
   case' c19=>refine' iN (i7 jv (pvF 1) (pvF 0) (fun _ _=>rfl)) ?c20
   case' c20=>exact iN (i7 jv (pvF 1) (pvF 2) (fun _ _=>rfl)) iP
   case' c18=>exact iN (pvF 0) iP
   case c9=>exact sc_far_land.nd
   case c10=>exact rfl
   case c11=>exact rfl
   case' c2=>refine' iS ?c21
   case' c21=>refine' i9 ?c22
   case' c22=>refine' ja F_cut_each (hr.mono (by decide)) rfl iX ?c23
   case' c23=>refine' iN ?c24 ?c25
   case' c24=>refine' ja F_box_field (hr.mono (by decide)) rfl iX ?c26
   case' c26=>exact iN (pvF 0) iP
   case' c25=>exact iN (pvF 3) iP
  case rest=>
   obtain⟨ok,hri,hN,h⟩:=h
   have lq:qs.length=rs.length:=ok.at_.1
   have lq':(qs.map V.ref).length=rs.length:=by rw[ae];exact ok.at_.1
   have n12:=ok.n12
   obtain⟨qi,hqi⟩:∃q,qs[i]? =some q:=⟨_,aa (by rw[lq];exact(ad.mp hri).1)⟩
   have eqi:=ok.at_.2 i qi r hqi hri
   have ai:atI (qs.map V.ref) (i:Int)=some (.ref qi):=jz (by rw[ax,hqi];rfl)
   have br:=ok.b2 (ah hri)
   have z:=ok.sz
   walk_at "ST"
   refine⟨fun σ H'=>∃(D:Addr) (ts:List Addr),σ=[some (.ref b),some (.ref l),some (.int (i:Int)),some (.ref D)] /\ H' D=some (.lst (ts.map V.ref)) /\ RwAt H' ts (j4 rs r i) /\ Ext H H',?_,?_⟩
   ·walk_at "RD"
    refine nG (fun w H'=>∃D,w= .ref D /\ Ext H H' /\ H D=none /\ H' D=some (.lst (JsV (jC rs.length i)))) ?_ ?_
    ·o_head ⟨k9⟩
     refine⟨i,rfl,qs.map V.ref,ok.sp,by rw[lq'];omega,fun D H1 x1 hD eD=> ?_⟩;rw[lq'] at eD;exact⟨x1,hD,eD⟩
    ·rintro w1 H1 ⟨o,rfl,x1,ho0,ho⟩;have lj:(JsV (jC rs.length i)).length=(jC rs.length i).length:=by unfold JsV;rw[ae]
     have lo:=j6 rs.length i
     refine⟨o,JsV (jC rs.length i),rfl,SqL.of ho,by omega,fun D k ys H'=>∃ts:List Addr,ys=ts.map V.ref /\ RwAt H' ts (((jC rs.length i).take k).map (zy rs r)) /\ H' D=some (.lst ys) /\ Ext H1 H',?_,?_,?_,?_⟩
     ·intro D hD;exact⟨[],rfl,⟨rfl,fun i t v a=>by simp at a⟩,iQ,.upd hD⟩
     ·rintro D k ys H2 _ ⟨ts,rfl,r1,e1,x2⟩;refine⟨e1,?_,SqL.of (x2 _ _ ho)⟩;rw[ae,r1.1,ae,aC];omega
     ·rintro D k w1 ys H2 hD hk ⟨ts,rfl,r1,e1,x2⟩;obtain⟨j,hj,rfl⟩:=v9 hk
      obtain⟨jl,ji⟩:=mem_othersL.mp (ah hj)
      obtain⟨s,hs⟩:∃s,rs[j]? =some s:=⟨_,aa jl⟩
      obtain⟨qj,hqj⟩:∃q,qs[j]? =some q:=⟨_,aa (by rw[lq];exact jl)⟩
      have x12:=x1.trans x2
      have eqj:=x12 _ _ (ok.at_.2 j qj s hqj hs)
      have ok1:=ok.ext x12
      have ne:=nodup_ne ok.nd hri hs ji
      have bs:=ok.b2 (ah hs)
      have aj:atI (qs.map V.ref) (j:Int)=some (.ref qj):=jz (by rw[ax,hqj];rfl)
      o_head ⟨ok1.sp,ai,aj,jY,x12 _ _ eqi,eqj,zB,rI,rI,rI,rI,rI⟩
      refine⟨⟨bs.1.mono (by decide),bs.2.mono (by decide)⟩,⟨br.1.mono (by decide),br.2.mono (by decide)⟩,ne.symm,fun t ht=>⟨by decide,fun t2 ht2=> ?_⟩⟩;have e1':=iZ (o:= .tup [.ref t,.int (j:Int)]) ht2 (iZ (o:= .tup [.int (lnB s r).1,.int (lnB s r).2.1,.int (lnB s r).2.2]) ht e1)
      refine⟨e1',ts++[t2],by rw[mq],?_,((x2.then ht).then ht2).set hD⟩;rw[bD,hj,au];refine RwAt.setL (xs:=ts.map V.ref) ?_ e1';refine RwAt.snoc ((r1.ext (Ext.upd ht)).ext (Ext.upd ht2)) (q:=t) ?_ ?_
      ·rw[oj hs];exact iQ
      ·rw[oj hs];exact iZ ht2 iQ
     ·rintro D ys H2 hD ⟨ts,rfl,r1,e1,x2⟩;rw[lj,aW] at r1;exact⟨D,rfl,ts,e1,r1,x1.trans x2⟩
   ·rintro σ H1 ⟨D,ts,rfl,eD,rw1,x1⟩;have ok1:=ok.ext x1
    have xu:=ok.xu
    have yv:=ok.yv
    o_head ⟨jX⟩
    refine⟨x,y,u,v,ok1.bx,ok.xu,ok.yv,fun f c e ps H2 x2 nf hf=> ?_⟩;have bx:Bd 300 x /\ Bd 300 y /\ Bd 300 u /\ Bd 300 v:=⟨kO (by omega) (by omega) 300,kO (by omega) (by omega) 300,kO (by omega) (by omega) 300,kO (by omega) (by omega) 300⟩
    refine⟨f,D,c,e,ps,ky x y u v,ts,j4 rs r i,fun k l'=>CutsOk x y u v ((j4 rs r i).take k) l',oi x y u v (j4 rs r i),rfl,hf,x2 _ _ eD,rw1.ext x2,tM ok.xu ok.yv bx,?_,fun nn H3 x3=>hN nn H3 ((x1.trans x2).trans x3),fun f' c' e' ps' L' H3 x3 nf3 hf3 hL3=> ?_⟩
    ·intro k w1 L1 hk hL1;have hk':=hk
     unfold j4 at hk;rw[ax] at hk;obtain⟨j,hj,rfl⟩:∃j,(jC rs.length i)[k]? =some j /\ w1=zy rs r j:=by
      cases e:(jC rs.length i)[k]? with
      |none=>rw[e] at hk;cases hk
      |some q=>rw[e] at hk;exact⟨q,rfl,(bA.inj hk).symm⟩
     obtain⟨jl,ji⟩:=mem_othersL.mp (ah hj)
     obtain⟨s,hs⟩:∃s,rs[j]? =some s:=⟨_,aa jl⟩
     have ne:=nodup_ne ok.nd hri hs ji
     have bm:B3 300 (zy rs r j).1:=by
      rw[oj hs];have a1:=ok.ins r (ah hri)
      have a2:=ok.ins s (ah hs)
      have b:=sP (n:=110) (kO (n:=s.1) (by omega) (by omega) 110) (kO (n:=s.2) (by omega) (by omega) 110) (kO (n:=r.1) (by omega) (by omega) 110) (kO (n:=r.2) (by omega) (by omega) 110) ne.symm
      exact⟨b.1.mono (by decide),b.2.1.mono (by decide),b.2.2.mono (by decide)⟩
     have lL:=hL1.len
     have lF:(j4 rs r i).length<=12:=by
      unfold j4;rw[ae];exact bJ (j6 _ _) n12
     rw[aC] at lL;have tk:(j4 rs r i).take (k+1)=(j4 rs r i).take k++[zy rs r j]:=by
      rw[bD,hk'];rfl
     refine⟨hL1.poly,hL1.lnb,bm,by omega,fun q1=> ?_,fun l' q1 q2 rt ld=> ?_,fun q1 _=>none_of hL1 hk' q1⟩
     ·show CutsOk x y u v ((j4 rs r i).take (k+1)) _
      rw[tk];exact vX hL1 q1
     ·show CutsOk x y u v ((j4 rs r i).take (k+1)) _
      rw[tk];exact xi hL1 bm q1 q2 rt ld
    ·replace hL3:CutsOk x y u v ((j4 rs r i).take (j4 rs r i).length) L':=hL3
     rw[aW] at hL3;have x12:=x1.trans x2
     refine h f' c' e' ps' L' H3 (x12.trans x3) ?_ hf3 hL3;rcases nf3 with n|⟨_,rfl,rfl,rfl⟩
     ·exact⟨x12.none n.nf,x12.none n.nc,x12.none n.ne,n.ce⟩
     ·exact⟨x1.none nf.nf,x1.none nf.nc,x1.none nf.ne,nf.ce⟩
theorem qw:FnScope ["box","spots"] ["box","spots"] (iR s_far_lands):=⟨rfl,rfl,rfl,by decide+kernel,rfl,by decide+kernel,by decide+kernel⟩
theorem ok_far_lands{C:Cz}{f:Addr}{fd:FuncData}(F:Fun K "far_lands" "far_lands" s_far_lands f fd)(T:Txt P K mg C)(F_far_land:FnB P w K mg base (CXE P w) 7 "far_land" ["box","spots","number"] (mJ K))(F_check_box_and_spots:FnB P w K mg base (CXE P w) 3 "check_box_and_spots" ["box","spots"] (nM K C)):FnOk P w K mg base (CXE P w) 8 f fd ["box","spots"] (kb K C):=by
 refine okE F (k:=7) qw (fun vs H Q E h=> ?_) (fun cdv A outer s H vs Q E hr h=> ?_)
 ·obtain⟨b,l,x,y,u,v,qs,rs,rfl,_⟩:=h
  rfl
 ·obtain⟨b,l,x,y,u,v,qs,rs,rfl,h⟩:=h
  refine'⟨_,?main,?rest⟩
  case main=>
   refine' jb ?c1 ?c2
   case' c1=>refine' jJ ?c3
   case' c3=>refine' ja F_check_box_and_spots (hr.mono (by decide)) rfl vh ?c4
   case' c4=>refine' iN (pvF 0) ?c5
   case' c5=>exact iN (pvF 1) iP
   case' c2=>refine' iS ?c6
   case' c6=>refine' i9 ?c7
   case' c7=>refine' mQ (CScope.of_ok (dsc:=iR s_far_lands) (N0:=["box","spots"]) (N:=["number","box","spots"]) (k:=1) (js:=[0,1]) rfl rfl (by decide+kernel)) rfl ?c8 ?c9 ?c10 ?c11
   case' c8=>refine' jK rfl T.b_range ?c12
   case' c12=>refine' iN ?c13 iP
   case' c13=>refine' jf jy (by rfl) T.b_len bS ?c14
   case' c14=>exact iN (pvF 1) iP
   case' c9=>intro _ _ _ _ _ _;exact(iV (i:=0) (by show bT (["number","box","spots"]:List Str);decide+kernel) rfl (aL rfl))
   case' c10=>intro _ _ _ _ _ _;exact jH
   case' c11=>intro _ _ _ _ _ _;refine' ja F_far_land (hr.mono (by decide)) rfl iX ?c15
   case' c15=>refine' iN (pvF 1) ?c16
   case' c16=>refine' iN (pvF 2) ?c17
   case' c17=>exact iN (pvF 0) iP
  case rest=>
   obtain⟨bo,h⟩:=h
   have lq:(qs.map V.ref).length=rs.length:=by rw[ae];exact bo.at_.1
   walk_at "ST"
   refine⟨fun σ H'=>σ=[some (.ref b),some (.ref l)] /\ Ext H H' /\ (x<u /\ y<v) /\ (0<rs.length /\ rs.length<=12) /\ AllOk x y u v rs,?_,?_⟩
   ·o_head ⟨nM⟩
    refine⟨x,y,u,v,⟨qs,rs,bo,?_⟩⟩;exact⟨fun a H' x'=>h.box a H' x',fun a b c H' x'=>h.many a b c H' x',fun a b c d i f H' dx x' hd=>h.spot a b c d i f H' dx x' hd,fun a b c d f H' x'=>⟨x',a,b,c,d,f⟩⟩
   rintro σ H0 ⟨rfl,x0,⟨xu,yv⟩,⟨n0,n12⟩,ao⟩;obtain⟨szb,h⟩:=h.right xu yv n0 n12 ao H (.refl _)
   have ok:SpOk H b l x y u v qs rs:=⟨bo.bx,bo.sp,bo.at_,xu,yv,ao.ins,ao.nd,n0,n12,szb⟩
   have ok0:=ok.ext x0
   refine kH rs.length (fun R hR=>by o_head ⟨ok0.sp,lq,rI,rI⟩;exact hR) (by omega) (fun D k ys H'=>ys.length=k /\ H' D=some (.lst ys) /\ Ext H0 H' /\ ∀(i:Nat) (w:V) (r:P2),ys[i]? =some w ->rs[i]? =some r ->zA H D H' x y u v rs r i w) ?_ ?_ ?_ ?_
   ·intro D hD;exact⟨rfl,iQ,.upd hD,fun i w r hi=>by simp at hi⟩
   ·rintro D k ys H1 _ ⟨rfl,e1,x1,_⟩;exact⟨e1,aI _⟩
   ·rintro D k ys H1 hD hk ⟨rfl,e1,x1,hv⟩;have ok1:=ok0.ext x1
    obtain⟨r,hr'⟩:∃r,rs[ys.length]? =some r:=⟨_,aa hk⟩
    have setF:∀{H2:Hp} {f c e:Addr} {ps:List Addr} {L:List Vx} (ys':List V),H2 D=some (.lst ys) ->c≠D ->e≠D ->FldAt H2 f c e ps L ->FldAt (upd H2 D (.lst ys')) f c e ps L:=fun ys' eD h1 h2 hf=>
     ⟨(jd (mR hf.at_ eD (by intro z;cases z))).trans hf.at_,(jd h1).trans hf.cs,hf.pt.setL eD,(jd h2).trans hf.es⟩
    have fin:∀(H2:Hp) (w:V),Ext H1 H2 ->zA H D H2 x y u v rs r ys.length w ->
      H2 D=some (.lst ys) /\ (ys++[w]).length=ys.length+1 /\ Ext H0 (upd H2 D (.lst (ys++[w]))) /\ ∀(i:Nat) (w':V) (r:P2),(ys++[w])[i]? =some w' ->rs[i]? =some r ->zA H D (upd H2 D (.lst (ys++[w]))) x y u v rs r i w':=by
     intro H2 w x2 hw;refine⟨x2 _ _ e1,by rw[al];rfl,(x1.trans x2).set hD,fun i w' r' hi hri=> ?_⟩
     by_cases hlt:i<ys.length
     ·rw[aM hlt] at hi;rcases hv i w' r' hi hri with q|⟨f,c,e,ps,L,q1,q2,q3,q4,q5⟩
      ·exact .inl q
      ·exact .inr ⟨f,c,e,ps,L,q1,q2,q3,setF _ (x2 _ _ e1) q2 q3 (q4.ext x2),q5⟩
     ·have:i=ys.length:=by
       have:=(ad.mp hi).1
       rw[al] at this;simp only[bC,bQ] at this;omega
      subst this;rw[aH (aI _),fK] at hi;cases hi;rw[hr'] at hri;cases hri;rcases hw with q|⟨f,c,e,ps,L,q1,q2,q3,q4,q5⟩
      ·exact .inl q
      ·exact .inr ⟨f,c,e,ps,L,q1,q2,q3,setF _ (x2 _ _ e1) q2 q3 q4,q5⟩
    walk_at "RD"
    refine⟨b,l,ys.length,x,y,u,v,qs,rs,r,by rw[bH],ok1,hr',fun nn H2 x2=> ?_,fun f c e ps L H2 x2 nf hf hL=> ?_⟩
    ·exact fin H2 .non x2 (.inl ⟨rfl,nn⟩)
    ·exact fin H2 (.ref f) x2 (.inr ⟨f,c,e,ps,L,rfl,(fun z=>by have:=nf.nc;rw[z,e1] at this;cases this),(fun z=>by have:=nf.ne;rw[z,e1] at this;cases this),hf,hL,⟨(x0.trans x1).none nf.nf,(x0.trans x1).none nf.nc,(x0.trans x1).none nf.ne,nf.ce⟩⟩)
   ·rintro D ys H1 hD ⟨ly,e1,x1,hv⟩;refine h D ys H1 (x0.trans x1) (x0.none hD) e1 ⟨ly,fun i w r hi hr'=> ?_⟩;rcases hv i w r hi hr' with q|⟨f,c,e,ps,L,q1,q2,q3,q4,q5⟩
    ·exact .inl q
    ·exact .inr ⟨f,c,e,ps,L,q1,q4,q5⟩
theorem rD:FnScope ["spots","point"] ["spots","point"] (iR s_farthest):=⟨rfl,rfl,rfl,by decide+kernel,rfl,by decide+kernel,by decide+kernel⟩
theorem ok_farthest{C:Cz}{f:Addr}{fd:FuncData}(F:Fun K "farthest" "farthest" s_farthest f fd)(T:Txt P K mg C)(F_scaled_square:FnB P w K mg base (CXE P w) 1 "scaled_square" ["point","spot"] jt):FnOk P w K mg base (CXE P w) 2 f fd ["spots","point"] (kQ K):=by
 refine okN F (k:=1) rD (fun vs H Q E h=> ?_) (fun cdv A outer s H vs Q E hr h=> ?_)
 ·obtain⟨l,p,qs,rs,z,rfl,_⟩:=h
  rfl
 ·obtain⟨l,p,qs,rs,z,rfl,h⟩:=h
  refine'⟨_,?main,?rest⟩
  case main=>
   refine' iS ?c1
   case' c1=>refine' i9 ?c2
   case' c2=>refine' jc ?c3
   case' c3=>refine' iN ?c4 ?c5
   case' c4=>refine' jf ?c6 ?c7 ?c8 ?c9 ?c10
   case c6=>exact(kj (K:=K) rfl rfl)
   case c7=>exact(by rfl)
   case c8=>exact T.b_max
   case c9=>exact boot_max
   case' c10=>refine' iN ?c11 ?c12
   case' c11=>refine' mQ (CScope.of_ok (dsc:=iR s_farthest) (N0:=["spots","point"]) (N:=["spot","point"]) (k:=1) (js:=[1]) rfl rfl (by decide+kernel)) rfl (jD (K:=K) rfl (pvF 0)) ?c13 ?c14 ?c15
   case' c13=>intro _ _ _ _ _ _;exact(iV (i:=0) (by show bT (["spot","point"]:List Str);decide+kernel) rfl (aL rfl))
   case' c14=>intro _ _ _ _ _ _;exact jH
   case' c15=>intro _ _ _ _ _ _;refine' ja F_scaled_square (hr.mono (by decide)) rfl iX ?c16
   case' c16=>refine' iN (pvF 1) ?c17
   case' c17=>exact iN (pvF 0) iP
   case c12=>exact iP
   case' c5=>refine' iN ?c18 iP
   case' c18=>refine' iW (OpR.f nW) ?c19 iO
   case' c19=>exact i7 jv (pvF 1) iO (fun _ _=>rfl)
  case rest=>
   obtain⟨ok,hp,bz,h⟩:=h
   have lq:(qs.map V.ref).length=rs.length:=by rw[ae,ok.at_.1]
   have n12:=ok.n12
   walk_at "ST"
   walk_at "RD"
   refine mX (K:=K) (a:=l) (xs:=qs.map V.ref) (fun R h=>by walk_at "RD";exact h) (SqL.of ok.sp) (by rw[lq];omega) (sqV H z) ?_ ?_
   ·intro D' x ys' R R' hD' hx hR;obtain⟨j,hj⟩:=aX hx
    obtain⟨q,hq,rfl⟩:=jG hj
    obtain⟨r,hr1,hr2⟩:=ok.at_.at hq
    have b:=ok.sz r (ah hr1)
    have es:sqV H z (.ref q)= .int (sqr z r):=by simp only[sqV,hr2]
    rw[es] at hR
    o_head ⟨jt,iZ hD' hp,iZ hD' hr2,rI⟩
    exact⟨bz,⟨b.1.mono (by decide),b.2.mono (by decide)⟩,hR⟩
   ·intro D1 hD1;rw[rn z ok.at_];have lw:(rs.map (sqr z)).length=rs.length:=ae _
    refine⟨D1,rs.map (sqr z),rfl,SqL.of iQ,by rw[lw];exact ok.n0,fun M hM hle=> ?_⟩;have x1:=Ext.upd (o:= .lst ((rs.map (sqr z)).map V.int)) hD1
    generalize upd H D1 _=H1 at x1⊢
    o_head ⟨x1 _ _ hp⟩
    refine⟨bz.2.2.mono (by decide),by decide,fun t ht=>h t M _ (x1.then ht) (LW.Ext.none x1 ht) iQ ⟨?_,fun r hr=>hle _ (ay.mpr ⟨r,hr,rfl⟩)⟩⟩;obtain⟨r,hr,e⟩:=ay.mp hM
    exact⟨r,hr,e.symm⟩
theorem uU:FnScope ["one","other"] ["one","other"] (iR s_middle):=⟨rfl,rfl,rfl,by decide+kernel,rfl,by decide+kernel,by decide+kernel⟩
theorem ok_middle{C:Cz}{f:Addr}{fd:FuncData}(F:Fun K "middle" "middle" s_middle f fd)(T:Txt P K mg C)(F_point_of:FnB P w K mg base (CXE P w) 2 "point_of" ["x","y","w"] jQ):FnOk P w K mg base (CXE P w) 3 f fd ["one","other"] l6:=by
 refine okN F (k:=2) uU (fun vs H Q E h=> ?_) (fun cdv A outer s H vs Q E hr h=> ?_)
 ·obtain⟨p,q,rfl,_⟩:=h
  rfl
 ·obtain⟨p,q,rfl,h⟩:=h
  refine'⟨_,?main,?rest⟩
  case main=>
   refine' iS ?c1
   case' c1=>refine' i9 ?c2
   case' c2=>refine' ja ?c3 ?c4 ?c5 ?c6 ?c7
   case c3=>exact F_point_of
   case c4=>exact(hr.mono (by decide))
   case c5=>exact rfl
   case c6=>exact iX
   case' c7=>refine' iN ?c8 ?c9
   case' c8=>refine' iW (OpR.f0 jA) ?c10 ?c11
   case' c10=>exact i7 jv (pvF 0) iO (fun _ _=>rfl)
   case' c11=>exact i7 jv (pvF 1) iO (fun _ _=>rfl)
   case' c9=>refine' iN ?c12 ?c13
   case' c12=>refine' iW (OpR.f0 jA) ?c14 ?c15
   case' c14=>exact i7 jv (pvF 0) iO (fun _ _=>rfl)
   case' c15=>exact i7 jv (pvF 1) iO (fun _ _=>rfl)
   case' c13=>exact iN iO iP
  case rest=>
   obtain⟨⟨x1,x2⟩,hp,h⟩:=jo h
   obtain⟨⟨y1,y2⟩,hq,h⟩:=jo h
   replace hp:=mH hp
   replace hq:=mH hq
   dsimp only at hp hq;walk_at "ST"
   o_head ⟨hp,hq,jQ,rI⟩
   exact⟨show Bd 8000 (2:Int) from(Bd.of_le (n:=3) 2 (by decide) (by decide) (by decide)).mono (by decide),h⟩
theorem sc_ring_centres:FnScope ["spots","centres","one","other","third","centre"] ["spots"] (iR s_ring_centres):=⟨rfl,rfl,rfl,by decide+kernel,rfl,by decide+kernel,by decide+kernel⟩
theorem ok_ring_centres{C:Cz}{f:Addr}{fd:FuncData}(F:Fun K "ring_centres" "ring_centres" s_ring_centres f fd)(T:Txt P K mg C)(F_between:FnB P w K mg base (CXE P w) 3 "between" ["one","other"] jY)(F_meet:FnB P w K mg base (CXE P w) 3 "meet" ["one","other"] oY)(F_middle:FnB P w K mg base (CXE P w) 3 "middle" ["one","other"] l6)(F_spot_point:FnB P w K mg base (CXE P w) 1 "spot_point" ["spot"] jR):FnOk P w K mg base (CXE P w) 4 f fd ["spots"] (lH K):=by
 refine okN F (k:=3) sc_ring_centres (fun vs H Q E h=> ?_) (fun cdv A outer s H vs Q E hr h=> ?_)
 ·obtain⟨l,qs,rs,rfl,_⟩:=h
  rfl
 ·obtain⟨l,qs,rs,rfl,h⟩:=h
  refine'⟨_,?main,?rest⟩
  case main=>
   refine' iU ?c1 ?c2
   case' c1=>refine' jg (i:=1) sc_ring_centres.nd rfl (aL rfl) ?c3
   case' c3=>refine' jP ?c4
   case' c4=>refine' iN ?c5 iP
   case' c5=>refine' ja F_spot_point (hr.mono (by decide)) rfl iX ?c6
   case' c6=>refine' iN ?c7 iP
   case' c7=>exact i7 jv (pvF 0) iO (fun _ _=>rfl)
   case' c2=>refine' iU ?c8 ?c9
   case' c8=>refine' kD ?c10 ?c11 ?c12 ?c13 ?c14
   case c10=>exact PassesOwn.never
   case c11=>exact rfl
   case' c12=>refine' jK rfl T.b_range ?c15
   case' c15=>refine' iN ?c16 iP
   case' c16=>refine' jf jy (by rfl) T.b_len bS ?c17
   case' c17=>exact iN (pvF 0) iP
   case c13=>exact(iV (i:=2) sc_ring_centres.nd rfl (aL rfl))
   case' c14=>refine' iS ?c18
   case' c18=>refine' kD ?c19 ?c20 ?c21 ?c22 ?c23
   case c19=>exact PassesOwn.never
   case c20=>exact rfl
   case' c21=>refine' jK rfl T.b_range ?c24
   case' c24=>exact iN (pvF 2) iP
   case c22=>exact(iV (i:=3) sc_ring_centres.nd rfl (aL rfl))
   case' c23=>refine' jb ?c25 ?c26
   case' c25=>refine' jJ ?c27
   case' c27=>refine' pe_app (pvF 1) ?c28
   case' c28=>refine' iN ?c29 iP
   case' c29=>refine' ja F_middle (hr.mono (by decide)) rfl iX ?c30
   case' c30=>refine' iN (i7 jv (pvF 0) (pvF 2) (fun _ _=>rfl)) ?c31
   case' c31=>exact iN (i7 jv (pvF 0) (pvF 3) (fun _ _=>rfl)) iP
   case' c26=>refine' iS ?c32
   case' c32=>refine' kD ?c33 ?c34 ?c35 ?c36 ?c37
   case c33=>exact PassesOwn.never
   case c34=>exact rfl
   case' c35=>refine' jK rfl T.b_range ?c38
   case' c38=>exact iN (pvF 3) iP
   case c36=>exact(iV (i:=4) sc_ring_centres.nd rfl (aL rfl))
   case' c37=>refine' jb ?c39 ?c40
   case' c39=>refine' jg (i:=5) ?c41 ?c42 ?c43 ?c44
   case c41=>exact sc_ring_centres.nd
   case c42=>exact rfl
   case c43=>exact(aL rfl)
   case' c44=>refine' ja ?c45 ?c46 ?c47 ?c48 ?c49
   case c45=>exact F_meet
   case c46=>exact(hr.mono (by decide))
   case c47=>exact rfl
   case c48=>exact iX
   case' c49=>refine' iN ?c50 ?c51
   case' c50=>refine' ja F_between (hr.mono (by decide)) rfl iX ?c52
   case' c52=>refine' iN (i7 jv (pvF 0) (pvF 2) (fun _ _=>rfl)) ?c53
   case' c53=>exact iN (i7 jv (pvF 0) (pvF 3) (fun _ _=>rfl)) iP
   case' c51=>refine' iN ?c54 iP
   case' c54=>refine' ja F_between (hr.mono (by decide)) rfl iX ?c55
   case' c55=>refine' iN (i7 jv (pvF 0) (pvF 2) (fun _ _=>rfl)) ?c56
   case' c56=>exact iN (i7 jv (pvF 0) (pvF 4) (fun _ _=>rfl)) iP
   case' c40=>refine' iS ?c57
   case' c57=>refine' jF ?c58 ?c59 jj
   case' c58=>exact u9 (vg (pvF 5))
   case' c59=>refine' iS ?c60
   case' c60=>refine' jJ ?c61
   case' c61=>refine' pe_app (pvF 1) ?c62
   case' c62=>exact iN (pvF 5) iP
   case' c9=>exact iS (i9 (pvF 1))
  case rest=>
   obtain⟨ok,h⟩:=h
   have lq:(qs.map V.ref).length=rs.length:=by rw[ae,ok.at_.1]
   have n12:=ok.n12
   have n0:=ok.n0
   obtain⟨q0,hq0,e0,a0,b0⟩:=ok.get (sG n0)
   walk_at "ST"
   o_head ⟨ok.sp,jR,rI,rI⟩
   rw[show atI (qs.map V.ref) 0=some (.ref q0) from a0,jh]
   o_head ⟨e0⟩
   refine⟨_,_,rfl,fun t0 ht0=>⟨by decide,fun D hD=> ?_⟩⟩;have x0:=(Ext.upd (o:= .tup [.int rs[0].1,.int rs[0].2,.int 1]) ht0).then (o:= .lst [.ref t0]) hD
   have hDn:H D=none:=LW.Ext.none (Ext.upd (o:= .tup [.int rs[0].1,.int rs[0].2,.int 1]) ht0) hD
   have rc0:RcAt rs H (upd (upd H t0 (.tup [.int rs[0].1,.int rs[0].2,.int 1])) D (.lst [.ref t0])) D 0 0 0 0 1:=⟨[t0],[(rs[0].1,rs[0].2,1)],x0,iQ,⟨rfl,fun i q z g1 g2=>by
    match i,g1,g2 with
    |0,g1,g2=>cases g1;cases g2;exact iZ hD iQ⟩,⟨fun c hc=>by
     rw[bO] at hc;rw[hc];exact vF (c:=(rs[0].1,rs[0].2,1)) fC (by simp) ⟨b0.1.mono (by decide),b0.2.mono (by decide),show Bd 1100 1 from Bd.mono (m:=10) (Bd.of_le 1 (by decide) (by decide) (by decide)) (by decide)⟩,fun r hr=>by rw[sG n0] at hr;cases hr;simp,fun i j p q a=>absurd a (by unfold PA;omega),fun i j k p q s b=>absurd b (by unfold PB;omega)⟩,aI _⟩
   generalize upd (upd H t0 _) D _=H0 at x0 rc0⊢;refine kI rs.length (fun R hR=>by o_head ⟨x0 _ _ ok.sp,lq,rI,rI⟩;exact hR) (by omega) (fun i σ H'=>∃o2 o3 o4 o5:Option V,σ=[some (.ref l),some (.ref D),o2,o3,o4,o5] /\ RcAt rs H H' D i 0 0 0 (1+160*i)) ⟨_,_,_,_,rfl,rc0⟩ ?_ ?_
   ·rintro i σ H1 hi ⟨o2,o3,o4,o5,rfl,rc1⟩;obtain⟨ri,hri⟩:∃r,rs[i]? =some r:=⟨_,aa hi⟩
    obtain⟨qi,hqi,ei,ai,bi⟩:=ok.get hri
    walk_at "RD"
    refine kI i (fun R hR=>by walk_at "RD";rw[bH];exact hR) (by omega) (fun j σ H'=>∃o3 o4 o5:Option V,σ=[some (.ref l),some (.ref D),some (.int (0+(i:Int))),o3,o4,o5] /\ RcAt rs H H' D i j j 0 (1+160*i+13*j)) ⟨_,_,_,rfl,rc1⟩ ?_ ?_
    ·rintro j σ H2 hj ⟨o3,o4,o5,rfl,rc2⟩;obtain⟨rj,hrj⟩:∃r,rs[j]? =some r:=⟨_,aa (by omega)⟩
     obtain⟨qj,hqj,ej,aj,bj⟩:=ok.get hrj
     have ai':atI (qs.map V.ref) (0+(i:Int))=some (.ref qi):=by rw[bH];exact ai
     have aj':atI (qs.map V.ref) (0+(j:Int))=some (.ref qj):=by rw[bH];exact aj
     walk_at "RD"
     refine⟨fun σ H'=>σ=[some (.ref l),some (.ref D),some (.int (0+(i:Int))),some (.int (0+(j:Int))),o4,o5] /\ RcAt rs H H' D i (j+1) j 0 (1+160*i+13*j+1),?_,?_⟩
     ·obtain⟨ts,cs,x2,eD,hcs,cen,lc⟩:=rc2
      o_head ⟨eD,x2 _ _ ok.sp,ai',aj',l6,x2 _ _ ei,x2 _ _ ej,rI,rI,rI,rI,rI⟩
      intro t a b c ht hp;rw[iZ ht eD,jM,jh];have b2:Bd 1100 2:=Bd.mono (m:=10) (Bd.of_le 2 (by decide) (by decide) (by decide)) (by decide)
      refine⟨by rw[ae,hcs.1];omega,ts++[t],cs++[(a,b,c)],(x2.then ht).set hDn,by rw[au];exact iQ,((hcs.ext (Ext.upd ht)).snoc (v:=(a,b,c)) iQ).setL (iZ ht eD),cen.put (vF hp.pos hp.low ⟨aU hp.la ((bi.1.add bj.1).mono (by decide)),aU hp.lb ((bi.2.add bj.2).mono (by decide)),aU hp.lc b2⟩) (fun i' j' p q a1 e1 e2=> ?_) (fun i' j' k' p q s b1 _ _ _=> .inl b1),by rw[al,fc];omega⟩
      by_cases z:i'=i /\ j'=j
      ·obtain⟨rfl,rfl⟩:=z
       rw[hri] at e1;rw[hrj] at e2;cases e1;cases e2;exact .inr hp
      ·refine .inl ?_;unfold PA at a1⊢;omega
     ·rintro σ H3 ⟨rfl,rc3⟩;refine kI j (fun R hR=>by walk_at "RD";rw[bH];exact hR) (by omega) (fun k σ H'=>∃o4 o5:Option V,σ=[some (.ref l),some (.ref D),some (.int (0+(i:Int))),some (.int (0+(j:Int))),o4,o5] /\ RcAt rs H H' D i (j+1) j k (1+160*i+13*j+1+k)) ⟨_,_,rfl,rc3⟩ ?_ ?_
      ·rintro k σ H4 hk ⟨o4,o5,rfl,rc4⟩;obtain⟨rk,hrk⟩:∃r,rs[k]? =some r:=⟨_,aa (by omega)⟩
       obtain⟨qk,hqk,ek,ak,bk⟩:=ok.get hrk
       have ak':atI (qs.map V.ref) (0+(k:Int))=some (.ref qk):=by rw[bH];exact ak
       have nij:¬ri=rj:=nodup_ne ok.nd hri hrj (by omega)
       have nik:¬ri=rk:=nodup_ne ok.nd hri hrk (by omega)
       walk_at "RD"
       obtain⟨ts,cs,x4,eD,hcs,cen,lc⟩:=rc4
       refine⟨fun σ H'=>∃w:V,σ=[some (.ref l),some (.ref D),some (.int (0+(i:Int))),some (.int (0+(j:Int))),some (.int (0+(k:Int))),some w] /\ Ext H4 H' /\ Bq H' ri rj rk w,?_,?_⟩
       ·o_head ⟨x4 _ _ ok.sp,ai',aj',ak',jY,x4 _ _ ei,x4 _ _ ej,rI,rI,rI,rI,rI⟩
        refine⟨⟨bi.1.mono (by decide),bi.2.mono (by decide)⟩,⟨bj.1.mono (by decide),bj.2.mono (by decide)⟩,nij,fun t1 h1=> ?_⟩;have x5:=Ext.upd (o:= .tup [.int (lnB ri rj).1,.int (lnB ri rj).2.1,.int (lnB ri rj).2.2]) h1
        have e5:=iQ (H:=H4) (a:=t1) (o:= .tup [.int (lnB ri rj).1,.int (lnB ri rj).2.1,.int (lnB ri rj).2.2])
        generalize upd H4 t1 _=H5 at x5 e5⊢;have x45:=x4.trans x5
        o_head ⟨x45 _ _ ok.sp,ai',ak',x45 _ _ ei,x45 _ _ ek,rI,rI,rI,rI,rI,rI,rI⟩
        refine⟨⟨bi.1.mono (by decide),bi.2.mono (by decide)⟩,⟨bk.1.mono (by decide),bk.2.mono (by decide)⟩,nik,fun t2 h2=> ?_⟩;have x6:=Ext.upd (o:= .tup [.int (lnB ri rk).1,.int (lnB ri rk).2.1,.int (lnB ri rk).2.2]) h2
        have e6:=iQ (H:=H5) (a:=t2) (o:= .tup [.int (lnB ri rk).1,.int (lnB ri rk).2.1,.int (lnB ri rk).2.2])
        generalize upd H5 t2 _=H6 at x6 e6⊢
        o_head ⟨oY,x6 _ _ e5,e6,rI⟩
        have l1:=sP (n:=130) bi.1 bi.2 bj.1 bj.2 nij
        have l2:=sP (n:=130) bi.1 bi.2 bk.1 bk.2 nik
        refine⟨⟨l1.1.mono (by decide),l1.2.1.mono (by decide),l1.2.2.mono (by decide)⟩,⟨l2.1.mono (by decide),l2.2.1.mono (by decide),l2.2.2.mono (by decide)⟩,fun z=>⟨x5.trans x6,.inl ⟨rfl,(yR nij nik).mp z⟩⟩,fun n t a b c ht hp=>⟨(x5.trans x6).then ht,.inr ⟨t,(a,b,c),rfl,iQ,vF hp.pos hp.low ⟨aU hp.la (((l1.2.2.mul l2.2.1).sub (l1.2.1.mul l2.2.2)).mono (by decide)),aU hp.lb (((l1.1.mul l2.2.2).sub (l1.2.2.mul l2.1)).mono (by decide)),aU hp.lc (((l1.1.mul l2.2.1).sub (l1.2.1.mul l2.1)).mono (by decide))⟩,?_,?_⟩⟩⟩
        ·exact(kG nij (p:=(a,b,c)) hp.pos).2.2.mp (vx (x:=lnB ri rj) (y:=lnB ri rk) n hp).1
        ·exact(kG nik (p:=(a,b,c)) hp.pos).2.2.mp (vx (x:=lnB ri rj) (y:=lnB ri rk) n hp).2
       ·rintro σ H5 ⟨w,rfl,x5,cw⟩;have eD5:=x5 _ _ eD
        have hcs5:=hcs.ext x5
        rcases cw with⟨rfl,col⟩|⟨t,c,rfl,et,ic,s1,s2⟩
        ·walk_at "RD"
         refine⟨⟨_,rfl⟩,ts,cs,x4.trans x5,eD5,hcs5,⟨cen.ok,cen.one,cen.two,fun i' j' k' p q s b1 e1 e2 e3 n=> ?_⟩,by omega⟩
         by_cases z:i'=i /\ j'=j /\ k'=k
         ·obtain⟨rfl,rfl,rfl⟩:=z
          rw[hri] at e1;rw[hrj] at e2;rw[hrk] at e3;cases e1;cases e2;cases e3;exact absurd col n
         ·exact cen.three i' j' k' p q s (by unfold PB at b1⊢;omega) e1 e2 e3 n
        ·o_head ⟨eD5⟩
         refine⟨by rw[ae,hcs5.1];omega,⟨_,rfl⟩,ts++[t],cs++[c],(x4.trans x5).set hDn,by rw[au];exact iQ,(hcs5.snoc (v:=c) et).setL eD5,cen.put ic (fun i' j' p q a1 _ _=> .inl a1) (fun i' j' k' p q s b1 e1 e2 e3=> ?_),by rw[al,fc];omega⟩
         by_cases z:i'=i /\ j'=j /\ k'=k
         ·obtain⟨rfl,rfl,rfl⟩:=z
          rw[hri] at e1;rw[hrj] at e2;rw[hrk] at e3;cases e1;cases e2;cases e3;exact .inr ⟨s1,s2⟩
         ·exact .inl (by unfold PB at b1⊢;omega)
      ·rintro σ H4 ⟨o4,o5,rfl,rc4⟩;walk_at "RD"
       refine⟨⟨_,rfl⟩,rc4.mono (fun a b=> ?_) (fun a b c=> ?_) (by omega)⟩
       ·unfold PA;omega
       ·unfold PB;omega
    ·rintro σ H2 ⟨o3,o4,o5,rfl,rc2⟩;walk_at "RD"
     refine⟨⟨_,rfl⟩,rc2.mono (fun a b=> ?_) (fun a b c=> ?_) (by omega)⟩
     ·unfold PA;omega
     ·unfold PB;omega
   ·rintro σ H1 ⟨o2,o3,o4,o5,rfl,ts,cs,x1,eD,hcs,cen,lc⟩;walk_at "RD"
    exact h D ts cs H1 x1 hDn eD hcs cen (by omega)
theorem sc_least_ring:FnScope ["spots","rows","least","row","centre","ways","on"] ["spots"] (iR s_least_ring):=⟨rfl,rfl,rfl,by decide+kernel,rfl,by decide+kernel,by decide+kernel⟩
theorem ok_least_ring{C:Cz}{f:Addr}{fd:FuncData}(F:Fun K "least_ring" "least_ring" s_least_ring f fd)(T:Txt P K mg C)(F_square:FnB P w K mg base (CXE P w) 3 "square" ["point","spot"] l5)(F_scaled_square:FnB P w K mg base (CXE P w) 1 "scaled_square" ["point","spot"] jt)(F_less:FnB P w K mg base (CXE P w) 1 "less" ["one","other"] oZ)(F_ring_centres:FnB P w K mg base (CXE P w) 4 "ring_centres" ["spots"] (lH K))(F_farthest:FnB P w K mg base (CXE P w) 2 "farthest" ["spots","point"] (kQ K))(F_check_spots:FnB P w K mg base (CXE P w) 2 "check_spots" ["spots"] (sD K C)):FnOk P w K mg base (CXE P w) 5 f fd ["spots"] (oX K C):=by
 refine okE F (k:=4) sc_least_ring (fun vs H Q E h=> ?_) (fun cdv A outer s H vs Q E hr h=> ?_)
 ·obtain⟨l,qs,rs,rfl,_⟩:=h
  rfl
 ·obtain⟨l,qs,rs,rfl,h⟩:=h
  refine'⟨_,?main,?rest⟩
  case main=>
   refine' jb ?c1 ?c2
   case' c1=>refine' jJ ?c3
   case' c3=>refine' ja F_check_spots (hr.mono (by decide)) rfl vh ?c4
   case' c4=>exact iN (pvF 0) iP
   case' c2=>refine' jb ?c5 ?c6
   case' c5=>refine' qB (i:=1) ?c7 ?c8 ?c9 ?c10 ?c11 ?c12 ?c13 ?c14 ?c15
   case c7=>exact(CScope.of_ok (dsc:=iR s_least_ring) (N0:=["spots","rows","least","row","centre","ways","on"]) (N:=["centre","spots"]) (k:=1) (js:=[0]) rfl rfl (by decide+kernel))
   case c8=>exact rfl
   case' c9=>refine' jD (K:=K) rfl ?c16
   case' c16=>refine' PE.up ?c17
   case' c17=>refine' ja F_ring_centres (hr.mono (by decide)) rfl iX ?c18
   case' c18=>exact iN (pvF 0) iP
   case' c10=>intro _ _ _ _ _ _;exact(iV (i:=0) (by show bT (["centre","spots"]:List Str);decide+kernel) rfl (aL rfl))
   case' c11=>intro _ _ _ _ _ _;exact jH
   case' c12=>intro _ _ _ _ _ _;refine' jc ?c19
   case' c19=>refine' iN (pvF 0) ?c20
   case' c20=>refine' iN ?c21 iP
   case' c21=>refine' ja F_farthest (hr.mono (by decide)) rfl iX ?c22
   case' c22=>refine' iN (pvF 1) ?c23
   case' c23=>exact iN (pvF 0) iP
   case c13=>exact sc_least_ring.nd
   case c14=>exact rfl
   case c15=>exact rfl
   case' c6=>refine' jb ?c24 ?c25
   case' c24=>refine' jg (i:=2) sc_least_ring.nd rfl (aL rfl) ?c26
   case' c26=>exact i7 jv (pvF 1) iO (fun _ _=>rfl)
   case' c25=>refine' jb ?c27 ?c28
   case' c27=>refine' kD ?c29 ?c30 ?c31 ?c32 ?c33
   case c29=>exact PassesOwn.leaving
   case c30=>exact rfl
   case c31=>exact(jD (K:=K) rfl (pvF 1))
   case c32=>exact(iV (i:=3) sc_least_ring.nd rfl (aL rfl))
   case' c33=>refine' iS ?c34
   case' c34=>refine' jF ?c35 ?c36 ?c37
   case' c35=>refine' mO ?c38
   case' c38=>refine' ja F_less (hr.mono (by decide)) rfl iX ?c39
   case' c39=>refine' iN ?c40 ?c41
   case' c40=>exact i7 jv (pvF 3) iO (fun _ _=>rfl)
   case' c41=>refine' iN ?c42 iP
   case' c42=>exact i7 jv (pvF 2) iO (fun _ _=>rfl)
   case' c36=>exact iS (jg (i:=2) sc_least_ring.nd rfl (aL rfl) (pvF 3))
   case c37=>exact jj
   case' c28=>refine' iU ?c43 ?c44
   case' c43=>refine' jg (i:=4) sc_least_ring.nd rfl (fk rfl) ?c45
   case' c45=>exact i7 jv (pvF 2) iO (fun _ _=>rfl)
   case' c44=>refine' jb ?c46 ?c47
   case' c46=>refine' jg (i:=5) ?c48 ?c49 ?c50 ?c51
   case c48=>exact sc_least_ring.nd
   case c49=>exact rfl
   case c50=>exact(fk rfl)
   case' c51=>refine' mQ (CScope.of_ok (dsc:=iR s_least_ring) (N0:=["spots","rows","least","row","centre","ways","on"]) (N:=["spot","centre"]) (k:=1) (js:=[4]) rfl rfl (by decide+kernel)) rfl (jD (K:=K) rfl (pvF 0)) ?c52 ?c53 ?c54
   case' c52=>intro _ _ _ _ _ _;exact(iV (i:=0) (by show bT (["spot","centre"]:List Str);decide+kernel) rfl (aL rfl))
   case' c53=>intro _ _ _ _ _ _;exact jH
   case' c54=>intro _ _ _ _ _ _;refine' ja F_scaled_square (hr.mono (by decide)) rfl iX ?c55
   case' c55=>refine' iN (pvF 1) ?c56
   case' c56=>exact iN (pvF 0) iP
   case' c47=>refine' jb ?c57 ?c58
   case' c57=>refine' qB (i:=6) ?c59 ?c60 ?c61 ?c62 ?c63 ?c64 ?c65 ?c66 ?c67
   case c59=>exact(CScope.of_ok (dsc:=iR s_least_ring) (N0:=["spots","rows","least","row","centre","ways","on"]) (N:=["number","way","ways"]) (k:=2) (js:=[5]) rfl rfl (by decide+kernel))
   case c60=>exact rfl
   case' c61=>refine' nT (K:=K) rfl rfl T.b_enumerate ?c68
   case' c68=>exact iN (pvF 5) iP
   case' c62=>intro _ _ _ _ _ _;refine' na (n:=2) rfl ?c69
   case' c69=>refine' iT (iV (i:=0) (by show bT (["number","way","ways"]:List Str);decide+kernel) rfl (aL rfl)) ?c70
   case' c70=>exact iT (iV (i:=1) (by show bT (["number","way","ways"]:List Str);decide+kernel) rfl (aL rfl)) jr
   case' c63=>intro _ _ _ _ _ _;refine' l9 ?c71
   case' c71=>refine' i5 j3 (pvF 1) ?c72 (je _)
   case' c72=>refine' jf (kj (K:=K) rfl rfl) (by rfl) T.b_max boot_max ?c73
   case' c73=>exact iN (pvF 2) iP
   case c64=>exact(fun _ _ _ _ _ _=>(pvF 0))
   case c65=>exact sc_least_ring.nd
   case c66=>exact rfl
   case c67=>exact rfl
   case' c58=>refine' iS ?c74
   case' c74=>refine' i9 ?c75
   case' c75=>refine' jc ?c76
   case' c76=>refine' iN ?c77 ?c78
   case c77=>exact(pvF 4)
   case' c78=>refine' iN ?c79 ?c80
   case' c79=>refine' ja F_square (hr.mono (by decide)) rfl iX ?c81
   case' c81=>refine' iN (pvF 4) ?c82
   case' c82=>refine' iN ?c83 iP
   case' c83=>refine' i7 jv (pvF 0) ?c84 (fun _ _=>rfl)
   case' c84=>exact i7 jv (pvF 6) iO (fun _ _=>rfl)
   case' c80=>exact iN (pvF 6) iP
  case rest=>
   obtain⟨hl,hr,sz,h1,h2,h3⟩:=h
   walk_at "ST"
   refine⟨fun σ H'=>σ=[some (.ref l),none,none,none,none,none,none] /\ Ext H H' /\ (0<rs.length /\ rs.length<=12 /\ rs.Nodup),?_,?_⟩
   ·o_head ⟨sD⟩
    exact⟨qs,hl,rs,hr,h1,fun g0 g12 H' x=>⟨fun nd=>⟨x,g0,g12,nd⟩,fun i dx fd hd=>h2 g0 g12 H' x i dx fd hd⟩⟩
   ·rintro σ H1 ⟨rfl,x1,n0,n12,nd⟩;have h:=h3 n0 n12 nd
    have ok:LpOk H l qs rs:=⟨hl,hr,nd,n0,n12,sz⟩
    have lq:(qs.map V.ref).length=rs.length:=by rw[ae,ok.at_.1]
    replace ok:=ok.ext x1
    refine⟨fun σ H'=>∃(W:Addr) (ts:List Addr) (cs:List P3),σ=[some (.ref l),some (.ref W),none,none,none,none,none] /\ Ext H1 H' /\ H' W=some (.lst (ts.map V.ref)) /\ RowsAt H' rs ts cs /\ CenOk rs (PA rs.length 0) (PB rs.length 0 0) cs /\ 0<cs.length /\ cs.length<=2000,?_,?_⟩
    ·walk_at "RD"
     refine nG (fun w H'=>∃D ts cs,w= .ref D /\ Ext H1 H' /\ H1 D=none /\ H' D=some (.lst (ts.map V.ref)) /\ CsAt H' ts cs /\ CenOk rs (PA rs.length 0) (PB rs.length 0 0) cs /\ cs.length<=2000) ?_ ?_
     ·o_head ⟨lH⟩
      exact⟨qs,rs,ok,fun t ts cs H' x2 h2 e2 c2 cen l2=>⟨x2,h2,ts,e2,cs,c2,cen,l2⟩⟩
     ·rintro w1 H2 ⟨o,ts,cs,rfl,x2,ho0,ho,hcs,cen,lc⟩;have lt:(ts.map V.ref).length=cs.length:=by rw[ae,hcs.1]
      refine⟨o,ts.map V.ref,rfl,SqL.of ho,by rw[lt];omega,fun D k ys H'=>∃us:List Addr,ys=us.map V.ref /\ RowsAt H' rs us (cs.take k) /\ H' D=some (.lst ys) /\ Ext H2 H',?_,?_,?_,?_⟩
      ·intro D hD;exact⟨[],rfl,⟨rfl,fun k t z g1=>by simp at g1⟩,iQ,.upd hD⟩
      ·rintro D k ys H3 _ ⟨us,rfl,r3,e3,x3⟩;refine⟨e3,?_,SqL.of (x3 _ _ ho)⟩;rw[ae,r3.1,aC];omega
      ·rintro D k w1 ys H3 hD hk ⟨us,rfl,r3,e3,x3⟩;obtain⟨q,hq,rfl⟩:=jG hk
       obtain⟨z,hz⟩:∃z,cs[k]? =some z:=⟨_,aa (by rw[<-hcs.1];exact(ad.mp hq).1)⟩
       have ez:=x3 _ _ (hcs.2 k q z hq hz)
       have ic:=cen.ok z (ah hz)
       o_head ⟨kQ⟩
       refine⟨qs,rs,ok.ext (x2.trans x3),z,ez,ic.2.2.1,fun t M H4 x4 ht e4 fm=> ?_⟩;refine⟨by decide,fun t5 h5=>⟨iZ h5 (x4 _ _ e3),us++[t5],by rw[au];rfl,?_,((x3.trans x4).then h5).set hD⟩⟩;rw[bD,hz];exact(((r3.ext x4).ext (Ext.upd h5)).snoc iQ (iZ h5 (x4 _ _ ez)) (iZ h5 e4) fm).setL (iZ h5 (x4 _ _ e3))
      ·rintro D ys H3 hD ⟨us,rfl,r3,e3,x3⟩;rw[lt,aW] at r3;walk_at "RD"
       exact⟨x2.trans x3,us,e3,cs,r3,cen,gi (cen.one _ (sG n0)),lc⟩
    ·rintro σ H2 ⟨W,ts,cs,rfl,x2,eW,rows,cen,c0,lc⟩;replace ok:=ok.ext x2
     obtain⟨z0,hz0⟩:∃z,cs[0]? =some z:=⟨_,aa c0⟩
     obtain⟨t0,ht0⟩:∃t,ts[0]? =some t:=⟨_,aa (by rw[rows.1];exact c0)⟩
     have at0:atI (ts.map V.ref) 0=some (.ref t0):=jz (j:=0) (by rw[ax,ht0];rfl)
     obtain⟨cA,fA,M0,q1,q2,q3,fm0⟩:=rows.2 0 t0 z0 ht0 hz0
     refine⟨fun σ H'=>σ=[some (.ref l),some (.ref W),some (.ref t0),none,none,none,none] /\ H'=H2,?_,?_⟩
     ·o_head ⟨eW,at0,rI,rI⟩
     ·rintro σ H3 ⟨rfl,rfl⟩;have lst0:Lst H3 rs cs 0 t0:=⟨z0,cA,fA,M0,q1,q2,q3,ah hz0,fm0,fun k _ _ hk=>absurd hk (gy _)⟩
      have lt:(ts.map V.ref).length=cs.length:=by rw[ae,rows.1]
      refine⟨fun σ H'=>∃(o3:Option V) (tl:Addr),σ=[some (.ref l),some (.ref W),some (.ref tl),o3,none,none,none] /\ H'=H3 /\ Lst H3 rs cs cs.length tl,?_,?_⟩
      ·refine qh (K:=K) (a:=W) (xs:=ts.map V.ref) (fun R h=>by walk_at "RD";exact h) (fun i σ H'=>∃(o3:Option V) (tl:Addr),σ=[some (.ref l),some (.ref W),some (.ref tl),o3,none,none,none] /\ H'=H3 /\ Lst H3 rs cs i tl) ⟨_,t0,rfl,rfl,lst0⟩ ?_ ?_ ?_
       ·rintro i σ H4 _ ⟨o3,tl,rfl,rfl,ls⟩;exact SqL.of eW
       ·rintro i w1 σ H4 hi ⟨o3,tl,rfl,rfl,z,c,f,M,p1,p2,p3,lo⟩;obtain⟨t,ht,rfl⟩:=jG hi
        obtain⟨z',hz'⟩:∃z,cs[i]? =some z:=⟨_,aa (by rw[<-rows.1];exact(ad.mp ht).1)⟩
        obtain⟨c',f',N,g1,g2,g3,fmN⟩:=rows.2 i t z' ht hz'
        have ic:=cen.ok z lo.1
        have ic':=cen.ok z' (ah hz')
        have bM:Bd 20000 M:=by
         obtain⟨⟨r,hr,e⟩,_⟩:=lo.2.1
         rw[e];exact uM ic.2.2.1 (ok.sz r hr).1 (ok.sz r hr).2
        have bN:Bd 20000 N:=by
         obtain⟨⟨r,hr,e⟩,_⟩:=fmN
         rw[e];exact uM ic'.2.2.1 (ok.sz r hr).1 (ok.sz r hr).2
        o_head ⟨g1,p1,oZ,rI⟩
        refine⟨_,_,g3,_,_,p3,bN,ic'.2.2.1.2.2.sq.mono (by decide),bM,ic.2.2.1.2.2.sq.mono (by decide),?_⟩;split
        ·rename_i q
         exact⟨z',c',f',N,g1,g2,g3,lo.take ic.1 hz' fmN ic'.1 q⟩
        ·rename_i q
         exact⟨z,c,f,M,p1,p2,p3,lo.keep hz' fmN q⟩
       ·rintro σ H4 ⟨o3,tl,rfl,rfl,ls⟩;rw[lt] at ls;exact⟨o3,tl,rfl,rfl,ls⟩
      ·rintro σ H4 ⟨o3,tl,rfl,rfl,z,c,f,M,p1,p2,p3,lo⟩;have ic:=cen.ok z lo.1
       have lw:(rs.map (sqr z)).length=rs.length:=ae _
       have lwi:((rs.map (sqr z)).map V.int).length=rs.length:=by rw[ae,lw]
       o_head ⟨p1⟩
       refine⟨fun σ H'=>∃D:Addr,σ=[some (.ref l),some (.ref W),some (.ref tl),o3,some (.ref c),some (.ref D),none] /\ Ext H4 H' /\ H' D=some (.lst ((rs.map (sqr z)).map V.int)),?_,?_⟩
       ·walk_at "RD"
        refine mX (K:=K) (a:=l) (xs:=qs.map V.ref) (fun R h=>by walk_at "RD";exact h) (SqL.of ok.sp) (by rw[lq];omega) (sqV H4 z) ?_ ?_
        ·intro D' x ys' R R' hD' hx hR;obtain⟨j,hj⟩:=aX hx
         obtain⟨q,hq,rfl⟩:=jG hj
         obtain⟨r,hr1,hr2⟩:=ok.at_.at hq
         have b:=ok.sz r (ah hr1)
         have es:sqV H4 z (.ref q)= .int (sqr z r):=by simp only[sqV,hr2]
         rw[es] at hR
         o_head ⟨jt,iZ hD' p2,iZ hD' hr2,rI⟩
         exact⟨ic.2.2.1,⟨b.1.mono (by decide),b.2.mono (by decide)⟩,hR⟩
        ·intro D1 hD1;rw[rn z ok.at_];walk_at "RD"
         exact .upd hD1
       ·rintro σ H5 ⟨D,rfl,x5,e5⟩;refine⟨fun σ H'=>∃O:Addr,σ=[some (.ref l),some (.ref W),some (.ref tl),o3,some (.ref c),some (.ref D),some (.ref O)] /\ H5 O=none /\ Ext H5 H' /\ H' O=some (.lst ((kg (rs.map (sqr z)) rs.length).map V.int)),?_,?_⟩
        ·walk_at "RD"
         refine wj (K:=K) (a:=D) (xs:=(rs.map (sqr z)).map V.int) (fun R hR=>by walk_at "RD";exact hR) (SqL.of e5) (by rw[lwi];omega) (fun D' i ys H'=>ys=(kg (rs.map (sqr z)) i).map V.int /\ H' D'=some (.lst ys) /\ Ext H5 H') ?_ ?_ ?_ ?_
         ·intro D' hD';exact⟨rfl,iQ,.upd hD'⟩
         ·rintro D' i ys H6 _ ⟨rfl,e6,x6⟩;refine⟨e6,?_,SqL.of (x6 _ _ e5)⟩;unfold kg;rw[ae,ae];exact bJ (cK _ _) (by rw[eV];exact aI _)
         ·rintro D' i w1 t ys H6 hD' hi ⟨rfl,e6,x6⟩ ht;have li:i<(rs.map (sqr z)).length:=by
           have:=(ad.mp hi).1
           rw[lwi] at this;omega
          have ew:w1= .int ((rs.map (sqr z)).getD i 0):=by
           rw[ax,aa li] at hi;rw[bq,aa li];exact(bA.inj hi).symm
          subst ew;have et:=iQ (H:=H6) (a:=t) (o:= .tup [.int (i:Int),.int ((rs.map (sqr z)).getD i 0)])
          have e6t:=iZ (o:= .tup [.int (i:Int),.int ((rs.map (sqr z)).getD i 0)]) ht e6
          have x6t:=x6.then (o:= .tup [.int (i:Int),.int ((rs.map (sqr z)).getD i 0)]) ht
          generalize upd H6 t (.tup [.int (i:Int),.int ((rs.map (sqr z)).getD i 0)])=H7 at et e6t x6t⊢
          o_head ⟨kx,kA,om,et⟩
          refine⟨D,rs.map (sqr z),rfl,SqL.of (x6t _ _ e5),by rw[lw];exact n0,fun M' hM' hlM'=> ?_⟩;walk_at "RD"
          rw[rL]
          by_cases cc:(rs.map (sqr z)).getD i 0=M'
          ·rw[if_pos cc,if_pos ((sO hM' hlM' li).mp cc)];refine⟨e6t,?_,x6t.set hD'⟩;rw[au];rfl
          ·rw[if_neg cc,if_neg (fun q=>cc ((sO hM' hlM' li).mpr q))];exact⟨rfl,e6t,x6t⟩
         ·rintro D' ys H6 hD' ⟨rfl,e6,x6⟩;rw[lwi] at e6;walk_at "RD"
          exact⟨hD',x6,e6⟩
        ·rintro σ H6 ⟨O,rfl,nO,x6,e6⟩;obtain⟨i0,r0,hi0,er0,hm0⟩:=vt n0 lo.2.1
         have ok6:=(ok.ext x5).ext x6
         obtain⟨q0,hq0,e0,a0,b0⟩:=ok6.get hi0
         o_head ⟨e6,ok6.sp,rI,rI⟩
         rw[hm0]
         o_head ⟨a0,l5,x6 _ _ (x5 _ _ p2),e0⟩
         rw[ok6.sp,lp,jh,a0,jh];refine⟨q0,rfl,?_⟩
         o_head ⟨e0⟩
         refine⟨ic.2.2.1,⟨b0.1.mono (by decide),b0.2.mono (by decide)⟩,ic.1,fun t a b ht k=>⟨by decide,fun p hp=> ?_⟩⟩;have xx:=((Ext.upd (o:= .tup [.int a,.int b]) ht).then (o:= .tup [.ref c,.ref t,.ref O]) hp)
         have k':IsFr M (z.2.2^2) a b:=by rw[<-er0];exact k
         have w2:z.2.2^2≠0:=by
          rw[show z.2.2^2=z.2.2*z.2.2 by grind];exact dB (bp ic.1 ic.1)
         have eR:(a:Rat) /(b:Rat)=(M:Rat) /((z.2.2^2:Int):Rat):=Bi k' w2
         refine h p c t O z a b _ ((((x1.trans x2).trans x5).trans x6).trans xx) iQ (xx _ _ (x6 _ _ (x5 _ _ p2))) (iZ hp iQ) (xx _ _ e6) ⟨ic,?_,k.pos,k.low,aU k.la (uM (r:=r0) ic.2.2.1 b0.1 b0.2),aU k.lc (ic.2.2.1.2.2.sq.mono (by decide))⟩ (LW.Ext.none ((x1.trans x2).trans x5) nO);rw[eR];exact wK ok.nd n0 cen lo
theorem tY:FnScope ["field","spots","number","others"] ["field","spots","number","others"] (iR s_cut_off):=⟨rfl,rfl,rfl,by decide+kernel,rfl,by decide+kernel,by decide+kernel⟩
theorem ok_cut_off{C:Cz}{f:Addr}{fd:FuncData}(F:Fun K "cut_off" "cut_off" s_cut_off f fd)(T:Txt P K mg C)(F_between:FnB P w K mg base (CXE P w) 3 "between" ["one","other"] jY)(F_cut_each:FnB P w K mg base (CXE P w) 6 "cut_each" ["field","cuts"] (lG K)):FnOk P w K mg base (CXE P w) 7 f fd ["field","spots","number","others"] (nL K):=by
 refine okN F (k:=6) tY (fun vs H Q E h=> ?_) (fun cdv A outer s H vs Q E hr h=> ?_)
 ·obtain⟨f,l,i,o,b,x,y,u,v,qs,rs,c,e,ps,L,r,j0,js,rfl,_⟩:=h
  rfl
 ·obtain⟨f,l,i,o,b,x,y,u,v,qs,rs,c,e,ps,L,r,j0,js,rfl,h⟩:=h
  refine'⟨_,?main,?rest⟩
  case main=>
   refine' iS ?c1
   case' c1=>refine' i9 ?c2
   case' c2=>refine' ja ?c3 ?c4 ?c5 ?c6 ?c7
   case c3=>exact F_cut_each
   case c4=>exact(hr.mono (by decide))
   case c5=>exact rfl
   case c6=>exact iX
   case' c7=>refine' iN ?c8 ?c9
   case c8=>exact(pvF 0)
   case' c9=>refine' iN ?c10 ?c11
   case' c10=>refine' mQ (CScope.of_ok (dsc:=iR s_cut_off) (N0:=["field","spots","number","others"]) (N:=["other","spots","number"]) (k:=1) (js:=[1,2]) rfl rfl (by decide+kernel)) rfl (jD (K:=K) rfl (pvF 3)) ?c12 ?c13 ?c14
   case' c12=>intro _ _ _ _ _ _;exact(iV (i:=0) (by show bT (["other","spots","number"]:List Str);decide+kernel) rfl (aL rfl))
   case' c13=>intro _ _ _ _ _ _;exact jH
   case' c14=>intro _ _ _ _ _ _;refine' jc ?c15
   case' c15=>refine' iN ?c16 ?c17
   case' c16=>refine' ja F_between (hr.mono (by decide)) rfl iX ?c18
   case' c18=>refine' iN (i7 jv (pvF 1) (pvF 2) (fun _ _=>rfl)) ?c19
   case' c19=>exact iN (i7 jv (pvF 1) (pvF 0) (fun _ _=>rfl)) iP
   case' c17=>exact iN (pvF 0) iP
   case c11=>exact iP
  case rest=>
   obtain⟨ok,hf,hL,hri,ho,nd,l12,hjs,hj0,h⟩:=h
   have lq:qs.length=rs.length:=ok.at_.1
   obtain⟨qi,hqi⟩:∃q,qs[i]? =some q:=⟨_,aa (by rw[lq];exact(ad.mp hri).1)⟩
   have eqi:=ok.at_.2 i qi r hqi hri
   have ai:atI (qs.map V.ref) (i:Int)=some (.ref qi):=jz (by rw[ax,hqi];rfl)
   have br:=ok.b2 (ah hri)
   have lj:(JsV js).length=js.length:=by unfold JsV;rw[ae]
   walk_at "ST"
   walk_at "RD"
   refine j8 (K:=K) (a:=o) (xs:=JsV js) (fun R h=>by walk_at "RD";exact h) (SqL.of ho) (by omega) (fun D k ys H'=>∃ts:List Addr,ys=ts.map V.ref /\ RwAt H' ts ((js.take k).map (A0 rs r)) /\ H' D=some (.lst ys) /\ Ext H H') ?_ ?_ ?_ ?_
   ·intro D hD;exact⟨[],rfl,⟨rfl,fun i t v a=>by simp at a⟩,iQ,.upd hD⟩
   ·rintro D k ys H1 _ ⟨ts,rfl,r1,e1,x1⟩;refine⟨e1,?_,SqL.of (x1 _ _ ho)⟩;rw[ae,r1.1,ae,aC];omega
   ·rintro D k w1 ys H1 hD hk ⟨ts,rfl,r1,e1,x1⟩;obtain⟨j,hj,rfl⟩:=v9 hk
    obtain⟨jl,ji,_⟩:=hjs j (ah hj)
    obtain⟨s,hs⟩:∃s,rs[j]? =some s:=⟨_,aa jl⟩
    obtain⟨qj,hqj⟩:∃q,qs[j]? =some q:=⟨_,aa (by rw[lq];exact jl)⟩
    have eqj:=ok.at_.2 j qj s hqj hs
    have ok1:=ok.ext x1
    have ne:=nodup_ne ok.nd hri hs ji
    have bs:=ok.b2 (ah hs)
    have aj:atI (qs.map V.ref) (j:Int)=some (.ref qj):=jz (by rw[ax,hqj];rfl)
    o_head ⟨ok1.sp,ai,aj,jY,x1 _ _ eqi,x1 _ _ eqj,zB,rI,rI,rI,rI,rI⟩
    refine⟨⟨br.1.mono (by decide),br.2.mono (by decide)⟩,⟨bs.1.mono (by decide),bs.2.mono (by decide)⟩,ne,fun t ht=>⟨by decide,fun t2 ht2=> ?_⟩⟩;have e1':=iZ (o:= .tup [.ref t,.int (j:Int)]) ht2 (iZ (o:= .tup [.int (lnB r s).1,.int (lnB r s).2.1,.int (lnB r s).2.2]) ht e1)
    refine⟨e1',ts++[t2],by rw[mq],?_,((x1.then ht).then ht2).set hD⟩;rw[bD,hj,au];refine RwAt.setL (xs:=ts.map V.ref) ?_ e1';refine RwAt.snoc ((r1.ext (Ext.upd ht)).ext (Ext.upd ht2)) (q:=t) ?_ ?_
    ·rw[sr hs];exact iQ
    ·rw[sr hs];exact iZ ht2 iQ
   ·rintro D ys H1 hD ⟨ts,rfl,r1,e1,x1⟩;rw[lj,aW] at r1;have ok1:=ok.ext x1
    refine⟨f,D,c,e,ps,L,ts,js.map (A0 rs r),fun k l'=>LandOk x y u v rs r (j0++js.take k) l',False,rfl,hf.ext x1,e1,r1,by show LandOk x y u v rs r (j0++js.take 0) L;rw[List.take_zero,aK];exact hL,?_,fun z=>z.elim,fun f' c' e' ps' L' H' x' nf hf' hL'=> ?_⟩
    ·intro k w1 L1 hk hL1;rw[ax] at hk;obtain⟨j,hj,rfl⟩:∃j,js[k]? =some j /\ w1=A0 rs r j:=by
      cases e:js[k]? with
      |none=>rw[e] at hk;cases hk
      |some q=>rw[e] at hk;exact⟨q,rfl,(bA.inj hk).symm⟩
     obtain⟨jl,ji,jn⟩:=hjs j (ah hj)
     obtain⟨s,hs⟩:∃s,rs[j]? =some s:=⟨_,aa jl⟩
     rw[sr hs];dsimp only;have ne:=nodup_ne ok.nd hri hs ji
     have bm:B3 300 (lnB r s):=by
      have a1:=ok.ins r (ah hri)
      have a2:=ok.ins s (ah hs)
      have z:=ok.sz
      have b:=sP (n:=110) (kO (n:=r.1) (by omega) (by omega) 110) (kO (n:=r.2) (by omega) (by omega) 110) (kO (n:=s.1) (by omega) (by omega) 110) (kO (n:=s.2) (by omega) (by omega) 110) ne
      exact⟨b.1.mono (by decide),b.2.1.mono (by decide),b.2.2.mono (by decide)⟩
     have lL:=hL1.len
     rw[al,aC] at lL;have own:=wN hL1 ok.xu ok.yv (ok.ins r (ah hri)) fun j' hj' z=>nodup_ne ok.nd hri z ((aR.mp hj').elim (hj0 j') fun q=>(hjs j' (cV q)).2.1) rfl
     have tk:j0++js.take (k+1)=(j0++js.take k)++[j]:=by
      rw[bD,hj,bG];rfl
     refine⟨hL1.poly,hL1.lnb,bm,by omega,fun q1=> ?_,fun l' q1 q2 rt ld=> ?_,fun q1 _=> ?_⟩
     ·rw[tk];exact vB hL1 hs q1
     ·rw[tk];exact wO hL1 hs (fun z=>(aR.mp z).elim jn (wF nd hj)) bm q1 q2 rt ld
     ·obtain⟨w,hw,lt⟩:=nN hL1.poly own (vk ne)
      have:=q1 w hw
      omega
    ·rw[ae,aW] at hL';refine h f' c' e' ps' L' H' (x1.trans x') ?_ hf' hL';rcases nf with n|n
     ·exact .inl ⟨x1.none n.nf,x1.none n.nc,x1.none n.ne,n.ce⟩
     ·exact .inr (by rw[ae] at n;exact n)
theorem oq:FnScope ["box","spots","number"] ["box","spots","number"] (iR s_land_within):=⟨rfl,rfl,rfl,by decide+kernel,rfl,by decide+kernel,by decide+kernel⟩
theorem ok_land_within{C:Cz}{f:Addr}{fd:FuncData}(F:Fun K "land_within" "land_within" s_land_within f fd)(T:Txt P K mg C)(F_others_of:FnB P w K mg base (CXE P w) 1 "others_of" ["spots","number"] k9)(F_box_field:FnB P w K mg base (CXE P w) 2 "box_field" ["box"] jX)(F_cut_off:FnB P w K mg base (CXE P w) 7 "cut_off" ["field","spots","number","others"] (nL K)):FnOk P w K mg base (CXE P w) 8 f fd ["box","spots","number"] (pb K):=by
 refine okN F (k:=7) oq (fun vs H Q E h=> ?_) (fun cdv A outer s H vs Q E hr h=> ?_)
 ·obtain⟨b,l,i,x,y,u,v,qs,rs,r,rfl,_⟩:=h
  rfl
 ·obtain⟨b,l,i,x,y,u,v,qs,rs,r,rfl,h⟩:=h
  refine'⟨_,?main,?rest⟩
  case main=>
   refine' iS ?c1
   case' c1=>refine' i9 ?c2
   case' c2=>refine' ja ?c3 ?c4 ?c5 ?c6 ?c7
   case c3=>exact F_cut_off
   case c4=>exact(hr.mono (by decide))
   case c5=>exact rfl
   case c6=>exact iX
   case' c7=>refine' iN ?c8 ?c9
   case' c8=>refine' ja F_box_field (hr.mono (by decide)) rfl iX ?c10
   case' c10=>exact iN (pvF 0) iP
   case' c9=>refine' iN (pvF 1) ?c11
   case' c11=>refine' iN (pvF 2) ?c12
   case' c12=>refine' iN ?c13 iP
   case' c13=>refine' ja F_others_of (hr.mono (by decide)) rfl iX ?c14
   case' c14=>refine' iN (pvF 1) ?c15
   case' c15=>exact iN (pvF 2) iP
  case rest=>
   obtain⟨ok,hri,h⟩:=h
   have lq:(qs.map V.ref).length=rs.length:=by rw[ae];exact ok.at_.1
   have n12:=ok.n12
   have z:=ok.sz
   have xu:=ok.xu
   have yv:=ok.yv
   walk_at "ST"
   o_head ⟨jX⟩
   refine⟨x,y,u,v,ok.bx,xu,yv,fun f c e ps H2 x2 nf hf=> ?_⟩;have ok2:=ok.ext x2
   refine⟨l,i,qs.map V.ref,rfl,ok2.sp,by rw[lq];omega,fun D H3 x3 hD eD=> ?_⟩;rw[lq] at eD;have bx:Bd 300 x /\ Bd 300 y /\ Bd 300 u /\ Bd 300 v:=⟨kO (by omega) (by omega) 300,kO (by omega) (by omega) 300,kO (by omega) (by omega) 300,kO (by omega) (by omega) 300⟩
   refine⟨f,l,i,D,b,x,y,u,v,qs,rs,c,e,ps,ky x y u v,r,[],jC rs.length i,rfl,ok2.ext x3,hf.ext x3,sT rs r xu yv bx,hri,eD,pE _ _,by rw[bQ,fM];exact bJ (j6 _ _) n12,fun j hj=>⟨(mem_othersL.mp hj).1,(mem_othersL.mp hj).2,by simp⟩,by simp,fun f' c' e' ps' L' H4 x4 nf4 hf4 hL4=> ?_⟩;have x23:=x2.trans x3
   refine h f' c' e' ps' L' H4 (x23.trans x4) ?_ hf4 hL4;rcases nf4 with n|⟨_,rfl,rfl,rfl⟩
   ·exact⟨x23.none n.nf,x23.none n.nc,x23.none n.ne,n.ce⟩
   ·exact nf
theorem wq:FnScope ["box","spots"] ["box","spots"] (iR s_lands):=⟨rfl,rfl,rfl,by decide+kernel,rfl,by decide+kernel,by decide+kernel⟩
theorem ok_lands{C:Cz}{f:Addr}{fd:FuncData}(F:Fun K "lands" "lands" s_lands f fd)(T:Txt P K mg C)(F_land_within:FnB P w K mg base (CXE P w) 8 "land_within" ["box","spots","number"] (pb K))(F_check_box_and_spots:FnB P w K mg base (CXE P w) 3 "check_box_and_spots" ["box","spots"] (uO K)):FnOk P w K mg base (CXE P w) 9 f fd ["box","spots"] (nu K):=by
 refine okN F (k:=8) wq (fun vs H Q E h=> ?_) (fun cdv A outer s H vs Q E hr h=> ?_)
 ·obtain⟨b,l,x,y,u,v,qs,rs,rfl,_⟩:=h
  rfl
 ·obtain⟨b,l,x,y,u,v,qs,rs,rfl,h⟩:=h
  refine'⟨_,?main,?rest⟩
  case main=>
   refine' iU ?c1 ?c2
   case' c1=>refine' jJ ?c3
   case' c3=>refine' ja F_check_box_and_spots (hr.mono (by decide)) rfl iX ?c4
   case' c4=>refine' iN (pvF 0) ?c5
   case' c5=>exact iN (pvF 1) iP
   case' c2=>refine' iS ?c6
   case' c6=>refine' i9 ?c7
   case' c7=>refine' mQ (CScope.of_ok (dsc:=iR s_lands) (N0:=["box","spots"]) (N:=["number","box","spots"]) (k:=1) (js:=[0,1]) rfl rfl (by decide+kernel)) rfl ?c8 ?c9 ?c10 ?c11
   case' c8=>refine' jK rfl T.b_range ?c12
   case' c12=>refine' iN ?c13 iP
   case' c13=>refine' jf jy (by rfl) T.b_len bS ?c14
   case' c14=>exact iN (pvF 1) iP
   case' c9=>intro _ _ _ _ _ _;exact(iV (i:=0) (by show bT (["number","box","spots"]:List Str);decide+kernel) rfl (aL rfl))
   case' c10=>intro _ _ _ _ _ _;exact jH
   case' c11=>intro _ _ _ _ _ _;refine' ja F_land_within (hr.mono (by decide)) rfl iX ?c15
   case' c15=>refine' iN (pvF 1) ?c16
   case' c16=>refine' iN (pvF 2) ?c17
   case' c17=>exact iN (pvF 0) iP
  case rest=>
   obtain⟨ok,h⟩:=h
   have lq:(qs.map V.ref).length=rs.length:=by rw[ae];exact ok.at_.1
   have n12:=ok.n12
   walk_at "ST"
   o_head ⟨uO⟩
   refine⟨⟨x,y,u,v,qs,rs,ok⟩,fun H0 x0=> ?_⟩;have ok0:=ok.ext x0
   refine kH rs.length (fun R hR=>by o_head ⟨ok0.sp,lq,rI,rI⟩;exact hR) (by omega) (fun D k ys H'=>∃fs:List Addr,ys=fs.map V.ref /\ fs.length=k /\ H' D=some (.lst ys) /\ Ext H0 H' /\ ss (upd H0 D (.lst [])) H' fs x y u v rs) ?_ ?_ ?_ ?_
   ·intro D hD;exact⟨[],rfl,rfl,iQ,.upd hD,fun i f hi=>by simp at hi⟩
   ·rintro D k ys H1 _ ⟨fs,rfl,rfl,e1,x1,_⟩;exact⟨e1,by rw[ae];exact aI _⟩
   ·rintro D k ys H1 hD hk ⟨fs,rfl,rfl,e1,x1,ls⟩;have ok1:=ok0.ext x1
    obtain⟨r,hr'⟩:∃r,rs[fs.length]? =some r:=⟨_,aa hk⟩
    walk_at "RD"
    refine⟨b,l,fs.length,x,y,u,v,qs,rs,r,by rw[bH],ok1,hr',fun f c e ps L H2 x2 nf hf hL=> ?_⟩;refine⟨x2 _ _ e1,fs++[f],by rw[mq],by rw[al];rfl,(x1.trans x2).set hD,fun i f' hi=> ?_⟩;have dn:∀{a:Addr},H1 a=none ->upd H0 D (.lst []) a=none:=fun {a} ha=>(jd (fun z=>by rw[z,e1] at ha;cases ha)).trans (x1.none ha)
    by_cases hlt:i<fs.length
    ·rw[aM hlt] at hi;obtain⟨c',e',ps',L',r',g1,g2,g3,g4⟩:=ls i f' hi
     exact⟨c',e',ps',L',r',g1,(g2.ext x2).setL (fun z=>by have:=g4.nc;rw[z,iQ] at this;cases this) (fun z=>by have:=g4.ne;rw[z,iQ] at this;cases this) (x2 _ _ e1),g3,g4⟩
    ·have:i=fs.length:=by
      have:=(ad.mp hi).1
      rw[al] at this;simp only[bC,bQ] at this;omega
     subst this;rw[aH (aI _),fK] at hi;cases hi;exact⟨c,e,ps,L,r,hr',hf.setL (fun z=>by have:=nf.nc;rw[z,e1] at this;cases this) (fun z=>by have:=nf.ne;rw[z,e1] at this;cases this) (x2 _ _ e1),hL,⟨dn nf.nf,dn nf.nc,dn nf.ne,nf.ce⟩⟩
   ·rintro D ys H1 hD ⟨fs,rfl,lf,e1,x1,ls⟩;refine h D fs H1 (x0.trans x1) (x0.none hD) e1 lf fun i f hi=> ?_
    obtain⟨c,e,ps,L,r,g1,g2,g3,g4⟩:=ls i f hi
    have xd:=x0.then (o:= .lst []) hD
    exact⟨c,e,ps,L,r,g1,g2,g3,⟨xd.none g4.nf,xd.none g4.nc,xd.none g4.ne,g4.ce⟩⟩
theorem qz:FnScope ["_law_script"] ["_law_script"] (iR s__law_feed):=⟨rfl,rfl,rfl,by decide+kernel,rfl,by decide+kernel,by decide+kernel⟩
theorem ok__law_feed{C:Cz}{f:Addr}{fd:FuncData}(F:Fun K "_law_feed" "_law_feed" s__law_feed f fd)(T:Txt P K mg C):FnOk P w K mg base (CXE P w) 1 f fd ["_law_script"] (pc K):=by
 refine okN F (k:=0) qz (fun vs H Q E h=> ?_) (fun cdv A outer s H vs Q E hr h=> ?_)
 ·obtain⟨a,ns,rfl,_⟩:=h
  rfl
 ·obtain⟨a,ns,rfl,h⟩:=h
  refine'⟨_,?main,?rest⟩
  case main=>
   refine' iS ?c1
   case' c1=>refine' i9 ?c2
   case' c2=>refine' yJ ?c3 rfl rfl (by decide) (by decide)
   case' c3=>refine' pw jL ?c4 ?c5
   case' c4=>refine' j2 j7 (by rfl) T.b_list boot_list ?c6
   case' c6=>refine' iN ?c7 iP
   case' c7=>refine' jS (wn (K:=K) rfl) (pvF 0) kn ?c8
   case' c8=>exact km iO
   case' c5=>refine' pw jL iO ?c9
   case' c9=>exact pw jL iO yE
  case rest=>
   obtain⟨hS,hl,h⟩:=h
   walk_at "ST"
   walk_at "RD"
   intro p hp;refine⟨a,_,rfl,(Ext.upd hp).sqL hS,fun l1 h1=> ?_⟩;walk_at "RD"
   intro l2 h2;have e1:ur (ns.map V.int) none (some 63)=(ns.take 63).map V.int:=by
    have:=mE (ns.map V.int) 63
    rw[<-cM] at this;exact this
   refine⟨iZ h2 (iZ h1 iQ),[(Sum.inr "cells",.ref l2),(Sum.inr "at",.int 0),(Sum.inr "left",.int 0)],rfl,(by show 3<=15;decide),?_⟩
   rw[e1] at h2⊢;refine h p l2 _ ((((Ext.upd (o:= .dK []) hp).then h1).then h2).set hp) hp ⟨ns.take 63,0,0,iQ,?_,by rw[aC];omega,aI _⟩;rw[jd (jm (iZ h1 iQ) h2).symm];exact iQ
theorem sc__law_draw:FnScope ["_law_feed_here","_law_many","_law_found","_law_at","_law_cell","_law_number"] ["_law_feed_here","_law_many"] (iR s__law_draw):=⟨rfl,rfl,rfl,by decide+kernel,rfl,by decide+kernel,by decide+kernel⟩
theorem ok__law_draw{C:Cz}{f:Addr}{fd:FuncData}(F:Fun K "_law_draw" "_law_draw" s__law_draw f fd)(T:Txt P K mg C):FnOk P w K mg base (CXE P w) 1 f fd ["_law_feed_here","_law_many"] jx:=by
 refine okN F (k:=0) sc__law_draw (fun vs H Q E h=> ?_) (fun cdv A outer s H vs Q E hr h=> ?_)
 ·obtain⟨p,m,c,b,rfl,_⟩:=h
  rfl
 ·obtain⟨p,m,c,b,rfl,h⟩:=h
  refine'⟨_,?main,?rest⟩
  case main=>
   refine' iU ?c1 ?c2
   case' c1=>refine' jF ?c3 ?c4 ?c5
   case' c3=>refine' i5 (OpR.f0 pF) ?c6 iO (je _)
   case' c6=>exact mZ (n6 hr) (pvF 0) jL (fun _ _=>rfl)
   case' c4=>refine' iU ?c7 ?c8
   case' c7=>refine' jg (i:=2) sc__law_draw.nd rfl (aL rfl) ?c9
   case' c9=>refine' iW (OpR.f lz) ?c10 (pvF 1)
   case' c10=>exact mZ (n6 hr) (pvF 0) jL (fun _ _=>rfl)
   case' c8=>refine' iU ?c11 ?c12
   case' c11=>refine' vc (n6 hr) (pvF 0) jL ?c13 rfl
   case' c13=>refine' iW (OpR.f jT) ?c14 (pvF 1)
   case' c14=>exact mZ (n6 hr) (pvF 0) jL (fun _ _=>rfl)
   case' c12=>exact iS (i9 (pvF 2))
   case c5=>exact jj
   case' c2=>refine' iU ?c15 ?c16
   case' c15=>refine' jg (i:=3) sc__law_draw.nd rfl (aL rfl) ?c17
   case' c17=>exact mZ (n6 hr) (pvF 0) jL (fun _ _=>rfl)
   case' c16=>refine' iU ?c18 ?c19
   case' c18=>refine' vc (n6 hr) (pvF 0) jL ?c20 rfl
   case' c20=>exact iW (OpR.f0 jA) (pvF 3) iO
   case' c19=>refine' iU (jg (i:=4) sc__law_draw.nd rfl (aL rfl) (pvF 3)) ?c21
   case' c21=>refine' iU ?c22 ?c23
   case' c22=>refine' jF ?c24 ?c25 ?c26
   case' c24=>refine' i5 (OpR.f0 pF) ?c27 iO (je _)
   case' c27=>refine' jf jy (by rfl) T.b_len bS ?c28
   case' c28=>refine' iN ?c29 iP
   case' c29=>exact mZ (n6 hr) (pvF 0) jL (fun _ _=>rfl)
   case' c25=>refine' iS ?c30
   case' c30=>refine' jg (i:=4) ?c31 ?c32 ?c33 ?c34
   case c31=>exact sc__law_draw.nd
   case c32=>exact rfl
   case c33=>exact(aL rfl)
   case' c34=>refine' i7 jv ?c35 ?c36 (fun _ _=>rfl)
   case' c35=>exact mZ (n6 hr) (pvF 0) jL (fun _ _=>rfl)
   case' c36=>refine' iW (OpR.f lz) (pvF 3) ?c37
   case' c37=>refine' jf jy (by rfl) T.b_len bS ?c38
   case' c38=>refine' iN ?c39 iP
   case' c39=>exact mZ (n6 hr) (pvF 0) jL (fun _ _=>rfl)
   case c26=>exact jj
   case' c23=>refine' iU ?c40 ?c41
   case' c40=>refine' jF ?c42 ?c43 ?c44
   case' c42=>refine' PW.pt ?c45
   case' c45=>refine' oE ?c46 ?c47
   case' c46=>refine' i5 (OpR.f0 ub) (pvF 4) ?c48 (je _)
   case' c48=>exact iW (OpR.f nW) iO iO
   case' c47=>refine' mM ?c49
   case' c49=>refine' i5 (OpR.f0 ni) (pvF 3) ?c50 (je _)
   case' c50=>refine' jf jy (by rfl) T.b_len bS ?c51
   case' c51=>refine' iN ?c52 iP
   case' c52=>exact mZ (n6 hr) (pvF 0) jL (fun _ _=>rfl)
   case' c43=>refine' iU ?c53 ?c54
   case' c53=>exact vc (n6 hr) (pvF 0) jL (iW (OpR.f jT) (pvF 4) (pvF 1)) rfl
   case' c54=>refine' iS ?c55
   case' c55=>exact i9 (iW (OpR.f lz) (pvF 4) (pvF 1))
   case c44=>exact jj
   case' c41=>refine' iU ?c56 ?c57
   case' c56=>refine' jg (i:=5) ?c58 ?c59 ?c60 ?c61
   case c58=>exact sc__law_draw.nd
   case c59=>exact rfl
   case c60=>exact(aL rfl)
   case' c61=>refine' iW ?c62 ?c63 ?c64
   case c62=>exact(OpR.f lz)
   case' c63=>refine' iW ?c65 ?c66 ?c67
   case c65=>exact(OpR.f iY)
   case' c66=>refine' iW ?c68 ?c69 ?c70
   case c68=>exact(OpR.f0 jA)
   case' c69=>refine' iW (OpR.f0 jA) ?c71 ?c72
   case' c71=>refine' iW (OpR.f0 jA) ?c73 ?c74
   case' c73=>exact iW (OpR.f lz) (pvF 4) iO
   case' c74=>refine' iW (OpR.f iY) ?c75 (pvF 3)
   case' c75=>exact iW (OpR.f iY) iO (pvF 3)
   case' c72=>exact iW (OpR.f iY) iO (pvF 3)
   case c70=>exact iO
   case c67=>exact iO
   case c64=>exact iO
   case' c57=>refine' iS ?c76
   case' c76=>refine' i9 ?c77
   case' c77=>refine' iW ?c78 ?c79 ?c80
   case c78=>exact(OpR.f lz)
   case' c79=>refine' iW ?c81 ?c82 ?c83
   case c81=>exact(OpR.f jT)
   case' c82=>refine' iW ?c84 ?c85 ?c86
   case c84=>exact(OpR.f lz)
   case' c85=>refine' iW (OpR.f iY) ?c87 iO
   case' c87=>refine' iW (OpR.f lz) ?c88 iO
   case' c88=>refine' iW (OpR.f0 jA) ?c89 ?c90
   case' c89=>exact iW (OpR.f iY) (pvF 5) iO
   case' c90=>exact iW (OpR.f iY) iO (pvF 3)
   case c86=>exact iO
   case c83=>exact iO
   case c80=>exact(pvF 1)
  case rest=>
   obtain⟨⟨ns,n,l,e1,e2,hl,hn⟩,hb,h0,h1,h⟩:=h
   walk_at "ST"
   have hcp:c≠p:=mR e2 e1 (by intro z;cases z)
   have e2x:∀kvs,upd H p (.dK kvs) c=some (.lst (ns.map V.int)):=fun kvs=>(jd hcp).trans e2
   have kp:∀kvs q o,q≠p ->H q=some o ->upd H p (.dK kvs) q=some o:=fun kvs q o hq e=>(jd hq).trans e
   have bm:Bd 9000 m:=Bd.of_le 100000 (by omega) (by omega) (by decide)
   o_head ⟨e1,zd,Bm,wX,wW,ui,e2x,uz,ae,rI,rI,rI⟩
   by_cases hL:0<l
   ·rw[if_pos hL];refine⟨h0,by omega,bm,h _ _ (cQ _ (by omega)) (cv _ h0) ⟨⟨ns,n,_,iQ,e2x _,hl,by omega⟩,kp _⟩⟩
   ·rw[if_neg hL]
    by_cases hL2:0<(ns.length:Int)
    ·rw[if_pos hL2];refine⟨hL2,?_⟩;obtain⟨x,hx,_⟩:=zt (xs:=ns) (k:=(n:Int)) (by omega)
     rw[hx];walk_at "RD"
     repeat' split
     all_goals first
      |exact⟨by omega,bm,h0,h _ _ (cQ _ (by omega)) (cv _ h0) ⟨⟨ns,n+1,_,iQ,e2x _,hl,by omega⟩,kp _⟩⟩
      |exact⟨.left (by decide) (by decide),.right (by omega) (by omega),.left (by decide) (by decide),.right (by decide) (by decide),.right (by decide) (by decide),.left (by decide) (by decide),.right (by decide) (by decide),Bd.lit (by decide) (by decide),h0,h _ _ (cQ _ (by omega)) (cv _ h0) ⟨⟨ns,n+1,_,iQ,e2x _,hl,by omega⟩,kp _⟩⟩
    ·rw[if_neg hL2];split
     ·split
      ·exact⟨by omega,bm,h0,h _ _ (cQ _ (by omega)) (cv _ h0) ⟨⟨ns,n+1,_,iQ,e2x _,hl,by omega⟩,kp _⟩⟩
      ·exact⟨.left (by decide) (by decide),.right (by omega) (by omega),.left (by decide) (by decide),.right (by decide) (by decide),.right (by decide) (by decide),.left (by decide) (by decide),.right (by decide) (by decide),Bd.lit (by decide) (by decide),h0,h _ _ (cQ _ (by omega)) (cv _ h0) ⟨⟨ns,n+1,_,iQ,e2x _,hl,by omega⟩,kp _⟩⟩
     ·exact⟨.left (by decide) (by decide),.right (by omega) (by omega),.left (by decide) (by decide),.right (by decide) (by decide),.right (by decide) (by decide),.left (by decide) (by decide),.right (by decide) (by decide),Bd.lit (by decide) (by decide),h0,h _ _ (cQ _ (by omega)) (cv _ h0) ⟨⟨ns,n+1,_,iQ,e2x _,hl,by omega⟩,kp _⟩⟩
theorem sc__law_great:FnScope ["_law_feed_here","_law_pieces","_law_number","_law_k"] ["_law_feed_here","_law_pieces"] (iR s__law_great):=⟨rfl,rfl,rfl,by decide+kernel,rfl,by decide+kernel,by decide+kernel⟩
theorem ok__law_great{C:Cz}{f:Addr}{fd:FuncData}(F:Fun K "_law_great" "_law_great" s__law_great f fd)(T:Txt P K mg C)(F__law_draw:FnB P w K mg base (CXE P w) 1 "_law_draw" ["_law_feed_here","_law_many"] jx):FnOk P w K mg base (CXE P w) 2 f fd ["_law_feed_here","_law_pieces"] nv:=by
 refine okN F (k:=1) sc__law_great (fun vs H Q E h=> ?_) (fun cdv A outer s H vs Q E hr h=> ?_)
 ·obtain⟨p,k,c,b,rfl,_⟩:=h
  rfl
 ·obtain⟨p,k,c,b,rfl,h⟩:=h
  refine'⟨_,?main,?rest⟩
  case main=>
   refine' iU ?c1 ?c2
   case' c1=>exact jg (i:=2) sc__law_great.nd rfl (aL rfl) iO
   case' c2=>refine' iU ?c3 ?c4
   case' c3=>refine' kD ?c5 ?c6 ?c7 ?c8 ?c9
   case c5=>exact PassesOwn.never
   case c6=>exact rfl
   case' c7=>refine' jK rfl T.b_range ?c10
   case' c10=>exact iN (pvF 1) iP
   case c8=>exact(iV (i:=3) sc__law_great.nd rfl (aL rfl))
   case' c9=>refine' iS ?c11
   case' c11=>refine' jg (i:=2) sc__law_great.nd rfl (aL rfl) ?c12
   case' c12=>refine' iW (OpR.f0 jA) ?c13 ?c14
   case' c13=>exact iW (OpR.f iY) (pvF 2) iO
   case' c14=>refine' ja F__law_draw (hr.mono (by decide)) rfl iX ?c15
   case' c15=>refine' iN (pvF 0) ?c16
   case' c16=>exact iN iO iP
   case' c4=>exact iS (i9 (pvF 2))
  case rest=>
   obtain⟨hF,hb,hk,h⟩:=h
   walk_at "ST"
   walk_at "RD"
   refine kI k (fun R hR=>by walk_at "RD";exact hR) (by omega) (fun i σ H'=>∃(r:Int) (o3:Option V),σ=[some (.ref p),some (.int k),some (.int r),o3] /\ 0<=r /\ r<100000^i /\ DX c (b+i) p H H') ⟨0,_,rfl,by decide,by decide,.refl hF⟩ ?_ ?_
   ·rintro i σ H' hi ⟨r,o3,rfl,r0,r1,dx⟩
    o_head ⟨jx⟩
    refine⟨.right (by decide) (by decide),_,_,dx.feed,by omega,fun r' H2 a1 a2 d2=> ?_⟩;refine⟨by omega,?_,dx.trans (d2.mono (by omega))⟩;rw[fL];generalize(100000:Int)^i=N at r1⊢;omega
   ·rintro σ H' ⟨r,o3,rfl,r0,r1,dx⟩;walk_at "RD"
    exact h r H' r0 r1 dx
theorem sc__law_scale:FnScope ["_law_feed_here","_law_way"] ["_law_feed_here"] (iR s__law_scale):=⟨rfl,rfl,rfl,by decide+kernel,rfl,by decide+kernel,by decide+kernel⟩
theorem ok__law_scale{C:Cz}{f:Addr}{fd:FuncData}(F:Fun K "_law_scale" "_law_scale" s__law_scale f fd)(T:Txt P K mg C)(F__law_great:FnB P w K mg base (CXE P w) 2 "_law_great" ["_law_feed_here","_law_pieces"] nv)(F__law_draw:FnB P w K mg base (CXE P w) 1 "_law_draw" ["_law_feed_here","_law_many"] jx):FnOk P w K mg base (CXE P w) 3 f fd ["_law_feed_here"] nr:=by
 refine okN F (k:=2) sc__law_scale (fun vs H Q E h=> ?_) (fun cdv A outer s H vs Q E hr h=> ?_)
 ·obtain⟨p,c,b,rfl,_⟩:=h
  rfl
 ·obtain⟨p,c,b,rfl,h⟩:=h
  refine'⟨_,?main,?rest⟩
  case main=>
   refine' iU ?c1 ?c2
   case' c1=>refine' jg (i:=1) sc__law_scale.nd rfl (aL rfl) ?c3
   case' c3=>refine' ja F__law_draw (hr.mono (by decide)) rfl iX ?c4
   case' c4=>refine' iN (pvF 0) ?c5
   case' c5=>exact iN iO iP
   case' c2=>refine' iU ?c6 ?c7
   case' c6=>refine' jF ?c8 ?c9 ?c10
   case' c8=>exact i5 (OpR.f0 ni) (pvF 1) iO (je _)
   case' c9=>refine' iS ?c11
   case' c11=>refine' i9 ?c12
   case' c12=>refine' jc ?c13
   case' c13=>refine' iN iO ?c14
   case' c14=>refine' iN iO ?c15
   case' c15=>exact iN iO iP
   case c10=>exact jj
   case' c7=>refine' iU ?c16 ?c17
   case' c16=>refine' jF ?c18 ?c19 ?c20
   case' c18=>exact i5 j3 (pvF 1) iO (je _)
   case' c19=>refine' iS ?c21
   case' c21=>refine' i9 ?c22
   case' c22=>refine' jc ?c23
   case' c23=>refine' iN ?c24 ?c25
   case' c24=>refine' iW (OpR.f0 jA) iO ?c26
   case' c26=>refine' ja F__law_draw (hr.mono (by decide)) rfl iX ?c27
   case' c27=>refine' iN (pvF 0) ?c28
   case' c28=>exact iN iO iP
   case' c25=>refine' iN ?c29 ?c30
   case' c29=>refine' iW (OpR.f0 jw) ?c31 iO
   case' c31=>refine' ja F__law_draw (hr.mono (by decide)) rfl iX ?c32
   case' c32=>refine' iN (pvF 0) ?c33
   case' c33=>exact iN iO iP
   case' c30=>refine' iN ?c34 iP
   case' c34=>refine' iW (OpR.f0 jw) ?c35 iO
   case' c35=>refine' ja F__law_draw (hr.mono (by decide)) rfl iX ?c36
   case' c36=>refine' iN (pvF 0) ?c37
   case' c37=>exact iN iO iP
   case c20=>exact jj
   case' c17=>refine' iS ?c38
   case' c38=>refine' i9 ?c39
   case' c39=>refine' jc ?c40
   case' c40=>refine' iN ?c41 ?c42
   case' c41=>refine' iW (OpR.f0 jA) iO ?c43
   case' c43=>refine' ja F__law_great (hr.mono (by decide)) rfl iX ?c44
   case' c44=>refine' iN (pvF 0) ?c45
   case' c45=>exact iN iO iP
   case' c42=>refine' iN ?c46 ?c47
   case' c46=>refine' iW ?c48 ?c49 ?c50
   case c48=>exact(OpR.f0 jw)
   case' c49=>refine' ja F__law_great (hr.mono (by decide)) rfl iX ?c51
   case' c51=>refine' iN (pvF 0) ?c52
   case' c52=>exact iN iO iP
   case' c50=>refine' ja F__law_great (hr.mono (by decide)) rfl iX ?c53
   case' c53=>refine' iN (pvF 0) ?c54
   case' c54=>exact iN iO iP
   case' c47=>refine' iN ?c55 ?c56
   case' c55=>refine' iW ?c57 ?c58 ?c59
   case c57=>exact(OpR.f0 jw)
   case' c58=>refine' ja F__law_great (hr.mono (by decide)) rfl iX ?c60
   case' c60=>refine' iN (pvF 0) ?c61
   case' c61=>exact iN iO iP
   case' c59=>refine' ja F__law_great (hr.mono (by decide)) rfl iX ?c62
   case' c62=>refine' iN (pvF 0) ?c63
   case' c63=>exact iN iO iP
   case c56=>exact iP
  case rest=>
   obtain⟨hF,hb,h⟩:=h
   walk_at "ST"
   o_head ⟨jx⟩
   refine⟨c,b,hF,by omega,fun r H1 a1 a2 d1=> ?_⟩;split
   ·refine⟨by decide,fun t ht=> ?_⟩;exact h t _ _ _ _ ((d1.upd ht).mono (by omega)) iQ (by decide) (by decide) (by decide)
   ·split
    ·refine⟨c,_,d1.feed,by omega,fun r2 H2 a3 a4 d2=>⟨c,_,d2.feed,by omega,fun r3 H3 a5 a6 d3=>⟨c,_,d3.feed,by omega,fun r4 H4 a7 a8 d4=>⟨by decide,fun t ht=> ?_⟩⟩⟩⟩;exact h t _ _ _ _ ((((((d1.trans d2).trans d3).trans d4)).upd ht).mono (by omega)) iQ (by omega) (by omega) (by omega)
    ·have p4:(100000:Int)^4=10^20:=by decide
     have p5:(100000:Int)^5=10^25:=by decide
     o_head ⟨nv⟩
     refine⟨4,rfl,c,_,d1.feed,by omega,by decide,fun r2 H2 a3 a4 d2=>⟨5,rfl,c,_,d2.feed,by omega,by decide,fun r3 H3 a5 a6 d3=>⟨5,rfl,c,_,d3.feed,by omega,by decide,fun r4 H4 a7 a8 d4=>⟨5,rfl,c,_,d4.feed,by omega,by decide,fun r5 H5 a9 a10 d5=>⟨5,rfl,c,_,d5.feed,by omega,by decide,fun r6 H6 a11 a12 d6=>⟨by decide,fun t ht=> ?_⟩⟩⟩⟩⟩⟩;rw[p4] at a4;rw[p5] at a6 a8 a10 a12;exact h t _ _ _ _ ((((((((d1.trans d2).trans d3).trans d4).trans d5).trans d6)).upd ht).mono (by omega)) iQ (by omega) (by omega) (by omega)
theorem sc__law_spot:FnScope ["_law_feed_here","_law_style","_law_k"] ["_law_feed_here","_law_style"] (iR s__law_spot):=⟨rfl,rfl,rfl,by decide+kernel,rfl,by decide+kernel,by decide+kernel⟩
theorem ok__law_spot{C:Cz}{f:Addr}{fd:FuncData}(F:Fun K "_law_spot" "_law_spot" s__law_spot f fd)(T:Txt P K mg C)(F__law_draw:FnB P w K mg base (CXE P w) 1 "_law_draw" ["_law_feed_here","_law_many"] jx):FnOk P w K mg base (CXE P w) 2 f fd ["_law_feed_here","_law_style"] oW:=by
 refine okN F (k:=1) sc__law_spot (fun vs H Q E h=> ?_) (fun cdv A outer s H vs Q E hr h=> ?_)
 ·obtain⟨p,st,c,b,rfl,_⟩:=h
  rfl
 ·obtain⟨p,st,c,b,rfl,h⟩:=h
  refine'⟨_,?main,?rest⟩
  case main=>
   refine' iU ?c1 ?c2
   case' c1=>refine' jF ?c3 ?c4 ?c5
   case' c3=>exact i5 j3 (pvF 1) iO (je _)
   case' c4=>refine' iS ?c6
   case' c6=>refine' i9 ?c7
   case' c7=>refine' jc ?c8
   case' c8=>refine' iN ?c9 ?c10
   case' c9=>refine' ja F__law_draw (hr.mono (by decide)) rfl iX ?c11
   case' c11=>refine' iN (pvF 0) ?c12
   case' c12=>exact iN iO iP
   case' c10=>refine' iN ?c13 iP
   case' c13=>refine' ja F__law_draw (hr.mono (by decide)) rfl iX ?c14
   case' c14=>refine' iN (pvF 0) ?c15
   case' c15=>exact iN iO iP
   case c5=>exact jj
   case' c2=>refine' iU ?c16 ?c17
   case' c16=>refine' jF ?c18 ?c19 ?c20
   case' c18=>exact i5 j3 (pvF 1) iO (je _)
   case' c19=>refine' iS ?c21
   case' c21=>refine' i9 ?c22
   case' c22=>refine' jc ?c23
   case' c23=>refine' iN ?c24 ?c25
   case' c24=>refine' ja F__law_draw (hr.mono (by decide)) rfl iX ?c26
   case' c26=>refine' iN (pvF 0) ?c27
   case' c27=>exact iN iO iP
   case' c25=>refine' iN ?c28 iP
   case' c28=>refine' ja F__law_draw (hr.mono (by decide)) rfl iX ?c29
   case' c29=>refine' iN (pvF 0) ?c30
   case' c30=>exact iN iO iP
   case c20=>exact jj
   case' c17=>refine' iU ?c31 ?c32
   case' c31=>refine' jg (i:=2) sc__law_spot.nd rfl (aL rfl) ?c33
   case' c33=>refine' ja F__law_draw (hr.mono (by decide)) rfl iX ?c34
   case' c34=>refine' iN (pvF 0) ?c35
   case' c35=>exact iN iO iP
   case' c32=>refine' iU ?c36 ?c37
   case' c36=>refine' jF ?c38 ?c39 ?c40
   case' c38=>exact i5 j3 (pvF 1) iO (je _)
   case' c39=>refine' iS ?c41
   case' c41=>refine' i9 ?c42
   case' c42=>refine' jc ?c43
   case' c43=>refine' mh ?c44 ?c45
   case' c44=>refine' i7 ?c46 ?c47 ?c48 ?c49
   case c46=>exact jv
   case' c47=>refine' jP ?c50
   case' c50=>refine' iN ?c51 ?c52
   case c51=>exact iO
   case' c52=>refine' iN ?c53 ?c54
   case c53=>exact iO
   case' c54=>refine' iN ?c55 ?c56
   case c55=>exact iO
   case' c56=>refine' iN ?c57 ?c58
   case c57=>exact iO
   case' c58=>refine' iN ?c59 ?c60
   case c59=>exact iO
   case' c60=>refine' iN ?c61 ?c62
   case c61=>exact iO
   case' c62=>refine' iN ?c63 ?c64
   case c63=>exact iO
   case' c64=>refine' iN ?c65 ?c66
   case c65=>exact iO
   case' c66=>refine' iN iO ?c67
   case' c67=>refine' iN iO ?c68
   case' c68=>refine' iN iO ?c69
   case' c69=>exact iN iO iP
   case c48=>exact(pvF 2)
   case c49=>exact(fun _ _=>rfl)
   case' c45=>refine' mh ?c70 ?c71
   case' c70=>refine' i7 ?c72 ?c73 ?c74 ?c75
   case c72=>exact jv
   case' c73=>refine' jP ?c76
   case' c76=>refine' iN ?c77 ?c78
   case c77=>exact iO
   case' c78=>refine' iN ?c79 ?c80
   case c79=>exact iO
   case' c80=>refine' iN ?c81 ?c82
   case c81=>exact iO
   case' c82=>refine' iN ?c83 ?c84
   case c83=>exact iO
   case' c84=>refine' iN ?c85 ?c86
   case c85=>exact iO
   case' c86=>refine' iN ?c87 ?c88
   case c87=>exact iO
   case' c88=>refine' iN ?c89 ?c90
   case c89=>exact iO
   case' c90=>refine' iN ?c91 ?c92
   case c91=>exact iO
   case' c92=>refine' iN iO ?c93
   case' c93=>refine' iN iO ?c94
   case' c94=>refine' iN iO ?c95
   case' c95=>exact iN iO iP
   case c74=>exact(pvF 2)
   case c75=>exact(fun _ _=>rfl)
   case c71=>exact iP
   case c40=>exact jj
   case' c37=>refine' iS ?c96
   case' c96=>refine' i9 ?c97
   case' c97=>refine' i7 ?c98 ?c99 ?c100 ?c101
   case c98=>exact jv
   case' c99=>refine' jP ?c102
   case' c102=>refine' iN ?c103 ?c104
   case' c103=>refine' jc ?c105
   case' c105=>refine' iN (pvF 2) ?c106
   case' c106=>exact iN iO iP
   case' c104=>refine' iN ?c107 ?c108
   case' c107=>refine' jc ?c109
   case' c109=>refine' iN iO ?c110
   case' c110=>exact iN (pvF 2) iP
   case' c108=>refine' iN ?c111 iP
   case' c111=>refine' jc ?c112
   case' c112=>refine' iN (pvF 2) ?c113
   case' c113=>exact iN (pvF 2) iP
   case' c100=>exact iW (OpR.f0 jw) (pvF 1) iO
   case c101=>exact(fun _ _=>rfl)
  case rest=>
   obtain⟨hF,hb,s0,s5,h⟩:=h
   walk_at "ST"
   o_head ⟨jx⟩
   split
   ·refine⟨c,b,hF,by omega,fun r1 H1 a1 a2 d1=>⟨c,_,d1.feed,by omega,fun r2 H2 a3 a4 d2=>⟨by decide,fun t ht=> ?_⟩⟩⟩;exact h t _ _ _ (((d1.trans d2).upd ht).mono (by omega)) iQ (by omega) (by omega)
   ·split
    ·refine⟨c,b,hF,by omega,fun r1 H1 a1 a2 d1=>⟨c,_,d1.feed,by omega,fun r2 H2 a3 a4 d2=>⟨by decide,fun t ht=> ?_⟩⟩⟩;exact h t _ _ _ (((d1.trans d2).upd ht).mono (by omega)) iQ (by omega) (by omega)
    ·refine⟨c,b,hF,by omega,fun r1 H1 a1 a2 d1=> ?_⟩;split
     ·obtain⟨x,hx,mx⟩:=yd (xs:=[10,9,8,5,2,1,0,1,2,5,8,9]) a1 a2
      obtain⟨y,hy,my⟩:=yd (xs:=[5,8,9,10,9,8,5,2,1,0,1,2]) a1 a2
      have bx:∀x∈([10,9,8,5,2,1,0,1,2,5,8,9]:List Int),0<=x /\ x<=12:=by decide
      have bY:∀x∈([5,8,9,10,9,8,5,2,1,0,1,2]:List Int),0<=x /\ x<=12:=by decide
      simp only[aJ,bR] at hx hy;refine⟨by decide,fun t1 h1=> ?_⟩;rw[hx,jh];refine⟨by decide,fun t2 h2=> ?_⟩;rw[hy,jh];exact⟨by decide,fun t3 h3=>h t3 x y _ ((((d1.upd h1).upd h2).upd h3).mono (by omega)) iQ (bx x mx) (bY y my)⟩
     ·refine⟨by decide,fun t1 h1=>⟨by decide,fun t2 h2=>⟨by decide,fun t3 h3=>⟨by decide,fun t4 h4=> ?_⟩⟩⟩⟩;have dd:=((((d1.upd (o:= .tup [.int r1,.int 4]) h1).upd (o:= .tup [.int 5,.int r1]) h2).upd (o:= .tup [.int r1,.int r1]) h3).upd (o:= .lst [.ref t1,.ref t2,.ref t3]) h4).mono (show b+1<=b+2 by omega)
      have:st=3∨st=4∨st=5:=by omega
      rcases this with rfl|rfl|rfl
      ·exact h t1 _ _ _ dd (iZ h4 (iZ h3 (iZ h2 iQ))) (by omega) (by omega)
      ·exact h t2 _ _ _ dd (iZ h4 (iZ h3 iQ)) (by omega) (by omega)
      ·exact h t3 _ _ _ dd (iZ h4 iQ) (by omega) (by omega)
theorem sc__law_dozen:FnScope ["_law_feed_here","_law_way","_law_found","_law_k","_law_at"] ["_law_feed_here"] (iR s__law_dozen):=⟨rfl,rfl,rfl,by decide+kernel,rfl,by decide+kernel,by decide+kernel⟩
theorem ok__law_dozen{C:Cz}{f:Addr}{fd:FuncData}(F:Fun K "_law_dozen" "_law_dozen" s__law_dozen f fd)(T:Txt P K mg C)(F__law_draw:FnB P w K mg base (CXE P w) 1 "_law_draw" ["_law_feed_here","_law_many"] jx):FnOk P w K mg base (CXE P w) 2 f fd ["_law_feed_here"] nw:=by
 refine okN F (k:=1) sc__law_dozen (fun vs H Q E h=> ?_) (fun cdv A outer s H vs Q E hr h=> ?_)
 ·obtain⟨p,c,b,rfl,_⟩:=h
  rfl
 ·obtain⟨p,c,b,rfl,h⟩:=h
  refine'⟨_,?main,?rest⟩
  case main=>
   refine' iU ?c1 ?c2
   case' c1=>refine' jg (i:=1) sc__law_dozen.nd rfl (aL rfl) ?c3
   case' c3=>refine' ja F__law_draw (hr.mono (by decide)) rfl iX ?c4
   case' c4=>refine' iN (pvF 0) ?c5
   case' c5=>exact iN iO iP
   case' c2=>refine' iU ?c6 ?c7
   case' c6=>refine' jg (i:=2) sc__law_dozen.nd rfl (aL rfl) ?c8
   case' c8=>exact jP iP
   case' c7=>refine' jb ?c9 ?c10
   case' c9=>refine' kD ?c11 ?c12 ?c13 ?c14 ?c15
   case c11=>exact PassesOwn.never
   case c12=>exact rfl
   case' c13=>refine' jK rfl T.b_range ?c16
   case' c16=>refine' iN ?c17 iP
   case' c17=>refine' iW (OpR.f0 jA) iO ?c18
   case' c18=>refine' ja F__law_draw (hr.mono (by decide)) rfl iX ?c19
   case' c19=>refine' iN (pvF 0) ?c20
   case' c20=>exact iN iO iP
   case c14=>exact(iV (i:=3) sc__law_dozen.nd rfl (aL rfl))
   case' c15=>refine' iS ?c21
   case' c21=>refine' jF ?c22 ?c23 ?c24
   case' c22=>exact i5 j3 (pvF 1) iO (je _)
   case' c23=>refine' iS ?c25
   case' c25=>refine' jJ ?c26
   case' c26=>refine' pe_app ?c27 ?c28
   case c27=>exact(pvF 2)
   case' c28=>refine' iN ?c29 ?c30
   case' c29=>refine' jc ?c31
   case' c31=>refine' iN ?c32 ?c33
   case' c32=>exact iW (OpR.f lz) (pvF 3) iO
   case' c33=>refine' iN ?c34 iP
   case' c34=>exact iW (OpR.f jT) (pvF 3) iO
   case c30=>exact iP
   case' c24=>refine' iS ?c35
   case' c35=>refine' jF ?c36 ?c37 ?c38
   case' c36=>exact i5 j3 (pvF 1) iO (je _)
   case' c37=>refine' iS ?c39
   case' c39=>refine' jJ ?c40
   case' c40=>refine' pe_app ?c41 ?c42
   case c41=>exact(pvF 2)
   case' c42=>refine' iN ?c43 ?c44
   case' c43=>refine' jc ?c45
   case' c45=>refine' mh ?c46 ?c47
   case' c46=>refine' i7 ?c48 ?c49 ?c50 ?c51
   case c48=>exact jv
   case' c49=>refine' jP ?c52
   case' c52=>refine' iN ?c53 ?c54
   case c53=>exact iO
   case' c54=>refine' iN ?c55 ?c56
   case c55=>exact iO
   case' c56=>refine' iN ?c57 ?c58
   case c57=>exact iO
   case' c58=>refine' iN ?c59 ?c60
   case c59=>exact iO
   case' c60=>refine' iN ?c61 ?c62
   case c61=>exact iO
   case' c62=>refine' iN ?c63 ?c64
   case c63=>exact iO
   case' c64=>refine' iN ?c65 ?c66
   case c65=>exact iO
   case' c66=>refine' iN ?c67 ?c68
   case c67=>exact iO
   case' c68=>refine' iN iO ?c69
   case' c69=>refine' iN iO ?c70
   case' c70=>refine' iN iO ?c71
   case' c71=>exact iN iO iP
   case c50=>exact(pvF 3)
   case c51=>exact(fun _ _=>rfl)
   case' c47=>refine' mh ?c72 ?c73
   case' c72=>refine' i7 ?c74 ?c75 ?c76 ?c77
   case c74=>exact jv
   case' c75=>refine' jP ?c78
   case' c78=>refine' iN ?c79 ?c80
   case c79=>exact iO
   case' c80=>refine' iN ?c81 ?c82
   case c81=>exact iO
   case' c82=>refine' iN ?c83 ?c84
   case c83=>exact iO
   case' c84=>refine' iN ?c85 ?c86
   case c85=>exact iO
   case' c86=>refine' iN ?c87 ?c88
   case c87=>exact iO
   case' c88=>refine' iN ?c89 ?c90
   case c89=>exact iO
   case' c90=>refine' iN ?c91 ?c92
   case c91=>exact iO
   case' c92=>refine' iN ?c93 ?c94
   case c93=>exact iO
   case' c94=>refine' iN iO ?c95
   case' c95=>refine' iN iO ?c96
   case' c96=>refine' iN iO ?c97
   case' c97=>exact iN iO iP
   case c76=>exact(pvF 3)
   case c77=>exact(fun _ _=>rfl)
   case c73=>exact iP
   case c44=>exact iP
   case' c38=>refine' iS ?c98
   case' c98=>refine' jJ ?c99
   case' c99=>refine' pe_app ?c100 ?c101
   case c100=>exact(pvF 2)
   case' c101=>refine' iN ?c102 ?c103
   case' c102=>refine' jc ?c104
   case' c104=>refine' iN ?c105 ?c106
   case c105=>exact(pvF 3)
   case' c106=>refine' mh ?c107 ?c108
   case' c107=>refine' i7 ?c109 ?c110 ?c111 ?c112
   case c109=>exact jv
   case' c110=>refine' jP ?c113
   case' c113=>refine' iN iO ?c114
   case' c114=>refine' iN ?c115 iP
   case' c115=>refine' ja F__law_draw (hr.mono (by decide)) rfl iX ?c116
   case' c116=>refine' iN (pvF 0) ?c117
   case' c117=>exact iN iO iP
   case' c111=>exact iW (OpR.f0 jw) (pvF 1) iO
   case c112=>exact(fun _ _=>rfl)
   case c108=>exact iP
   case c103=>exact iP
   case' c10=>refine' iU ?c118 ?c119
   case' c118=>refine' jg (i:=4) sc__law_dozen.nd rfl (aL rfl) ?c120
   case' c120=>refine' ja F__law_draw (hr.mono (by decide)) rfl iX ?c121
   case' c121=>refine' iN (pvF 0) ?c122
   case' c122=>refine' iN ?c123 iP
   case' c123=>refine' jf jy (by rfl) T.b_len bS ?c124
   case' c124=>exact iN (pvF 2) iP
   case' c119=>refine' iS ?c125
   case' c125=>refine' i9 ?c126
   case' c126=>refine' iW nX ?c127 ?c128
   case' c127=>exact jS uR (pvF 2) (km (pvF 4)) kn
   case' c128=>exact jS uR (pvF 2) kn (km (pvF 4))
  case rest=>
   obtain⟨hF,hb,h⟩:=h
   walk_at "ST"
   o_head ⟨jx⟩
   refine⟨c,b,hF,by omega,fun way H1 w1 w2 d1=> ?_⟩;refine⟨by decide,fun L hL=> ?_⟩;have dL:=d1.upd (o:= .lst []) hL
   have nLp:=d1.feed.ne hL
   refine⟨fun σ H'=>∃(qs:List Addr) (rs:List P2) (o3:Option V),σ=[some (.ref p),some (.int way),some (.ref L),o3,none] /\ H' L=some (.lst (qs.map V.ref)) /\ R2At H' qs rs /\ (∀i r,rs[i]? =some r ->DzOk way i r) /\ 10<=rs.length /\ rs.length<=12 /\ DX c (b+14) p H H',?_,?_⟩
   ·refine nH (fun n H'=>10<=n /\ n<=12 /\ H' L=some (.lst []) /\ DX c (b+2) p H H') ?_ ?_
    ·intro R hR
     o_head ⟨jx⟩
     refine⟨c,_,dL.feed,by omega,fun r H2 a1 a2 d2=> ?_⟩;have:=hR (10+r.toNat) H2 ⟨by omega,by omega,d2.keep _ _ nLp iQ,dL.trans d2⟩
     rw[show((10+r.toNat:Nat):Int)=10+r by omega] at this;exact this
    ·rintro n H2 ⟨n10,n12,eL,d2⟩;refine⟨by omega,fun i σ H'=>∃(qs:List Addr) (rs:List P2) (o3:Option V),σ=[some (.ref p),some (.int way),some (.ref L),o3,none] /\ H' L=some (.lst (qs.map V.ref)) /\ R2At H' qs rs /\ (∀i r,rs[i]? =some r ->DzOk way i r) /\ rs.length=i /\ DX c (b+2+i) p H H',⟨[],[],_,rfl,eL,⟨rfl,fun i q z a=>by simp at a⟩,fun i r a=>by simp at a,rfl,d2⟩,?_,?_⟩
     ·rintro i σ H3 hi ⟨qs,rs,o3,rfl,eL,r2,dz,rfl,d3⟩;have lq:=r2.1
      have fin:∀(H4:Hp) (t:Addr) (x y:Int),DX c (b+2+(rs.length+1)) p H H4 ->H4 L=some (.lst (qs.map V.ref)) ->R2At H4 qs rs ->H4 t=none ->DzOk way rs.length (x,y) ->
        k7 (ox (upd H4 t (.tup [.int x,.int y]) L)) fun xs=>xs.length<1000000 /\ ∃qs',HO.lst (xs++[.ref t])=HO.lst (qs'.map V.ref) /\ ∃rs',R2At (upd (upd H4 t (.tup [.int x,.int y])) L (.lst (xs++[.ref t]))) qs' rs' /\ (∀i r,rs'[i]? =some r ->DzOk way i r) /\ rs'.length=rs.length+1 /\ DX c (b+2+(rs.length+1)) p H (upd (upd H4 t (.tup [.int x,.int y])) L (.lst (xs++[.ref t]))):=by
       intro H4 t x y d4 e4 r4 ht hz;have e':=iZ (o:= .tup [.int x,.int y]) ht e4
       rw[e',jM,jh];refine⟨by rw[ae];omega,qs++[t],by rw[au];rfl,rs++[(x,y)],R2At.setL ((r4.ext (Ext.upd ht)).append (R2At.one (r:=(x,y)) iQ)) e',fun i r' hi'=> ?_,by rw[al];rfl,(d4.upd ht).set (d1.none hL) hF⟩
       by_cases hlt:i<rs.length
       ·rw[aM hlt] at hi';exact dz i r' hi'
       ·have:i=rs.length:=by
         have:=(ad.mp hi').1
         rw[al] at this;simp only[bC,bQ] at this;omega
        subst this;rw[aH (aI _),fK] at hi';cases hi';exact hz
      have cs:((0:Int)+(rs.length:Int))=(rs.length:Int):=bH _
      have d3':=d3.mono (show b+2+rs.length<=b+2+(rs.length+1) by omega)
      by_cases w0:way=0
      ·subst w0
       o_head ⟨eL⟩
       refine⟨by decide,fun t ht=> ?_⟩;rw[cs,Int.fdiv_eq_ediv_of_nonneg _ (by decide)];exact fin H3 t _ _ d3' eL r2 ht (by unfold DzOk;rw[if_pos rfl])
      ·by_cases w1:way=1
       ·subst w1;obtain⟨x,hx,mx⟩:=atI_get (xs:=dzX) (n:=rs.length) (by show rs.length<12;omega)
        obtain⟨y,hy,my⟩:=atI_get (xs:=dzY) (n:=rs.length) (by show rs.length<12;omega)
        simp only[dzX,aJ,bR] at hx;simp only[dzY,aJ,bR] at hy
        o_head ⟨eL,cs,hx,hy⟩
        refine⟨by decide,fun t1 h1=>⟨by decide,fun t2 h2=>⟨by decide,fun t3 h3=> ?_⟩⟩⟩;have xx:Ext H3 _:=(Ext.upd (o:= .lst [.int 10,.int 9,.int 8,.int 5,.int 2,.int 1,.int 0,.int 1,.int 2,.int 5,.int 8,.int 9]) h1).then (o:= .lst [.int 5,.int 8,.int 9,.int 10,.int 9,.int 8,.int 5,.int 2,.int 1,.int 0,.int 1,.int 2]) h2
        exact fin _ t3 x y (d3'.ext xx) (xx _ _ eL) (r2.ext xx) h3 (by unfold DzOk;rw[if_neg (by decide),if_pos rfl];exact⟨mx,my⟩)
       ·have:way=2∨way=3:=by omega
        rcases this with rfl|rfl
        ·o_head ⟨eL,jx,cs,rI⟩
         refine⟨c,_,d3.feed,by omega,fun r H4 a1 a2 d4=>⟨by decide,fun t1 h1=>⟨by decide,fun t2 h2=> ?_⟩⟩⟩;have xx:=Ext.upd (o:= .lst [.int 4,.int r]) h1
         exact fin _ t2 _ _ (((d3.trans d4).ext xx).mono (by omega)) (xx _ _ (d4.keep _ _ nLp eL)) ((r2.dx d3.feed d4).ext xx) h2 (by unfold DzOk;rw[if_neg (by decide),if_neg (by decide)];exact⟨rfl,show(0:Int)<=4 by decide,show(4:Int)<=10 by decide⟩)
        ·o_head ⟨eL,jx,cs,rI⟩
         refine⟨c,_,d3.feed,by omega,fun r H4 a1 a2 d4=>⟨by decide,fun t1 h1=>⟨by decide,fun t2 h2=> ?_⟩⟩⟩;have xx:=Ext.upd (o:= .lst [.int 4,.int r]) h1
         exact fin _ t2 _ _ (((d3.trans d4).ext xx).mono (by omega)) (xx _ _ (d4.keep _ _ nLp eL)) ((r2.dx d3.feed d4).ext xx) h2 (by unfold DzOk;rw[if_neg (by decide),if_neg (by decide)];exact⟨rfl,a1,by dsimp only;omega⟩)
     ·rintro σ H3 ⟨qs,rs,o3,rfl,eL,r2,dz,rfl,d3⟩;exact⟨qs,rs,o3,rfl,eL,r2,dz,n10,n12,d3.mono (by omega)⟩
   ·rintro σ H2 ⟨qs,rs,o3,rfl,eL,r2,dz,l10,l12,d2⟩;have lq:(qs.map V.ref).length=rs.length:=by rw[ae,r2.1]
    o_head ⟨eL,lq,jx,rI⟩
    refine⟨c,_,d2.feed,by omega,by omega,by omega,fun r H3 a1 a2 d3=> ?_⟩;obtain⟨k,rfl⟩:=fX a1
    have eL3:=d3.keep _ _ nLp eL
    rw[eL3,jM,jh,qc];intro t1 h1;rw[iZ h1 eL3,jM,jh,mE];intro t2 h2;rw[iZ h2 iQ,jM,jh];refine⟨by rw[aV,aC,ae,r2.1];omega,fun t3 h3=> ?_⟩;have dd:=((((d2.trans d3).upd (o:= .lst ((qs.map V.ref).drop k)) h1).upd (o:= .lst ((qs.map V.ref).take k)) h2)).upd (o:= .lst ((qs.map V.ref).drop k++(qs.map V.ref).take k)) h3
    have xx:=((Ext.upd (o:= .lst ((qs.map V.ref).drop k)) h1).then (o:= .lst ((qs.map V.ref).take k)) h2).then (o:= .lst ((qs.map V.ref).drop k++(qs.map V.ref).take k)) h3
    have r3:=(r2.dx d2.feed d3).ext xx
    have h3':=(d2.trans d3).none (((Ext.upd (o:= .lst ((qs.map V.ref).drop k)) h1).then (o:= .lst ((qs.map V.ref).take k)) h2).none h3)
    refine h t3 (qs.drop k++qs.take k) (rs.drop k++rs.take k) _ (dd.mono (by omega)) h3' (by rw[iQ,au,fT,cM]) ((r3.drop k).append (r3.take k)) (vq (rH dz fun i j r hi hj=>DzOk.inj (by omega) (by omega)) k) ?_ ?_ ?_
    ·rw[al,aV,aC];omega
    ·rw[al,aV,aC];omega
    ·intro r hr';have hm:r∈rs:=by
      rcases aR.mp hr' with q|q
      ·exact List.mem_of_mem_drop q
      ·exact cV q
     obtain⟨i,hi⟩:=aX hm
     exact(dz i r hi).bd (by have:=(ad.mp hi).1;omega)
theorem sc__law_spots:FnScope ["_law_feed_here","_law_least","_law_most","_law_style","_law_found","_law_k","_law_kind","_law_spot_here"] ["_law_feed_here","_law_least","_law_most"] (iR s__law_spots):=⟨rfl,rfl,rfl,by decide+kernel,rfl,by decide+kernel,by decide+kernel⟩
theorem ok__law_spots{C:Cz}{f:Addr}{fd:FuncData}(F:Fun K "_law_spots" "_law_spots" s__law_spots f fd)(T:Txt P K mg C)(F__law_draw:FnB P w K mg base (CXE P w) 1 "_law_draw" ["_law_feed_here","_law_many"] jx)(F__law_spot:FnB P w K mg base (CXE P w) 2 "_law_spot" ["_law_feed_here","_law_style"] oW)(F__law_dozen:FnB P w K mg base (CXE P w) 2 "_law_dozen" ["_law_feed_here"] nw):FnOk P w K mg base (CXE P w) 3 f fd ["_law_feed_here","_law_least","_law_most"] (nq K):=by
 refine okN F (k:=2) sc__law_spots (fun vs H Q E h=> ?_) (fun cdv A outer s H vs Q E hr h=> ?_)
 ·obtain⟨p,n0,m0,c,b,rfl,_⟩:=h
  rfl
 ·obtain⟨p,n0,m0,c,b,rfl,h⟩:=h
  refine'⟨_,?main,?rest⟩
  case main=>
   refine' jb ?c1 ?c2
   case' c1=>refine' jF ?c3 ?c4 ?c5
   case' c3=>refine' PW.pt ?c6
   case' c6=>refine' oE ?c7 ?c8
   case' c7=>exact i5 (OpR.f0 pF) (pvF 2) iO (je _)
   case' c8=>refine' mM ?c9
   case' c9=>refine' i5 j3 ?c10 iO (je _)
   case' c10=>refine' ja F__law_draw (hr.mono (by decide)) rfl iX ?c11
   case' c11=>refine' iN (pvF 0) ?c12
   case' c12=>exact iN iO iP
   case' c4=>refine' iS ?c13
   case' c13=>refine' i9 ?c14
   case' c14=>refine' ja F__law_dozen (hr.mono (by decide)) rfl iX ?c15
   case' c15=>exact iN (pvF 0) iP
   case c5=>exact jj
   case' c2=>refine' iU ?c16 ?c17
   case' c16=>refine' jg (i:=3) sc__law_spots.nd rfl (aL rfl) ?c18
   case' c18=>refine' ja F__law_draw (hr.mono (by decide)) rfl iX ?c19
   case' c19=>refine' iN (pvF 0) ?c20
   case' c20=>exact iN iO iP
   case' c17=>refine' iU ?c21 ?c22
   case' c21=>refine' jg (i:=4) sc__law_spots.nd rfl (aL rfl) ?c23
   case' c23=>exact jP iP
   case' c22=>refine' jb ?c24 ?c25
   case' c24=>refine' kD ?c26 ?c27 ?c28 ?c29 ?c30
   case c26=>exact PassesOwn.never
   case c27=>exact rfl
   case' c28=>refine' jK rfl T.b_range ?c31
   case' c31=>refine' iN ?c32 ?c33
   case' c32=>refine' iW (OpR.f0 jA) (pvF 1) ?c34
   case' c34=>refine' ja F__law_draw (hr.mono (by decide)) rfl iX ?c35
   case' c35=>refine' iN (pvF 0) ?c36
   case' c36=>refine' iN ?c37 iP
   case' c37=>exact iW (OpR.f0 jA) (iW (OpR.f0 jw) (pvF 2) (pvF 1)) iO
   case c33=>exact iP
   case c29=>exact(iV (i:=5) sc__law_spots.nd rfl (aL rfl))
   case' c30=>refine' iU (jg (i:=6) sc__law_spots.nd rfl (aL rfl) (pvF 3)) ?c38
   case' c38=>refine' jb ?c39 ?c40
   case' c39=>refine' jF ?c41 ?c42 ?c43
   case' c41=>exact i5 j3 (pvF 3) iO (je _)
   case' c42=>refine' iS ?c44
   case' c44=>refine' jg (i:=6) sc__law_spots.nd rfl (aL rfl) ?c45
   case' c45=>refine' ja F__law_draw (hr.mono (by decide)) rfl iX ?c46
   case' c46=>refine' iN (pvF 0) ?c47
   case' c47=>exact iN iO iP
   case c43=>exact jj
   case' c40=>refine' iU ?c48 ?c49
   case' c48=>refine' jg (i:=7) sc__law_spots.nd rfl (aL rfl) ?c50
   case' c50=>refine' ja F__law_spot (hr.mono (by decide)) rfl iX ?c51
   case' c51=>refine' iN (pvF 0) ?c52
   case' c52=>exact iN (pvF 6) iP
   case' c49=>refine' iS ?c53
   case' c53=>refine' jF (i5 (t8 (K:=K) rfl (Bf hr)) (pvF 7) (pvF 4) (by with_unfolding_all rfl)) ?c54 jj
   case' c54=>refine' iS ?c55
   case' c55=>refine' jJ ?c56
   case' c56=>refine' pe_app (pvF 4) ?c57
   case' c57=>exact iN (pvF 7) iP
   case' c25=>refine' iU ?c58 ?c59
   case' c58=>refine' sK ?c60 ?c61 ?c62
   case c60=>exact PassesOwn.never
   case' c61=>refine' i5 (OpR.f0 ni) ?c63 (pvF 1) (je _)
   case' c63=>refine' jf jy (by rfl) T.b_len bS ?c64
   case' c64=>exact iN (pvF 4) iP
   case' c62=>refine' iS ?c65
   case' c65=>refine' jJ ?c66
   case' c66=>refine' pe_app ?c67 ?c68
   case c67=>exact(pvF 4)
   case' c68=>refine' iN ?c69 ?c70
   case' c69=>refine' jc ?c71
   case' c71=>refine' iN ?c72 ?c73
   case' c72=>refine' iW ?c74 ?c75 ?c76
   case c74=>exact(OpR.f0 jA)
   case c75=>exact iO
   case' c76=>refine' jf ?c77 ?c78 ?c79 ?c80 ?c81
   case c77=>exact(kj (K:=K) rfl rfl)
   case c78=>exact(by rfl)
   case c79=>exact T.b_max
   case c80=>exact boot_max
   case' c81=>refine' iN ?c82 ?c83
   case' c82=>refine' mQ (CScope.of_ok (dsc:=iR s__law_spots) (N0:=["_law_feed_here","_law_least","_law_most","_law_style","_law_found","_law_k","_law_kind","_law_spot_here"]) (N:=["_law_x","_law_y"]) (k:=2) (js:=[]) rfl rfl (by decide+kernel)) rfl (jD (K:=K) rfl (pvF 4)) ?c84 ?c85 (fun _ _ _ _ _ _=>(pvF 0))
   case' c84=>intro _ _ _ _ _ _;refine' na (n:=2) rfl ?c86
   case' c86=>refine' iT (iV (i:=0) (by show bT (["_law_x","_law_y"]:List Str);decide+kernel) rfl (aL rfl)) ?c87
   case' c87=>exact iT (iV (i:=1) (by show bT (["_law_x","_law_y"]:List Str);decide+kernel) rfl (aL rfl)) jr
   case' c85=>intro _ _ _ _ _ _;exact jH
   case c83=>exact iP
   case' c73=>refine' iN ?c88 iP
   case' c88=>refine' i7 jv ?c89 iO (fun _ _=>rfl)
   case' c89=>exact i7 jv (pvF 4) iO (fun _ _=>rfl)
   case c70=>exact iP
   case' c59=>exact iS (i9 (pvF 4))
  case rest=>
   obtain⟨hF,hb,h1,h6,hnm,hm,h⟩:=h
   walk_at "ST"
   refine⟨fun σ H'=>σ=[some (.ref p),some (.int n0),some (.int m0),none,none,none,none,none] /\ DX c (b+1) p H H',?_,?_⟩
   ·o_head ⟨jx,nw,rI,rI⟩
    split
    ·refine⟨c,_,hF,by omega,fun r H1 a1 a2 d1=> ?_⟩;split
     ·refine⟨c,_,d1.feed,by omega,fun D qs rs H2 d2 hD eD r2 nd l10 l12 bd=> ?_⟩;exact h D qs rs H2 ((d1.trans d2).mono (by omega)) (d1.none hD) eD r2 nd (by omega) l12 fun r hr'=>by have:=bd r hr';omega
     ·exact d1
    ·exact(DX.refl hF).mono (by omega)
   ·rintro σ H1 ⟨rfl,d1⟩
    o_head ⟨jx⟩
    refine⟨c,_,d1.feed,by omega,fun st H2 s1 s2 d2=>⟨by decide,fun L hL=> ?_⟩⟩;have dL:=(d1.trans d2).upd (o:= .lst []) hL
    have hL0:=(d1.trans d2).none hL
    have nLp:=d2.feed.ne hL
    refine⟨fun σ H'=>∃(qs:List Addr) (rs:List P2) (o5 o6 o7:Option V),σ=[some (.ref p),some (.int n0),some (.int m0),some (.int st),some (.ref L),o5,o6,o7] /\ H' L=some (.lst (qs.map V.ref)) /\ R2At H' qs rs /\ rs.Nodup /\ 0<rs.length /\ rs.length<=12 /\ WBd 12 rs /\ DX c (b+50) p H H',?_,?_⟩
    ·refine nH (fun n H'=>n0<=n /\ n<=m0 /\ H' L=some (.lst []) /\ DX c (b+4) p H H') ?_ ?_
     ·intro R hR
      o_head ⟨jx⟩
      refine⟨c,_,dL.feed,by omega,by omega,by omega,fun r H3 a1 a2 d3=> ?_⟩;have:=hR (n0+r.toNat) H3 ⟨by omega,by omega,d3.keep _ _ nLp iQ,(dL.trans d3).mono (by omega)⟩
      rw[show((n0+r.toNat:Nat):Int)=n0+r by omega] at this;exact this
     ·rintro n H3 ⟨n1,n2,eL,d3⟩;refine⟨by omega,fun i σ H'=>∃(qs:List Addr) (rs:List P2) (o5 o6 o7:Option V),σ=[some (.ref p),some (.int n0),some (.int m0),some (.int st),some (.ref L),o5,o6,o7] /\ H' L=some (.lst (qs.map V.ref)) /\ R2At H' qs rs /\ rs.Nodup /\ (0<i ->0<rs.length) /\ rs.length<=i /\ WBd 12 rs /\ DX c (b+4+3*i) p H H',⟨[],[],_,_,_,rfl,eL,⟨rfl,fun i q z a=>by simp at a⟩,gF,fun z=>absurd z (cI _),aI _,fun r hr'=>absurd hr' aD,d3⟩,?_,?_⟩
      ·rintro i σ H4 hi ⟨qs,rs,o5,o6,o7,rfl,eL,r2,nd,z0,li,bd,d4⟩;walk_at "RD"
       refine⟨fun σ H'=>∃kd:Int,σ=[some (.ref p),some (.int n0),some (.int m0),some (.int st),some (.ref L),some (.int (0+(i:Int))),some (.int kd),o7] /\ 0<=kd /\ kd<=5 /\ H' L=some (.lst (qs.map V.ref)) /\ R2At H' qs rs /\ DX c (b+4+3*i+1) p H H',?_,?_⟩
       ·o_head ⟨jx⟩
        split
        ·exact⟨c,_,d4.feed,by omega,fun r H5 a1 a2 d5=>⟨a1,by omega,d5.keep _ _ nLp eL,r2.dx d4.feed d5,d4.trans d5⟩⟩
        ·exact⟨s1,by omega,eL,r2,d4.mono (by omega)⟩
       ·rintro σ H5 ⟨kd,rfl,k0,k5,eL,r2,d5⟩
        o_head ⟨oW⟩
        refine⟨c,_,d5.feed,by omega,k0,k5,fun t x y H6 d6 et hx hy=> ?_⟩;have eL6:=d6.keep _ _ nLp eL
        have r6:=r2.dx d5.feed d6
        refine⟨t2d (x,y),rs.map t2d,oB et,.lst (SqL.of eL6) (sH r6),nP _,nQ _,fun y' hy'=> ?_,?_⟩
        ·obtain⟨z,_,rfl⟩:=ay.mp hy'
         exact mj _ _
        ·rw[AH];dsimp only;have d56:=d5.trans d6
         by_cases hm':(x,y)∈rs
         ·rw[decide_eq_true hm',if_neg (by simp)];exact⟨⟨_,rfl⟩,qs,eL6,rs,r6,nd,fun _=>gi hm',by omega,bd,d56.mono (by omega)⟩
         ·rw[decide_eq_false hm',if_pos (by simp),eL6,jM,jh];refine⟨rfl,by rw[ae,r6.1];omega,⟨_,rfl⟩,qs++[t],by rw[au];rfl,rs++[(x,y)],(r6.append (R2At.one et)).setL eL6,nodup_snoc nd hm',fun _=>by rw[al];exact Nat.succ_pos _,?_,bd.snoc ⟨hx,hy⟩,(d56.mono (by omega)).set hL0 hF⟩;rw[al];show _+1<=_
          omega
      ·rintro σ H4 ⟨qs,rs,o5,o6,o7,rfl,eL,r2,nd,z0,li,bd,d4⟩;exact⟨qs,rs,o5,o6,o7,rfl,eL,r2,nd,z0 (by omega),by omega,bd,d4.mono (by omega)⟩
    ·rintro σ H3 ⟨qs,rs,o5,o6,o7,rfl,eL,r2,nd,z0,li,bd,d3⟩;walk_at "RD"
     refine⟨fun m σ H'=>∃(qs:List Addr) (rs:List P2),σ=[some (.ref p),some (.int n0),some (.int m0),some (.int st),some (.ref L),o5,o6,o7] /\ H' L=some (.lst (qs.map V.ref)) /\ R2At H' qs rs /\ rs.Nodup /\ 0<rs.length /\ rs.length<=12 /\ WBd (12+rs.length) rs /\ DX c (b+50) p H H' /\ m=12-rs.length,⟨_,qs,rs,rfl,eL,r2,nd,z0,li,bd.mono (by omega),d3,rfl⟩,?_⟩;rintro m σ H4 ⟨qs,rs,rfl,eL,r2,nd,z0,li,bd,d4,rfl⟩;have lq:(qs.map V.ref).length=rs.length:=by rw[ae,r2.1]
     o_head ⟨eL,lq,rI,rI⟩
     by_cases hlt:(rs.length:Int)<n0
     ·rw[if_pos hlt];refine⟨fun σ' H'=>∃(qs':List Addr) (rs':List P2),σ'=[some (.ref p),some (.int n0),some (.int m0),some (.int st),some (.ref L),o5,o6,o7] /\ H' L=some (.lst (qs'.map V.ref)) /\ R2At H' qs' rs' /\ rs'.Nodup /\ 0<rs'.length /\ rs'.length<=12 /\ WBd (12+rs'.length) rs' /\ DX c (b+50) p H H' /\ rs'.length=rs.length+1,?_,?_⟩
      ·rintro σ' H' ⟨qs',rs',rfl,g1,g2,g3,g4,g5,g6,g7,g8⟩;exact⟨12-rs'.length,by omega,rfl,qs',g1,rs',g2,g3,g4,g5,g6,g7,rfl⟩
      ·refine j8 (K:=K) (a:=L) (xs:=qs.map V.ref) (fun R h=>by walk_at "RD";exact h) (SqL.of eL) (by omega) (fun D i ys H'=>ys=((rs.take i).map (·.1)).map V.int /\ H' D=some (.lst ys) /\ Ext H4 H') ?_ ?_ ?_ ?_
       ·intro D hD;exact⟨rfl,iQ,.upd hD⟩
       ·rintro D i ys H5 _ ⟨rfl,e5,x5⟩;refine⟨e5,?_,SqL.of (x5 _ _ eL)⟩;rw[ae,ae,aC];omega
       ·rintro D i w1 ys H5 hD hi ⟨rfl,e5,x5⟩;obtain⟨q,hq,rfl⟩:=jG hi
        obtain⟨r,hr1,hr2⟩:=r2.at hq
        o_head ⟨kx,kA,om,x5 _ _ hr2⟩
        refine⟨e5,?_,x5.set hD⟩;rw[bD,hr1,au,au];rfl
       ·rintro D ys H5 hD ⟨rfl,e5,x5⟩;rw[lq,aW] at e5;refine⟨D,rs.map (·.1),rfl,SqL.of e5,by rw[ae];exact z0,fun M hM hmax=> ?_⟩;obtain⟨r0,hr0⟩:∃r,rs[0]? =some r:=⟨_,aa z0⟩
        obtain⟨q0,hq0⟩:∃q,qs[0]? =some q:=⟨_,aa (by rw[r2.1];exact z0)⟩
        have e0:=x5 _ _ (r2.2 0 q0 r0 hq0 hr0)
        have a0:atI (qs.map V.ref) 0=some (.ref q0):=jz (j:=0) (by rw[ax,hq0];rfl)
        o_head ⟨x5 _ _ eL,a0,e0,rI⟩
        refine⟨by decide,fun t ht=> ?_⟩;have e6:=iZ (o:= .tup [.int (1+M),.int r0.2]) ht (x5 _ _ eL)
        rw[e6,jM,jh];have nin:(1+M,r0.2)∉rs:=fun z=>by
         have:=hmax (1+M) (ay.mpr ⟨_,z,rfl⟩)
         omega
        obtain⟨rM,hrM,eM⟩:=ay.mp hM
        have bM:=bd rM hrM
        have b0:=bd r0 (ah hr0)
        have ll:(rs++[(1+M,r0.2)]).length=rs.length+1:=by rw[al];rfl
        have W:WBd (12+((rs++[(1+M,r0.2)]).length:Int)) (rs++[(1+M,r0.2)]):=by
         rw[ll];exact(bd.mono (by omega)).snoc ⟨by dsimp only;omega,by dsimp only;omega⟩
        refine⟨by rw[ae,r2.1];omega,qs++[t],by rw[au];rfl,rs++[(1+M,r0.2)],((((r2.ext x5).ext (Ext.upd ht)).append (R2At.one (r:=(1+M,r0.2)) iQ)).setL e6),nodup_snoc nd nin,by omega,by omega,W,((d4.ext x5).upd ht).set hL0 hF,ll⟩
     ·rw[if_neg hlt];exact h L qs rs H4 (d4.mono (by omega)) hL0 eL r2 nd (by omega) li (bd.mono (by omega))
theorem sc__law_world:FnScope ["_law_feed_here","_law_least","_law_most","_law_small","_law_times","_law_right","_law_up","_law_edge","_law_xs","_law_ys","_law_wide","_law_high","_law_box"] ["_law_feed_here","_law_least","_law_most"] (iR s__law_world):=⟨rfl,rfl,rfl,by decide+kernel,rfl,by decide+kernel,by decide+kernel⟩
theorem ok__law_world{C:Cz}{f:Addr}{fd:FuncData}(F:Fun K "_law_world" "_law_world" s__law_world f fd)(T:Txt P K mg C)(F__law_draw:FnB P w K mg base (CXE P w) 1 "_law_draw" ["_law_feed_here","_law_many"] jx)(F__law_scale:FnB P w K mg base (CXE P w) 3 "_law_scale" ["_law_feed_here"] nr)(F__law_spots:FnB P w K mg base (CXE P w) 3 "_law_spots" ["_law_feed_here","_law_least","_law_most"] (nq K)):FnOk P w K mg base (CXE P w) 4 f fd ["_law_feed_here","_law_least","_law_most"] (nl K):=by
 refine okN F (k:=3) sc__law_world (fun vs H Q E h=> ?_) (fun cdv A outer s H vs Q E hr h=> ?_)
 ·obtain⟨p,n0,m0,c,b,rfl,_⟩:=h
  rfl
 ·obtain⟨p,n0,m0,c,b,rfl,h⟩:=h
  refine'⟨_,?main,?rest⟩
  case main=>
   refine' iU ?c1 ?c2
   case' c1=>refine' jg (i:=3) sc__law_world.nd rfl (aL rfl) ?c3
   case' c3=>refine' ja F__law_spots (hr.mono (by decide)) rfl iX ?c4
   case' c4=>refine' iN (pvF 0) ?c5
   case' c5=>refine' iN (pvF 1) ?c6
   case' c6=>exact iN (pvF 2) iP
   case' c2=>refine' jb ?c7 ?c8
   case' c7=>refine' kE ?c9 ?c10
   case' c9=>refine' ja F__law_scale (hr.mono (by decide)) rfl iX ?c11
   case' c11=>exact iN (pvF 0) iP
   case' c10=>refine' na (n:=3) rfl ?c12
   case' c12=>refine' iT (iV (i:=4) sc__law_world.nd rfl (fk rfl)) ?c13
   case' c13=>refine' iT (iV (i:=5) sc__law_world.nd rfl (fk rfl)) ?c14
   case' c14=>exact iT (iV (i:=6) sc__law_world.nd rfl (fk rfl)) jr
   case' c8=>refine' jb ?c15 ?c16
   case' c15=>refine' qB (i:=7) ?c17 ?c18 ?c19 ?c20 ?c21 ?c22 ?c23 ?c24 ?c25
   case c17=>exact(CScope.of_ok (dsc:=iR s__law_world) (N0:=["_law_feed_here","_law_least","_law_most","_law_small","_law_times","_law_right","_law_up","_law_edge","_law_xs","_law_ys","_law_wide","_law_high","_law_box"]) (N:=["_law_k","_law_feed_here"]) (k:=1) (js:=[0]) rfl rfl (by decide+kernel))
   case c18=>exact rfl
   case' c19=>refine' jK rfl T.b_range ?c26
   case' c26=>exact iN iO iP
   case' c20=>intro _ _ _ _ _ _;exact(iV (i:=0) (by show bT (["_law_k","_law_feed_here"]:List Str);decide+kernel) rfl (aL rfl))
   case' c21=>intro _ _ _ _ _ _;exact jH
   case' c22=>intro _ _ _ _ _ _;refine' i7 ?c27 ?c28 ?c29 ?c30
   case c27=>exact jv
   case' c28=>refine' jP ?c31
   case' c31=>refine' iN iO ?c32
   case' c32=>refine' iN iO ?c33
   case' c33=>refine' iN iO ?c34
   case' c34=>exact iN iO iP
   case' c29=>refine' ja F__law_draw (hr.mono (by decide)) rfl iX ?c35
   case' c35=>refine' iN (pvF 1) ?c36
   case' c36=>exact iN iO iP
   case c30=>exact(fun _ _=>rfl)
   case c23=>exact sc__law_world.nd
   case c24=>exact rfl
   case c25=>exact rfl
   case' c16=>refine' jb ?c37 ?c38
   case' c37=>refine' qB (i:=8) ?c39 ?c40 ?c41 ?c42 ?c43 ?c44 ?c45 ?c46 ?c47
   case c39=>exact(CScope.of_ok (dsc:=iR s__law_world) (N0:=["_law_feed_here","_law_least","_law_most","_law_small","_law_times","_law_right","_law_up","_law_edge","_law_xs","_law_ys","_law_wide","_law_high","_law_box"]) (N:=["_law_x","_law_y"]) (k:=2) (js:=[]) rfl rfl (by decide+kernel))
   case c40=>exact rfl
   case c41=>exact(jD (K:=K) rfl (pvF 3))
   case' c42=>intro _ _ _ _ _ _;refine' na (n:=2) rfl ?c48
   case' c48=>refine' iT (iV (i:=0) (by show bT (["_law_x","_law_y"]:List Str);decide+kernel) rfl (aL rfl)) ?c49
   case' c49=>exact iT (iV (i:=1) (by show bT (["_law_x","_law_y"]:List Str);decide+kernel) rfl (aL rfl)) jr
   case' c43=>intro _ _ _ _ _ _;exact jH
   case c44=>exact(fun _ _ _ _ _ _=>(pvF 0))
   case c45=>exact sc__law_world.nd
   case c46=>exact rfl
   case c47=>exact rfl
   case' c38=>refine' jb ?c50 ?c51
   case' c50=>refine' qB (i:=9) ?c52 ?c53 ?c54 ?c55 ?c56 ?c57 ?c58 ?c59 ?c60
   case c52=>exact(CScope.of_ok (dsc:=iR s__law_world) (N0:=["_law_feed_here","_law_least","_law_most","_law_small","_law_times","_law_right","_law_up","_law_edge","_law_xs","_law_ys","_law_wide","_law_high","_law_box"]) (N:=["_law_x","_law_y"]) (k:=2) (js:=[]) rfl rfl (by decide+kernel))
   case c53=>exact rfl
   case c54=>exact(jD (K:=K) rfl (pvF 3))
   case' c55=>intro _ _ _ _ _ _;refine' na (n:=2) rfl ?c61
   case' c61=>refine' iT (iV (i:=0) (by show bT (["_law_x","_law_y"]:List Str);decide+kernel) rfl (aL rfl)) ?c62
   case' c62=>exact iT (iV (i:=1) (by show bT (["_law_x","_law_y"]:List Str);decide+kernel) rfl (aL rfl)) jr
   case' c56=>intro _ _ _ _ _ _;exact jH
   case c57=>exact(fun _ _ _ _ _ _=>(pvF 1))
   case c58=>exact sc__law_world.nd
   case c59=>exact rfl
   case c60=>exact rfl
   case' c51=>refine' jb ?c63 ?c64
   case' c63=>refine' jg (i:=10) ?c65 ?c66 ?c67 ?c68
   case c65=>exact sc__law_world.nd
   case c66=>exact rfl
   case c67=>exact(aL rfl)
   case' c68=>refine' iW ?c69 ?c70 ?c71
   case c69=>exact(OpR.f0 jA)
   case' c70=>refine' iW (OpR.f0 jA) ?c72 ?c73
   case' c72=>refine' jf (kj (K:=K) rfl rfl) (by rfl) T.b_max boot_max ?c74
   case' c74=>exact iN (pvF 8) iP
   case' c73=>exact i7 jv (pvF 7) iO (fun _ _=>rfl)
   case' c71=>refine' j2 ?c75 ?c76 ?c77 ?c78 ?c79
   case c75=>exact qZ
   case c76=>exact(by rfl)
   case c77=>exact T.b_int
   case c78=>exact boot_int
   case' c79=>refine' iN ?c80 ?c81
   case' c80=>refine' lx ?c82 ?c83 ?c84 ?c85
   case c82=>exact j3
   case' c83=>refine' iW (OpR.f0 jA) ?c86 ?c87
   case' c86=>refine' jf (kj (K:=K) rfl rfl) (by rfl) T.b_max boot_max ?c88
   case' c88=>exact iN (pvF 8) iP
   case' c87=>exact i7 jv (pvF 7) iO (fun _ _=>rfl)
   case' c84=>refine' iW (OpR.f0 jw) ?c89 ?c90
   case' c89=>refine' jf (kM (K:=K) rfl rfl) (by rfl) T.b_min boot_min ?c91
   case' c91=>exact iN (pvF 8) iP
   case' c90=>exact i7 jv (pvF 7) iO (fun _ _=>rfl)
   case c85=>exact(je _)
   case c81=>exact iP
   case' c64=>refine' jb ?c92 ?c93
   case' c92=>refine' jg (i:=11) ?c94 ?c95 ?c96 ?c97
   case c94=>exact sc__law_world.nd
   case c95=>exact rfl
   case c96=>exact(aL rfl)
   case' c97=>refine' iW ?c98 ?c99 ?c100
   case c98=>exact(OpR.f0 jA)
   case' c99=>refine' iW (OpR.f0 jA) ?c101 ?c102
   case' c101=>refine' jf (kj (K:=K) rfl rfl) (by rfl) T.b_max boot_max ?c103
   case' c103=>exact iN (pvF 9) iP
   case' c102=>exact i7 jv (pvF 7) iO (fun _ _=>rfl)
   case' c100=>refine' j2 ?c104 ?c105 ?c106 ?c107 ?c108
   case c104=>exact qZ
   case c105=>exact(by rfl)
   case c106=>exact T.b_int
   case c107=>exact boot_int
   case' c108=>refine' iN ?c109 ?c110
   case' c109=>refine' lx ?c111 ?c112 ?c113 ?c114
   case c111=>exact j3
   case' c112=>refine' iW (OpR.f0 jA) ?c115 ?c116
   case' c115=>refine' jf (kj (K:=K) rfl rfl) (by rfl) T.b_max boot_max ?c117
   case' c117=>exact iN (pvF 9) iP
   case' c116=>exact i7 jv (pvF 7) iO (fun _ _=>rfl)
   case' c113=>refine' iW (OpR.f0 jw) ?c118 ?c119
   case' c118=>refine' jf (kM (K:=K) rfl rfl) (by rfl) T.b_min boot_min ?c120
   case' c120=>exact iN (pvF 9) iP
   case' c119=>exact i7 jv (pvF 7) iO (fun _ _=>rfl)
   case c114=>exact(je _)
   case c110=>exact iP
   case' c93=>refine' jb ?c121 ?c122
   case' c121=>refine' jg (i:=12) ?c123 ?c124 ?c125 ?c126
   case c123=>exact sc__law_world.nd
   case c124=>exact rfl
   case c125=>exact(aL rfl)
   case' c126=>refine' jc ?c127
   case' c127=>refine' iN ?c128 ?c129
   case' c128=>refine' iW (OpR.f0 jA) ?c130 (pvF 5)
   case' c130=>refine' iW (OpR.f iY) ?c131 (pvF 4)
   case' c131=>refine' iW (OpR.f0 jw) ?c132 ?c133
   case' c132=>refine' jf (kM (K:=K) rfl rfl) (by rfl) T.b_min boot_min ?c134
   case' c134=>exact iN (pvF 8) iP
   case' c133=>exact i7 jv (pvF 7) iO (fun _ _=>rfl)
   case' c129=>refine' iN ?c135 ?c136
   case' c135=>refine' iW (OpR.f0 jA) ?c137 (pvF 6)
   case' c137=>refine' iW (OpR.f iY) ?c138 (pvF 4)
   case' c138=>refine' iW (OpR.f0 jw) ?c139 ?c140
   case' c139=>refine' jf (kM (K:=K) rfl rfl) (by rfl) T.b_min boot_min ?c141
   case' c141=>exact iN (pvF 9) iP
   case' c140=>exact i7 jv (pvF 7) iO (fun _ _=>rfl)
   case' c136=>refine' iN ?c142 ?c143
   case' c142=>exact iW (OpR.f0 jA) (iW (OpR.f iY) (pvF 10) (pvF 4)) (pvF 5)
   case' c143=>refine' iN ?c144 iP
   case' c144=>exact iW (OpR.f0 jA) (iW (OpR.f iY) (pvF 11) (pvF 4)) (pvF 6)
   case' c122=>refine' iS ?c145
   case' c145=>refine' i9 ?c146
   case' c146=>refine' jc ?c147
   case' c147=>refine' iN ?c148 ?c149
   case c148=>exact(pvF 12)
   case' c149=>refine' iN ?c150 ?c151
   case' c150=>refine' mQ (CScope.of_ok (dsc:=iR s__law_world) (N0:=["_law_feed_here","_law_least","_law_most","_law_small","_law_times","_law_right","_law_up","_law_edge","_law_xs","_law_ys","_law_wide","_law_high","_law_box"]) (N:=["_law_x","_law_y","_law_right","_law_up","_law_times"]) (k:=2) (js:=[5,6,4]) rfl rfl (by decide+kernel)) rfl (jD (K:=K) rfl (pvF 3)) ?c152 ?c153 ?c154
   case' c152=>intro _ _ _ _ _ _;refine' na (n:=2) rfl ?c155
   case' c155=>refine' iT (iV (i:=0) (by show bT (["_law_x","_law_y","_law_right","_law_up","_law_times"]:List Str);decide+kernel) rfl (aL rfl)) ?c156
   case' c156=>exact iT (iV (i:=1) (by show bT (["_law_x","_law_y","_law_right","_law_up","_law_times"]:List Str);decide+kernel) rfl (aL rfl)) jr
   case' c153=>intro _ _ _ _ _ _;exact jH
   case' c154=>intro _ _ _ _ _ _;refine' jc ?c157
   case' c157=>refine' iN ?c158 ?c159
   case' c158=>exact iW (OpR.f0 jA) (iW (OpR.f iY) (pvF 0) (pvF 4)) (pvF 2)
   case' c159=>refine' iN ?c160 iP
   case' c160=>exact iW (OpR.f0 jA) (iW (OpR.f iY) (pvF 1) (pvF 4)) (pvF 3)
   case c151=>exact iP
  case rest=>
   obtain⟨hF,hb,h1,h6,hnm,hm,h⟩:=h
   walk_at "ST"
   o_head ⟨nq⟩
   refine⟨n0,rfl,m0,rfl,c,b,hF,by omega,h1,h6,hnm,hm,fun L qs rs H1 d1 hL eL r2 nd l0 l12 bd=> ?_⟩;have lq:(qs.map V.ref).length=rs.length:=by rw[ae,r2.1]
   have nLp:=d1.feed.lst eL
   refine⟨fun σ H'=>∃m r u:Int,σ=[some (.ref p),some (.int n0),some (.int m0),some (.ref L),some (.int m),some (.int r),some (.int u),none,none,none,none,none,none] /\ H' L=some (.lst (qs.map V.ref)) /\ R2At H' qs rs /\ (1<=m /\ m<=10^20) /\ (-(10^25)<=r /\ r<=10^25) /\ (-(10^25)<=u /\ u<=10^25) /\ DX c (b+85) p H H',?_,?_⟩
   ·o_head ⟨nr⟩
    refine⟨c,_,d1.feed,by omega,fun t m r u H2 d2 et hm' hr' hu=> ?_⟩
    o_head ⟨kx,kA,om,et⟩
    exact⟨d2.keep _ _ nLp eL,r2.dx d1.feed d2,hm'.1,hm'.2,hr'.1,hr'.2,hu.1,hu.2,(d1.trans d2).mono (by omega)⟩
   ·rintro σ H2 ⟨m,r,u,rfl,eL,r2,⟨m1,m2⟩,hr',hu,d2⟩;refine⟨fun σ H'=>∃(E:Addr) (e0 e1 e2 e3:Int),σ=[some (.ref p),some (.int n0),some (.int m0),some (.ref L),some (.int m),some (.int r),some (.int u),some (.ref E),none,none,none,none,none] /\ H' E=some (.lst [.int e0,.int e1,.int e2,.int e3]) /\ ((0<=e0 /\ e0<=7) /\ (0<=e1 /\ e1<=7) /\ (0<=e2 /\ e2<=7) /\ (0<=e3 /\ e3<=7)) /\ H' L=some (.lst (qs.map V.ref)) /\ R2At H' qs rs /\ DX c (b+90) p H H',?_,?_⟩
    ·walk_at "RD"
     refine kH 4 (fun R h=>h) (by decide) (fun D i ys H'=>H' D=some (.lst ys) /\ ys.length=i /\ D≠p /\ (∀v∈ys,∃e:Int,v= .int e /\ 0<=e /\ e<=7) /\ DX c (b+85+i) p H2 H') ?_ ?_ ?_ ?_
     ·intro D hD;exact⟨iQ,rfl,d2.feed.ne hD,fun v hv=>absurd hv aD,(DX.refl d2.feed).upd hD⟩
     ·rintro D i ys H3 _ ⟨e3,l3,_⟩;exact⟨e3,by omega⟩
     ·rintro D i ys H3 hD hi ⟨e3,l3,nD,hv,d3⟩
      o_head ⟨jx⟩
      refine⟨by decide,fun t ht=>⟨c,_,d3.feed.upd ht,by omega,fun k H4 a1 a2 d4=> ?_⟩⟩;have et:=d4.keep t _ (d3.feed.ne ht) iQ
      have eD:=d4.keep D _ nD (iZ ht e3)
      obtain⟨x,hx,hp1,hp2⟩:=xp (a:=0) (b:=1) (c:=0) (d:=7) (fun x=>0<=x /\ x<=7) (by decide) (by decide) (by decide) (by decide) a1 a2
      o_head ⟨et,hx,rI,rI⟩
      refine⟨eD,by rw[al,l3];rfl,nD,fun v hv'=> ?_,(((d3.upd ht).trans d4).mono (by omega)).set hD d2.feed⟩;rcases aR.mp hv' with q|q
      ·exact hv v q
      ·exact⟨x,by simpa using q,hp1,hp2⟩
     ·rintro D ys H3 hD ⟨e3,l3,nD,hv,d3⟩;obtain⟨e0,e1,e2,e3',rfl,f0,f1,f2,f3⟩:=vJ l3 hv
      walk_at "RD"
      exact⟨e0,e1,e2,e3',e3,f0.1,f0.2,f1.1,f1.2,f2.1,f2.2,f3.1,f3.2,d3.keep _ _ (d2.feed.lst eL) eL,r2.dx d2.feed d3,(d2.trans d3).mono (by omega)⟩
    ·rintro σ H3 ⟨E,e0,e1,e2,e3,rfl,eE,⟨f0,f1,f2,f3⟩,eL,r2,d3⟩;refine⟨fun σ H'=>∃X:Addr,σ=[some (.ref p),some (.int n0),some (.int m0),some (.ref L),some (.int m),some (.int r),some (.int u),some (.ref E),some (.ref X),none,none,none,none] /\ H' X=some (.lst ((rs.map (·.1)).map V.int)) /\ Ext H3 H',?_,?_⟩
     ·walk_at "RD"
      refine j8 (K:=K) (a:=L) (xs:=qs.map V.ref) (fun R h=>by walk_at "RD";exact h) (SqL.of eL) (by rw[lq];omega) (fun D i ys H'=>ys=((rs.take i).map (·.1)).map V.int /\ H' D=some (.lst ys) /\ Ext H3 H') ?_ ?_ ?_ ?_
      ·intro D hD;exact⟨rfl,iQ,.upd hD⟩
      ·rintro D i ys H5 _ ⟨rfl,e5,x5⟩;refine⟨e5,?_,SqL.of (x5 _ _ eL)⟩;rw[ae,ae,aC];omega
      ·rintro D i w1 ys H5 hD hi ⟨rfl,e5,x5⟩;obtain⟨q,hq,rfl⟩:=jG hi
       obtain⟨z,hr1,hr2⟩:=r2.at hq
       o_head ⟨kx,kA,om,x5 _ _ hr2⟩
       refine⟨e5,?_,x5.set hD⟩;rw[bD,hr1,au,au];rfl
      ·rintro D ys H5 hD ⟨rfl,e5,x5⟩;rw[lq,aW] at e5;walk_at "RD"
       exact⟨e5,x5⟩
     ·rintro σ H4 ⟨X,rfl,eX,x4⟩;replace eL:=x4 _ _ eL
      replace r2:=r2.ext x4
      refine⟨fun σ H'=>∃Y:Addr,σ=[some (.ref p),some (.int n0),some (.int m0),some (.ref L),some (.int m),some (.int r),some (.int u),some (.ref E),some (.ref X),some (.ref Y),none,none,none] /\ H' Y=some (.lst ((rs.map (·.2)).map V.int)) /\ Ext H4 H',?_,?_⟩
      ·walk_at "RD"
       refine j8 (K:=K) (a:=L) (xs:=qs.map V.ref) (fun R h=>by walk_at "RD";exact h) (SqL.of eL) (by rw[lq];omega) (fun D i ys H'=>ys=((rs.take i).map (·.2)).map V.int /\ H' D=some (.lst ys) /\ Ext H4 H') ?_ ?_ ?_ ?_
       ·intro D hD;exact⟨rfl,iQ,.upd hD⟩
       ·rintro D i ys H5 _ ⟨rfl,e5,x5⟩;refine⟨e5,?_,SqL.of (x5 _ _ eL)⟩;rw[ae,ae,aC];omega
       ·rintro D i w1 ys H5 hD hi ⟨rfl,e5,x5⟩;obtain⟨q,hq,rfl⟩:=jG hi
        obtain⟨z,hr1,hr2⟩:=r2.at hq
        o_head ⟨kx,kA,om,x5 _ _ hr2⟩
        refine⟨e5,?_,x5.set hD⟩;rw[bD,hr1,au,au];rfl
       ·rintro D ys H5 hD ⟨rfl,e5,x5⟩;rw[lq,aW] at e5;walk_at "RD"
        exact⟨e5,x5⟩
      ·rintro σ H5 ⟨Y,rfl,eY,x5⟩;replace eL:=x5 _ _ eL
       replace r2:=r2.ext x5
       replace eX:=x5 _ _ eX
       replace eE:=x5 _ _ (x4 _ _ eE)
       have n1:0<(rs.map (·.1)).length:=by rw[ae];omega
       have n2:0<(rs.map (·.2)).length:=by rw[ae];omega
       have mx:∀M,M∈rs.map (·.1) ->0<=M /\ M<=24:=fun M hM=>by
        obtain⟨z,hz,rfl⟩:=ay.mp hM
        exact(bd z hz).1
       have my:∀M,M∈rs.map (·.2) ->0<=M /\ M<=12:=fun M hM=>by
        obtain⟨z,hz,rfl⟩:=ay.mp hM
        exact(bd z hz).2
       refine⟨fun σ H'=>∃wd:Int,σ=[some (.ref p),some (.int n0),some (.int m0),some (.ref L),some (.int m),some (.int r),some (.int u),some (.ref E),some (.ref X),some (.ref Y),some (.int wd),none,none] /\ H'=H5 /\ (∀a∈rs.map (·.1),a<=wd) /\ (∀N∈rs.map (·.1),(∀a∈rs.map (·.1),N<=a) ->N-e0<wd) /\ wd<=40,?_,?_⟩
       ·o_head ⟨eE⟩
        refine⟨X,_,rfl,SqL.of eX,n1,fun M hM hmax=> ?_⟩
        o_head ⟨eE⟩
        refine⟨X,_,rfl,SqL.of eX,n1,fun M2 hM2 hmax2=> ?_⟩
        o_head ⟨eE⟩
        refine⟨X,_,rfl,SqL.of eX,n1,fun N hN hmin=> ?_⟩
        o_head ⟨eE⟩
        have e12:M2=M:=by have:=hmax M2 hM2;have:=hmax2 M hM;omega
        subst e12;have bM:=mx M2 hM
        refine⟨fun a ha=> ?_,fun N' hN' hmin'=> ?_,?_⟩
        ·have:=hmax a ha
         split<;>omega
        ·have:=hmin' N hN
         have:=hmin N' hN'
         have:=hmax N' hN'
         split<;>omega
        ·split<;>omega
       ·rintro σ H6 ⟨wd,rfl,rfl,wmax,wmin,w40⟩;refine⟨fun σ H'=>∃hg:Int,σ=[some (.ref p),some (.int n0),some (.int m0),some (.ref L),some (.int m),some (.int r),some (.int u),some (.ref E),some (.ref X),some (.ref Y),some (.int wd),some (.int hg),none] /\ H'=H6 /\ (∀a∈rs.map (·.2),a<=hg) /\ (∀N∈rs.map (·.2),(∀a∈rs.map (·.2),N<=a) ->N-e1<hg) /\ hg<=40,?_,?_⟩
        ·o_head ⟨eE⟩
         refine⟨Y,_,rfl,SqL.of eY,n2,fun M hM hmax=> ?_⟩
         o_head ⟨eE⟩
         refine⟨Y,_,rfl,SqL.of eY,n2,fun M2 hM2 hmax2=> ?_⟩
         o_head ⟨eE⟩
         refine⟨Y,_,rfl,SqL.of eY,n2,fun N hN hmin=> ?_⟩
         o_head ⟨eE⟩
         have e12:M2=M:=by have:=hmax M2 hM2;have:=hmax2 M hM;omega
         subst e12;have bM:=my M2 hM
         refine⟨fun a ha=> ?_,fun N' hN' hmin'=> ?_,?_⟩
         ·have:=hmax a ha
          split<;>omega
         ·have:=hmin' N hN
          have:=hmin N' hN'
          have:=hmax N' hN'
          split<;>omega
         ·split<;>omega
        ·rintro σ H7 ⟨hg,rfl,rfl,hgmax,hgmin,h40⟩;have b70:Bd 70 m:=Bd.of_le (10^20) (by omega) (by omega) (by decide)
         have sm:∀k:Int,-10<=k ->k<=50 ->Bd 10 k:=fun k a1 a2=>Bd.of_le 50 (by omega) (by omega) (by decide)
         have xpos:∀z∈rs,0<=wd:=fun z hz=>by have:=wmax z.1 (ay.mpr ⟨z,hz,rfl⟩);have:=bd z hz;omega
         have z0:∃z,z∈rs:=by
          obtain⟨z,hz⟩:∃z,rs[0]? =some z:=⟨_,aa (by omega)⟩
          exact⟨z,ah hz⟩
         obtain⟨zz,hzz⟩:=z0
         have w0:=xpos zz hzz
         have g0:0<=hg:=by have:=hgmax zz.2 (ay.mpr ⟨zz,hzz,rfl⟩);have:=bd zz hzz;omega
         refine⟨fun σ H'=>∃(B:Addr) (N N':Int),σ=[some (.ref p),some (.int n0),some (.int m0),some (.ref L),some (.int m),some (.int r),some (.int u),some (.ref E),some (.ref X),some (.ref Y),some (.int wd),some (.int hg),some (.ref B)] /\ H' B=some (.tup [.int ((N-e0)*m+r),.int ((N'-e1)*m+u),.int (wd*m+r),.int (hg*m+u)]) /\ Ext H7 H' /\ (N∈rs.map (·.1) /\ ∀a∈rs.map (·.1),N<=a) /\ (N'∈rs.map (·.2) /\ ∀a∈rs.map (·.2),N'<=a),?_,?_⟩
         ·o_head ⟨eE⟩
          refine⟨X,_,rfl,SqL.of eX,n1,fun N hN hmin=> ?_⟩;have bN:=mx N hN
          o_head ⟨eE⟩
          refine⟨.of (sm _ (by omega) (by omega)) b70 (by decide) (by decide),?_⟩;refine⟨Y,_,rfl,SqL.of eY,n2,fun N' hN' hmin'=> ?_⟩;have bN':=my N' hN'
          o_head ⟨eE⟩
          refine⟨.of (sm _ (by omega) (by omega)) b70 (by decide) (by decide),.of (sm _ (by omega) (by omega)) b70 (by decide) (by decide),.of (sm _ (by omega) (by omega)) b70 (by decide) (by decide),by decide,fun B hB=> ?_⟩;exact⟨N,N',rfl,.upd hB,hN,hmin,hN',hmin'⟩
         ·rintro σ H8 ⟨B,N,N',rfl,eB,x8,⟨hN,hmin⟩,hN',hmin'⟩;have bN:=mx N hN
          have bN':=my N' hN'
          walk_at "RD"
          refine j8 (K:=K) (a:=L) (xs:=qs.map V.ref) (fun R h=>by walk_at "RD";exact h) (SqL.of (x8 _ _ eL)) (by rw[lq];omega) (fun D i ys H'=>∃qs':List Addr,ys=qs'.map V.ref /\ R2At H' qs' ((rs.take i).map fun z=>(z.1*m+r,z.2*m+u)) /\ H' D=some (.lst ys) /\ Ext H8 H') ?_ ?_ ?_ ?_
          ·intro D hD;exact⟨[],rfl,⟨rfl,fun i q z a=>by simp at a⟩,iQ,.upd hD⟩
          ·rintro D i ys H9 _ ⟨qs',rfl,r9,e9,x9⟩;refine⟨e9,?_,SqL.of (x9 _ _ (x8 _ _ eL))⟩;rw[ae,r9.1,ae,aC];omega
          ·rintro D i w1 ys H9 hD hi ⟨qs',rfl,r9,e9,x9⟩;obtain⟨q,hq,rfl⟩:=jG hi
           obtain⟨z,hr1,hr2⟩:=r2.at hq
           have bz:=bd z (ah hr1)
           o_head ⟨kx,kA,om,x9 _ _ (x8 _ _ hr2)⟩
           refine⟨.of (sm _ (by omega) (by omega)) b70 (by decide) (by decide),.of (sm _ (by omega) (by omega)) b70 (by decide) (by decide),by decide,fun t ht=> ?_⟩;have e9':=iZ (o:= .tup [.int (z.1*m+r),.int (z.2*m+u)]) ht e9
           refine⟨e9',qs'++[t],by rw[au];rfl,?_,(x9.then ht).set hD⟩;rw[bD,hr1,au];exact((r9.ext (Ext.upd ht)).append (R2At.one (r:=(z.1*m+r,z.2*m+u)) iQ)).setL e9'
          ·rintro D ys H9 hD ⟨qs',rfl,r9,e9,x9⟩;rw[lq,aW] at r9;refine⟨by decide,fun t ht=> ?_⟩;have xt:=x9.trans (Ext.upd (o:= .tup [.ref B,.ref D]) ht)
           have xa:=((x4.trans x5).trans x8).trans xt
           have q1:=wt (k:=N-e0) (by omega) (by omega) m1 m2
           have q2:=wt (k:=N'-e1) (by omega) (by omega) m1 m2
           have q3:=wt (k:=wd) (by omega) (by omega) m1 m2
           have q4:=wt (k:=hg) (by omega) (by omega) m1 m2
           refine h t B D ((N-e0)*m+r) ((N'-e1)*m+u) (wd*m+r) (hg*m+u) qs' (rs.map fun z=>(z.1*m+r,z.2*m+u)) _ (d3.ext xa) iQ ⟨xt _ _ eB,iZ ht e9,r9.ext (Ext.upd ht),Ah (wmin N hN hmin) m1,Ah (hgmin N' hN' hmin') m1,?_,wH nd m1,by rw[ae];omega,by rw[ae];exact l12,by omega⟩ (by rw[ae];exact l0) (by omega) (by omega);intro w' hw';obtain⟨z,hz,rfl⟩:=ay.mp hw'
           have k1:=hmin z.1 (ay.mpr ⟨z,hz,rfl⟩)
           have k2:=hmin' z.2 (ay.mpr ⟨z,hz,rfl⟩)
           have k3:=wmax z.1 (ay.mpr ⟨z,hz,rfl⟩)
           have k4:=hgmax z.2 (ay.mpr ⟨z,hz,rfl⟩)
           exact⟨wo (by omega) m1,wo k3 m1,wo (by omega) m1,wo k4 m1⟩
theorem sc__law_side:FnScope ["_law_one","_law_other","_law_third","_law_found"] ["_law_one","_law_other","_law_third"] (iR s__law_side):=⟨rfl,rfl,rfl,by decide+kernel,rfl,by decide+kernel,by decide+kernel⟩
theorem ok__law_side{C:Cz}{f:Addr}{fd:FuncData}(F:Fun K "_law_side" "_law_side" s__law_side f fd)(T:Txt P K mg C):FnOk P w K mg base (CXE P w) 1 f fd ["_law_one","_law_other","_law_third"] rq:=by
 refine okN F (k:=0) sc__law_side (fun vs H Q E h=> ?_) (fun cdv A outer s H vs Q E hr h=> ?_)
 ·obtain⟨p,q,r,A,B,D,rfl,_⟩:=h
  rfl
 ·obtain⟨p,q,r,A,B,D,rfl,h⟩:=h
  refine'⟨_,?main,?rest⟩
  case main=>
   refine' iU ?c1 ?c2
   case' c1=>refine' jg (i:=3) ?c3 ?c4 ?c5 ?c6
   case c3=>exact sc__law_side.nd
   case c4=>exact rfl
   case c5=>exact(aL rfl)
   case' c6=>refine' iW ?c7 ?c8 ?c9
   case c7=>exact(OpR.f iY)
   case' c8=>exact i7 jv (pvF 0) iO (fun _ _=>rfl)
   case' c9=>refine' iW ?c10 ?c11 ?c12
   case c10=>exact(OpR.f0 jw)
   case' c11=>refine' iW (OpR.f iY) ?c13 ?c14
   case' c13=>exact i7 jv (pvF 1) iO (fun _ _=>rfl)
   case' c14=>exact i7 jv (pvF 2) iO (fun _ _=>rfl)
   case' c12=>refine' iW (OpR.f iY) ?c15 ?c16
   case' c15=>exact i7 jv (pvF 2) iO (fun _ _=>rfl)
   case' c16=>exact i7 jv (pvF 1) iO (fun _ _=>rfl)
   case' c2=>refine' iU ?c17 ?c18
   case' c17=>refine' jg (i:=3) ?c19 ?c20 ?c21 ?c22
   case c19=>exact sc__law_side.nd
   case c20=>exact rfl
   case c21=>exact(aL rfl)
   case' c22=>refine' iW ?c23 ?c24 ?c25
   case c23=>exact(OpR.f0 jw)
   case c24=>exact(pvF 3)
   case' c25=>refine' iW ?c26 ?c27 ?c28
   case c26=>exact(OpR.f iY)
   case' c27=>exact i7 jv (pvF 0) iO (fun _ _=>rfl)
   case' c28=>refine' iW ?c29 ?c30 ?c31
   case c29=>exact(OpR.f0 jw)
   case' c30=>refine' iW (OpR.f iY) ?c32 ?c33
   case' c32=>exact i7 jv (pvF 1) iO (fun _ _=>rfl)
   case' c33=>exact i7 jv (pvF 2) iO (fun _ _=>rfl)
   case' c31=>refine' iW (OpR.f iY) ?c34 ?c35
   case' c34=>exact i7 jv (pvF 2) iO (fun _ _=>rfl)
   case' c35=>exact i7 jv (pvF 1) iO (fun _ _=>rfl)
   case' c18=>refine' iS ?c36
   case' c36=>refine' i9 ?c37
   case' c37=>refine' iW ?c38 ?c39 ?c40
   case c38=>exact(OpR.f0 jA)
   case c39=>exact(pvF 3)
   case' c40=>refine' iW ?c41 ?c42 ?c43
   case c41=>exact(OpR.f iY)
   case' c42=>exact i7 jv (pvF 0) iO (fun _ _=>rfl)
   case' c43=>refine' iW ?c44 ?c45 ?c46
   case c44=>exact(OpR.f0 jw)
   case' c45=>refine' iW (OpR.f iY) ?c47 ?c48
   case' c47=>exact i7 jv (pvF 1) iO (fun _ _=>rfl)
   case' c48=>exact i7 jv (pvF 2) iO (fun _ _=>rfl)
   case' c46=>refine' iW (OpR.f iY) ?c49 ?c50
   case' c49=>exact i7 jv (pvF 2) iO (fun _ _=>rfl)
   case' c50=>exact i7 jv (pvF 1) iO (fun _ _=>rfl)
  case rest=>
   obtain⟨hp,hq,hr',⟨a1,a2,a3⟩,⟨b1,b2,b3⟩,⟨c1,c2,c3⟩,h⟩:=h
   walk_at "ST"
   o_head ⟨hp,hq,hr',rI⟩
   have e:A.1*(B.2.1*D.2.2-D.2.1*B.2.2)-A.2.1*(B.1*D.2.2-D.1*B.2.2)+A.2.2*(B.1*D.2.1-D.1*B.2.1)=dt A B D:=by unfold dt;grind
   rw[e];exact⟨(by walk_at "CM"),(by walk_at "CM"),(by walk_at "CM"),(by walk_at "CM"),(by walk_at "CM"),(by walk_at "CM"),(by walk_at "CM"),(by walk_at "CM"),(by walk_at "CM"),h⟩
theorem sc__law_has:FnScope ["_law_field","_law_point","_law_corners"] ["_law_field","_law_point"] (iR s__law_has):=⟨rfl,rfl,rfl,by decide+kernel,rfl,by decide+kernel,by decide+kernel⟩
theorem ok__law_has{C:Cz}{f:Addr}{fd:FuncData}(F:Fun K "_law_has" "_law_has" s__law_has f fd)(T:Txt P K mg C)(F__law_side:FnB P w K mg base (CXE P w) 1 "_law_side" ["_law_one","_law_other","_law_third"] rq):FnOk P w K mg base (CXE P w) 2 f fd ["_law_field","_law_point"] (sB K):=by
 refine okN F (k:=1) sc__law_has (fun vs H Q E h=> ?_) (fun cdv A outer s H vs Q E hr h=> ?_)
 ·obtain⟨f,p,c,e,qs,l,P,rfl,_⟩:=h
  rfl
 ·obtain⟨f,p,c,e,qs,l,P,rfl,h⟩:=h
  refine'⟨_,?main,?rest⟩
  case main=>
   refine' iU ?c1 ?c2
   case' c1=>refine' jg (i:=2) sc__law_has.nd rfl (fk rfl) ?c3
   case' c3=>exact i7 jv (pvF 0) iO (fun _ _=>rfl)
   case' c2=>refine' iS ?c4
   case' c4=>refine' i9 ?c5
   case' c5=>refine' lx ?c6 ?c7 ?c8 ?c9
   case c6=>exact(OpR.f0 ub)
   case' c7=>refine' jf ?c10 ?c11 ?c12 ?c13 ?c14
   case c10=>exact(kM (K:=K) rfl rfl)
   case c11=>exact(by rfl)
   case c12=>exact T.b_min
   case c13=>exact boot_min
   case' c14=>refine' iN ?c15 ?c16
   case' c15=>refine' mQ (CScope.of_ok (dsc:=iR s__law_has) (N0:=["_law_field","_law_point","_law_corners"]) (N:=["_law_k","_law_point","_law_corners"]) (k:=1) (js:=[1,2]) rfl rfl (by decide+kernel)) rfl ?c17 ?c18 ?c19 ?c20
   case' c17=>refine' jK rfl T.b_range ?c21
   case' c21=>refine' iN ?c22 iP
   case' c22=>refine' jf jy (by rfl) T.b_len bS ?c23
   case' c23=>exact iN (pvF 2) iP
   case' c18=>intro _ _ _ _ _ _;exact(iV (i:=0) (by show bT (["_law_k","_law_point","_law_corners"]:List Str);decide+kernel) rfl (aL rfl))
   case' c19=>intro _ _ _ _ _ _;exact jH
   case' c20=>intro _ _ _ _ _ _;refine' ja F__law_side (hr.mono (by decide)) rfl iX ?c24
   case' c24=>refine' iN ?c25 ?c26
   case' c25=>refine' i7 jv (pvF 2) ?c27 (fun _ _=>rfl)
   case' c27=>exact iW (OpR.f0 jw) (pvF 0) iO
   case' c26=>refine' iN (i7 jv (pvF 2) (pvF 0) (fun _ _=>rfl)) ?c28
   case' c28=>exact iN (pvF 1) iP
   case c16=>exact iP
   case c8=>exact iO
   case c9=>exact(je _)
  case rest=>
   obtain⟨hf,hp,bl,bP,l0,l1,h⟩:=h
   have lq:qs.length=l.length:=by rw[hf.pt.1,ae]
   walk_at "ST"
   o_head ⟨hf.at_⟩
   refine kH l.length (fun R hR=>by o_head ⟨hf.cs,ae,lq,rI⟩;exact hR) (by omega) (fun D i ys H'=>ys=((((edges (rotk (l.length-1) l)).take i).map fun e=>dt e.1.1 e.2.1 P)).map V.int /\ H' D=some (.lst ys) /\ Ext H H') ?_ ?_ ?_ ?_
   ·intro D hD;exact⟨rfl,iQ,.upd hD⟩
   ·rintro D i ys H1 _ ⟨rfl,e1,x1⟩;refine⟨e1,?_⟩;rw[ae,ae,aC];omega
   ·rintro D i ys H1 hD hi ⟨rfl,e1,x1⟩;obtain⟨a,b,he,ha,hb⟩:=uo hi
    have lj:(if i=0 then l.length-1 else i-1)<l.length:=by split<;>omega
    obtain⟨qa,hqa⟩:∃q,qs[if i=0 then l.length-1 else i-1]? =some q:=⟨_,aa (by rw[lq];exact lj)⟩
    obtain⟨qb,hqb⟩:∃q,qs[i]? =some q:=⟨_,aa (by rw[lq];exact hi)⟩
    have r1:=hf.pt.2 _ qa a.1 hqa (by rw[ax,ha];rfl)
    have r2:=hf.pt.2 _ qb b.1 hqb (by rw[ax,hb];rfl)
    have a1:atI (qs.map V.ref) ((0+(i:Int))-1)=some (.ref qa):=by
     refine xq ?_;rw[ax,ae,lq,hqa];rfl
    have a2:atI (qs.map V.ref) (0+(i:Int))=some (.ref qb):=by
     rw[bH];exact jz (by rw[ax,hqb];rfl)
    o_head ⟨x1 _ _ hf.cs,a1,a2,rI⟩
    refine⟨qa,qb,p,a.1,b.1,P,rfl,x1 _ _ r1,x1 _ _ r2,x1 _ _ hp,bl a (ah ha),bl b (ah hb),bP,e1,?_,x1.set hD⟩;rw[bD,he];simp only[gQ,au,aJ,bR]
   ·rintro D ys H1 hD ⟨rfl,e1,x1⟩;rw[cR (by rw[kh,pq];exact aI _)] at e1;refine⟨D,_,rfl,SqL.of e1,by rw[ae,kh,pq];exact l0,fun M hM hmin=> ?_⟩;walk_at "RD"
    have e:decide (0<=M)=decide (ju l P):=by
     refine decide_eq_decide.mpr ?_;rw[<-(Rot.of (l.length-1) l).inside P];constructor
     ·intro q e he;exact fH q (hmin _ (ay.mpr ⟨e,he,rfl⟩))
     ·intro q;obtain⟨e,he,rfl⟩:=ay.mp hM
      exact q e he
    rw[e];exact h H1 x1
theorem sc__law_two:FnScope ["_law_box","_law_spots_here","_law_near","_law_number","_law_called","_law_edge"] ["_law_box","_law_spots_here"] (iR s__law_two):=⟨rfl,rfl,rfl,by decide+kernel,rfl,by decide+kernel,by decide+kernel⟩
theorem ok__law_two{C:Cz}{f:Addr}{fd:FuncData}(F:Fun K "_law_two" "_law_two" s__law_two f fd)(T:Txt P K mg C)(F_far_lands:FnB P w K mg base (CXE P w) 8 "far_lands" ["box","spots"] (jU K))(F_lands:FnB P w K mg base (CXE P w) 9 "lands" ["box","spots"] (nu K)):FnOk P w K mg base (CXE P w) 10 f fd ["_law_box","_law_spots_here"] (sx K):=by
 refine okN F (k:=9) sc__law_two (fun vs H Q E h=> ?_) (fun cdv A outer s H vs Q E hr h=> ?_)
 ·obtain⟨b,l,x,y,u,v,qs,rs,rfl,_⟩:=h
  rfl
 ·obtain⟨b,l,x,y,u,v,qs,rs,rfl,h⟩:=h
  refine'⟨_,?main,?rest⟩
  case main=>
   refine' jb ?c1 ?c2
   case' c1=>refine' jg (i:=2) sc__law_two.nd rfl (aL rfl) ?c3
   case' c3=>refine' ja F_lands (hr.mono (by decide)) rfl iX ?c4
   case' c4=>refine' iN (pvF 0) ?c5
   case' c5=>refine' iN ?c6 iP
   case' c6=>refine' j2 j7 (by rfl) T.b_list boot_list ?c7
   case' c7=>exact iN (pvF 1) iP
   case' c2=>refine' iU ?c8 ?c9
   case' c8=>refine' kD ?c10 ?c11 ?c12 ?c13 ?c14
   case c10=>exact PassesOwn.never
   case c11=>exact rfl
   case' c12=>refine' jK rfl T.b_range ?c15
   case' c15=>exact iN iO iP
   case c13=>exact(iV (i:=3) sc__law_two.nd rfl (aL rfl))
   case' c14=>refine' iU ?c16 ?c17
   case' c16=>refine' jg (i:=4) sc__law_two.nd rfl (aL rfl) ?c18
   case' c18=>exact jP iP
   case' c17=>refine' jb ?c19 ?c20
   case' c19=>refine' kD ?c21 ?c22 ?c23 ?c24 ?c25
   case c21=>exact PassesOwn.never
   case c22=>exact rfl
   case' c23=>refine' jD (K:=K) rfl ?c26
   case' c26=>refine' PE.up ?c27
   case' c27=>refine' i7 jv ?c28 iO (fun _ _=>rfl)
   case' c28=>refine' i7 jv (pvF 2) ?c29 (fun _ _=>rfl)
   case' c29=>exact iW (OpR.f0 jw) iO (pvF 3)
   case c24=>exact(iV (i:=5) sc__law_two.nd rfl (aL rfl))
   case' c25=>refine' jb ?c30 ?c31
   case' c30=>refine' jF ?c32 ?c33 jj
   case' c32=>exact i5 (OpR.f0 ub) (pvF 5) iO (je _)
   case' c33=>refine' iS ?c34
   case' c34=>refine' jg (i:=5) sc__law_two.nd rfl (aL rfl) ?c35
   case' c35=>exact iW (OpR.f0 jw) iO (pvF 5)
   case' c31=>refine' iS ?c36
   case' c36=>refine' jJ ?c37
   case' c37=>refine' pe_app (pvF 4) ?c38
   case' c38=>exact iN (pvF 5) iP
   case' c20=>refine' iS ?c39
   case' c39=>refine' jF ?c40 ?c41 ?c42
   case' c40=>refine' i5 (lP (K:=K) rfl (wb hr)) ?c43 ?c44 (je _)
   case' c43=>refine' i7 jv ?c45 (pvF 3) (fun _ _=>rfl)
   case' c45=>refine' ja F_far_lands (hr.mono (by decide)) rfl iX ?c46
   case' c46=>refine' iN (pvF 0) ?c47
   case' c47=>refine' iN ?c48 iP
   case' c48=>refine' j2 j7 (by rfl) T.b_list boot_list ?c49
   case' c49=>exact iN (pvF 1) iP
   case' c44=>refine' jc ?c50
   case' c50=>refine' iN ?c51 ?c52
   case' c51=>refine' i7 jv ?c53 iO (fun _ _=>rfl)
   case' c53=>refine' i7 jv (pvF 2) ?c54 (fun _ _=>rfl)
   case' c54=>exact iW (OpR.f0 jw) iO (pvF 3)
   case' c52=>exact iN (pvF 4) iP
   case' c41=>refine' iS ?c55
   case' c55=>exact i9 nh
   case c42=>exact jj
   case' c9=>refine' iS ?c56
   case' c56=>exact i9 nh
  case rest=>
   obtain⟨ok,l2,h⟩:=h
   have lq:(qs.map V.ref).length=rs.length:=by rw[ae];exact ok.at_.1
   have xu:=ok.xu
   have yv:=ok.yv
   have n12:=ok.n12
   walk_at "ST"
   refine⟨fun σ H'=>∃(t:Addr) (fs:List Addr),σ=[some (.ref b),some (.ref l),some (.ref t),none,none,none] /\ Ext H H' /\ H' t=some (.lst (fs.map V.ref)) /\ fs.length=rs.length /\ ss H H' fs x y u v rs,?_,?_⟩
   ·o_head ⟨ok.sp⟩
    intro c hc;have xc:=Ext.upd (o:= .lst (qs.map V.ref)) hc
    have o:=ok.ext xc
    o_head ⟨nu⟩
    refine⟨x,y,u,v,qs,rs,⟨o.bx,iQ,o.at_,o.xu,o.yv,o.ins,o.nd,o.n0,o.n12,o.sz⟩,fun t fs H' x' nt et lf ls=> ?_⟩;exact⟨xc.trans x',fs,et,lf,fun i f hi=>by
     obtain⟨c',e,ps,L,r,g1,g2,g3,g4⟩:=ls i f hi
     exact⟨c',e,ps,L,r,g1,g2,g3,⟨xc.none g4.nf,xc.none g4.nc,xc.none g4.ne,g4.ce⟩⟩⟩
   rintro σ H1 ⟨t,fs,rfl,x1,et,lf,ls⟩;refine kI 2 (fun R hR=>by walk_at "RD";exact hR) (by decide) (fun i σ H'=>∃o3 o4 o5:Option V,σ=[some (.ref b),some (.ref l),some (.ref t),o3,o4,o5] /\ Ext H1 H') ⟨_,_,_,rfl,.refl _⟩ ?_ ?_
   rotate_left
   ·rintro σ H2 ⟨o3,o4,o5,rfl,x2⟩;walk_at "RD"
    exact h _ (x1.trans x2)
   rintro i σ H2 hi ⟨o3,o4,o5,rfl,x2⟩;rw[bH];obtain⟨j,ij⟩:∃j,i+j=1:=⟨1-i,by omega⟩
   obtain⟨r,hr'⟩:∃r,rs[i]? =some r:=⟨_,aa (by omega)⟩
   obtain⟨f,hf⟩:∃f,fs[j]? =some f:=⟨_,aa (by omega)⟩
   obtain⟨c,e,ps,L,s,hs,fld,lok,nf⟩:=ls j f hf
   have ej:(1:Int)-(i:Int)=(j:Int):=by omega
   have af:atI (fs.map V.ref) (j:Int)=some (.ref f):=jz (by rw[ax,hf];rfl)
   have fld2:=fld.ext x2
   have et2:=x2 _ _ et
   have lL:=lok.len
   have lo:=j6 rs.length j
   have ne:r≠s:=fun z=>by
    subst z;obtain⟨g1,e1⟩:=ad.mp hr'
    obtain⟨g2,e2⟩:=ad.mp hs
    have:=(cz (h₀:=g1) (h₁:=g2) ok.nd).mp (e1.trans e2.symm)
    omega
   walk_at "RD"
   refine⟨by decide,fun D hD=> ?_⟩;have xD:=Ext.upd (o:= .lst []) hD
   have eD:=iQ (H:=H2) (a:=D) (o:= .lst [])
   generalize upd H2 D (.lst [])=H3 at xD eD⊢;have lLe:((L.map (·.2.2)).map V.int).length=L.length:=by rw[ae,ae]
   refine⟨fun σ H'=>∃o5:Option V,σ=[some (.ref b),some (.ref l),some (.ref t),some (.int (i:Int)),some (.ref D),o5] /\ Ext H2 H' /\ H' D=some (.lst ((L.map fun w=>nm2 w.2.2).map V.int)),?_,?_⟩
   ·refine qg (fun w H'=>w= .ref e /\ H'=H3) ?_ ?_
    ·o_head ⟨ej,xD _ _ et2,af,xD _ _ fld2.at_⟩
    ·rintro w1 H4 ⟨rfl,rfl⟩;refine⟨e,(L.map (·.2.2)).map V.int,rfl,fun k σ H'=>∃o5:Option V,σ=[some (.ref b),some (.ref l),some (.ref t),some (.int (i:Int)),some (.ref D),o5] /\ Ext H2 H' /\ H' D=some (.lst (((L.take k).map fun w=>nm2 w.2.2).map V.int)),⟨_,rfl,xD,eD⟩,?_,?_,?_⟩
     ·rintro k σ H5 _ ⟨o5,rfl,x5,e5⟩;exact SqL.of (x5 _ _ fld2.es)
     ·rintro k w1 σ H5 hk ⟨o5,rfl,x5,e5⟩;rw[ax,ax] at hk;obtain⟨w,hw,rfl⟩:∃w,L[k]? =some w /\ w1=V.int w.2.2:=by
       cases g:L[k]? with
       |none=>rw[g] at hk;cases hk
       |some w=>rw[g] at hk;exact⟨w,rfl,(bA.inj hk).symm⟩
      refine⟨fun σ H'=>σ=[some (.ref b),some (.ref l),some (.ref t),some (.int (i:Int)),some (.ref D),some (.int (nm2 w.2.2))] /\ H'=H5,?_,?_⟩
      ·walk_at "RD"
       unfold nm2;split
       ·rfl
       ·rfl
      ·rintro σ H6 ⟨rfl,rfl⟩
       o_head ⟨e5⟩
       refine⟨by rw[ae,ae,aC];omega,x5.set hD,?_⟩;rw[bD,hw,au,au];rfl
     ·rintro σ H5 ⟨o5,rfl,x5,e5⟩;rw[lLe,aW] at e5;exact⟨_,rfl,x5,e5⟩
   rintro σ H4 ⟨o5',rfl,x4,e4⟩;have ok4:=(ok.ext x1).ext (x2.trans x4)
   o_head ⟨ok4.sp⟩
   intro c2 hc2;have xc:=Ext.upd (o:= .lst (qs.map V.ref)) hc2
   have o:=ok4.ext xc
   o_head ⟨jU⟩
   refine⟨x,y,u,v,qs,rs,⟨o.bx,iQ,o.at_,o.xu,o.yv,o.ins,o.nd,o.n0,o.n12,o.sz⟩,fun t2 ws H5 x5 nt2 et5 fa=> ?_⟩;obtain⟨w0,hw0⟩:∃w,ws[i]? =some w:=⟨_,aa (by rw[fa.1];omega)⟩
   rcases fa.2 i w0 r hw0 hr' with⟨rfl,nn⟩|⟨f',c',e',ps',L',rfl,fld',cut',_⟩
   ·exact absurd nn (wY xu yv l2 ij hr' hs ok.nd ok.ins ne)
   have xx:=xc.trans x5
   have aw:atI ws (i:Int)=some (.ref f'):=jz hw0
   have fld5:=fld2.ext (x4.trans xx)
   o_head ⟨et5,aw,xx _ _ (x4 _ _ et2),ej,af,fld5.at_,rI,rI,rI,rI,rI,rI⟩
   refine⟨by decide,fun p hp=> ?_⟩;obtain⟨e1,e2⟩:=wZ xu yv l2 ij hr' hs ne (fun k=>by rw[mem_othersL];omega) cut' lok ok.ins
   refine⟨_,_,(fld'.ext (.upd hp)).rdy,rF iQ (iZ hp fld5.cs) (fld5.pt.ext (.upd hp)) (iZ hp (xx _ _ e4)),oz _ _,oz _ _,?_⟩;rw[show zJ L'=jE (L.map (·.1)) (L.map fun w=>nm2 w.2.2) by unfold zJ;rw[e1,e2],lO];exact⟨⟨_,rfl⟩,x2.trans (x4.trans (xx.then hp))⟩
theorem sc__law_middle:FnScope ["_law_box","_law_spots_here","_law_x","_law_y","_law_w","_law_power","_law_on","_law_fields","_law_some"] ["_law_box","_law_spots_here"] (iR s__law_middle):=⟨rfl,rfl,rfl,by decide+kernel,rfl,by decide+kernel,by decide+kernel⟩
theorem ok__law_middle{C:Cz}{f:Addr}{fd:FuncData}(F:Fun K "_law_middle" "_law_middle" s__law_middle f fd)(T:Txt P K mg C)(F__law_has:FnB P w K mg base (CXE P w) 2 "_law_has" ["_law_field","_law_point"] (sB K))(F_far_lands:FnB P w K mg base (CXE P w) 8 "far_lands" ["box","spots"] (jU K))(F_least_ring:FnB P w K mg base (CXE P w) 5 "least_ring" ["spots"] (rz K)):FnOk P w K mg base (CXE P w) 9 f fd ["_law_box","_law_spots_here"] (sy K):=by
 refine okN F (k:=8) sc__law_middle (fun vs H Q E h=> ?_) (fun cdv A outer s H vs Q E hr h=> ?_)
 ·obtain⟨b,l,x,y,u,v,qs,rs,rfl,_⟩:=h
  rfl
 ·obtain⟨b,l,x,y,u,v,qs,rs,rfl,h⟩:=h
  refine'⟨_,?main,?rest⟩
  case main=>
   refine' jb ?c1 ?c2
   case' c1=>refine' kE ?c3 ?c4
   case' c3=>refine' ja F_least_ring (hr.mono (by decide)) rfl iX ?c5
   case' c5=>refine' iN ?c6 iP
   case' c6=>refine' j2 j7 (by rfl) T.b_list boot_list ?c7
   case' c7=>exact iN (pvF 1) iP
   case' c4=>refine' na (n:=3) rfl ?c8
   case' c8=>refine' iT ?c9 ?c10
   case' c9=>refine' na (n:=3) rfl ?c11
   case' c11=>refine' iT (iV (i:=2) sc__law_middle.nd rfl (fk rfl)) ?c12
   case' c12=>refine' iT (iV (i:=3) sc__law_middle.nd rfl (fk rfl)) ?c13
   case' c13=>exact iT (iV (i:=4) sc__law_middle.nd rfl (fk rfl)) jr
   case' c10=>refine' iT (iV (i:=5) sc__law_middle.nd rfl (aL rfl)) ?c14
   case' c14=>exact iT (iV (i:=6) sc__law_middle.nd rfl (fk rfl)) jr
   case' c2=>refine' jb ?c15 ?c16
   case' c15=>refine' jF ?c17 ?c18 ?c19
   case' c17=>refine' PW.pt ?c20
   case' c20=>refine' ow ?c21 ?c22
   case' c21=>refine' i5 (OpR.f0 ni) (pvF 2) ?c23 (je _)
   case' c23=>refine' iW (OpR.f iY) ?c24 (pvF 4)
   case' c24=>exact i7 jv (pvF 0) iO (fun _ _=>rfl)
   case' c22=>refine' ow ?c25 ?c26
   case' c25=>refine' i5 (OpR.f0 pF) (pvF 2) ?c27 (je _)
   case' c27=>refine' iW (OpR.f iY) ?c28 (pvF 4)
   case' c28=>exact i7 jv (pvF 0) iO (fun _ _=>rfl)
   case' c26=>refine' ow ?c29 ?c30
   case' c29=>refine' i5 (OpR.f0 ni) (pvF 3) ?c31 (je _)
   case' c31=>refine' iW (OpR.f iY) ?c32 (pvF 4)
   case' c32=>exact i7 jv (pvF 0) iO (fun _ _=>rfl)
   case' c30=>refine' mY ?c33
   case' c33=>refine' i5 (OpR.f0 pF) (pvF 3) ?c34 (je _)
   case' c34=>refine' iW (OpR.f iY) ?c35 (pvF 4)
   case' c35=>exact i7 jv (pvF 0) iO (fun _ _=>rfl)
   case' c18=>refine' iS ?c36
   case' c36=>exact i9 nh
   case c19=>exact jj
   case' c16=>refine' jb ?c37 ?c38
   case' c37=>refine' jg (i:=7) sc__law_middle.nd rfl (fk rfl) ?c39
   case' c39=>refine' ja F_far_lands (hr.mono (by decide)) rfl iX ?c40
   case' c40=>refine' iN (pvF 0) ?c41
   case' c41=>refine' iN ?c42 iP
   case' c42=>refine' j2 j7 (by rfl) T.b_list boot_list ?c43
   case' c43=>exact iN (pvF 1) iP
   case' c38=>refine' jb ?c44 ?c45
   case' c44=>refine' qB (i:=8) ?c46 ?c47 ?c48 ?c49 ?c50 ?c51 ?c52 ?c53 ?c54
   case c46=>exact(CScope.of_ok (dsc:=iR s__law_middle) (N0:=["_law_box","_law_spots_here","_law_x","_law_y","_law_w","_law_power","_law_on","_law_fields","_law_some"]) (N:=["_law_k","_law_fields"]) (k:=1) (js:=[7]) rfl rfl (by decide+kernel))
   case c47=>exact rfl
   case' c48=>refine' jK rfl T.b_range ?c55
   case' c55=>refine' iN ?c56 iP
   case' c56=>refine' jf jy (by rfl) T.b_len bS ?c57
   case' c57=>exact iN (pvF 1) iP
   case' c49=>intro _ _ _ _ _ _;exact(iV (i:=0) (by show bT (["_law_k","_law_fields"]:List Str);decide+kernel) rfl (aL rfl))
   case' c50=>intro _ _ _ _ _ _;refine' l9 ?c58
   case' c58=>refine' u9 ?c59
   case' c59=>exact vg (i7 jv (pvF 1) (pvF 0) (fun _ _=>rfl))
   case c51=>exact(fun _ _ _ _ _ _=>(pvF 0))
   case c52=>exact sc__law_middle.nd
   case c53=>exact rfl
   case c54=>exact rfl
   case' c45=>refine' iS ?c60
   case' c60=>refine' i9 ?c61
   case' c61=>refine' lx ?c62 ?c63 ?c64 ?c65
   case c62=>exact(rG (K:=K) rfl (wb hr))
   case' c63=>refine' mQ (CScope.of_ok (dsc:=iR s__law_middle) (N0:=["_law_box","_law_spots_here","_law_x","_law_y","_law_w","_law_power","_law_on","_law_fields","_law_some"]) (N:=["_law_k","_law_fields","_law_x","_law_y","_law_w"]) (k:=1) (js:=[7,2,3,4]) rfl rfl (by decide+kernel)) rfl (jD (K:=K) rfl (pvF 8)) ?c66 ?c67 (fun _ _ _ _ _ _=>(pvF 0))
   case' c66=>intro _ _ _ _ _ _;exact(iV (i:=0) (by show bT (["_law_k","_law_fields","_law_x","_law_y","_law_w"]:List Str);decide+kernel) rfl (aL rfl))
   case' c67=>intro _ _ _ _ _ _;refine' l9 ?c68
   case' c68=>refine' mO ?c69
   case' c69=>refine' ja ?c70 ?c71 ?c72 ?c73 ?c74
   case c70=>exact F__law_has
   case c71=>exact(hr.mono (by decide))
   case c72=>exact rfl
   case c73=>exact iX
   case' c74=>refine' iN (i7 jv (pvF 1) (pvF 0) (fun _ _=>rfl)) ?c75
   case' c75=>refine' iN ?c76 iP
   case' c76=>refine' jc ?c77
   case' c77=>refine' iN (pvF 2) ?c78
   case' c78=>refine' iN (pvF 3) ?c79
   case' c79=>exact iN (pvF 4) iP
   case' c64=>refine' mQ (CScope.of_ok (dsc:=iR s__law_middle) (N0:=["_law_box","_law_spots_here","_law_x","_law_y","_law_w","_law_power","_law_on","_law_fields","_law_some"]) (N:=["_law_k","_law_on"]) (k:=1) (js:=[6]) rfl rfl (by decide+kernel)) rfl (jD (K:=K) rfl (pvF 8)) ?c80 ?c81 (fun _ _ _ _ _ _=>(pvF 0))
   case' c80=>intro _ _ _ _ _ _;exact(iV (i:=0) (by show bT (["_law_k","_law_on"]:List Str);decide+kernel) rfl (aL rfl))
   case' c81=>intro _ _ _ _ _ _;exact(l9 (i5 (ua (K:=K) rfl) (pvF 0) (pvF 1) (by with_unfolding_all rfl)))
   case c65=>exact(je _)
  case rest=>
   obtain⟨ok,h⟩:=h
   have lq:(qs.map V.ref).length=rs.length:=by rw[ae];exact ok.at_.1
   have n12:=ok.n12
   walk_at "ST"
   have bz4:=ok.sz
   have xu:=ok.xu
   have yv:=ok.yv
   have szr:∀r∈rs,Bd 130 r.1 /\ Bd 130 r.2:=fun r hr=>by
    have:=ok.ins r hr
    exact⟨kO (by omega) (by omega) 130,kO (by omega) (by omega) 130⟩
   refine⟨fun σ H'=>∃(tp to:Addr) (z:P3) (ra rb:Int),σ=[some (.ref b),some (.ref l),some (.int z.1),some (.int z.2.1),some (.int z.2.2),some (.ref tp),some (.ref to),none,none] /\ Ext H H' /\ H' to=some (.lst ((kg (rs.map (sqr z)) rs.length).map V.int)) /\ RingOk rs z ra rb,?_,?_⟩
   ·o_head ⟨ok.sp⟩
    intro c hc;have xc:=Ext.upd (o:= .lst (qs.map V.ref)) hc
    o_head ⟨rz⟩
    refine⟨qs,rs,⟨iQ,ok.at_.ext xc,ok.nd,ok.n0,ok.n12,szr⟩,fun t tc tp to z ra rb H1 x1 e1 e2 e3 e4 ro nt=> ?_⟩
    o_head ⟨kx,kA,om,e1,e2,rI,rI,rI,rI,rI,rI,rI⟩
    exact⟨tp,to,z,rfl,rfl,rfl,rfl,rfl,xc.trans x1,e4,ra,rb,ro⟩
   rintro σ H1 ⟨tp,to,z,ra,rb,rfl,x1,eo,ro⟩;have ok1:=ok.ext x1
   have bz:=ro.isC.2.2.1
   have z3:Bd 2000 z.2.2:=bz.2.2
   have c1:Bd 2000 x:=kO (by omega) (by omega) 2000
   have c2:Bd 2000 y:=kO (by omega) (by omega) 2000
   have c3:Bd 2000 u:=kO (by omega) (by omega) 2000
   have c4:Bd 2000 v:=kO (by omega) (by omega) 2000
   refine⟨fun σ H'=>σ=[some (.ref b),some (.ref l),some (.int z.1),some (.int z.2.1),some (.int z.2.2),some (.ref tp),some (.ref to),none,none] /\ H'=H1 /\ ju (ky x y u v) z,?_,?_⟩
   ·o_head ⟨ok1.bx⟩
    refine⟨(by walk_at "CM"),?_⟩;split
    ·exact h _ x1
    refine⟨(by walk_at "CM"),?_⟩;split
    ·exact h _ x1
    refine⟨(by walk_at "CM"),?_⟩;split
    ·exact h _ x1
    refine⟨(by walk_at "CM"),?_⟩;split
    ·exact h _ x1
    exact(kN xu yv z).mpr (by omega)
   rintro σ H2 ⟨rfl,rfl,inb⟩;refine⟨fun σ H'=>∃(g:Addr) (ws:List V),σ=[some (.ref b),some (.ref l),some (.int z.1),some (.int z.2.1),some (.int z.2.2),some (.ref tp),some (.ref to),some (.ref g),none] /\ Ext H2 H' /\ H' g=some (.lst ws) /\ FarsAt H2 H' ws x y u v rs,?_,?_⟩
   ·o_head ⟨ok1.sp⟩
    intro c hc;have xc:=Ext.upd (o:= .lst (qs.map V.ref)) hc
    o_head ⟨jU⟩
    have o:=ok1.ext xc
    exact⟨x,y,u,v,qs,rs,⟨o.bx,iQ,o.at_,o.xu,o.yv,o.ins,o.nd,o.n0,o.n12,o.sz⟩,fun t ws H' x' nt et fa=>⟨xc.trans x',ws,et,fa.back xc⟩⟩
   rintro σ H3 ⟨g,ws,rfl,x3,eg,fa⟩;have ok3:=ok1.ext x3
   have eo3:=x3 _ _ eo
   have lw:=fa.1
   refine⟨fun σ H'=>∃S:Addr,σ=[some (.ref b),some (.ref l),some (.int z.1),some (.int z.2.1),some (.int z.2.2),some (.ref tp),some (.ref to),some (.ref g),some (.ref S)] /\ Ext H3 H' /\ H' S=some (.lst ((mK ws rs.length).map fun i:Nat=>V.int (i:Int))),?_,?_⟩
   ·walk_at "RD"
    refine kH rs.length (fun R hR=>by o_head ⟨ok3.sp,lq,rI,rI⟩;exact hR) (by omega) (fun D i ys H'=>ys=((mK ws i).map fun i:Nat=>V.int (i:Int)) /\ H' D=some (.lst ys) /\ Ext H3 H') ?_ ?_ ?_ ?_
    ·intro D hD;exact⟨rfl,iQ,.upd hD⟩
    ·rintro D i ys H7 _ ⟨rfl,e7,x7⟩;refine⟨e7,?_⟩;unfold mK;rw[ae];exact bJ (cK _ _) (by rw[eV];exact aI _)
    ·rintro D j ys H7 hD hj ⟨rfl,e7,x7⟩;obtain⟨w0,hw0⟩:∃w,ws[j]? =some w:=⟨_,aa (by rw[lw];exact hj)⟩
     obtain⟨r,hr'⟩:∃r,rs[j]? =some r:=⟨_,aa hj⟩
     have aw:atI ws (j:Int)=some w0:=jz hw0
     rw[bH]
     o_head ⟨x7 _ _ eg,aw,rI,rI⟩
     have gd:ws.getD j .non=w0:=by rw[bq,hw0];rfl
     rw[tX,gd];rcases fa.2 j w0 r hw0 hr' with⟨rfl,_⟩|⟨f,c,e,ps,L,rfl,_⟩
     ·rw[if_neg (fun z=>z rfl),if_neg (by decide)];exact⟨rfl,e7,x7⟩
     ·rw[if_pos (by intro z;cases z),if_pos (show uf (.ref f)=true from rfl)];exact⟨e7,by rw[au];rfl,x7.set hD⟩
    ·rintro D ys H7 hD ⟨rfl,e7,x7⟩;walk_at "RD"
     exact⟨x7,e7⟩
   rintro σ H4 ⟨S,rfl,x4,eS⟩;have lS:((mK ws rs.length).map fun i:Nat=>V.int (i:Int)).length=(mK ws rs.length).length:=ae _
   have lS2:(mK ws rs.length).length<=12:=bJ (cK _ _) (by rw[eV];exact n12)
   have mS:=fun {k:Nat} (h:k∈mK ws rs.length)=>vw h
   generalize mK ws rs.length=N at eS lS lS2 mS;have fa4:=fa.ext x4
   have eo4:=x4 _ _ eo3
   have eg4:=x4 _ _ eg
   walk_at "RD"
   refine j8 (K:=K) (a:=S) (xs:=N.map fun i:Nat=>V.int (i:Int)) (fun R h=>by walk_at "RD";exact h) (SqL.of eS) (by rw[lS];omega) (fun D i ys H'=>ys=(((N.take i).filter (mt z rs)).map fun i:Nat=>V.int (i:Int)) /\ H' D=some (.lst ys) /\ Ext H4 H') ?_ ?_ ?_ ?_
   ·intro D hD;exact⟨rfl,iQ,.upd hD⟩
   ·rintro D i ys H5 _ ⟨rfl,e5,x5⟩;refine⟨e5,?_,SqL.of (x5 _ _ eS)⟩;rw[ae];exact bJ (cK _ _) (by rw[aC];omega)
   ·rintro D i w1 ys H5 hD hi ⟨rfl,e5,x5⟩;rw[ax] at hi;obtain⟨k,hk,rfl⟩:=dh.mp hi
    obtain⟨kl,kr⟩:=mS (ah hk)
    obtain⟨w0,hw0⟩:∃w,ws[k]? =some w:=⟨_,aa (by rw[lw];exact kl)⟩
    obtain⟨r,hr'⟩:∃r,rs[k]? =some r:=⟨_,aa kl⟩
    have aw:atI ws (k:Int)=some w0:=jz hw0
    have gd:ws.getD k .non=w0:=by rw[bq,hw0];rfl
    rw[gd] at kr;rcases fa4.2 k w0 r hw0 hr' with⟨rfl,_⟩|⟨f,c,e,ps,L,rfl,hf,hL,_⟩
    ·cases kr
    o_head ⟨x5 _ _ eg4,aw,sB,rI⟩
    have lL:=hL.len
    have l3:=hL.poly.three
    have lF:(j4 rs r k).length<=12:=by
     unfold j4;rw[ae];exact bJ (j6 _ _) n12
    have em:ju L z↔mt z rs k=true:=by
     rw[zf ok.nd hr' hL ro.isC.1,ug hr'];exact⟨fun q s hs=>q.2 s hs,fun q=>⟨inb,fun s hs=>q s hs⟩⟩
    refine⟨by decide,fun p5 h5=>⟨c,e,ps,L,(hf.ext x5).ext (.upd h5),z,rfl,fun w hw=> ?_,bz,by omega,by omega,fun H6 x6=> ?_⟩⟩
    ·have:=og hL.poly hL.lnb hw
     exact⟨this.1.mono (by decide),this.2.1.mono (by decide),this.2.2.mono (by decide)⟩
    have x56:=(Ext.upd (o:= .tup [.int z.1,.int z.2.1,.int z.2.2]) h5).trans x6
    by_cases q:ju L z
    ·rw[if_pos q];refine⟨x56 _ _ e5,?_,(x5.trans x56).set hD⟩;rw[mv hk,if_pos (em.mp q),au];rfl
    ·rw[if_neg q];refine⟨?_,x56 _ _ e5,x5.trans x56⟩;rw[mv hk,if_neg (fun z=>q (em.mpr z))]
   rintro D ys H5 hD ⟨rfl,e5,x5⟩;rw[lS,aW] at e5;have eS5:=x5 _ _ eS
   refine j8 (K:=K) (a:=S) (xs:=N.map fun i:Nat=>V.int (i:Int)) (fun R h=>by walk_at "RD";exact h) (SqL.of eS5) (by rw[lS];omega) (fun D i ys H'=>ys=(((N.take i).filter (mt z rs)).map fun i:Nat=>V.int (i:Int)) /\ H' D=some (.lst ys) /\ Ext H5 H') ?_ ?_ ?_ ?_
   ·intro D hD;exact⟨rfl,iQ,.upd hD⟩
   ·rintro D i ys H6 _ ⟨rfl,e6,x6⟩;refine⟨e6,?_,SqL.of (x6 _ _ eS5)⟩;rw[ae];exact bJ (cK _ _) (by rw[aC];omega)
   ·rintro D i w1 ys H6 hD hi ⟨rfl,e6,x6⟩;rw[ax] at hi;obtain⟨k,hk,rfl⟩:=dh.mp hi
    walk_at "RD"
    refine⟨to,(kg (rs.map (sqr z)) rs.length).map V.int,rfl,.inl (SqL.of (x6 _ _ (x5 _ _ eo4))),rfl,y8 _,?_⟩;have ei:inV (.int (k:Int)) ((kg (rs.map (sqr z)) rs.length).map V.int)=mt z rs k:=vH _ _
    show(if inV (.int (k:Int)) ((kg (rs.map (sqr z)) rs.length).map V.int)=true then _ else _)
    rw[ei]
    by_cases q:mt z rs k=true
    ·rw[if_pos q];refine⟨e6,?_,x6.set hD⟩;rw[mv hk,if_pos q,au];rfl
    ·rw[if_neg q];refine⟨?_,e6,x6⟩;rw[mv hk,if_neg q]
   rintro D2 ys H6 hD2 ⟨rfl,e6,x6⟩;rw[lS,aW] at e6;have eF:((N.filter (mt z rs)).map fun i:Nat=>V.int (i:Int))=((N.filter (mt z rs)).map fun i:Nat=>(i:Int)).map V.int:=by rw[gZ];rfl
   rw[eF] at e5 e6;refine⟨_,_,.lst (SqL.of (x6 _ _ e5)) (sI _),.lst (SqL.of e6) (sI _),qr _,qr _,?_⟩;rw[zi (wC _) rfl];exact h _ (((((x1.trans x3).trans x4).trans x5).trans x6))
theorem sc__law_refused:FnScope ["_law_box","_law_spots_here","_law_told","e"] ["_law_box","_law_spots_here"] (iR s__law_refused):=⟨rfl,rfl,rfl,by decide+kernel,rfl,by decide+kernel,by decide+kernel⟩
theorem ok__law_refused{C:Cz}{f:Addr}{fd:FuncData}(F:Fun K "_law_refused" "_law_refused" s__law_refused f fd)(T:Txt P K mg C)(F_far_lands:FnB P w K mg base (CXE P w) 8 "far_lands" ["box","spots"] (kb K C)):FnOk P w K mg base (CXE P w) 9 f fd ["_law_box","_law_spots_here"] (j5 K):=by
 refine okN F (k:=8) sc__law_refused (fun vs H Q E h=> ?_) (fun cdv A outer s H vs Q E hr h=> ?_)
 ·obtain⟨b,l,x,y,u,v,qs,rs,rfl,_⟩:=h
  rfl
 ·obtain⟨b,l,x,y,u,v,qs,rs,rfl,h⟩:=h
  refine'⟨_,?main,?rest⟩
  case main=>
   refine' iU ?c1 ?c2
   case' c1=>refine' jg (i:=2) sc__law_refused.nd rfl (aL rfl) ?c3
   case' c3=>refine' jc ?c4
   case' c4=>exact iN jL iP
   case' c2=>refine' jb ?c5 ?c6
   case' c5=>refine' yA (K:=K) rfl ?c7 (PHs.cons (cD:=C.NoBox) (i:=3) rfl rfl rfl T.g_NoBox (by decide) (fun ev=>(iS (jg (i:=2) sc__law_refused.nd rfl (aL rfl) (jc (iN jL (iN (jf (oT (K:=K) rfl) (by rfl) T.b_isinstance boot_isinstance (iN (pvF 3) (iN (jc (iN (nV (v:=V.ref C.TooMany) rfl T.g_TooMany rfl) (iN (nV (v:=V.ref C.NoSpot) rfl T.g_NoSpot rfl) iP))) iP))) iP)))))) (PHs.cons (cD:=C.TooMany) (i:=3) rfl rfl rfl T.g_TooMany (by decide) (fun ev=>(iS (jg (i:=2) sc__law_refused.nd rfl (aL rfl) (jc (iN jL (iN (jf (oT (K:=K) rfl) (by rfl) T.b_isinstance boot_isinstance (iN (pvF 3) (iN (jc (iN (nV (v:=V.ref C.NoBox) rfl T.g_NoBox rfl) (iN (nV (v:=V.ref C.NoSpot) rfl T.g_NoSpot rfl) iP))) iP))) iP)))))) (PHs.cons (cD:=C.NoSpot) (i:=3) rfl rfl rfl T.g_NoSpot (by decide) (fun ev=>(iS (jg (i:=2) sc__law_refused.nd rfl (aL rfl) (jc (iN jL (iN (Bc (K:=K) rfl (pvF 3) rfl) iP)))))) PHs.nil))) sc__law_refused.nd
   case' c7=>exact fun pn W E1 σ0 hx=>(iS (jJ (Aq F_far_lands (hr.mono (by decide)) rfl hx (iN (pvF 0) (iN (pvF 1) iP)))))
   case' c6=>exact iS (i9 (pvF 2))
  case rest=>
   obtain⟨bo,ws,told,h⟩:=h
   walk_at "ST"
   walk_at "RD"
   refine⟨by decide,fun p0 h0=> ?_⟩;have x0:=Ext.upd (o:= .tup [.str "let"]) h0
   replace bo:=bo.ext x0
   generalize upd H p0 (.tup [.str "let"])=H0 at x0 bo⊢;refine⟨fun σ H'=>∃(t:Addr) (o3:Option V),σ=[some (.ref b),some (.ref l),some (.ref t),o3] /\ Ext H0 H' /\ H' t=some (.tup ws),?_,?_⟩
   ·o_head ⟨kb⟩
    refine⟨x,y,u,v,⟨qs,rs,bo,?_⟩⟩;refine⟨fun n H' x'=>⟨C.NoBox,rfl,T.x_NoBox.b,.inl ⟨T.m_NoBox_NoBox,fun e he=> ?_⟩⟩,fun a c n H' x'=>⟨C.TooMany,rfl,T.x_TooMany.b,.inr ⟨T.m_TooMany_NoBox,.inl ⟨T.m_TooMany_TooMany,fun e he=> ?_⟩⟩⟩,fun a c g0 g12 i fb H' dx x' hd=>⟨C.NoSpot,rfl,T.eb_NoSpot,.inr ⟨T.m_NoSpot_NoBox,.inr ⟨T.m_NoSpot_TooMany,.inl ⟨T.m_NoSpot_NoSpot,fun e he=> ?_⟩⟩⟩⟩,fun a c g0 g12 ao H' x'=> ?_⟩
    ·walk_at "RD"
     refine⟨by decide,fun p1 hp1=> ?_⟩;refine sJ (iZ hp1 iQ) T.x_NoBox.b iQ T.j_NoBox_TooMany_NoSpot ?_;refine⟨by decide,fun p2 hp2=>⟨⟨_,rfl⟩,((x'.then he).then hp1).then hp2,?_⟩⟩;rw[told.uniq (.inl ⟨n,rfl⟩)]
    ·walk_at "RD"
     refine⟨by decide,fun p1 hp1=> ?_⟩;refine sJ (iZ hp1 iQ) T.x_TooMany.b iQ T.j_TooMany_NoBox_NoSpot ?_;refine⟨by decide,fun p2 hp2=>⟨⟨_,rfl⟩,((x'.then he).then hp1).then hp2,?_⟩⟩;rw[told.uniq (.inr (.inl ⟨⟨a,c⟩,n,rfl⟩))]
    ·walk_at "RD"
     refine⟨C.NoSpot,dx,rfl,T.eb_NoSpot,T.at_NoSpot,T.hd_NoSpot,_,iZ he iQ,_,rfl,by decide,fun p hp=>⟨⟨_,rfl⟩,((x'.then hd).then he).then hp,?_⟩⟩;rw[told.uniq (.inr (.inr ⟨⟨a,c⟩,⟨g0,g12⟩,i,fb,rfl⟩))]
    ·rcases told with⟨n,_⟩|⟨_,n,_⟩|⟨_,_,i,fb,_⟩
     ·exact absurd ⟨a,c⟩ n
     ·exact absurd ⟨g0,g12⟩ n
     ·exact(ao i fb.1).elim
   ·rintro σ H1 ⟨t,o3,rfl,x1,et⟩;walk_at "RD"
    exact h _ _ (x0.trans x1) et
theorem sc_law:FnScope ["_law_script","_law_feed_here","_law_box","_law_spots_here","_law_x","_law_y","_law_u","_law_v","_law_corners","_law_some","_law_at","_law_far"] ["_law_script"] (iR s_law):=⟨rfl,rfl,rfl,by decide+kernel,rfl,by decide+kernel,by decide+kernel⟩
theorem ok_law{C:Cz}{f:Addr}{fd:FuncData}(F:Fun K "law" "law" s_law f fd)(T:Txt P K mg C)(F__law_draw:FnB P w K mg base (CXE P w) 1 "_law_draw" ["_law_feed_here","_law_many"] jx)(F__law_refused:FnB P w K mg base (CXE P w) 9 "_law_refused" ["_law_box","_law_spots_here"] (j5 K))(F__law_middle:FnB P w K mg base (CXE P w) 9 "_law_middle" ["_law_box","_law_spots_here"] (sy K))(F__law_two:FnB P w K mg base (CXE P w) 10 "_law_two" ["_law_box","_law_spots_here"] (sx K))(F_far_lands:FnB P w K mg base (CXE P w) 8 "far_lands" ["box","spots"] (jU K))(F__law_world:FnB P w K mg base (CXE P w) 4 "_law_world" ["_law_feed_here","_law_least","_law_most"] (nl K))(F__law_feed:FnB P w K mg base (CXE P w) 1 "_law_feed" ["_law_script"] (pc K)):FnOk P w K mg base (CXE P w) 11 f fd ["_law_script"] (sA K):=by
 refine okN F (k:=10) sc_law (fun vs H Q E h=> ?_) (fun cdv A outer s H vs Q E hr h=> ?_)
 ·obtain⟨a,ns,rfl,_⟩:=h
  rfl
 ·obtain⟨a,ns,rfl,h⟩:=h
  refine'⟨_,?main,?rest⟩
  case main=>
   refine' iU ?c1 ?c2
   case' c1=>refine' jg (i:=1) sc_law.nd rfl (aL rfl) ?c3
   case' c3=>refine' ja F__law_feed (hr.mono (by decide)) rfl iX ?c4
   case' c4=>exact iN (pvF 0) iP
   case' c2=>refine' jb ?c5 ?c6
   case' c5=>refine' kE ?c7 ?c8
   case' c7=>refine' ja F__law_world (hr.mono (by decide)) rfl iX ?c9
   case' c9=>refine' iN (pvF 1) ?c10
   case' c10=>refine' iN iO ?c11
   case' c11=>exact iN iO iP
   case' c8=>refine' na (n:=2) rfl ?c12
   case' c12=>refine' iT (iV (i:=2) sc_law.nd rfl (aL rfl)) ?c13
   case' c13=>exact iT (iV (i:=3) sc_law.nd rfl (aL rfl)) jr
   case' c6=>refine' iU ?c14 ?c15
   case' c14=>refine' kE ?c16 ?c17
   case c16=>exact(pvF 2)
   case' c17=>refine' na (n:=4) rfl ?c18
   case' c18=>refine' iT (iV (i:=4) sc_law.nd rfl (aL rfl)) ?c19
   case' c19=>refine' iT (iV (i:=5) sc_law.nd rfl (aL rfl)) ?c20
   case' c20=>refine' iT (iV (i:=6) sc_law.nd rfl (aL rfl)) ?c21
   case' c21=>exact iT (iV (i:=7) sc_law.nd rfl (aL rfl)) jr
   case' c15=>refine' jb ?c22 ?c23
   case' c22=>refine' jg (i:=8) ?c24 ?c25 ?c26 ?c27
   case c24=>exact sc_law.nd
   case c25=>exact rfl
   case c26=>exact(aL rfl)
   case' c27=>refine' jP ?c28
   case' c28=>refine' iN ?c29 ?c30
   case' c29=>refine' jc ?c31
   case' c31=>refine' iN (pvF 4) ?c32
   case' c32=>refine' iN (pvF 5) ?c33
   case' c33=>exact iN iO iP
   case' c30=>refine' iN ?c34 ?c35
   case' c34=>refine' jc ?c36
   case' c36=>refine' iN (pvF 6) ?c37
   case' c37=>refine' iN (pvF 5) ?c38
   case' c38=>exact iN iO iP
   case' c35=>refine' iN ?c39 ?c40
   case' c39=>refine' jc ?c41
   case' c41=>refine' iN (pvF 6) ?c42
   case' c42=>refine' iN (pvF 7) ?c43
   case' c43=>exact iN iO iP
   case' c40=>refine' iN ?c44 iP
   case' c44=>refine' jc ?c45
   case' c45=>refine' iN (pvF 4) ?c46
   case' c46=>refine' iN (pvF 7) ?c47
   case' c47=>exact iN iO iP
   case' c23=>refine' jb ?c48 ?c49
   case' c48=>refine' jF ?c50 ?c51 ?c52
   case' c50=>refine' i5 (lP (K:=K) rfl (wb hr)) ?c53 ?c54 (je _)
   case' c53=>refine' ja F_far_lands (hr.mono (by decide)) rfl iX ?c55
   case' c55=>refine' iN (pvF 2) ?c56
   case' c56=>refine' iN ?c57 iP
   case' c57=>refine' jS uR (pvF 3) kn ?c58
   case' c58=>exact km iO
   case' c54=>refine' jP ?c59
   case' c59=>refine' iN ?c60 ?c61
   case' c60=>refine' jc ?c62
   case' c62=>refine' iN ?c63 ?c64
   case c63=>exact(pvF 8)
   case' c64=>refine' iN ?c65 ?c66
   case' c65=>refine' jP ?c67
   case' c67=>refine' iN ?c68 ?c69
   case' c68=>exact pz (UnR.f lV) iO
   case' c69=>refine' iN ?c70 ?c71
   case' c70=>exact pz (UnR.f lV) iO
   case' c71=>refine' iN ?c72 ?c73
   case' c72=>exact pz (UnR.f lV) iO
   case' c73=>refine' iN ?c74 iP
   case' c74=>exact pz (UnR.f lV) iO
   case c66=>exact iP
   case c61=>exact iP
   case' c51=>refine' iS ?c75
   case' c75=>exact i9 nh
   case c52=>exact jj
   case' c49=>refine' jb ?c76 ?c77
   case' c76=>refine' jF ?c78 ?c79 ?c80
   case' c78=>refine' PW.pt ?c81
   case' c81=>refine' ow ?c82 ?c83
   case' c82=>refine' u8 ?c84
   case' c84=>refine' mO ?c85
   case' c85=>refine' ja F__law_two (hr.mono (by decide)) rfl iX ?c86
   case' c86=>refine' iN (pvF 2) ?c87
   case' c87=>refine' iN ?c88 iP
   case' c88=>refine' jS uR (pvF 3) kn ?c89
   case' c89=>exact km iO
   case' c83=>refine' mY ?c90
   case' c90=>refine' u8 ?c91
   case' c91=>refine' mO ?c92
   case' c92=>refine' ja F__law_middle (hr.mono (by decide)) rfl iX ?c93
   case' c93=>refine' iN (pvF 2) ?c94
   case' c94=>exact iN (pvF 3) iP
   case' c79=>refine' iS ?c95
   case' c95=>exact i9 nh
   case c80=>exact jj
   case' c77=>refine' jb ?c96 ?c97
   case' c96=>refine' jg (i:=9) ?c98 ?c99 ?c100 ?c101
   case c98=>exact sc_law.nd
   case c99=>exact rfl
   case c100=>exact(aL rfl)
   case' c101=>refine' i7 ?c102 ?c103 ?c104 ?c105
   case c102=>exact jv
   case' c103=>refine' jP ?c106
   case' c106=>refine' iN ?c107 ?c108
   case c107=>exact(pvF 3)
   case' c108=>refine' iN ?c109 ?c110
   case' c109=>exact jP iP
   case' c110=>refine' iN ?c111 ?c112
   case' c111=>exact iW xR (pvF 3) iO
   case' c112=>refine' iN ?c113 ?c114
   case' c113=>refine' jP ?c115
   case' c115=>refine' iN ?c116 iP
   case' c116=>refine' jc ?c117
   case' c117=>refine' iN ?c118 ?c119
   case' c118=>exact iW (OpR.f0 jw) (pvF 4) iO
   case' c119=>exact iN (pvF 5) iP
   case c114=>exact iP
   case' c104=>refine' ja F__law_draw (hr.mono (by decide)) rfl iX ?c120
   case' c120=>refine' iN (pvF 1) ?c121
   case' c121=>exact iN iO iP
   case c105=>exact(fun _ _=>rfl)
   case' c97=>refine' jb ?c122 ?c123
   case' c122=>refine' jF ?c124 ?c125 ?c126
   case' c124=>refine' PW.pt ?c127
   case' c127=>refine' ow ?c128 ?c129
   case' c128=>refine' i5 (lP (K:=K) rfl (wb hr)) ?c130 ?c131 (je _)
   case' c130=>refine' ja ?c132 ?c133 ?c134 ?c135 ?c136
   case c132=>exact F__law_refused
   case c133=>exact(hr.mono (by decide))
   case c134=>exact rfl
   case c135=>exact iX
   case' c136=>refine' iN ?c137 ?c138
   case' c137=>refine' jc ?c139
   case' c139=>refine' iN (pvF 6) ?c140
   case' c140=>refine' iN (pvF 5) ?c141
   case' c141=>refine' iN (pvF 4) ?c142
   case' c142=>exact iN (pvF 7) iP
   case' c138=>exact iN (pvF 9) iP
   case' c131=>refine' jc ?c143
   case' c143=>refine' iN jL ?c144
   case' c144=>exact iN nh iP
   case' c129=>refine' mY ?c145
   case' c145=>refine' i5 (lP (K:=K) rfl (wb hr)) ?c146 ?c147 (je _)
   case' c146=>refine' ja ?c148 ?c149 ?c150 ?c151 ?c152
   case c148=>exact F__law_refused
   case c149=>exact(hr.mono (by decide))
   case c150=>exact rfl
   case c151=>exact iX
   case' c152=>refine' iN ?c153 ?c154
   case' c153=>refine' jc ?c155
   case' c155=>refine' iN (pvF 4) ?c156
   case' c156=>refine' iN (pvF 7) ?c157
   case' c157=>refine' iN (pvF 6) ?c158
   case' c158=>exact iN (pvF 7) iP
   case' c154=>exact iN (pvF 9) iP
   case' c147=>refine' jc ?c159
   case' c159=>refine' iN jL ?c160
   case' c160=>exact iN nh iP
   case' c125=>refine' iS ?c161
   case' c161=>exact i9 nh
   case c126=>exact jj
   case' c123=>refine' jb ?c162 ?c163
   case' c162=>refine' jF ?c164 ?c165 ?c166
   case' c164=>refine' PW.pt ?c167
   case' c167=>refine' ow ?c168 ?c169
   case' c168=>refine' i5 (lP (K:=K) rfl (wb hr)) ?c170 ?c171 (je _)
   case' c170=>refine' ja F__law_refused (hr.mono (by decide)) rfl iX ?c172
   case' c172=>refine' iN (pvF 2) ?c173
   case' c173=>refine' iN ?c174 iP
   case' c174=>exact jP iP
   case' c171=>refine' jc ?c175
   case' c175=>refine' iN jL ?c176
   case' c176=>exact iN nh iP
   case' c169=>refine' mY ?c177
   case' c177=>refine' i5 (lP (K:=K) rfl (wb hr)) ?c178 ?c179 (je _)
   case' c178=>refine' ja F__law_refused (hr.mono (by decide)) rfl iX ?c180
   case' c180=>refine' iN (pvF 2) ?c181
   case' c181=>refine' iN ?c182 iP
   case' c182=>exact iW xR (pvF 3) iO
   case' c179=>refine' jc ?c183
   case' c183=>refine' iN jL ?c184
   case' c184=>exact iN nh iP
   case' c165=>refine' iS ?c185
   case' c185=>exact i9 nh
   case c166=>exact jj
   case' c163=>refine' jb ?c186 ?c187
   case' c186=>refine' jg (i:=3) sc_law.nd rfl (aL rfl) ?c188
   case' c188=>refine' jS uR (pvF 3) kn ?c189
   case' c189=>exact km iO
   case' c187=>refine' jb ?c190 ?c191
   case' c190=>refine' jg (i:=10) ?c192 ?c193 ?c194 ?c195
   case c192=>exact sc_law.nd
   case c193=>exact rfl
   case c194=>exact(aL rfl)
   case' c195=>refine' ja F__law_draw (hr.mono (by decide)) rfl iX ?c196
   case' c196=>refine' iN (pvF 1) ?c197
   case' c197=>refine' iN ?c198 iP
   case' c198=>refine' iW (OpR.f0 jA) ?c199 iO
   case' c199=>refine' jf jy (by rfl) T.b_len bS ?c200
   case' c200=>exact iN (pvF 3) iP
   case' c191=>refine' jb ?c201 ?c202
   case' c201=>refine' jg (i:=11) ?c203 ?c204 ?c205 ?c206
   case c203=>exact sc_law.nd
   case c204=>exact rfl
   case c205=>exact(aL rfl)
   case' c206=>refine' i7 ?c207 ?c208 ?c209 ?c210
   case c207=>exact jv
   case' c208=>refine' jP ?c211
   case' c211=>refine' iN ?c212 ?c213
   case' c212=>refine' jc ?c214
   case' c214=>refine' iN ?c215 ?c216
   case' c215=>exact iW (OpR.f0 jA) (pvF 6) iO
   case' c216=>exact iN (pvF 7) iP
   case' c213=>refine' iN ?c217 ?c218
   case' c217=>refine' jc ?c219
   case' c219=>refine' iN ?c220 ?c221
   case' c220=>exact iW (OpR.f0 jw) (pvF 4) iO
   case' c221=>exact iN (pvF 7) iP
   case' c218=>refine' iN ?c222 ?c223
   case' c222=>refine' jc ?c224
   case' c224=>refine' iN (pvF 4) ?c225
   case' c225=>refine' iN ?c226 iP
   case' c226=>exact iW (OpR.f0 jA) (pvF 7) iO
   case' c223=>refine' iN ?c227 iP
   case' c227=>refine' jc ?c228
   case' c228=>refine' iN (pvF 6) ?c229
   case' c229=>refine' iN ?c230 iP
   case' c230=>exact iW (OpR.f0 jw) (pvF 5) iO
   case' c209=>refine' ja F__law_draw (hr.mono (by decide)) rfl iX ?c231
   case' c231=>refine' iN (pvF 1) ?c232
   case' c232=>exact iN iO iP
   case c210=>exact(fun _ _=>rfl)
   case' c202=>refine' jb ?c233 ?c234
   case' c233=>refine' jF ?c235 ?c236 ?c237
   case' c235=>refine' i5 (lP (K:=K) rfl (wb hr)) ?c238 ?c239 (je _)
   case' c238=>refine' ja ?c240 ?c241 ?c242 ?c243 ?c244
   case c240=>exact F__law_refused
   case c241=>exact(hr.mono (by decide))
   case c242=>exact rfl
   case c243=>exact iX
   case' c244=>refine' iN ?c245 ?c246
   case c245=>exact(pvF 2)
   case' c246=>refine' iN ?c247 ?c248
   case' c247=>refine' iW ?c249 ?c250 ?c251
   case c249=>exact nX
   case' c250=>refine' iW nX ?c252 ?c253
   case' c252=>exact jS uR (pvF 3) kn (km (pvF 10))
   case' c253=>refine' jP ?c254
   case' c254=>exact iN (pvF 11) iP
   case' c251=>exact jS uR (pvF 3) (km (pvF 10)) kn
   case c248=>exact iP
   case' c239=>refine' jc ?c255
   case' c255=>refine' iN jL ?c256
   case' c256=>exact iN (pvF 10) iP
   case' c236=>refine' iS ?c257
   case' c257=>exact i9 nh
   case c237=>exact jj
   case' c234=>refine' iS ?c258
   case' c258=>refine' i9 ?c259
   case' c259=>refine' lx ?c260 ?c261 ?c262 ?c263
   case c260=>exact(rG (K:=K) rfl (wb hr))
   case' c261=>refine' ja ?c264 ?c265 ?c266 ?c267 ?c268
   case c264=>exact F__law_refused
   case c265=>exact(hr.mono (by decide))
   case c266=>exact rfl
   case c267=>exact iX
   case' c268=>refine' iN ?c269 ?c270
   case c269=>exact(pvF 2)
   case' c270=>refine' iN ?c271 ?c272
   case' c271=>refine' iW ?c273 ?c274 ?c275
   case c273=>exact nX
   case c274=>exact(pvF 3)
   case' c275=>refine' jP ?c276
   case' c276=>refine' iN ?c277 ?c278
   case' c277=>refine' i7 jv (pvF 3) ?c279 (fun _ _=>rfl)
   case' c279=>refine' ja F__law_draw (hr.mono (by decide)) rfl iX ?c280
   case' c280=>refine' iN (pvF 1) ?c281
   case' c281=>refine' iN ?c282 iP
   case' c282=>refine' jf jy (by rfl) T.b_len bS ?c283
   case' c283=>exact iN (pvF 3) iP
   case c278=>exact iP
   case c272=>exact iP
   case' c262=>refine' jc ?c284
   case' c284=>refine' iN jL ?c285
   case' c285=>refine' iN ?c286 iP
   case' c286=>refine' jf jy (by rfl) T.b_len bS ?c287
   case' c287=>exact iN (pvF 3) iP
   case c263=>exact(je _)
  case rest=>
   obtain⟨hS,hl,h⟩:=h
   walk_at "ST"
   o_head ⟨pc⟩
   refine⟨ns,hS,hl,fun p c H0 x0 hp0 hF0=> ?_⟩;refine⟨fun σ H'=>∃(b l:Addr) (x y u v:Int) (qs:List Addr) (rs:List P2),σ=[some (.ref a),some (.ref p),some (.ref b),some (.ref l),none,none,none,none,none,none,none,none] /\ DX c 90 p H0 H' /\ SpOk H' b l x y u v qs rs /\ 2<=rs.length /\ (-(10^26)<=x /\ u<=10^26) /\ (-(10^26)<=y /\ v<=10^26),?_,?_⟩
   ·o_head ⟨nl⟩
    refine⟨2,rfl,7,rfl,c,0,hF0,by decide,by decide,by decide,by decide,by decide,fun t b l x y u v qs rs H1 d1 et ok n2 bx by'=> ?_⟩
    o_head ⟨kx,kA,om,et⟩
    exact⟨d1,x,y,u,v,qs,rs,ok,n2,bx.1,bx.2,by'.1,by'.2⟩
   rintro σ H1 ⟨b,l,x,y,u,v,qs,rs,rfl,d1,ok,n2,bx,by'⟩;have xu:=ok.xu
   have yv:=ok.yv
   have n12:=ok.n12
   o_head ⟨kx,kA,om,ok.bx⟩
   refine⟨fun σ H'=>∃(cn:Addr) (ts:List Addr),σ=[some (.ref a),some (.ref p),some (.ref b),some (.ref l),some (.int x),some (.int y),some (.int u),some (.int v),some (.ref cn),none,none,none] /\ Ext H1 H' /\ H' cn=some (.lst (ts.map V.ref)) /\ CsAt H' ts ((ky x y u v).map (·.1)),?_,?_⟩
   ·walk_at "RD"
    refine⟨by decide,fun a1 h1=>⟨by decide,fun a2 h2=>⟨by decide,fun a3 h3=>⟨by decide,fun a4 h4=>⟨by decide,fun a5 h5=> ?_⟩⟩⟩⟩⟩;have c1:=(CsAt.none (H:=upd H1 a1 (.tup [.int x,.int y,.int 1]))).snoc (v:=(x,y,1)) iQ
    have c2:=(c1.ext (.upd h2)).snoc (v:=(u,y,1)) iQ
    have c3:=(c2.ext (.upd h3)).snoc (v:=(u,v,1)) iQ
    have c4:=(c3.ext (.upd h4)).snoc (v:=(x,v,1)) iQ
    exact⟨((((Ext.upd h1).then h2).then h3).then h4).then h5,[a1,a2,a3,a4],rfl,c4.ext (.upd h5)⟩
   rintro σ H2 ⟨cn,ts,rfl,x2,en,cs⟩;have ok2:=ok.ext x2
   have lq:(qs.map V.ref).length=rs.length:=by rw[ae];exact ok.at_.1
   have bb:∀{H':Hp},SpOk H' b l x y u v qs rs ->BxOk H' b l x y u v qs rs:=fun o=>⟨o.bx,o.sp,o.at_,⟨kO (by omega) (by omega) 2000,kO (by omega) (by omega) 2000,kO (by omega) (by omega) 2000,kO (by omega) (by omega) 2000⟩,by omega⟩
   refine⟨fun σ H'=>σ=[some (.ref a),some (.ref p),some (.ref b),some (.ref l),some (.int x),some (.int y),some (.int u),some (.int v),some (.ref cn),none,none,none] /\ Ext H2 H',?_,?_⟩
   ·o_head ⟨ok2.sp⟩
    intro c1 h1;rw[show ur (qs.map V.ref) none (some 1)=(qs.map V.ref).take 1 from mE _ 1, <-cM];have xc:=Ext.upd (o:= .lst ((qs.take 1).map V.ref)) h1
    have o:=(ok2.ext xc).cut (k:=1) (by decide) iQ
    o_head ⟨jU⟩
    refine⟨x,y,u,v,_,_,o,fun t ws H3 x3 nt et fa=> ?_⟩;have l1:(rs.take 1).length=1:=by rw[aC];omega
    obtain⟨r,hr1⟩:∃r,(rs.take 1)[0]? =some r:=⟨_,aa (by omega)⟩
    obtain⟨w0,rfl⟩:∃w,ws=[w]:=List.length_eq_one_iff.mp (fa.1.trans l1)
    rcases fa.2 0 w0 r rfl hr1 with⟨rfl,nn⟩|⟨f,c',e,ps,L,rfl,fld,cut,_⟩
    ·exact absurd nn (qR xu yv l1 hr1 (o.ins r (ah hr1)))
    obtain⟨e1,e2⟩:=ze xu yv ⟨kO (by omega) (by omega) 300,kO (by omega) (by omega) 300,kO (by omega) (by omega) 300,kO (by omega) (by omega) 300⟩ l1 cut
    refine⟨by decide,fun p1 k1=>⟨by decide,fun p2 k2=>⟨by decide,fun p3 k3=> ?_⟩⟩⟩;have X:=((((xc.trans x3).then (o:= .lst [.int (-1),.int (-2),.int (-3),.int (-4)]) k1).then (o:= .tup [.ref cn,.ref p1]) k2).then (o:= .lst [.ref p2]) k3)
    refine⟨.list [zJ L],.list [jE ((ky x y u v).map (·.1)) [-1,-2,-3,-4]],.lst (SqL.of (iZ k3 (iZ k2 (iZ k1 et)))) (.cons (((fld.ext (.upd k1)).ext (.upd k2)).ext (.upd k3)).rdy .nil),.lst (SqL.of iQ) (.cons (rF (iZ k3 iQ) (X _ _ en) (cs.ext X) (iZ k3 (iZ k2 iQ))) .nil),qq _ _,qq _ _,?_⟩;rw[show zJ L=jE ((ky x y u v).map (·.1)) [-1,-2,-3,-4] by unfold zJ;rw[e1,e2];rfl,y9];exact X
   rintro σ H3 ⟨rfl,x3⟩;have ok3:=ok2.ext x3
   refine⟨fun σ H'=>σ=[some (.ref a),some (.ref p),some (.ref b),some (.ref l),some (.int x),some (.int y),some (.int u),some (.int v),some (.ref cn),none,none,none] /\ Ext H3 H',?_,?_⟩
   ·o_head ⟨ok3.sp⟩
    intro c1 h1;rw[show ur (qs.map V.ref) none (some 2)=(qs.map V.ref).take 2 from mE _ 2, <-cM];have xc:=Ext.upd (o:= .lst ((qs.take 2).map V.ref)) h1
    have o:=(ok3.ext xc).cut (k:=2) (by decide) iQ
    o_head ⟨sx⟩
    refine⟨x,y,u,v,_,_,o,by rw[aC];omega,fun H' x'=> ?_⟩
    o_head ⟨sy⟩
    exact⟨⟨x,y,u,v,qs,rs,(ok3.ext xc).ext x'⟩,fun H2 x2=>(xc.trans x').trans x2⟩
   rintro σ H4 ⟨rfl,x4⟩;have ok4:=ok3.ext x4
   have d4:=((d1.ext x2).ext x3).ext x4
   refine⟨fun σ H'=>∃(l2:Addr) (qs2:List Addr) (rs2:List P2),σ=[some (.ref a),some (.ref p),some (.ref b),some (.ref l),some (.int x),some (.int y),some (.int u),some (.int v),some (.ref cn),some (.ref l2),none,none] /\ SpOk H' b l x y u v qs rs /\ FD c 91 H' p /\ H' l2=some (.lst (qs2.map V.ref)) /\ R2At H' qs2 rs2 /\ rs2.length<100000,?_,?_⟩
   ·walk_at "RD"
    have szl:sizeLine=16777216:=sizeLine_eq
    refine⟨by decide,fun c1 h1=> ?_⟩;refine⟨l,7,qs.map V.ref,rfl,rfl,iZ h1 ok4.sp,by decide,by decide,by rw[lq,szl];show _*7<=_;omega,fun c2 h2=> ?_⟩;rw[rP];refine⟨by decide,fun c3 h3=>⟨by decide,fun c4 h4=>⟨by decide,fun c5 h5=> ?_⟩⟩⟩;have D5:=((((d4.upd (o:= .lst []) h1).upd (o:= .lst ((aZ (7:Int).toNat qs).flatten.map V.ref)) h2).upd (o:= .tup [.int (x-1),.int y]) h3).upd (o:= .lst [.ref c3]) h4).upd (o:= .lst [.ref l,.ref c1,.ref c2,.ref c4]) h5
    have X:=((((Ext.upd (o:= .lst []) h1).then (o:= .lst ((aZ (7:Int).toNat qs).flatten.map V.ref)) h2).then (o:= .tup [.int (x-1),.int y]) h3).then (o:= .lst [.ref c3]) h4).then (o:= .lst [.ref l,.ref c1,.ref c2,.ref c4]) h5
    o_head ⟨jx⟩
    refine⟨_,_,D5.feed,by decide,fun r H' r0 r1 d=> ?_⟩;have okX:=(ok4.ext X).dx D5.feed d
    have e5:=d.keep _ _ (D5.feed.lst iQ) iQ
    have f5:=D5.feed
    have e1:=iZ (o:= .lst [.ref l,.ref c1,.ref c2,.ref c4]) h5 (iZ (o:= .lst [.ref c3]) h4 (iZ (o:= .tup [.int (x-1),.int y]) h3 (iZ (o:= .lst ((aZ (7:Int).toNat qs).flatten.map V.ref)) h2 (iQ (H:=H4) (a:=c1) (o:= .lst [])))))
    have k1:=d.keep _ _ (f5.lst e1) e1
    have e2:=iZ (o:= .lst [.ref l,.ref c1,.ref c2,.ref c4]) h5 (iZ (o:= .lst [.ref c3]) h4 (iZ (o:= .tup [.int (x-1),.int y]) h3 iQ))
    have k2:=d.keep _ _ (f5.lst e2) e2
    have e3:=iZ (o:= .lst [.ref l,.ref c1,.ref c2,.ref c4]) h5 (iZ (o:= .lst [.ref c3]) h4 iQ)
    have k3:=d.keep _ _ (f5.tup e3) e3
    have e4:=iZ (o:= .lst [.ref l,.ref c1,.ref c2,.ref c4]) h5 iQ
    have k4:=d.keep _ _ (f5.lst e4) e4
    have hr:r=0∨r=1∨r=2∨r=3:=by omega
    rcases hr with rfl|rfl|rfl|rfl
    ·o_head ⟨e5⟩
     exact⟨okX,d.feed,qs,okX.sp,rs,okX.at_,by omega⟩
    ·o_head ⟨e5⟩
     exact⟨okX,d.feed,[],k1,[],.none,by decide⟩
    ·o_head ⟨e5⟩
     exact⟨okX,d.feed,_,k2,_,okX.at_.rep 7,by rw[show(aZ 7 rs).flatten.length=7*rs.length from nY rs 7];omega⟩
    ·o_head ⟨e5⟩
     exact⟨okX,d.feed,[c3],k4,[(x-1,y)],.one k3,by show 1<100000;omega⟩
   rintro σ H5 ⟨l2,qs2,rs2,rfl,ok5,f5,el2,at2,few2⟩;refine⟨fun σ H'=>σ=[some (.ref a),some (.ref p),some (.ref b),some (.ref l),some (.int x),some (.int y),some (.int u),some (.int v),some (.ref cn),some (.ref l2),none,none] /\ Ext H5 H',?_,?_⟩
   ·o_head ⟨j5⟩
    have b2:∀{n:Int},-(10^26)<=n ->n<=10^26 ->Bd 2000 n:=fun a b=>kO (by omega) (by omega) 2000
    have bx':Bd 2000 x:=b2 (by omega) (by omega)
    have by1:Bd 2000 y:=b2 (by omega) (by omega)
    have bu':Bd 2000 u:=b2 (by omega) (by omega)
    have bv':Bd 2000 v:=b2 (by omega) (by omega)
    refine⟨by decide,fun c1 h1=>⟨u,y,x,v,qs2,rs2,⟨iQ,iZ h1 el2,at2.ext (.upd h1),⟨bu',by1,bx',bv'⟩,few2⟩,[.str "box",.bl false],.inl ⟨by omega,rfl⟩,fun t H' x' et=>⟨by decide,fun p1 k1=> ?_⟩⟩⟩;refine⟨_,_,kB (iZ k1 et),kB iQ,sF,sF,?_⟩;rw[p6];have X:=((Ext.upd (o:= .tup [.int u,.int y,.int x,.int v]) h1).trans x').then (o:= .tup [.str "box",.bl false]) k1
    refine⟨by decide,fun c2 h2=>⟨x,v,u,v,qs2,rs2,⟨iQ,iZ h2 (X _ _ el2),(at2.ext X).ext (.upd h2),⟨bx',bv',bu',bv'⟩,few2⟩,[.str "box",.bl false],.inl ⟨by omega,rfl⟩,fun t H2 x2 et2=>⟨by decide,fun p2 k2=> ?_⟩⟩⟩;refine⟨_,_,kB (iZ k2 et2),kB iQ,sF,sF,?_⟩;rw[p6];exact((X.then h2).trans x2).then k2
   rintro σ H6 ⟨rfl,x6⟩;have ok6:=ok5.ext x6
   refine⟨fun σ H'=>σ=[some (.ref a),some (.ref p),some (.ref b),some (.ref l),some (.int x),some (.int y),some (.int u),some (.int v),some (.ref cn),some (.ref l2),none,none] /\ Ext H6 H',?_,?_⟩
   ·o_head ⟨j5⟩
    have szl:sizeLine=16777216:=sizeLine_eq
    refine⟨by decide,fun c1 h1=>⟨x,y,u,v,[],[],⟨iZ h1 ok6.bx,iQ,.none,(bb ok6).b4,by decide⟩,[.str "many",.bl false],.inr (.inl ⟨⟨xu,yv⟩,by simp,rfl⟩),fun t H' x' et=>⟨by decide,fun p1 k1=> ?_⟩⟩⟩;refine⟨_,_,kB (iZ k1 et),kB iQ,pg,pg,?_⟩;rw[p6];have X:=((Ext.upd (o:= .lst []) h1).trans x').then (o:= .tup [.str "many",.bl false]) k1
    have okx:=ok6.ext X
    refine⟨l,7,qs.map V.ref,rfl,rfl,okx.sp,by decide,by decide,by rw[lq,szl];show _*7<=_;omega,fun c2 h2=> ?_⟩;rw[rP];have lr:(aZ (7:Int).toNat rs).flatten.length=7*rs.length:=nY rs 7
    refine⟨c2,rfl,x,y,u,v,_,_,⟨iZ h2 okx.bx,iQ,(okx.at_.ext (.upd h2)).rep 7,(bb ok6).b4,by rw[show(aZ 7 rs).flatten.length=7*rs.length from nY rs 7];omega⟩,[.str "many",.bl false],.inr (.inl ⟨⟨xu,yv⟩,by rw[show(aZ 7 rs).flatten.length=7*rs.length from nY rs 7];omega,rfl⟩),fun t H2 x2 et2=>⟨by decide,fun p2 k2=> ?_⟩⟩;refine⟨_,_,kB (iZ k2 et2),kB iQ,pg,pg,?_⟩;rw[p6];exact((X.then h2).trans x2).then k2
   rintro σ H7 ⟨rfl,x7⟩;have ok7:=ok6.ext x7
   have f7:=(f5.ext x6).ext x7
   refine⟨fun σ H'=>∃l':Addr,σ=[some (.ref a),some (.ref p),some (.ref b),some (.ref l'),some (.int x),some (.int y),some (.int u),some (.int v),some (.ref cn),some (.ref l2),none,none] /\ Ext H7 H' /\ H' l'=some (.lst ((qs.take 11).map V.ref)),?_,?_⟩
   ·o_head ⟨ok7.sp⟩
    intro c1 h1;rw[show ur (qs.map V.ref) none (some 11)=(qs.map V.ref).take 11 from mE _ 11, <-cM];exact⟨.upd h1,rfl⟩
   rintro σ H8 ⟨l',rfl,x8,el8⟩;have ok8:=(ok7.ext x8).cut (k:=11) (by decide) el8
   have f8:=f7.ext x8
   have l11:(rs.take 11).length<=11:=by rw[aC];omega
   clear el8;generalize rs.take 11=R at ok8 l11;generalize qs.take 11=S at ok8;have lS:(S.map V.ref).length=R.length:=by rw[ae];exact ok8.at_.1
   have R0:=ok8.n0
   refine⟨fun σ H'=>∃k:Nat,σ=[some (.ref a),some (.ref p),some (.ref b),some (.ref l'),some (.int x),some (.int y),some (.int u),some (.int v),some (.ref cn),some (.ref l2),some (.int (k:Int)),none] /\ k<=R.length /\ SpOk H' b l' x y u v S R /\ FD c 92 H' p,?_,?_⟩
   ·o_head ⟨jx,ok8.sp,lS,rI⟩
    refine⟨_,_,f8,by decide,by omega,by omega,fun r H' r0 r1 d=> ?_⟩;exact⟨r.toNat,by omega,by omega,ok8.dx f8 d,d.feed⟩
   rintro σ H9 ⟨k,rfl,kl,ok9,f9⟩;refine⟨fun σ H'=>∃(t:Addr) (s:P2),σ=[some (.ref a),some (.ref p),some (.ref b),some (.ref l'),some (.int x),some (.int y),some (.int u),some (.int v),some (.ref cn),some (.ref l2),some (.int (k:Int)),some (.ref t)] /\ H' t=some (.tup [.int s.1,.int s.2]) /\ ¬ux x y u v s /\ SpOk H' b l' x y u v S R /\ FD c 93 H' p,?_,?_⟩
   ·walk_at "RD"
    refine⟨by decide,fun c1 h1=>⟨by decide,fun c2 h2=>⟨by decide,fun c3 h3=>⟨by decide,fun c4 h4=>⟨by decide,fun c5 h5=> ?_⟩⟩⟩⟩⟩;have X:=((((Ext.upd (o:= .tup [.int (u+1),.int v]) h1).then (o:= .tup [.int (x-1),.int v]) h2).then (o:= .tup [.int x,.int (v+1)]) h3).then (o:= .tup [.int u,.int (y-1)]) h4).then (o:= .lst [.ref c1,.ref c2,.ref c3,.ref c4]) h5
    have F:=f9.ext X
    o_head ⟨jx⟩
    refine⟨_,_,F,by decide,fun r H' r0 r1 d=> ?_⟩;have okX:=(ok9.ext X).dx F d
    have e5:=d.keep _ _ (F.lst iQ) iQ
    have e1:=iZ (o:= .lst [.ref c1,.ref c2,.ref c3,.ref c4]) h5 (iZ (o:= .tup [.int u,.int (y-1)]) h4 (iZ (o:= .tup [.int x,.int (v+1)]) h3 (iZ (o:= .tup [.int (x-1),.int v]) h2 (iQ (H:=H9) (a:=c1) (o:= .tup [.int (u+1),.int v])))))
    have k1:=d.keep _ _ (F.tup e1) e1
    have e2:=iZ (o:= .lst [.ref c1,.ref c2,.ref c3,.ref c4]) h5 (iZ (o:= .tup [.int u,.int (y-1)]) h4 (iZ (o:= .tup [.int x,.int (v+1)]) h3 iQ))
    have k2:=d.keep _ _ (F.tup e2) e2
    have e3:=iZ (o:= .lst [.ref c1,.ref c2,.ref c3,.ref c4]) h5 (iZ (o:= .tup [.int u,.int (y-1)]) h4 iQ)
    have k3:=d.keep _ _ (F.tup e3) e3
    have e4:=iZ (o:= .lst [.ref c1,.ref c2,.ref c3,.ref c4]) h5 iQ
    have k4:=d.keep _ _ (F.tup e4) e4
    have hr:r=0∨r=1∨r=2∨r=3:=by omega
    rcases hr with rfl|rfl|rfl|rfl
    ·o_head ⟨e5⟩
     exact⟨(u+1,v),k1,by unfold ux;dsimp only;omega,okX,d.feed⟩
    ·o_head ⟨e5⟩
     exact⟨(x-1,v),k2,by unfold ux;dsimp only;omega,okX,d.feed⟩
    ·o_head ⟨e5⟩
     exact⟨(x,v+1),k3,by unfold ux;dsimp only;omega,okX,d.feed⟩
    ·o_head ⟨e5⟩
     exact⟨(u,y-1),k4,by unfold ux;dsimp only;omega,okX,d.feed⟩
   rintro σ H10 ⟨t,s,rfl,et,bad,ok10,f10⟩;refine⟨fun σ H'=>σ=[some (.ref a),some (.ref p),some (.ref b),some (.ref l'),some (.int x),some (.int y),some (.int u),some (.int v),some (.ref cn),some (.ref l2),some (.int (k:Int)),some (.ref t)] /\ Ext H10 H',?_,?_⟩
   ·o_head ⟨ok10.sp⟩
    intro c1 h1;rw[mE];refine⟨by decide,fun c2 h2=> ?_⟩;rw[iZ h2 iQ,jM,jh];refine⟨by rw[aC,lS];omega,fun c3 h3=> ?_⟩;rw[iZ h3 (iZ h2 (iZ h1 ok10.sp)),jM,jh];intro c4 h4;rw[iZ h4 iQ,jM,jh,qc];refine⟨by rw[al,aC,aV,lS];show _+1+_<_;omega,fun c5 h5=> ?_⟩;have X:=(((((Ext.upd (o:= .lst ((S.map V.ref).take k)) h1).then (o:= .lst [.ref t]) h2).then (o:= .lst ((S.map V.ref).take k++[.ref t])) h3).then (o:= .lst ((S.map V.ref).drop k)) h4).then (o:= .lst ((S.map V.ref).take k++[.ref t]++(S.map V.ref).drop k)) h5)
    have okX:=ok10.ext X
    o_head ⟨j5⟩
    refine⟨x,y,u,v,S.take k++[t]++S.drop k,R.take k++[s]++R.drop k,⟨okX.bx,by rw[iQ,au,au,cM,fT];rfl,((okX.at_.take k).append (.one (X _ _ et))).append (okX.at_.drop k),(bb (ok6)).b4,?_⟩,[.str "spot",.int (k:Int)],.inr (.inr ⟨⟨xu,yv⟩,⟨?_,?_⟩,k,yc ok10.ins ok10.nd kl (.inl bad),rfl⟩),fun t5 H11 x11 e11=>⟨by decide,fun p1 hp1=> ?_⟩⟩
    ·rw[al,al,aC,aV];show _+1+_<_;omega
    ·rw[al,al,aC,aV];show _<_+1+_;omega
    ·rw[al,al,aC,aV];show _+1+_<=_;omega
    ·refine⟨_,_,nA (iZ hp1 e11),nA iQ,pf _,pf _,?_⟩;rw[vN];exact(X.trans x11).then hp1
   rintro σ H11 ⟨rfl,x11⟩;have ok11:=ok10.ext x11
   have f11:=f10.ext x11
   o_head ⟨jx,ok11.sp,lS,rI⟩
   refine⟨_,_,f11,by decide,by omega,by omega,fun r H' r0 r1 d=> ?_⟩;have okd:=ok11.dx f11 d
   obtain⟨q,hq⟩:∃q,S[r.toNat]? =some q:=⟨_,aa (by rw[okd.at_.1];omega)⟩
   obtain⟨s2,hs1,hs2⟩:=okd.at_.at hq
   have aq:atI (S.map V.ref) r=some (.ref q):=by
    have:=jz (xs:=S.map V.ref) (j:=r.toNat) (v:= .ref q) (by rw[ax,hq];rfl)
    rwa [Int.toNat_of_nonneg r0] at this
   o_head ⟨okd.sp,aq,rI,rI⟩
   refine⟨by decide,fun c1 h1=> ?_⟩;rw[iZ h1 okd.sp,jM,jh];refine⟨by rw[lS];omega,fun c2 h2=> ?_⟩;have X:=(Ext.upd (o:= .lst [.ref q]) h1).then (o:= .lst (S.map V.ref++[.ref q])) h2
   have okX:=okd.ext X
   have bd:FirstBad x y u v (R++[s2]) R.length:=by
    have:=yc (rest:=[]) (k:=R.length) (r:=s2) okd.ins okd.nd (aI _) (.inr (by rw[aW];exact ah hs1))
    rwa [aW,aK] at this
   o_head ⟨j5⟩
   refine⟨x,y,u,v,S++[q],R++[s2],⟨okX.bx,by rw[iQ,au];rfl,okX.at_.append (.one (X _ _ hs2)),(bb ok6).b4,by rw[al];show _+1<_;omega⟩,[.str "spot",.int (R.length:Int)],.inr (.inr ⟨⟨xu,yv⟩,⟨by rw[al];show _<_+1;omega,by rw[al];show _+1<=_;omega⟩,R.length,bd,rfl⟩),fun t5 H12 x12 e12=> ?_⟩
   o_head ⟨x12 _ _ okX.sp,lS,rI,rI⟩
   refine⟨by decide,fun p1 hp1=> ?_⟩;refine⟨_,_,nA (iZ hp1 e12),nA iQ,pf _,pf _,?_⟩;rw[vN];exact h _
end
end LW
namespace LW
open PySem L2 MA PyProof.Rows
theorem nj{us:List Value}(h:us.length=1):∃u0,us=[u0]:=by
 obtain _|⟨u0,us⟩:=us
 ·cases h
 cases us with
 |nil=>exact⟨u0,rfl⟩
 |cons a r=>simp at h
theorem ko{us:List Value}(h:us.length=2):∃u0 u1,us=[u0,u1]:=by
 obtain _|⟨u0,us⟩:=us
 ·cases h
 obtain _|⟨u1,us⟩:=us
 ·cases h
 cases us with
 |nil=>exact⟨u0,u1,rfl⟩
 |cons a r=>simp at h
theorem qK{us:List Value}(h:us.length=3):∃u0 u1 u2,us=[u0,u1,u2]:=by
 obtain _|⟨u0,us⟩:=us
 ·cases h
 obtain _|⟨u1,us⟩:=us
 ·cases h
 obtain _|⟨u2,us⟩:=us
 ·cases h
 cases us with
 |nil=>exact⟨u0,u1,u2,rfl⟩
 |cons a r=>simp at h
theorem yS{us:List Value}(h:us.length=4):∃u0 u1 u2 u3,us=[u0,u1,u2,u3]:=by
 obtain _|⟨u0,us⟩:=us
 ·cases h
 obtain _|⟨u1,us⟩:=us
 ·cases h
 obtain _|⟨u2,us⟩:=us
 ·cases h
 obtain _|⟨u3,us⟩:=us
 ·cases h
 cases us with
 |nil=>exact⟨u0,u1,u2,u3,rfl⟩
 |cons a r=>simp at h
theorem all_mk:AllMk:=by
 intro l w K h mg fa X G hfa f_divisor od_divisor an_divisor sl_divisor oc_divisor kV_divisor dc_divisor pm_divisor cd_divisor ct_divisor f_sign od_sign an_sign sl_sign oc_sign kV_sign dc_sign pm_sign cd_sign ct_sign f_point_of od_point_of an_point_of sl_point_of oc_point_of kV_point_of dc_point_of pm_point_of cd_point_of ct_point_of f_spot_point od_spot_point an_spot_point sl_spot_point oc_spot_point kV_spot_point dc_spot_point pm_spot_point cd_spot_point ct_spot_point f_fraction_of od_fraction_of an_fraction_of sl_fraction_of oc_fraction_of kV_fraction_of dc_fraction_of pm_fraction_of cd_fraction_of ct_fraction_of f_less od_less an_less sl_less oc_less kV_less dc_less pm_less cd_less ct_less f_ahead od_ahead an_ahead sl_ahead oc_ahead kV_ahead dc_ahead pm_ahead cd_ahead ct_ahead f_scaled_square od_scaled_square an_scaled_square sl_scaled_square oc_scaled_square kV_scaled_square dc_scaled_square pm_scaled_square cd_scaled_square ct_scaled_square f_square od_square an_square sl_square oc_square kV_square dc_square pm_square cd_square ct_square f_line_of od_line_of an_line_of sl_line_of oc_line_of kV_line_of dc_line_of pm_line_of cd_line_of ct_line_of f_between od_between an_between sl_between oc_between kV_between dc_between pm_between cd_between ct_between f_excess od_excess an_excess sl_excess oc_excess kV_excess dc_excess pm_excess cd_excess ct_excess f_meet od_meet an_meet sl_meet oc_meet kV_meet dc_meet pm_meet cd_meet ct_meet f_check_box od_check_box an_check_box sl_check_box oc_check_box kV_check_box dc_check_box pm_check_box cd_check_box ct_check_box f_has_point od_has_point an_has_point sl_has_point oc_has_point kV_has_point dc_has_point pm_has_point cd_has_point ct_has_point f_in_box od_in_box an_in_box sl_in_box oc_in_box kV_in_box dc_in_box pm_in_box cd_in_box ct_in_box f_check_count od_check_count an_check_count sl_check_count oc_check_count kV_check_count dc_check_count pm_check_count cd_check_count ct_check_count f_check_spots od_check_spots an_check_spots sl_check_spots oc_check_spots kV_check_spots dc_check_spots pm_check_spots cd_check_spots ct_check_spots f_check_box_and_spots od_check_box_and_spots an_check_box_and_spots sl_check_box_and_spots oc_check_box_and_spots kV_check_box_and_spots dc_check_box_and_spots pm_check_box_and_spots cd_check_box_and_spots ct_check_box_and_spots f_others_of od_others_of an_others_of sl_others_of oc_others_of kV_others_of dc_others_of pm_others_of cd_others_of ct_others_of f_box_field od_box_field an_box_field sl_box_field oc_box_field kV_box_field dc_box_field pm_box_field cd_box_field ct_box_field f_crossing od_crossing an_crossing sl_crossing oc_crossing kV_crossing dc_crossing pm_crossing cd_crossing ct_crossing f_rest od_rest an_rest sl_rest oc_rest kV_rest dc_rest pm_rest cd_rest ct_rest f_from_first od_from_first an_from_first sl_from_first oc_from_first kV_from_first dc_from_first pm_from_first cd_from_first ct_from_first f_cut od_cut an_cut sl_cut oc_cut kV_cut dc_cut pm_cut cd_cut ct_cut f_cut_each od_cut_each an_cut_each sl_cut_each oc_cut_each kV_cut_each dc_cut_each pm_cut_each cd_cut_each ct_cut_each f_far_land od_far_land an_far_land sl_far_land oc_far_land kV_far_land dc_far_land pm_far_land cd_far_land ct_far_land f_far_lands od_far_lands an_far_lands sl_far_lands oc_far_lands kV_far_lands dc_far_lands pm_far_lands cd_far_lands ct_far_lands f_farthest od_farthest an_farthest sl_farthest oc_farthest kV_farthest dc_farthest pm_farthest cd_farthest ct_farthest f_middle od_middle an_middle sl_middle oc_middle kV_middle dc_middle pm_middle cd_middle ct_middle f_ring_centres od_ring_centres an_ring_centres sl_ring_centres oc_ring_centres kV_ring_centres dc_ring_centres pm_ring_centres cd_ring_centres ct_ring_centres f_least_ring od_least_ring an_least_ring sl_least_ring oc_least_ring kV_least_ring dc_least_ring pm_least_ring cd_least_ring ct_least_ring f_cut_off od_cut_off an_cut_off sl_cut_off oc_cut_off kV_cut_off dc_cut_off pm_cut_off cd_cut_off ct_cut_off f_land_within od_land_within an_land_within sl_land_within oc_land_within kV_land_within dc_land_within pm_land_within cd_land_within ct_land_within f_lands od_lands an_lands sl_lands oc_lands kV_lands dc_lands pm_lands cd_lands ct_lands f__law_feed od__law_feed an__law_feed sl__law_feed oc__law_feed kV__law_feed dc__law_feed pm__law_feed cd__law_feed ct__law_feed f__law_draw od__law_draw an__law_draw sl__law_draw oc__law_draw kV__law_draw dc__law_draw pm__law_draw cd__law_draw ct__law_draw f__law_great od__law_great an__law_great sl__law_great oc__law_great kV__law_great dc__law_great pm__law_great cd__law_great ct__law_great f__law_scale od__law_scale an__law_scale sl__law_scale oc__law_scale kV__law_scale dc__law_scale pm__law_scale cd__law_scale ct__law_scale f__law_spot od__law_spot an__law_spot sl__law_spot oc__law_spot kV__law_spot dc__law_spot pm__law_spot cd__law_spot ct__law_spot f__law_dozen od__law_dozen an__law_dozen sl__law_dozen oc__law_dozen kV__law_dozen dc__law_dozen pm__law_dozen cd__law_dozen ct__law_dozen f__law_spots od__law_spots an__law_spots sl__law_spots oc__law_spots kV__law_spots dc__law_spots pm__law_spots cd__law_spots ct__law_spots f__law_world od__law_world an__law_world sl__law_world oc__law_world kV__law_world dc__law_world pm__law_world cd__law_world ct__law_world f__law_side od__law_side an__law_side sl__law_side oc__law_side kV__law_side dc__law_side pm__law_side cd__law_side ct__law_side f__law_has od__law_has an__law_has sl__law_has oc__law_has kV__law_has dc__law_has pm__law_has cd__law_has ct__law_has f__law_two od__law_two an__law_two sl__law_two oc__law_two kV__law_two dc__law_two pm__law_two cd__law_two ct__law_two f__law_middle od__law_middle an__law_middle sl__law_middle oc__law_middle kV__law_middle dc__law_middle pm__law_middle cd__law_middle ct__law_middle f__law_refused od__law_refused an__law_refused sl__law_refused oc__law_refused kV__law_refused dc__law_refused pm__law_refused cd__law_refused ct__law_refused f_law od_law an_law sl_law oc_law kV_law dc_law pm_law cd_law ct_law cl_LandError cl_NoBox cl_TooMany cl_NoSpot cdt_NoBox cdt_TooMany tk_MOST_SPOTS ynm yq yx yqual yfile yn yN yD yfI ycc ycda ybs ysub ysn yab ycol ydd yod yan yccd ycdd yk0 yk1 yk2 yk3 yk5 yosl yccs ycds ykV ydoc ypm yct yccl ycdl yvs ytf ycdt a_divisor l_divisor c_divisor k_divisor a_sign l_sign c_sign k_sign a_point_of l_point_of c_point_of k_point_of a_spot_point l_spot_point c_spot_point k_spot_point a_fraction_of l_fraction_of c_fraction_of k_fraction_of a_less l_less c_less k_less a_ahead l_ahead c_ahead k_ahead a_scaled_square l_scaled_square c_scaled_square k_scaled_square a_square l_square c_square k_square a_line_of l_line_of c_line_of k_line_of a_between l_between c_between k_between a_excess l_excess c_excess k_excess a_meet l_meet c_meet k_meet a_check_box l_check_box c_check_box k_check_box a_has_point l_has_point c_has_point k_has_point a_in_box l_in_box c_in_box k_in_box a_check_count l_check_count c_check_count k_check_count a_check_spots l_check_spots c_check_spots k_check_spots a_check_box_and_spots l_check_box_and_spots c_check_box_and_spots k_check_box_and_spots a_others_of l_others_of c_others_of k_others_of a_box_field l_box_field c_box_field k_box_field a_crossing l_crossing c_crossing k_crossing a_rest l_rest c_rest k_rest a_from_first l_from_first c_from_first k_from_first a_cut l_cut c_cut k_cut a_cut_each l_cut_each c_cut_each k_cut_each a_far_land l_far_land c_far_land k_far_land a_far_lands l_far_lands c_far_lands k_far_lands a_farthest l_farthest c_farthest k_farthest a_middle l_middle c_middle k_middle a_ring_centres l_ring_centres c_ring_centres k_ring_centres a_least_ring l_least_ring c_least_ring k_least_ring a_cut_off l_cut_off c_cut_off k_cut_off a_land_within l_land_within c_land_within k_land_within a_lands l_lands c_lands k_lands a__law_feed l__law_feed c__law_feed k__law_feed a__law_draw l__law_draw c__law_draw k__law_draw a__law_great l__law_great c__law_great k__law_great a__law_scale l__law_scale c__law_scale k__law_scale a__law_spot l__law_spot c__law_spot k__law_spot a__law_dozen l__law_dozen c__law_dozen k__law_dozen a__law_spots l__law_spots c__law_spots k__law_spots a__law_world l__law_world c__law_world k__law_world a__law_side l__law_side c__law_side k__law_side a__law_has l__law_has c__law_has k__law_has a__law_two l__law_two c__law_two k__law_two a__law_middle l__law_middle c__law_middle k__law_middle a__law_refused l__law_refused c__law_refused k__law_refused a_law l_law c_law k_law z_abs z_enumerate z_int z_isinstance z_len z_list z_max z_min z_range z_super a_MOST_SPOTS a_LandError a_NoBox a_TooMany a_NoSpot x1_NoBox x2_NoBox x3_NoBox x4_NoBox x5_NoBox x6_NoBox x7_NoBox x8_NoBox x9_NoBox x1_TooMany x2_TooMany x3_TooMany x4_TooMany x5_TooMany x6_TooMany x7_TooMany x8_TooMany x9_TooMany y1_ y2_ y3_ y4_ y5_ y6_ y7_ y8_ y9_ y10_ y11_ y12_ y14_ y15_ y16_ y17_ y18_ y19_ y20_ y21_ y22_ y23_ y24_ y25_ y26_ y27_ y28_ m_NoBox_NoBox m_TooMany_NoBox m_TooMany_TooMany m_NoSpot_NoBox m_NoSpot_TooMany m_NoSpot_NoSpot j_NoBox_TooMany_NoSpot j_TooMany_NoBox_NoSpot;have e:=hfa.symm.trans (aF X G a_law)
 cases e;have T:Txt l.prog K mg ⟨cl_LandError,cl_NoBox,cl_TooMany,cl_NoSpot⟩:=⟨b9 X G z_abs,b9 X G z_enumerate,b9 X G z_int,b9 X G z_isinstance,b9 X G z_len,b9 X G z_list,b9 X G z_max,b9 X G z_min,b9 X G z_range,b9 X G z_super,⟨_,⟨_,_,_,_,_,_,_,_,_,_,_,_,_,_,_,y1_,y2_,y3_,y4_,y5_⟩,⟨_,⟨14,17,14,21⟩,⟨14,23,14,25⟩,_,_,⟨15,8,15,13⟩,⟨15,8,15,15⟩,⟨15,8,15,24⟩,⟨15,25,15,46⟩,⟨15,8,15,47⟩,⟨15,8,15,47⟩,⟨16,8,16,12⟩,⟨16,8,16,15⟩,⟨16,18,16,20⟩,⟨16,8,16,20⟩,_,_,_,_,_,_,_,_,_,_,_,_,_,_,_,_,_,_,y6_,y7_,y8_,y9_,y10_,y11_,y12_,rfl⟩,y14_,y15_,y16_,y17_,y18_,y19_⟩,y20_,⟨y21_,y22_,y23_,y24_,y25_,by rw[y26_];rfl,y27_,y17_⟩,y19_,y28_,aF X G a_LandError,aF X G a_NoBox,aF X G a_TooMany,aF X G a_NoSpot,⟨x1_NoBox,x2_NoBox,x3_NoBox,x4_NoBox,x5_NoBox,x6_NoBox,(by rw[x7_NoBox];rfl),x8_NoBox,x9_NoBox⟩,⟨x1_TooMany,x2_TooMany,x3_TooMany,x4_TooMany,x5_TooMany,x6_TooMany,(by rw[x7_TooMany];rfl),x8_TooMany,x9_TooMany⟩,⟨_,aF X G a_MOST_SPOTS⟩,m_NoBox_NoBox,m_TooMany_NoBox,m_TooMany_TooMany,m_NoSpot_NoBox,m_NoSpot_TooMany,m_NoSpot_NoSpot,j_NoBox_TooMany_NoSpot,j_TooMany_NoBox_NoSpot⟩
 have U_divisor:=jp (st:=s_divisor) l_divisor c_divisor k_divisor
 have B_divisor:=U_divisor.binds (ps:=["one","other"]) fun _ _ _ _ _ _ us hl=>by obtain⟨u0,u1,rfl⟩:=ko hl;rfl
 have U_sign:=jp (st:=s_sign) l_sign c_sign k_sign
 have B_sign:=U_sign.binds (ps:=["number"]) fun _ _ _ _ _ _ us hl=>by obtain⟨u0,rfl⟩:=nj hl;rfl
 have U_point_of:=jp (st:=s_point_of) l_point_of c_point_of k_point_of
 have B_point_of:=U_point_of.binds (ps:=["x","y","w"]) fun _ _ _ _ _ _ us hl=>by obtain⟨u0,u1,u2,rfl⟩:=qK hl;rfl
 have U_spot_point:=jp (st:=s_spot_point) l_spot_point c_spot_point k_spot_point
 have B_spot_point:=U_spot_point.binds (ps:=["spot"]) fun _ _ _ _ _ _ us hl=>by obtain⟨u0,rfl⟩:=nj hl;rfl
 have U_fraction_of:=jp (st:=s_fraction_of) l_fraction_of c_fraction_of k_fraction_of
 have B_fraction_of:=U_fraction_of.binds (ps:=["top","bottom"]) fun _ _ _ _ _ _ us hl=>by obtain⟨u0,u1,rfl⟩:=ko hl;rfl
 have U_less:=jp (st:=s_less) l_less c_less k_less
 have B_less:=U_less.binds (ps:=["one","other"]) fun _ _ _ _ _ _ us hl=>by obtain⟨u0,u1,rfl⟩:=ko hl;rfl
 have U_ahead:=jp (st:=s_ahead) l_ahead c_ahead k_ahead
 have B_ahead:=U_ahead.binds (ps:=["one","other"]) fun _ _ _ _ _ _ us hl=>by obtain⟨u0,u1,rfl⟩:=ko hl;rfl
 have U_scaled_square:=jp (st:=s_scaled_square) l_scaled_square c_scaled_square k_scaled_square
 have B_scaled_square:=U_scaled_square.binds (ps:=["point","spot"]) fun _ _ _ _ _ _ us hl=>by obtain⟨u0,u1,rfl⟩:=ko hl;rfl
 have U_square:=jp (st:=s_square) l_square c_square k_square
 have B_square:=U_square.binds (ps:=["point","spot"]) fun _ _ _ _ _ _ us hl=>by obtain⟨u0,u1,rfl⟩:=ko hl;rfl
 have U_line_of:=jp (st:=s_line_of) l_line_of c_line_of k_line_of
 have B_line_of:=U_line_of.binds (ps:=["a","b","c"]) fun _ _ _ _ _ _ us hl=>by obtain⟨u0,u1,u2,rfl⟩:=qK hl;rfl
 have U_between:=jp (st:=s_between) l_between c_between k_between
 have B_between:=U_between.binds (ps:=["one","other"]) fun _ _ _ _ _ _ us hl=>by obtain⟨u0,u1,rfl⟩:=ko hl;rfl
 have U_excess:=jp (st:=s_excess) l_excess c_excess k_excess
 have B_excess:=U_excess.binds (ps:=["line","point"]) fun _ _ _ _ _ _ us hl=>by obtain⟨u0,u1,rfl⟩:=ko hl;rfl
 have U_meet:=jp (st:=s_meet) l_meet c_meet k_meet
 have B_meet:=U_meet.binds (ps:=["one","other"]) fun _ _ _ _ _ _ us hl=>by obtain⟨u0,u1,rfl⟩:=ko hl;rfl
 have U_check_box:=jp (st:=s_check_box) l_check_box c_check_box k_check_box
 have B_check_box:=U_check_box.binds (ps:=["box"]) fun _ _ _ _ _ _ us hl=>by obtain⟨u0,rfl⟩:=nj hl;rfl
 have U_has_point:=jp (st:=s_has_point) l_has_point c_has_point k_has_point
 have B_has_point:=U_has_point.binds (ps:=["box","point"]) fun _ _ _ _ _ _ us hl=>by obtain⟨u0,u1,rfl⟩:=ko hl;rfl
 have U_in_box:=jp (st:=s_in_box) l_in_box c_in_box k_in_box
 have B_in_box:=U_in_box.binds (ps:=["box","spot"]) fun _ _ _ _ _ _ us hl=>by obtain⟨u0,u1,rfl⟩:=ko hl;rfl
 have U_check_count:=jp (st:=s_check_count) l_check_count c_check_count k_check_count
 have B_check_count:=U_check_count.binds (ps:=["spots"]) fun _ _ _ _ _ _ us hl=>by obtain⟨u0,rfl⟩:=nj hl;rfl
 have U_check_spots:=jp (st:=s_check_spots) l_check_spots c_check_spots k_check_spots
 have B_check_spots:=U_check_spots.binds (ps:=["spots"]) fun _ _ _ _ _ _ us hl=>by obtain⟨u0,rfl⟩:=nj hl;rfl
 have U_check_box_and_spots:=jp (st:=s_check_box_and_spots) l_check_box_and_spots c_check_box_and_spots k_check_box_and_spots
 have B_check_box_and_spots:=U_check_box_and_spots.binds (ps:=["box","spots"]) fun _ _ _ _ _ _ us hl=>by obtain⟨u0,u1,rfl⟩:=ko hl;rfl
 have U_others_of:=jp (st:=s_others_of) l_others_of c_others_of k_others_of
 have B_others_of:=U_others_of.binds (ps:=["spots","number"]) fun _ _ _ _ _ _ us hl=>by obtain⟨u0,u1,rfl⟩:=ko hl;rfl
 have U_box_field:=jp (st:=s_box_field) l_box_field c_box_field k_box_field
 have B_box_field:=U_box_field.binds (ps:=["box"]) fun _ _ _ _ _ _ us hl=>by obtain⟨u0,rfl⟩:=nj hl;rfl
 have U_crossing:=jp (st:=s_crossing) l_crossing c_crossing k_crossing
 have B_crossing:=U_crossing.binds (ps:=["one","other","here","there"]) fun _ _ _ _ _ _ us hl=>by obtain⟨u0,u1,u2,u3,rfl⟩:=yS hl;rfl
 have U_rest:=jp (st:=s_rest) l_rest c_rest k_rest
 have B_rest:=U_rest.binds (ps:=["corners","edges","excesses","number"]) fun _ _ _ _ _ _ us hl=>by obtain⟨u0,u1,u2,u3,rfl⟩:=yS hl;rfl
 have U_from_first:=jp (st:=s_from_first) l_from_first c_from_first k_from_first
 have B_from_first:=U_from_first.binds (ps:=["rows"]) fun _ _ _ _ _ _ us hl=>by obtain⟨u0,rfl⟩:=nj hl;rfl
 have U_cut:=jp (st:=s_cut) l_cut c_cut k_cut
 have B_cut:=U_cut.binds (ps:=["field","line","number"]) fun _ _ _ _ _ _ us hl=>by obtain⟨u0,u1,u2,rfl⟩:=qK hl;rfl
 have U_cut_each:=jp (st:=s_cut_each) l_cut_each c_cut_each k_cut_each
 have B_cut_each:=U_cut_each.binds (ps:=["field","cuts"]) fun _ _ _ _ _ _ us hl=>by obtain⟨u0,u1,rfl⟩:=ko hl;rfl
 have U_far_land:=jp (st:=s_far_land) l_far_land c_far_land k_far_land
 have B_far_land:=U_far_land.binds (ps:=["box","spots","number"]) fun _ _ _ _ _ _ us hl=>by obtain⟨u0,u1,u2,rfl⟩:=qK hl;rfl
 have U_far_lands:=jp (st:=s_far_lands) l_far_lands c_far_lands k_far_lands
 have B_far_lands:=U_far_lands.binds (ps:=["box","spots"]) fun _ _ _ _ _ _ us hl=>by obtain⟨u0,u1,rfl⟩:=ko hl;rfl
 have U_farthest:=jp (st:=s_farthest) l_farthest c_farthest k_farthest
 have B_farthest:=U_farthest.binds (ps:=["spots","point"]) fun _ _ _ _ _ _ us hl=>by obtain⟨u0,u1,rfl⟩:=ko hl;rfl
 have U_middle:=jp (st:=s_middle) l_middle c_middle k_middle
 have B_middle:=U_middle.binds (ps:=["one","other"]) fun _ _ _ _ _ _ us hl=>by obtain⟨u0,u1,rfl⟩:=ko hl;rfl
 have U_ring_centres:=jp (st:=s_ring_centres) l_ring_centres c_ring_centres k_ring_centres
 have B_ring_centres:=U_ring_centres.binds (ps:=["spots"]) fun _ _ _ _ _ _ us hl=>by obtain⟨u0,rfl⟩:=nj hl;rfl
 have U_least_ring:=jp (st:=s_least_ring) l_least_ring c_least_ring k_least_ring
 have B_least_ring:=U_least_ring.binds (ps:=["spots"]) fun _ _ _ _ _ _ us hl=>by obtain⟨u0,rfl⟩:=nj hl;rfl
 have U_cut_off:=jp (st:=s_cut_off) l_cut_off c_cut_off k_cut_off
 have B_cut_off:=U_cut_off.binds (ps:=["field","spots","number","others"]) fun _ _ _ _ _ _ us hl=>by obtain⟨u0,u1,u2,u3,rfl⟩:=yS hl;rfl
 have U_land_within:=jp (st:=s_land_within) l_land_within c_land_within k_land_within
 have B_land_within:=U_land_within.binds (ps:=["box","spots","number"]) fun _ _ _ _ _ _ us hl=>by obtain⟨u0,u1,u2,rfl⟩:=qK hl;rfl
 have U_lands:=jp (st:=s_lands) l_lands c_lands k_lands
 have B_lands:=U_lands.binds (ps:=["box","spots"]) fun _ _ _ _ _ _ us hl=>by obtain⟨u0,u1,rfl⟩:=ko hl;rfl
 have U__law_feed:=jp (st:=s__law_feed) l__law_feed c__law_feed k__law_feed
 have B__law_feed:=U__law_feed.binds (ps:=["_law_script"]) fun _ _ _ _ _ _ us hl=>by obtain⟨u0,rfl⟩:=nj hl;rfl
 have U__law_draw:=jp (st:=s__law_draw) l__law_draw c__law_draw k__law_draw
 have B__law_draw:=U__law_draw.binds (ps:=["_law_feed_here","_law_many"]) fun _ _ _ _ _ _ us hl=>by obtain⟨u0,u1,rfl⟩:=ko hl;rfl
 have U__law_great:=jp (st:=s__law_great) l__law_great c__law_great k__law_great
 have B__law_great:=U__law_great.binds (ps:=["_law_feed_here","_law_pieces"]) fun _ _ _ _ _ _ us hl=>by obtain⟨u0,u1,rfl⟩:=ko hl;rfl
 have U__law_scale:=jp (st:=s__law_scale) l__law_scale c__law_scale k__law_scale
 have B__law_scale:=U__law_scale.binds (ps:=["_law_feed_here"]) fun _ _ _ _ _ _ us hl=>by obtain⟨u0,rfl⟩:=nj hl;rfl
 have U__law_spot:=jp (st:=s__law_spot) l__law_spot c__law_spot k__law_spot
 have B__law_spot:=U__law_spot.binds (ps:=["_law_feed_here","_law_style"]) fun _ _ _ _ _ _ us hl=>by obtain⟨u0,u1,rfl⟩:=ko hl;rfl
 have U__law_dozen:=jp (st:=s__law_dozen) l__law_dozen c__law_dozen k__law_dozen
 have B__law_dozen:=U__law_dozen.binds (ps:=["_law_feed_here"]) fun _ _ _ _ _ _ us hl=>by obtain⟨u0,rfl⟩:=nj hl;rfl
 have U__law_spots:=jp (st:=s__law_spots) l__law_spots c__law_spots k__law_spots
 have B__law_spots:=U__law_spots.binds (ps:=["_law_feed_here","_law_least","_law_most"]) fun _ _ _ _ _ _ us hl=>by obtain⟨u0,u1,u2,rfl⟩:=qK hl;rfl
 have U__law_world:=jp (st:=s__law_world) l__law_world c__law_world k__law_world
 have B__law_world:=U__law_world.binds (ps:=["_law_feed_here","_law_least","_law_most"]) fun _ _ _ _ _ _ us hl=>by obtain⟨u0,u1,u2,rfl⟩:=qK hl;rfl
 have U__law_side:=jp (st:=s__law_side) l__law_side c__law_side k__law_side
 have B__law_side:=U__law_side.binds (ps:=["_law_one","_law_other","_law_third"]) fun _ _ _ _ _ _ us hl=>by obtain⟨u0,u1,u2,rfl⟩:=qK hl;rfl
 have U__law_has:=jp (st:=s__law_has) l__law_has c__law_has k__law_has
 have B__law_has:=U__law_has.binds (ps:=["_law_field","_law_point"]) fun _ _ _ _ _ _ us hl=>by obtain⟨u0,u1,rfl⟩:=ko hl;rfl
 have U__law_two:=jp (st:=s__law_two) l__law_two c__law_two k__law_two
 have B__law_two:=U__law_two.binds (ps:=["_law_box","_law_spots_here"]) fun _ _ _ _ _ _ us hl=>by obtain⟨u0,u1,rfl⟩:=ko hl;rfl
 have U__law_middle:=jp (st:=s__law_middle) l__law_middle c__law_middle k__law_middle
 have B__law_middle:=U__law_middle.binds (ps:=["_law_box","_law_spots_here"]) fun _ _ _ _ _ _ us hl=>by obtain⟨u0,u1,rfl⟩:=ko hl;rfl
 have U__law_refused:=jp (st:=s__law_refused) l__law_refused c__law_refused k__law_refused
 have B__law_refused:=U__law_refused.binds (ps:=["_law_box","_law_spots_here"]) fun _ _ _ _ _ _ us hl=>by obtain⟨u0,u1,rfl⟩:=ko hl;rfl
 have U_law:=jp (st:=s_law) l_law c_law k_law
 refine⟨aG "law" "law" (i8 s_law) (i6 s_law) (iR s_law) .none kV_law dc_law pm_law an_law cd_law ct_law,fun s v=> .of_eq rfl,fun base X1 G1=> ?_⟩;have F_divisor:FnB l.prog w K mg base (CXE l.prog w) 1 "divisor" ["one","other"] jW:= .of (ok_divisor U_divisor T) (aF X G a_divisor) k_divisor B_divisor
 have F_sign:FnB l.prog w K mg base (CXE l.prog w) 1 "sign" ["number"] mI:= .of (ok_sign U_sign T) (aF X G a_sign) k_sign B_sign
 have F_point_of:FnB l.prog w K mg base (CXE l.prog w) 2 "point_of" ["x","y","w"] jQ:= .of (ok_point_of U_point_of T F_divisor F_sign) (aF X G a_point_of) k_point_of B_point_of
 have F_spot_point:FnB l.prog w K mg base (CXE l.prog w) 1 "spot_point" ["spot"] jR:= .of (ok_spot_point U_spot_point T) (aF X G a_spot_point) k_spot_point B_spot_point
 have F_fraction_of:FnB l.prog w K mg base (CXE l.prog w) 2 "fraction_of" ["top","bottom"] j9:= .of (ok_fraction_of U_fraction_of T F_divisor F_sign) (aF X G a_fraction_of) k_fraction_of B_fraction_of
 have F_less:FnB l.prog w K mg base (CXE l.prog w) 1 "less" ["one","other"] oZ:= .of (ok_less U_less T) (aF X G a_less) k_less B_less
 have F_ahead:FnB l.prog w K mg base (CXE l.prog w) 1 "ahead" ["one","other"] ny:= .of (ok_ahead U_ahead T) (aF X G a_ahead) k_ahead B_ahead
 have F_scaled_square:FnB l.prog w K mg base (CXE l.prog w) 1 "scaled_square" ["point","spot"] jt:= .of (ok_scaled_square U_scaled_square T) (aF X G a_scaled_square) k_scaled_square B_scaled_square
 have F_square:FnB l.prog w K mg base (CXE l.prog w) 3 "square" ["point","spot"] l5:= .of (ok_square U_square T F_scaled_square F_fraction_of) (aF X G a_square) k_square B_square
 have F_line_of:FnB l.prog w K mg base (CXE l.prog w) 2 "line_of" ["a","b","c"] lD:= .of (ok_line_of U_line_of T F_divisor) (aF X G a_line_of) k_line_of B_line_of
 have F_between:FnB l.prog w K mg base (CXE l.prog w) 3 "between" ["one","other"] jY:= .of (ok_between U_between T F_line_of) (aF X G a_between) k_between B_between
 have F_excess:FnB l.prog w K mg base (CXE l.prog w) 1 "excess" ["line","point"] l7:= .of (ok_excess U_excess T) (aF X G a_excess) k_excess B_excess
 have F_meet:FnB l.prog w K mg base (CXE l.prog w) 3 "meet" ["one","other"] oY:= .of (ok_meet U_meet T F_point_of) (aF X G a_meet) k_meet B_meet
 have F_check_box:FnB l.prog w K mg base (CXE l.prog w) 1 "check_box" ["box"] (j1 ⟨cl_LandError,cl_NoBox,cl_TooMany,cl_NoSpot⟩):= .of (ok_check_box U_check_box T) (aF X G a_check_box) k_check_box B_check_box
 have F_has_point:FnB l.prog w K mg base (CXE l.prog w) 1 "has_point" ["box","point"] lg:= .of (ok_has_point U_has_point T) (aF X G a_has_point) k_has_point B_has_point
 have F_in_box:FnB l.prog w K mg base (CXE l.prog w) 2 "in_box" ["box","spot"] lE:= .of (ok_in_box U_in_box T F_spot_point F_has_point) (aF X G a_in_box) k_in_box B_in_box
 have F_check_count:FnB l.prog w K mg base (CXE l.prog w) 1 "check_count" ["spots"] (jI ⟨cl_LandError,cl_NoBox,cl_TooMany,cl_NoSpot⟩):= .of (ok_check_count U_check_count T) (aF X G a_check_count) k_check_count B_check_count
 have F_check_spots:FnB l.prog w K mg base (CXE l.prog w) 2 "check_spots" ["spots"] (sD K ⟨cl_LandError,cl_NoBox,cl_TooMany,cl_NoSpot⟩):= .of (ok_check_spots U_check_spots T F_check_count) (aF X G a_check_spots) k_check_spots B_check_spots
 have F_check_box_and_spots:FnB l.prog w K mg base (CXE l.prog w) 3 "check_box_and_spots" ["box","spots"] (nM K ⟨cl_LandError,cl_NoBox,cl_TooMany,cl_NoSpot⟩):= .of (ok_check_box_and_spots U_check_box_and_spots T F_in_box F_check_count F_check_box) (aF X G a_check_box_and_spots) k_check_box_and_spots B_check_box_and_spots
 have F_others_of:FnB l.prog w K mg base (CXE l.prog w) 1 "others_of" ["spots","number"] k9:= .of (ok_others_of U_others_of T) (aF X G a_others_of) k_others_of B_others_of
 have F_box_field:FnB l.prog w K mg base (CXE l.prog w) 2 "box_field" ["box"] jX:= .of (ok_box_field U_box_field T (F_check_box.imp fun _ _ _ _=>xm)) (aF X G a_box_field) k_box_field B_box_field
 have F_crossing:FnB l.prog w K mg base (CXE l.prog w) 3 "crossing" ["one","other","here","there"] kR:= .of (ok_crossing U_crossing T F_point_of) (aF X G a_crossing) k_crossing B_crossing
 have F_rest:FnB l.prog w K mg base (CXE l.prog w) 4 "rest" ["corners","edges","excesses","number"] (rA K):= .of (ok_rest U_rest T F_crossing) (aF X G a_rest) k_rest B_rest
 have F_from_first:FnB l.prog w K mg base (CXE l.prog w) 2 "from_first" ["rows"] (kP K):= .of (ok_from_first U_from_first T F_ahead) (aF X G a_from_first) k_from_first B_from_first
 have F_cut:FnB l.prog w K mg base (CXE l.prog w) 5 "cut" ["field","line","number"] (sC K):= .of (ok_cut U_cut T F_rest F_from_first F_excess) (aF X G a_cut) k_cut B_cut
 have F_cut_each:FnB l.prog w K mg base (CXE l.prog w) 6 "cut_each" ["field","cuts"] (lG K):= .of (ok_cut_each U_cut_each T F_cut) (aF X G a_cut_each) k_cut_each B_cut_each
 have F_far_land:FnB l.prog w K mg base (CXE l.prog w) 7 "far_land" ["box","spots","number"] (mJ K):= .of (ok_far_land U_far_land T F_box_field F_cut_each F_others_of F_between) (aF X G a_far_land) k_far_land B_far_land
 have F_far_lands:FnB l.prog w K mg base (CXE l.prog w) 8 "far_lands" ["box","spots"] (kb K ⟨cl_LandError,cl_NoBox,cl_TooMany,cl_NoSpot⟩):= .of (ok_far_lands U_far_lands T F_far_land F_check_box_and_spots) (aF X G a_far_lands) k_far_lands B_far_lands
 have F_farthest:FnB l.prog w K mg base (CXE l.prog w) 2 "farthest" ["spots","point"] (kQ K):= .of (ok_farthest U_farthest T F_scaled_square) (aF X G a_farthest) k_farthest B_farthest
 have F_middle:FnB l.prog w K mg base (CXE l.prog w) 3 "middle" ["one","other"] l6:= .of (ok_middle U_middle T F_point_of) (aF X G a_middle) k_middle B_middle
 have F_ring_centres:FnB l.prog w K mg base (CXE l.prog w) 4 "ring_centres" ["spots"] (lH K):= .of (ok_ring_centres U_ring_centres T F_between F_meet F_middle F_spot_point) (aF X G a_ring_centres) k_ring_centres B_ring_centres
 have F_least_ring:FnB l.prog w K mg base (CXE l.prog w) 5 "least_ring" ["spots"] (oX K ⟨cl_LandError,cl_NoBox,cl_TooMany,cl_NoSpot⟩):= .of (ok_least_ring U_least_ring T F_square F_scaled_square F_less F_ring_centres F_farthest F_check_spots) (aF X G a_least_ring) k_least_ring B_least_ring
 have F_cut_off:FnB l.prog w K mg base (CXE l.prog w) 7 "cut_off" ["field","spots","number","others"] (nL K):= .of (ok_cut_off U_cut_off T F_between F_cut_each) (aF X G a_cut_off) k_cut_off B_cut_off
 have F_land_within:FnB l.prog w K mg base (CXE l.prog w) 8 "land_within" ["box","spots","number"] (pb K):= .of (ok_land_within U_land_within T F_others_of F_box_field F_cut_off) (aF X G a_land_within) k_land_within B_land_within
 have F_lands:FnB l.prog w K mg base (CXE l.prog w) 9 "lands" ["box","spots"] (nu K):= .of (ok_lands U_lands T F_land_within (F_check_box_and_spots.imp fun _ _ _ _=>xl)) (aF X G a_lands) k_lands B_lands
 have F__law_feed:FnB l.prog w K mg base (CXE l.prog w) 1 "_law_feed" ["_law_script"] (pc K):= .of (ok__law_feed U__law_feed T) (aF X G a__law_feed) k__law_feed B__law_feed
 have F__law_draw:FnB l.prog w K mg base (CXE l.prog w) 1 "_law_draw" ["_law_feed_here","_law_many"] jx:= .of (ok__law_draw U__law_draw T) (aF X G a__law_draw) k__law_draw B__law_draw
 have F__law_great:FnB l.prog w K mg base (CXE l.prog w) 2 "_law_great" ["_law_feed_here","_law_pieces"] nv:= .of (ok__law_great U__law_great T F__law_draw) (aF X G a__law_great) k__law_great B__law_great
 have F__law_scale:FnB l.prog w K mg base (CXE l.prog w) 3 "_law_scale" ["_law_feed_here"] nr:= .of (ok__law_scale U__law_scale T F__law_great F__law_draw) (aF X G a__law_scale) k__law_scale B__law_scale
 have F__law_spot:FnB l.prog w K mg base (CXE l.prog w) 2 "_law_spot" ["_law_feed_here","_law_style"] oW:= .of (ok__law_spot U__law_spot T F__law_draw) (aF X G a__law_spot) k__law_spot B__law_spot
 have F__law_dozen:FnB l.prog w K mg base (CXE l.prog w) 2 "_law_dozen" ["_law_feed_here"] nw:= .of (ok__law_dozen U__law_dozen T F__law_draw) (aF X G a__law_dozen) k__law_dozen B__law_dozen
 have F__law_spots:FnB l.prog w K mg base (CXE l.prog w) 3 "_law_spots" ["_law_feed_here","_law_least","_law_most"] (nq K):= .of (ok__law_spots U__law_spots T F__law_draw F__law_spot F__law_dozen) (aF X G a__law_spots) k__law_spots B__law_spots
 have F__law_world:FnB l.prog w K mg base (CXE l.prog w) 4 "_law_world" ["_law_feed_here","_law_least","_law_most"] (nl K):= .of (ok__law_world U__law_world T F__law_draw F__law_scale F__law_spots) (aF X G a__law_world) k__law_world B__law_world
 have F__law_side:FnB l.prog w K mg base (CXE l.prog w) 1 "_law_side" ["_law_one","_law_other","_law_third"] rq:= .of (ok__law_side U__law_side T) (aF X G a__law_side) k__law_side B__law_side
 have F__law_has:FnB l.prog w K mg base (CXE l.prog w) 2 "_law_has" ["_law_field","_law_point"] (sB K):= .of (ok__law_has U__law_has T F__law_side) (aF X G a__law_has) k__law_has B__law_has
 have F__law_two:FnB l.prog w K mg base (CXE l.prog w) 10 "_law_two" ["_law_box","_law_spots_here"] (sx K):= .of (ok__law_two U__law_two T (F_far_lands.imp fun _ _ _ _=>kU) F_lands) (aF X G a__law_two) k__law_two B__law_two
 have F__law_middle:FnB l.prog w K mg base (CXE l.prog w) 9 "_law_middle" ["_law_box","_law_spots_here"] (sy K):= .of (ok__law_middle U__law_middle T F__law_has (F_far_lands.imp fun _ _ _ _=>kU) (F_least_ring.imp fun _ _ _ _=>u6)) (aF X G a__law_middle) k__law_middle B__law_middle
 have F__law_refused:FnB l.prog w K mg base (CXE l.prog w) 9 "_law_refused" ["_law_box","_law_spots_here"] (j5 K):= .of (ok__law_refused U__law_refused T F_far_lands) (aF X G a__law_refused) k__law_refused B__law_refused
 exact ok_law U_law T F__law_draw F__law_refused F__law_middle F__law_two (F_far_lands.imp fun _ _ _ _=>kU) F__law_world F__law_feed
end LW
end
theorem PySem.Challenge.cw_nearlands_k70_far_lands_of_few_holds : PySem.Challenge.rw_nearlands_k70_far_lands_of_few.Holds := by
 exact LW.early LW.all_mk
