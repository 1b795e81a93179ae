import PyProof.Rows.All
import Wide.All
import OpenK.AllK
import Wide.FinOn
import Lean
import PyProof.EqAt
import PyProof.EqKinds
import PyProof.TupleCall
import PyProof.ExcArgsOwn
import PyProof.ExcAttrAll.ValueError
import KE.KTryMore
import PyProof.NsDelKeeps
import PyProof.ExcBaseAll.ValueError
import KE.RegKTryMore
import KE.RegKIsAll
import KE.KRevSl
import PyProof.ZipIter
import PyProof.DictIter
import KE.KDictIter
import KE.KDictList
import PyProof.EnumStmt
import PyProof.WalksEnum
import PyProof.EnumMake
import PyProof.Rows.EnumRows
import PyProof.Rows.InDataRows
import PyProof.SumWalk
import PyProof.Rows.SeqCalls
import PyProof.WalksMore
import PyProof.Rows.SetFrom
import PyProof.SetRoads
import PyProof.Rows.TupMore
import PyProof.Rows.SortWalk
import PyProof.MaxThree
import KE.KSortTup
import KE.KLam
import PyProof.ListRange
import PySem.Challenge.RW_nearlands_k41_the_seam
open List renaming getElem?_eq_some_iff → aa, getElem?_eq_getElem → ag, length_map → ah, length_append → aq, cons_append → ar, getElem?_map → au, mem_of_getElem? → av, mem_cons → aw, map_append → ay, not_mem_nil → az, size_toArray → aA, mem_map → aC, length_take → aF, getElem?_append_right → aH, length_drop → aI, append_nil → aL, map_cons → aM, getElem?_append_left → aN, mem_cons_of_mem → aP, nil_append → aS, mem_append → aT, length_cons → aV, nodup_append → aX, getElem?_take_of_lt → aY, getD_eq_getElem?_getD → aZ, nodup_cons → bf, getElem?_of_mem → bg, take_length → bo, length_nil → bu, mem_singleton → bA, flatMap_cons → bB, mem_append_right → bE, getElem?_eq_none → bF, getElem?_zip_eq_some → bG, range → bH, append_assoc → bI, mem_cons_self → bJ, mem_append_left → bK, map_nil → bO, Nodup → bS, drop_eq_getElem_cons → bT, take_succ → bU, toArray → bV, of_mem_zip → bZ, getElem_inj → b7, getElem?_drop → cf, pairwise_iff_getElem → cp, flatMap_append → cu, dropLast_concat_getLast → cx, cons → cA, take_append_drop → cF, lookup_cons → cH, getElem_mem → cI, length_range → cK, replicate_succ → cM, take_of_length_le → cN, map_take → cO, take_add_one → cR, pairwise_map → cS, getElem?_cons_zero → cU, getElem?_cons_succ → cV, replicate_zero → cW, zip_cons_cons → cZ, find?_cons → dg, mem_iff_getElem? → di, map_map → dj, map_drop → du, pairwise_append → dB, mem_of_mem_take → dC, replicate → dE, drop_zero → dF, flatMap_nil → dG, cons_inj_right → dJ, drop_succ_cons → dM, getElem?_replicate → dQ, any_cons → dR, set_cons_zero → dU, set_cons_succ → dW, ext_getElem? → d7, eraseIdx_eq_take_drop_succ → ed, length_replicate → eF, all_eq_true → eO, mem_flatMap → eU, mem_iff_getElem → eZ, filterMap_cons → fb, length_reverse → fe, forIn_cons → fg, length_zip → fi, nodup_iff_pairwise_ne → fk, mem_filterMap → fo, any_eq_false → fF, pairwise_filterMap → fJ, dropLast → fK, getLast? → fL, nodup_range → fP, getElem?_set_self → fQ, drop_eq_nil_of_le → fT, head?_eq_getElem? → fV, length_singleton → fZ, getElem?_toArray → f6, reverse → f9, singleton_append → gf, perm_append_comm → gj, filterMap_append → gk, getElem?_set_ne → gs, mem_of_mem_drop → gu, length_eraseIdx → gw, nodup_nil → gy, take_zero → gz, length → gA, getElem?_range → gB, map_congr_left → gC, all_cons → gE, append_of_mem → gG, filterMap_nil → gK, reverse_cons → gN, zipIdx_cons → gV, getElem_zip → gY, map_fst_zip → gZ, drop_length → hU, flatMap_def → hV, mem_filter → ib, foldl_cons → ic, zipIdx_nil → ie, mem_range → io, forIn_nil → iw, map → iD, getD → iH
open PySem.W renaming Frag → ao, keepIn → aD, nsIn → aE, codeIn → aG, mg_of → aJ, fnOf → aK, mg_none_of → bq, kia_one → cj, kitOne → cy, methodObj → fD, cellsFrom_some → fR, instObj → fW, OpenLaw → fX, lookIn → gx, callWith_K → gD, kitx_list → gL, kitx_dict → gM, plainGet → gS, findIn → iu, WalkO → iA
open Nat renaming le_refl → ax, lt_of_lt_of_le → aR, ne_of_lt → aU, zero_le → bb, lt_of_le_of_lt → bP, le_trans → cv, lt_irrefl → cz, mod_eq_of_lt → cX, lt_succ_of_lt → dm, pow_le_pow_right → dA, ne_of_gt → dN, lt_trans → dO, lt_or_eq_of_le → ft, zero_add → fw, eq_of_mul_eq_mul_left → fB, lt_succ_self → fN, le_of_lt → fY, mod_self → gi, le_of_dvd → gJ, sub_self → gQ, add_comm → gR, succ_ne_self → gU, gcd_mul_left → gX, min_eq_right → hJ, not_lt_zero → ig, min_eq_left → ik, mod_lt → iz
open Int renaming gcd → aB, mul_eq_zero → bp, eq_of_mul_eq_mul_right → bC, gcd_eq_natAbs_gcd_natAbs → bD, mul_pos → bL, mul_neg_of_pos_of_neg → bQ, zero_add → bR, mul_ediv_cancel_left → bX, emod_lt_of_pos → cg, mul_zero → ci, mul_neg_of_neg_of_pos → cq, mul_lt_mul_of_pos_right → cB, emod_nonneg → cE, mul_le_mul_of_nonneg_right → cG, le_refl → cP, mul_one → df, dvd_trans → dq, lt_trichotomy → dr, gcd_eq_zero_iff → dH, mul_nonneg_of_nonpos_of_nonpos → dP, lt_or_gt_of_ne → dS, cast_ofNat_Int → dY, gcd_dvd_right → d8, mul_nonneg → eo, zero_mul → eG, le_of_lt → eI, ne_of_gt → eJ, natAbs_dvd_natAbs → eN, gcd_dvd_left → eQ, mul_ediv_cancel' → e8, ediv_mul_cancel → fj, natAbs_natCast → fu, pow_succ → fv, natAbs_mul → fA, eq_of_mul_eq_mul_left → fC, one_pos → fH, eq_ofNat_of_zero_le → fM, neg_fdiv_neg → fO, mul_comm → f7, add_zero → gg, mul_ne_zero → gh, mul_assoc → gH, gcd_mul_right → gO, le_trans → gP, gcd_mul_left → gW, natCast_emod → hZ, dvd_coe_gcd → ii, one_mul → ij
open PySem renaming Spec → aO, boot_len → aW, mem_of_lookup → cT, call → iy, Within → iF
open Or renaming inl → aQ, inr → gF
open Option renaming some → ba, isSome_iff_exists → cw, map_some → cD, map_eq_some_iff → cY, isSome_some → de, toList_none → dZ, join_some → eV, toList_some → fz, getD_none → gT, toList → iE
open Bool renaming false_ne_true → bW, and_eq_true → b8, false_eq_true → cc, true_eq_false → dX, not_eq_true' → d9, eq_iff_iff → fh, and_eq_true_iff → gq, and_true → gI, false_and → ir, false_or → iB
open Prod renaming ext → b9, mk → dI, fst → iC
open Array renaming getElem?_eq_getElem → ck, getD_eq_getD_getElem? → dh, length_toList → fc, getD → gm, toList → iG
open PySem.F renaming plainAttrs_list → cJ
open PyProof.Rows renaming callWith_type1 → cL, slot_tuple_getitem → cQ
open List.Pairwise renaming nil → fE
open PySem.AutoSeq1 renaming list_insert_list_int_val_1 → fS
open List.Perm renaming refl → ix
set_option Elab.async false
set_option linter.all false
set_option maxRecDepth 100000
namespace L2
open PySem PySem.Spec PyProof.Rows
noncomputable abbrev Key:=Sum Int Str
noncomputable def uh:Key ->Value ->Bool
 | .inl k,v=>Value.isInt k v
 | .inr x,v=>Value.isStrOf x v
noncomputable def CJ(w:World):Key ->Int
 | .inl k=>hashInt k
 | .inr x=>hashStr w x
theorem jB:∀{k:Key} {v:Value},uh k v=true ->(∃i t,k=Sum.inl i /\ v=Value.int i t)∨(∃x t,k=Sum.inr x /\ v=Value.str x t)
 | .inl i,v,h=>by
  obtain⟨t,e⟩:=Value.isInt_shape (k:=i) (v:=v) h
  exact .inl ⟨i,t,rfl,e⟩
 | .inr x,v,h=>by
  obtain⟨t,e⟩:=Value.isStrOf_shape (x:=x) (v:=v) h
  exact .inr ⟨x,t,rfl,e⟩
theorem Bx(a b:Int):decide ((Sum.inl a:Key)=Sum.inl b)=(a==b):=by
 by_cases e:a=b
 ·subst e;simp
 ·have h:¬(Sum.inl a:Key)=Sum.inl b:=fun q=>e (Sum.inl.inj q)
  rw[decide_eq_false h];exact(beq_eq_false_iff_ne.mpr e).symm
theorem Bu(a b:Str):decide ((Sum.inr a:Key)=Sum.inr b)=decide (a=b):=by
 by_cases e:a=b
 ·subst e;simp
 ·have h:¬(Sum.inr a:Key)=Sum.inr b:=fun q=>e (Sum.inr.inj q)
  rw[decide_eq_false h,decide_eq_false e]
theorem Bw(a:Int)(b:Str):decide ((Sum.inl a:Key)=Sum.inr b)=false:=decide_eq_false (fun q=>nomatch q)
theorem Bv(a:Str)(b:Int):decide ((Sum.inr a:Key)=Sum.inl b)=false:=decide_eq_false (fun q=>nomatch q)
noncomputable def jK(prog:Program)(w:World):PySem.KeyKind prog w Key where
 is:=uh
 hash:=CJ w
 inj:=fun v a b ha hb=>by
  rcases jB ha with⟨i,t,rfl,rfl⟩|⟨x,t,rfl,rfl⟩
  ·rcases jB hb with⟨j,u,rfl,e⟩|⟨y,u,rfl,e⟩
   ·injection e with e1 _;rw[e1]
   ·exact nomatch e
  ·rcases jB hb with⟨j,u,rfl,e⟩|⟨y,u,rfl,e⟩
   ·exact nomatch e
   ·injection e with e1 _;rw[e1]
 byValue:=fun k v h=>by
  rcases jB h with⟨i,t,rfl,rfl⟩|⟨x,t,rfl,rfl⟩<;>rfl
 pyHash:=fun hv h=>by
  rcases jB hv with⟨i,t,rfl,rfl⟩|⟨x,t,rfl,rfl⟩
  ·exact wpAny_pyHash_int h
  ·exact wpAny_pyHash_str h
 eqBool:=fun hu hv h=>by
  rcases jB hu with⟨i,t,rfl,rfl⟩|⟨x,t,rfl,rfl⟩
  ·rcases jB hv with⟨j,u,rfl,rfl⟩|⟨y,u,rfl,rfl⟩
   ·rw[Bx] at h;exact wpAny_eqBool_int h
   ·rw[Bw] at h;exact SeqAt.EqAt.int_str i t y u _ _ _ _ h
  ·rcases jB hv with⟨j,u,rfl,rfl⟩|⟨y,u,rfl,rfl⟩
   ·rw[Bv] at h;exact SeqAt.EqAt.str_int x t j u _ _ _ _ h
   ·rw[Bu] at h;exact wpAny_eqBool_str h
 «strs»:=fun k x t v h=>by
  rcases jB h with⟨i,u,rfl,e⟩|⟨y,u,rfl,e⟩
  ·exact nomatch e
  ·injection e with e1 _
   subst e1;cases v<;>rfl
end L2

namespace L2
open PySem PySem.Spec PyProof.Rows
inductive V where
 |non|bl (b:Bool)|int (i:Int)|str (x:Str)|byt (b:Array UInt8)|flt (b:UInt64)|ref (a:Addr)|ty (n:String)
 deriving DecidableEq
noncomputable def RelV:V ->Value ->Prop
 | .non,u=>u=Value.none
 | .bl b,u=>u=Value.bool b
 | .int i,u=>∃t,u=Value.int i t
 | .str x,u=>∃t,u=Value.str x t
 | .byt b,u=>∃t,u=Value.bytes b t
 | .flt b,u=>∃t,u=Value.float b t
 | .ref a,u=>u=Value.ref a
 | .ty n,u=>u=Value.type n
noncomputable abbrev Vals:List V ->List Value ->Prop:=Paired RelV
theorem Vals.length{xs:List V}{us:List Value}(r:Vals xs us):xs.length=us.length:=Paired.length r
noncomputable def RelO:Option V ->Option Value ->Prop
 |some v,some u=>RelV v u
 |none,none=>True
 |_,_=>False
noncomputable def KV{κ:Type}:List (κ×V) ->List (κ×Value) ->Prop:=Paired fun(p:κ×V) (q:κ×Value)=>p.1=q.1 /\ RelV p.2 q.2
noncomputable def kV:Key ->V
 | .inl i=> .int i
 | .inr x=> .str x
inductive HO where
 |lst (xs:List V)
 |tup (xs:List V)
 |dK (kvs:List (Key×V))|dT (kvs:List (List Key×V))
 |set (S:Int ->Bool) (n:Nat)
 |ins (C dx:Addr) (fs:List (Str×V))
 |own (x:Addr)
 |xd (fs:List (Str×V))
 |met (f x:Addr)
 |rng (lo hi:Int)
 |frz (o:Obj) (u:HO)
 |tbl (ps:Array Value)
 |ext (φ:Heap ->Prop)
noncomputable abbrev Hp:=Addr ->Option HO
section
variable (P:Program) (w:World)
noncomputable def ObjOk(H:Hp)(h:Heap)(a:Addr):HO ->Prop
 | .lst xs=>xs.length<=sizeLine /\ ∃(its:List Value) (n:Nat),Vals xs its /\ h.get? a=some {cls:= .type "list",data:= .seq its.toArray n}
 | .tup xs=>xs.length<=sizeLine /\ ∃its:List Value,Vals xs its /\ IsTup h a its.toArray
 | .dK kvs=>kvs.length<=sizeLine /\ (a==sysModules)=false /\ ∃vs,KV kvs vs /\ h.DictOf (jK P w) a vs
 | .dT kvs=>kvs.length<=sizeLine /\ (a==sysModules)=false /\ ∃xs:List (List Key×Addr×Value),
   Paired (fun(p:List Key×V) (q:List Key×Addr×Value)=>p.1=q.1 /\ H q.2.1=some (.tup (p.1.map kV)) /\ RelV p.2 q.2.2) kvs xs /\
   ∃o es ep,h.get? a=some o /\ o.ExactDict /\ o.data= .dict es ep /\ es.toList=xs.map (entryOfKey (tupleKind (jK P w))) /\ (xs.map (·.1)).Nodup
 | .set S n=>h.SetOf (intKind P w) a S n
 | .ins C dx fs=>H dx=some (.own a) /\ fs.length<=1000 /\ dx≠a /\ h.get? a=some (fW C dx) /\
   ∃mA,h.Ns1 dx mA /\ (∀f,RelO (fs.lookup f) (mA f)) /\ iF mA (fs.map (·.1))
 | .own _=>∃o,h.get? a=some o
 | .xd fs=>∃mA,h.Ns1 a mA /\ ∀f,RelO (fs.lookup f) (mA f)
 | .rng lo hi=>∃t u v,h.get? a=some {cls:= .type "range",data:= .fields #[.int lo t,.int hi u,.int 1 v]}
 | .frz o u=>h.get? a=some o /\ ObjOk H h a u
 | .tbl ps=>∃qs:Array Value,h.get? a=some {cls:= .none,data:= .fields qs} /\ (qs= #[]∨∃(c:Addr) (oc:Obj) (l d:Value) (q:Str) (t u:Tok) (vs:Array Value),
   ps= #[l,d,.str q t] /\ qs= #[l,d,.ref c] /\ H c=some (.frz oc (.own 0)) /\ oc.data= .fields vs /\ vs[1]? =some (.str q u))
 | .met f x=>h.get? a=some (fD (.ref f) (.ref x))
 | .ext φ=>φ h /\ (∃o,h.get? a=some o) /\ ∀h1 h2:Heap,φ h1 ->(∀o,h1.get? a=some o ->h2.get? a=some o) ->φ h2
noncomputable def HOk(H:Hp)(h:Heap):Prop:=∀a o,H a=some o ->ObjOk P w H h a o
end
section
variable {P:Program} {w:World} {H H':Hp} {h h':Heap} {a:Addr} {o:HO}
theorem ObjOk.lt(x:ObjOk P w H h a o):a<h.objs.size:=by
 cases o with
 |lst xs=>obtain⟨_,_,_,_,e⟩:=x;exact Heap.lt_size e
 |tup xs=>obtain⟨_,_,_,p⟩:=x;exact p.lt
 |dK kvs=>obtain⟨_,_,_,_,o,_,_,e,_⟩:=x;exact Heap.lt_size e
 |dT kvs=>obtain⟨_,_,_,_,o,_,_,e,_⟩:=x;exact Heap.lt_size e
 |set S n=>obtain⟨o,_,_,_,e,_⟩:=x;exact Heap.lt_size e
 |ins C dx fs=>obtain⟨_,_,_,e,_⟩:=x;exact Heap.lt_size e
 |own y=>obtain⟨_,e⟩:=x;exact Heap.lt_size e
 |xd fs=>obtain⟨_,⟨_,_,_,e,_⟩,_⟩:=x;exact Heap.lt_size e
 |rng lo hi=>obtain⟨_,_,_,e⟩:=x;exact Heap.lt_size e
 |frz ob u=>obtain⟨e,_⟩:=x;exact Heap.lt_size e
 |tbl ps=>obtain⟨_,e,_⟩:=x;exact Heap.lt_size e
 |met f y=>exact Heap.lt_size (show h.get? a=some _ from x)
 |ext φ=>obtain⟨_,⟨_,e⟩,_⟩:=x;exact Heap.lt_size e
theorem HOk.lt(x:HOk P w H h)(e:H a=some o):a<h.objs.size:=(x a o e).lt
end
noncomputable def Rd(H:Hp)(a:Addr)(u:HO):Prop:=H a=some u∨∃o,H a=some (.frz o u)
theorem Rd.of{H:Hp}{a:Addr}{u:HO}(h:H a=some u):Rd H a u:= .inl h
theorem Rd.ok{P:Program}{w:World}{H:Hp}{h:Heap}{a:Addr}{u:HO}(r:Rd H a u)(x:HOk P w H h):ObjOk P w H h a u:=by
 rcases r with r|⟨o,r⟩
 ·exact x a u r
 ·obtain⟨_,q⟩:=x a _ r
  exact q
section
variable {P:Program} {w:World} {H:Hp} {h h':Heap} {x e:Addr} {o':HO}
end
structure Un(fs ex:List Addr)(H H':Hp)(h h':Heap):Prop where
 keep:∀b o,h.get? b=some o ->H b=none ->b∉fs ->b∉ex ->h'.get? b=some o
 slot:∀b o,h.get? b=some o ->H b=none ->b∈fs ->b∉ex -> ∃sl,h'.get? b=some {o with slots:=sl}
 free:∀b o,h.get? b=some o ->H b=none ->b∉ex ->H' b=none
 there:∀b o,h.get? b=some o ->b∉ex -> ∃o',h'.get? b=some o'
 tups:∀b xs,H b=some (.tup xs) ->H' b=some (.tup xs)
 frzs:∀b o u,H b=some (.frz o u) ->H' b=some (.frz o u)
 tbls:∀b ps,H b=some (.tbl ps) -> ∃more,H' b=some (.tbl (ps++more))
section
variable {fs fs' ex ex':List Addr} {H H1 H2:Hp} {h h1 h2 h':Heap} {a x e:Addr} {o:HO}
end
noncomputable def trk(h:Heap)(H:Hp):List Addr:=(bH h.objs.size).filter fun a=>(H a).isSome
noncomputable def xI(h:Heap)(H:Hp):Heap:=PySem.W.hideAll h (trk h H)
theorem vM(h:Heap)(H:Hp):(xI h H).objs.size=h.objs.size:=PySem.W.hideAll_size _ _
theorem xH{h:Heap}{H:Hp}{b:Addr}{o:Obj}(e:h.get? b=some o)(n:H b=none):(xI h H).get? b=some o:=
 PySem.W.hideAll_get _ e fun hm=>by
  have q:(H b).isSome=true:=(ib.mp hm).2
  rw[n] at q;simp at q
theorem zE{h:Heap}{H:Hp}{b:Addr}{o:Obj}(e:(xI h H).get? b=some o):h.get? b=some o /\ H b=none:=by
 have e':h.get? b=some o:=PySem.W.of_hideAll (trk h H) e
 refine⟨e',?_⟩;cases q:H b with
 |none=>rfl
 |some x=>
  have hm:b∈trk h H:=ib.mpr ⟨io.mpr (Heap.lt_size e'),by simp[q]⟩
  have z:(xI h H).get? b=none:=PySem.W.hideAll_none (trk h H) hm
  rw[z] at e;cases e
end L2

namespace L2
open PySem PySem.Spec PyProof.Rows
structure Mod(K:ao)(mg:Str ->Option Value)(base:Heap):Prop where
 kin:K.In base
 glob:base.Ns mainGlobals mg
 blt:∃mb,base.Ns builtinsNs mb /\ ∀x:Str,x≠"__name__" ->mb x=bootBuiltins x
 nolimit:base.NoLimit
noncomputable def frs(l:List Env):List Addr:=l.filterMap (·.frame)
section
variable {X:Cx} {pins:List (Addr×Obj)} {σ:List (Option V)} {H H':Hp} {s:Shared} {h':Heap}
end
noncomputable abbrev XK:=Value ->Option Addr ->Hp ->Prop
noncomputable abbrev VK:=V ->Hp ->Prop
end L2


namespace L2
open PySem PySem.Spec PyProof.Rows
noncomputable def SqL(K:ao)(H:Hp)(a:Addr)(xs:List V):Prop:=
 Rd H a (.lst xs)∨
  ∃(o:Obj) (its:Array Value) (n:Nat),K.lookup a=some o /\ o.cls= .type "list" /\ o.dict=none /\ o.data= .seq its n /\ its.size<=sizeLine /\ Vals xs its.toList
section
variable {X:Cx} {pins:List (Addr×Obj)} {σ:St} {H:Hp} {s:Shared} {a:Addr} {xs ys:List V}
theorem SqL.of{K:ao}(h:H a=some (.lst xs)):SqL K H a xs:= .inl (.inl h)
end
section
variable {X:Cx} {pins:List (Addr×Obj)} {σ:St} {H:Hp} {s:Shared} {E:Value ->Shared ->Prop}
end
section
variable {X:Cx} {st:Stmt} {rest:List Stmt} {t u:TS} {e:Expr} {te:TE} {pos:Pos}
end
section
variable {X:Cx} {pos:Pos}
end
section
variable {X:Cx} {pos:Pos}
end
end L2




namespace L2
open PySem PySem.Spec PyProof.Rows
structure Room(k:Nat)(A:Around):Prop where
 hd:A.handled=none
 dp:A.depth+3*k+5<recursionLimit
 un:A.units+16*k+200<cLine
section
variable {X:Cx} {e:Expr} {es:List Expr} {te:TE} {t:TA} {pos:Pos}
end
noncomputable abbrev Sp:=List V ->Hp ->VK ->XK ->Prop
noncomputable abbrev CXT:=List Env ->Hp ->Shared ->XK ->Value ->Shared ->Prop
structure Env0(P:Program)(w:World)(K:ao)(mg:Str ->Option Value)(base:Heap)(A:Around)(outer:List Env)(s:Shared)(H:Hp):Prop where
 frames:A.frames=some outer
 mod:Mod K mg base
 bs:∀b o,base.get? b=some o ->s.heap.get? b=some o /\ H b=none
 bsz:base.objs.size<=s.heap.objs.size
 funs:s.heap.FunFrames base outer
 frf:∀b∈frs outer,H b=none
 hok:HOk P w H s.heap
 bare:AllBare s.gens
noncomputable def CE(outer:List Env)(P:Program)(w:World)(H:Hp)(s:Shared)(Q:VK)(u:Value)(s':Shared):Prop:=
 ∃v H',s'.os=s.os /\ AllBare s'.gens /\ Un (frs outer) [] H H' s.heap s'.heap /\ HOk P w H' s'.heap /\ RelV v u /\ Q v H'
noncomputable def CR(CX:CXT)(outer:List Env)(P:Program)(w:World)(H:Hp)(s:Shared)(Q:VK)(E:XK)(r:Result)(s':Shared):Prop:=
 match r with
 | .ok (.ret u)=>CE outer P w H s Q u s'
 | .ok _=>False
 | .error e=>CX outer H s E e s'
structure FnOk(P:Program)(w:World)(K:ao)(mg:Str ->Option Value)(base:Heap)(CX:CXT)(k:Nat)(f:Addr)(fd:FuncData)(ps:List Str)(sp:Sp):Prop where
 len:∀vs H Q E,sp vs H Q E ->vs.length=ps.length
 run:∀(A:Around) (outer:List Env) (s:Shared) (H:Hp) (args:Args) (us:List Value) (vs:List V) (Q:VK) (E:XK),Room k A ->Env0 P w K mg base A outer s H ->BindsTo s fd args (ps.zip us) ->Vals vs us ->sp vs H Q E ->
  codeAny (model P w) A (.call (.ref f) args) (CR CX outer P w H s Q E) s
section
variable {X:Cx} {pins:List (Addr×Obj)} {σ:St} {H:Hp} {s s':Shared}
end
section
variable {X:Cx} {CX:CXT} {k:Nat} {f C:Addr} {fd:FuncData} {ps:List Str} {sp:Sp} {dvs:List V} {ds:List Value} {E:XK} {x m:Str} {p pos apos:Pos} {e o:Expr} {es:List Expr} {ta:TE} {t:TA}
end
end L2






namespace Att
open PySem PySem.W PySem.Calls PyProof.Rows
theorem nT{P:Params}{h:Heap}:∀(ns:List Int) (vs:List Value),WellAll P h vs (ns.map WData.int) ->IntsAre vs ns:=by
 intro ns
 induction ns with
 |nil=>
  intro vs w;rw[bO] at w;cases w;exact .nil
 |cons n ns ih=>
  intro vs w;rw[aM] at w;cases w with
  |cons a b=>
   cases a;exact .cons _ _ (ih _ b)
theorem uQ{l:OpenLaw}{n:Nat}(hn:l.most=some n){P:Params}{h:Heap}{args:List WData}{vals:List Value}
  (hpre:l.row.toRowW.claim.pre args=true) (hwl:WellAll P h vals args):
  ∃a vs ns,vals=[Value.ref a] /\ args=[WData.list (ns.map WData.int)] /\ h.get? a=some {cls:= .type "list",data:= .seq vs.toArray} /\ IntsAre vs ns /\ ns.length<=n:=by
 have hsh:WShape.hasAll [] args [.list .int]=true:=(pre_splitW hpre).1
 have hc:l.pre.holds [] {args:=args}=true:=(pre_splitW hpre).2
 obtain⟨d,r,rfl,h1,h2⟩:=hasAllW_cons hsh
 obtain rfl:=hasAllW_nil h2
 obtain⟨xs,rfl,h3⟩:=hasW_list h1
 obtain⟨ns,rfl⟩:=items_int h3
 have hlen:ns.length<=n:=by
  unfold OpenLaw.pre at hc;have h4:(WTm.not (.lt (.lit (.int (n:Int))) (.len (.arg 0)))).holds [] {args:=[.list (ns.map .int)]}=true:=by
   have h4:=(holds_andW hc).1
   rw[hn] at h4;exact h4
  have h5:=condW_of h4 (w_not (w_lt w_lit (w_len_list (w_arg rfl))))
  rw[ah] at h5;refine Nat.le_of_not_lt fun q=> ?_
  have q':(n:Int)<((ns.length:Nat):Int):=by omega
  first
   |(rw[decide_eq_true q'] at h5;exact absurd h5 (by decide))
   |(simp at h5;omega)
 cases hwl with
 |cons w1 w2=>
  cases w2;cases w1 with
  |list ho hall=>exact⟨_,_,ns,rfl,rfl,ho,nT ns _ hall,hlen⟩
theorem u5(l:OpenLaw)(args:List WData):l.row.toRowW.claim.post args (.bool true) args=true:=
 postW_of (r:=l.row.toRowW) (X:=(true==true))
  (show WShape.has [] (.bool true) .bool=true by first|rfl|decide|simp[WShape.has,WShape.arms,WShape.armsAll])
  (show(WTm.eq .res (.lit (.bool true))).value [] {args:=args,res:=some (.bool true),after:=args}=some (.bool (true==true)) from w_eq_bool (w_res rfl) w_lit) rfl
theorem attach_call{l:OpenLaw}{n:Nat}{q:Program}{loose:List Str}{XP:(Str ->Option Value) ->Heap ->Prop}{YP:World ->Heap ->Prop}{d:DefRec}
  (hn:l.most=some n) (hdf:d.params.defaults=[])
  (call:∀(w:World) (s₀ s₁:Shared) (mg mb:Str ->Option Value) (fa:Addr) (o:Obj) (pm cd doc:Value) (a:Addr) (vs:List Value) (ns:List Int),
   Ground q loose [] XP w s₀ mg mb s₁.heap ->YP w s₁.heap ->
   s₁.heap.get? fa=some o ->o.data= .func (docDef d.name d.params d.body d.scope pm cd doc) ->s₁.heap.CodeRec cd d.name ->mg d.name=some (.ref fa) ->
   s₁.heap.get? a=some {cls:= .type "list",data:= .seq vs.toArray} ->IntsAre vs ns ->ns.length<=n ->s₁.gens= #[] ->
   codeAny (model l.prog w) callerA (.call (.ref fa) ⟨[.ref a],[]⟩) (fun r s'=>r= .ok (.ret (.bool true)) /\ OldK s₁.heap s'.heap /\ s'.os=s₁.os /\ AllBare s'.gens) s₁):
  WalkO q loose XP YP l.row.toRowW d [] (fun f vs=>iy f vs):=by
 intro w s₀ s₁ mg mb G Y fa o pm cd doc dV kV ho hd hcd hD hmg hg args vals as hpre hlay hrd hwl hlo;obtain rfl:dV= .none:=Dflts.none hD hdf
 obtain rfl:kV= .none:=Dflts.noKw hD
 obtain⟨a,vs,ns,rfl,rfl,hobj,hints,hlen⟩:=uQ hn hpre hwl
 refine enter_call (codeAny_mono (call w s₀ s₁ mg mb fa o pm cd doc a vs ns G Y ho (fd_plain hd) hcd hmg hobj hints hlen hg) fun r s' hq=> ?_);obtain⟨rfl,h2,h3,h4⟩:=hq
 exact⟨.inl ⟨.bool true,.bool true,[],rfl,fun _=>rfl,.bool true,u5 l _,fun _=>⟨fE,fun _ hm=>(nomatch hm)⟩⟩,h2,h3,h4⟩
end Att

namespace L2
open PySem PySem.Spec PyProof.Rows
theorem qm:∀{vs:List Value} {ns:List Int},IntsAre vs ns ->Vals (ns.map V.int) vs
 |_,_,.nil=> .nil
 |_,_,.cons n t h=> .cons ⟨t,rfl⟩ (qm h)
noncomputable def Cj(H:Hp):Prop:=∀b,H b=none∨∃o xs,H b=some (.frz o (.lst xs))
theorem xr{P:Program}{w:World}{K:ao}{mg mb:Str ->Option Value}{CX:CXT}{k:Nat}{fa a:Addr}{fd:FuncData}{x:Str}{sp:Sp}{s₁:Shared}{vs:List Value}{ns:List Int}
  (KX:K.In s₁.heap) (hns:s₁.heap.Ns mainGlobals mg) (hb:s₁.heap.Ns builtinsNs mb) (hbb:∀x:Str,x≠"__name__" ->mb x=bootBuiltins x) (hlim:s₁.heap.NoLimit) (hg:s₁.gens= #[])
  (ha:s₁.heap.get? a=some {cls:= .type "list",data:= .seq vs.toArray}) (hi:IntsAre vs ns) (hl:ns.length<=sizeLine) (hr:Room k callerA)
  (F:∀base:Heap,K.In base ->base.Ns mainGlobals mg ->FnOk P w K mg base CX k fa fd [x] sp) (hbind:∀(s:Shared) (u:Value),BindsTo s fd ⟨[u],[]⟩ [(x,u)])
  (hsp:∀H:Hp,Cj H ->SqL K H a (ns.map V.int) ->sp [.ref a] H (fun v _=>v= .bl true) fun _ _ _=>False)
  (hCX:∀H e s',CX [] H s₁ (fun _ _ _=>False) e s' ->False):
  codeAny (model P w) callerA (.call (.ref fa) ⟨[.ref a],[]⟩) (fun r s'=>r= .ok (.ret (.bool true)) /\ OldK s₁.heap s'.heap /\ s'.os=s₁.os /\ AllBare s'.gens) s₁:=by
 have rv:=qm hi
 have lenV:=hi.length
 --from an abstract heap in which nothing but the script may be tracked
 have core:∀H:Hp,Cj H ->SqL K H a (ns.map V.int) ->HOk P w H s₁.heap ->(∀b,H b≠none ->b=a) ->(H a≠none ->K.lookup a=none) ->
   codeAny (model P w) callerA (.call (.ref fa) ⟨[.ref a],[]⟩) (fun r s'=>r= .ok (.ret (.bool true)) /\ OldK s₁.heap s'.heap /\ s'.os=s₁.os /\ AllBare s'.gens) s₁:=by
  intro H hO hS hok hA hK;have base_of:∀{b:Addr} {o:Obj},s₁.heap.get? b=some o ->H b=none ->(xI s₁.heap H).get? b=some o:=fun e n=>xH e n
  have noA:∀{b:Addr} {o:Obj} {es:Array DictEntry} {ep:Nat},s₁.heap.get? b=some o ->o.data= .dict es ep ->H b=none:=fun {b o es ep} e d=>by
   cases q:H b with
   |none=>rfl
   |some u=>
    have e':b=a:=hA b (by rw[q];simp)
    subst e';rw[ha] at e;cases e;have d':Data.seq vs.toArray _=Data.dict es ep:=d
    cases d'
  have nsK:∀{b:Addr} {m:Str ->Option Value},s₁.heap.Ns b m ->(xI s₁.heap H).Ns b m:=fun {b m} ⟨o,es,ep,e,d,r⟩=>⟨o,es,ep,base_of e (noA e d),d,r⟩
  have hKb:K.In (xI s₁.heap H):=fun b o e=>base_of (KX b o e) (by
   cases q:H b with
   |none=>rfl
   |some u=>
    have e':b=a:=hA b (by rw[q];simp)
    subst e';rw[hK (by rw[q];simp)] at e;cases e)
  have hM:Mod K mg (xI s₁.heap H):=⟨hKb,nsK hns,⟨mb,nsK hb,hbb⟩,let⟨mc,h1,h2⟩:=hlim;⟨mc,nsK h1,h2⟩⟩
  have e0:Env0 P w K mg (xI s₁.heap H) callerA [] s₁ H:=⟨rfl,hM,fun b o e=>zE e,Nat.le_of_eq (vM _ _),trivial,fun b hb=>absurd (show b∈([]:List Addr) from hb) (by simp),hok,.of_eq hg⟩
  refine codeAny_mono ((F _ hKb (nsK hns)).run callerA [] s₁ H ⟨[.ref a],[]⟩ [.ref a] [.ref a] _ _ hr e0 (hbind s₁ (.ref a)) (.cons rfl .nil) (hsp H hO hS)) fun r s' h=> ?_
  cases r with
  |error e=>exact(hCX H e s' h).elim
  |ok fl=>
   cases fl with
   |next=>exact False.elim h
   |brk=>exact False.elim h
   |cont=>exact False.elim h
   |ret u=>
    obtain⟨v,H',os,bare,un,hok',r',q⟩:=h
    have q':v= .bl true:=q
    subst q';obtain rfl:u=Value.bool true:=r'
    refine⟨rfl,OldK.of_keep fun b o e=> ?_,os,bare⟩;cases q:H b with
    |none=>exact un.keep b o e q (by intro z;exact absurd (show b∈([]:List Addr) from z) (by simp)) (by simp)
    |some u=>
     rcases hO b with z|⟨ob,xs,z⟩
     ·rw[q] at z;cases z
     ·have z2:=un.frzs b ob _ z
      obtain⟨e1,_⟩:=hok b _ z
      obtain⟨e2,_⟩:=hok' b _ z2
      rw[e] at e1;cases e1;exact e2
 cases hk:K.lookup a with
 |some o=>
  --the script is one of the module's own objects
  have e:=KX a o hk
  rw[ha] at e;cases e;refine core (fun _=>none) (fun _=> .inl rfl) (.inr ⟨_,vs.toArray,_,hk,rfl,rfl,rfl,by rw[aA,lenV];exact hl,by simpa using rv⟩) (fun b u z=>by have z':(none:Option HO)=some u:=z;cases z') (fun b z=>absurd rfl z) fun z=>absurd rfl z
 |none=>
  refine core (fun b=>if b=a then some (.frz {cls:= .type "list",data:= .seq vs.toArray} (.lst (ns.map V.int))) else none) (fun b=> ?_) (.inl (.inr ⟨{cls:= .type "list",data:= .seq vs.toArray},if_pos rfl⟩)) (fun b u z=> ?_) (fun b z=> ?_) fun _=>hk
  ·by_cases hb:b=a
   ·exact .inr ⟨_,_,if_pos hb⟩
   ·exact .inl (if_neg hb)
  ·by_cases hb:b=a
   ·have z':=(if_pos hb).symm.trans z
    cases z';subst hb;exact⟨ha,by rw[ah];exact hl,vs,_,rv,ha⟩
   ·have z':=(if_neg hb).symm.trans z
    cases z'
  ·by_cases hb:b=a
   ·exact hb
   ·exact absurd (if_neg hb) z
end L2

namespace L2
open PySem PySem.Spec PyProof.Rows
theorem walk_of{l:fX}{n k:Nat}{q:Program}{loose:List Str}{XP:(Str ->Option Value) ->Heap ->Prop}{YP:World ->Heap ->Prop}{d:DefRec}{K:Params ->ao}{CX:World ->CXT}{sp:World ->Sp}{x:Str}
  (hn:l.most=some n) (hn2:n<=sizeLine) (hdf:d.params.defaults=[]) (hr:Room k callerA)
  (hY:∀(w:World) (h:Heap),YP w h ->(K w.params).In h)
  (F:∀(w:World) (mg:Str ->Option Value) (fa:Addr) (h:Heap),(K w.params).In h ->h.Ns mainGlobals mg ->mg d.name=some (.ref fa) ->
   ∃fd:FuncData,(∀(s:Shared) (u:Value),BindsTo s fd ⟨[u],[]⟩ [(x,u)]) /\
    ∀base:Heap,(K w.params).In base ->base.Ns mainGlobals mg ->FnOk l.prog w (K w.params) mg base (CX w) k fa fd [x] (sp w))
  (hsp:∀(w:World) (H:Hp) (a:Addr) (ns:List Int),ns.length<=n ->Cj H ->SqL (K w.params) H a (ns.map V.int) ->sp w [.ref a] H (fun v _=>v= .bl true) fun _ _ _=>False)
  (hCX:∀(w:World) (H:Hp) (s:Shared) (e:Value) (s':Shared),CX w [] H s (fun _ _ _=>False) e s' ->False):
  iA q loose XP YP l.row.toRowW d [] (fun f vs=>iy f vs):=by
 refine Att.attach_call hn hdf fun w s₀ s₁ mg mb fa o pm cd doc a vs ns G Y ho hd hcd hmg hobj hints hlen hg=> ?_
 have KX:=hY w _ Y
 obtain⟨fd,hb,hF⟩:=F w mg fa _ KX G.T.g hmg
 exact xr KX G.T.g G.T.b G.T.builtins G.T.nolimit hg hobj hints (cv hlen hn2) hr hF hb (fun H hO hS=>hsp w H a ns hlen hO hS) fun H e s'=>hCX w H s₁ e s'
end L2

namespace L2
open PySem PySem.Spec PyProof.Rows
noncomputable def i5(s:Stmt):Arguments:=match s with
 | .FunctionDef _ a _ _ _ _ _ _ _ _=>a
 |_=>{posonlyargs:=[],args:=[],vararg:=none,kwonlyargs:=[],kw_defaults:=[],kwarg:=none,defaults:=[]}
noncomputable def i0(s:Stmt):List Stmt:=match s with
 | .FunctionDef _ _ b _ _ _ _ _ _ _=>b
 |_=>[]
noncomputable def iL(s:Stmt):Scope:=match s with
 | .FunctionDef _ _ _ _ _ _ sc _ _ _=>sc
 |_=>{kind:= .function,names:=[],isGenerator:=false,isCoroutine:=false}
section
variable {P:Program} {w:World} {K:ao} {mg:Str ->Option Value} {base:Heap}
end
section
variable {X:Cx}
end
end L2





















namespace L2
open PySem PySem.Spec PyProof.Rows
noncomputable def CXE(P:Program)(w:World):CXT:=fun outer H s E ev s'=>∃(e C:Addr) (a0:Value) (B:Heap) (H':Hp) (od:Option Addr),ev= .ref e /\ s'.os=s.os /\ AllBare s'.gens /\ Un (frs outer) [] H H' s.heap s'.heap /\
 HOk P w H' s'.heap /\ Heap.FlyingW B outer e (.ref C) a0 s'.heap /\ (∀b u,H' b=some u -> ∃o,B.get? b=some o) /\ (∀b o,s.heap.get? b=some o ->b∉frs outer -> ∃o',B.get? b=some o') /\ (∃oe,s'.heap.get? e=some oe /\ ∀dx,od=some dx ->oe.dict=some dx) /\ E (.ref C) od H'
end L2





















set_option maxHeartbeats 4000000
set_option maxHeartbeats 4000000
set_option maxHeartbeats 4000000
set_option maxHeartbeats 4000000
set_option maxHeartbeats 4000000


namespace LW
open PySem L2 PyProof.Rows
noncomputable def top(i:Nat):Stmt:=PySem.Challenge.pw_nearlands_k41_the_seam.main.body.getD i (.Pass ⟨0,0,0,0⟩)
noncomputable abbrev s_divisor:Stmt:=top 9
noncomputable abbrev s_sign:Stmt:=top 10
noncomputable abbrev s_point_of:Stmt:=top 12
noncomputable abbrev s_spot_point:Stmt:=top 13
noncomputable abbrev s_ahead:Stmt:=top 14
noncomputable abbrev s_line_of:Stmt:=top 16
noncomputable abbrev s_between:Stmt:=top 17
noncomputable abbrev s_excess:Stmt:=top 18
noncomputable abbrev s_check_box:Stmt:=top 21
noncomputable abbrev s_has_point:Stmt:=top 22
noncomputable abbrev s_in_box:Stmt:=top 23
noncomputable abbrev s_check_count:Stmt:=top 24
noncomputable abbrev s_check_box_and_spots:Stmt:=top 25
noncomputable abbrev s_others_of:Stmt:=top 26
noncomputable abbrev s_are_unlike:Stmt:=top 27
noncomputable abbrev s_box_field:Stmt:=top 29
noncomputable abbrev s_crossing:Stmt:=top 33
noncomputable abbrev s_rest:Stmt:=top 32
noncomputable abbrev s_from_first:Stmt:=top 34
noncomputable abbrev s_cut:Stmt:=top 30
noncomputable abbrev s_cut_each:Stmt:=top 31
noncomputable abbrev s_cut_off:Stmt:=top 38
noncomputable abbrev s_land_within:Stmt:=top 37
noncomputable abbrev s_lands:Stmt:=top 36
noncomputable abbrev s_check_lot:Stmt:=top 42
noncomputable abbrev s_edge_before:Stmt:=top 44
noncomputable abbrev s_ordered:Stmt:=top 40
noncomputable abbrev s_seam:Stmt:=top 43
noncomputable abbrev s__law_feed:Stmt:=top 46
noncomputable abbrev s__law_draw:Stmt:=top 47
noncomputable abbrev s__law_great:Stmt:=top 48
noncomputable abbrev s__law_scale:Stmt:=top 49
noncomputable abbrev s__law_spot:Stmt:=top 50
noncomputable abbrev s__law_dozen:Stmt:=top 51
noncomputable abbrev s__law_spots:Stmt:=top 52
noncomputable abbrev s__law_world:Stmt:=top 53
noncomputable abbrev s__law_lot:Stmt:=top 54
noncomputable abbrev s__law_whole:Stmt:=top 55
noncomputable abbrev s__law_divisor:Stmt:=top 56
noncomputable abbrev s__law_is_point:Stmt:=top 57
noncomputable abbrev s__law_way:Stmt:=top 58
noncomputable abbrev s__law_side:Stmt:=top 59
noncomputable abbrev s__law_ahead:Stmt:=top 60
noncomputable abbrev s__law_edge_right:Stmt:=top 61
noncomputable abbrev s__law_sooner:Stmt:=top 62
noncomputable abbrev s__law_rows:Stmt:=top 63
noncomputable abbrev s_law:Stmt:=top 64
noncomputable def sI(K:ao):Sp:=fun vs H Q _=>∃(a:Addr) (ns:List Int),vs=[.ref a] /\ SqL K H a (ns.map V.int) /\ ns.length<=63 /\ ∀H',Q (.bl true) H'
abbrev AllMk:Prop:=∀{l:fX} {w:World} {K:ao} {h:Heap} {mg:Str ->Option Value} {fa:Addr} (X:K.In h) (G:h.Ns mainGlobals mg) (hfa:mg "law"=some (.ref fa))
  {f_divisor:Addr} {od_divisor an_divisor:Option Addr} {sl_divisor:Array (Option Value)} {oc_divisor kV_divisor dc_divisor pm_divisor cd_divisor ct_divisor:Value} {f_sign:Addr} {od_sign an_sign:Option Addr} {sl_sign:Array (Option Value)} {oc_sign kV_sign dc_sign pm_sign cd_sign ct_sign:Value} {f_point_of:Addr} {od_point_of an_point_of:Option Addr} {sl_point_of:Array (Option Value)} {oc_point_of kV_point_of dc_point_of pm_point_of cd_point_of ct_point_of:Value} {f_spot_point:Addr} {od_spot_point an_spot_point:Option Addr} {sl_spot_point:Array (Option Value)} {oc_spot_point kV_spot_point dc_spot_point pm_spot_point cd_spot_point ct_spot_point:Value} {f_ahead:Addr} {od_ahead an_ahead:Option Addr} {sl_ahead:Array (Option Value)} {oc_ahead kV_ahead dc_ahead pm_ahead cd_ahead ct_ahead:Value} {f_line_of:Addr} {od_line_of an_line_of:Option Addr} {sl_line_of:Array (Option Value)} {oc_line_of kV_line_of dc_line_of pm_line_of cd_line_of ct_line_of:Value} {f_between:Addr} {od_between an_between:Option Addr} {sl_between:Array (Option Value)} {oc_between kV_between dc_between pm_between cd_between ct_between:Value} {f_excess:Addr} {od_excess an_excess:Option Addr} {sl_excess:Array (Option Value)} {oc_excess kV_excess dc_excess pm_excess cd_excess ct_excess:Value} {f_check_box:Addr} {od_check_box an_check_box:Option Addr} {sl_check_box:Array (Option Value)} {oc_check_box kV_check_box dc_check_box pm_check_box cd_check_box ct_check_box:Value} {f_has_point:Addr} {od_has_point an_has_point:Option Addr} {sl_has_point:Array (Option Value)} {oc_has_point kV_has_point dc_has_point pm_has_point cd_has_point ct_has_point:Value} {f_in_box:Addr} {od_in_box an_in_box:Option Addr} {sl_in_box:Array (Option Value)} {oc_in_box kV_in_box dc_in_box pm_in_box cd_in_box ct_in_box:Value} {f_check_count:Addr} {od_check_count an_check_count:Option Addr} {sl_check_count:Array (Option Value)} {oc_check_count kV_check_count dc_check_count pm_check_count cd_check_count ct_check_count:Value} {f_check_box_and_spots:Addr} {od_check_box_and_spots an_check_box_and_spots:Option Addr} {sl_check_box_and_spots:Array (Option Value)} {oc_check_box_and_spots kV_check_box_and_spots dc_check_box_and_spots pm_check_box_and_spots cd_check_box_and_spots ct_check_box_and_spots:Value} {f_others_of:Addr} {od_others_of an_others_of:Option Addr} {sl_others_of:Array (Option Value)} {oc_others_of kV_others_of dc_others_of pm_others_of cd_others_of ct_others_of:Value} {f_are_unlike:Addr} {od_are_unlike an_are_unlike:Option Addr} {sl_are_unlike:Array (Option Value)} {oc_are_unlike kV_are_unlike dc_are_unlike pm_are_unlike cd_are_unlike ct_are_unlike:Value} {f_box_field:Addr} {od_box_field an_box_field:Option Addr} {sl_box_field:Array (Option Value)} {oc_box_field kV_box_field dc_box_field pm_box_field cd_box_field ct_box_field:Value} {f_crossing:Addr} {od_crossing an_crossing:Option Addr} {sl_crossing:Array (Option Value)} {oc_crossing kV_crossing dc_crossing pm_crossing cd_crossing ct_crossing:Value} {f_rest:Addr} {od_rest an_rest:Option Addr} {sl_rest:Array (Option Value)} {oc_rest kV_rest dc_rest pm_rest cd_rest ct_rest:Value} {f_from_first:Addr} {od_from_first an_from_first:Option Addr} {sl_from_first:Array (Option Value)} {oc_from_first kV_from_first dc_from_first pm_from_first cd_from_first ct_from_first:Value} {f_cut:Addr} {od_cut an_cut:Option Addr} {sl_cut:Array (Option Value)} {oc_cut kV_cut dc_cut pm_cut cd_cut ct_cut:Value} {f_cut_each:Addr} {od_cut_each an_cut_each:Option Addr} {sl_cut_each:Array (Option Value)} {oc_cut_each kV_cut_each dc_cut_each pm_cut_each cd_cut_each ct_cut_each:Value} {f_cut_off:Addr} {od_cut_off an_cut_off:Option Addr} {sl_cut_off:Array (Option Value)} {oc_cut_off kV_cut_off dc_cut_off pm_cut_off cd_cut_off ct_cut_off:Value} {f_land_within:Addr} {od_land_within an_land_within:Option Addr} {sl_land_within:Array (Option Value)} {oc_land_within kV_land_within dc_land_within pm_land_within cd_land_within ct_land_within:Value} {f_lands:Addr} {od_lands an_lands:Option Addr} {sl_lands:Array (Option Value)} {oc_lands kV_lands dc_lands pm_lands cd_lands ct_lands:Value} {f_check_lot:Addr} {od_check_lot an_check_lot:Option Addr} {sl_check_lot:Array (Option Value)} {oc_check_lot kV_check_lot dc_check_lot pm_check_lot cd_check_lot ct_check_lot:Value} {f_edge_before:Addr} {od_edge_before an_edge_before:Option Addr} {sl_edge_before:Array (Option Value)} {oc_edge_before kV_edge_before dc_edge_before pm_edge_before cd_edge_before ct_edge_before:Value} {f_ordered:Addr} {od_ordered an_ordered:Option Addr} {sl_ordered:Array (Option Value)} {oc_ordered kV_ordered dc_ordered pm_ordered cd_ordered ct_ordered:Value} {f_seam:Addr} {od_seam an_seam:Option Addr} {sl_seam:Array (Option Value)} {oc_seam kV_seam dc_seam pm_seam cd_seam ct_seam:Value} {f__law_feed:Addr} {od__law_feed an__law_feed:Option Addr} {sl__law_feed:Array (Option Value)} {oc__law_feed kV__law_feed dc__law_feed pm__law_feed cd__law_feed ct__law_feed:Value} {f__law_draw:Addr} {od__law_draw an__law_draw:Option Addr} {sl__law_draw:Array (Option Value)} {oc__law_draw kV__law_draw dc__law_draw pm__law_draw cd__law_draw ct__law_draw:Value} {f__law_great:Addr} {od__law_great an__law_great:Option Addr} {sl__law_great:Array (Option Value)} {oc__law_great kV__law_great dc__law_great pm__law_great cd__law_great ct__law_great:Value} {f__law_scale:Addr} {od__law_scale an__law_scale:Option Addr} {sl__law_scale:Array (Option Value)} {oc__law_scale kV__law_scale dc__law_scale pm__law_scale cd__law_scale ct__law_scale:Value} {f__law_spot:Addr} {od__law_spot an__law_spot:Option Addr} {sl__law_spot:Array (Option Value)} {oc__law_spot kV__law_spot dc__law_spot pm__law_spot cd__law_spot ct__law_spot:Value} {f__law_dozen:Addr} {od__law_dozen an__law_dozen:Option Addr} {sl__law_dozen:Array (Option Value)} {oc__law_dozen kV__law_dozen dc__law_dozen pm__law_dozen cd__law_dozen ct__law_dozen:Value} {f__law_spots:Addr} {od__law_spots an__law_spots:Option Addr} {sl__law_spots:Array (Option Value)} {oc__law_spots kV__law_spots dc__law_spots pm__law_spots cd__law_spots ct__law_spots:Value} {f__law_world:Addr} {od__law_world an__law_world:Option Addr} {sl__law_world:Array (Option Value)} {oc__law_world kV__law_world dc__law_world pm__law_world cd__law_world ct__law_world:Value} {f__law_lot:Addr} {od__law_lot an__law_lot:Option Addr} {sl__law_lot:Array (Option Value)} {oc__law_lot kV__law_lot dc__law_lot pm__law_lot cd__law_lot ct__law_lot:Value} {f__law_whole:Addr} {od__law_whole an__law_whole:Option Addr} {sl__law_whole:Array (Option Value)} {oc__law_whole kV__law_whole dc__law_whole pm__law_whole cd__law_whole ct__law_whole:Value} {f__law_divisor:Addr} {od__law_divisor an__law_divisor:Option Addr} {sl__law_divisor:Array (Option Value)} {oc__law_divisor kV__law_divisor dc__law_divisor pm__law_divisor cd__law_divisor ct__law_divisor:Value} {f__law_is_point:Addr} {od__law_is_point an__law_is_point:Option Addr} {sl__law_is_point:Array (Option Value)} {oc__law_is_point kV__law_is_point dc__law_is_point pm__law_is_point cd__law_is_point ct__law_is_point:Value} {f__law_way:Addr} {od__law_way an__law_way:Option Addr} {sl__law_way:Array (Option Value)} {oc__law_way kV__law_way dc__law_way pm__law_way cd__law_way ct__law_way:Value} {f__law_side:Addr} {od__law_side an__law_side:Option Addr} {sl__law_side:Array (Option Value)} {oc__law_side kV__law_side dc__law_side pm__law_side cd__law_side ct__law_side:Value} {f__law_ahead:Addr} {od__law_ahead an__law_ahead:Option Addr} {sl__law_ahead:Array (Option Value)} {oc__law_ahead kV__law_ahead dc__law_ahead pm__law_ahead cd__law_ahead ct__law_ahead:Value} {f__law_edge_right:Addr} {od__law_edge_right an__law_edge_right:Option Addr} {sl__law_edge_right:Array (Option Value)} {oc__law_edge_right kV__law_edge_right dc__law_edge_right pm__law_edge_right cd__law_edge_right ct__law_edge_right:Value} {f__law_sooner:Addr} {od__law_sooner an__law_sooner:Option Addr} {sl__law_sooner:Array (Option Value)} {oc__law_sooner kV__law_sooner dc__law_sooner pm__law_sooner cd__law_sooner ct__law_sooner:Value} {f__law_rows:Addr} {od__law_rows an__law_rows:Option Addr} {sl__law_rows:Array (Option Value)} {oc__law_rows kV__law_rows dc__law_rows pm__law_rows cd__law_rows ct__law_rows:Value} {f_law:Addr} {od_law an_law:Option Addr} {sl_law:Array (Option Value)} {oc_law kV_law dc_law pm_law cd_law ct_law:Value} {tk_MOST_SPOTS:Tok}
  (a_divisor:aE K mainGlobals "divisor"=some (some (.ref f_divisor)))
  (l_divisor:K.lookup f_divisor=some ⟨oc_divisor,od_divisor,.func (aK "divisor" "divisor" (i5 s_divisor) (i0 s_divisor) (iL s_divisor) .none kV_divisor dc_divisor pm_divisor an_divisor cd_divisor ct_divisor),sl_divisor⟩)
  (c_divisor:aG K cd_divisor "divisor"=true)
  (k_divisor:aD K (.ref f_divisor)=true)
  (a_sign:aE K mainGlobals "sign"=some (some (.ref f_sign)))
  (l_sign:K.lookup f_sign=some ⟨oc_sign,od_sign,.func (aK "sign" "sign" (i5 s_sign) (i0 s_sign) (iL s_sign) .none kV_sign dc_sign pm_sign an_sign cd_sign ct_sign),sl_sign⟩)
  (c_sign:aG K cd_sign "sign"=true)
  (k_sign:aD K (.ref f_sign)=true)
  (a_point_of:aE K mainGlobals "point_of"=some (some (.ref f_point_of)))
  (l_point_of:K.lookup f_point_of=some ⟨oc_point_of,od_point_of,.func (aK "point_of" "point_of" (i5 s_point_of) (i0 s_point_of) (iL s_point_of) .none kV_point_of dc_point_of pm_point_of an_point_of cd_point_of ct_point_of),sl_point_of⟩)
  (c_point_of:aG K cd_point_of "point_of"=true)
  (k_point_of:aD K (.ref f_point_of)=true)
  (a_spot_point:aE K mainGlobals "spot_point"=some (some (.ref f_spot_point)))
  (l_spot_point:K.lookup f_spot_point=some ⟨oc_spot_point,od_spot_point,.func (aK "spot_point" "spot_point" (i5 s_spot_point) (i0 s_spot_point) (iL s_spot_point) .none kV_spot_point dc_spot_point pm_spot_point an_spot_point cd_spot_point ct_spot_point),sl_spot_point⟩)
  (c_spot_point:aG K cd_spot_point "spot_point"=true)
  (k_spot_point:aD K (.ref f_spot_point)=true)
  (a_ahead:aE K mainGlobals "ahead"=some (some (.ref f_ahead)))
  (l_ahead:K.lookup f_ahead=some ⟨oc_ahead,od_ahead,.func (aK "ahead" "ahead" (i5 s_ahead) (i0 s_ahead) (iL s_ahead) .none kV_ahead dc_ahead pm_ahead an_ahead cd_ahead ct_ahead),sl_ahead⟩)
  (c_ahead:aG K cd_ahead "ahead"=true)
  (k_ahead:aD K (.ref f_ahead)=true)
  (a_line_of:aE K mainGlobals "line_of"=some (some (.ref f_line_of)))
  (l_line_of:K.lookup f_line_of=some ⟨oc_line_of,od_line_of,.func (aK "line_of" "line_of" (i5 s_line_of) (i0 s_line_of) (iL s_line_of) .none kV_line_of dc_line_of pm_line_of an_line_of cd_line_of ct_line_of),sl_line_of⟩)
  (c_line_of:aG K cd_line_of "line_of"=true)
  (k_line_of:aD K (.ref f_line_of)=true)
  (a_between:aE K mainGlobals "between"=some (some (.ref f_between)))
  (l_between:K.lookup f_between=some ⟨oc_between,od_between,.func (aK "between" "between" (i5 s_between) (i0 s_between) (iL s_between) .none kV_between dc_between pm_between an_between cd_between ct_between),sl_between⟩)
  (c_between:aG K cd_between "between"=true)
  (k_between:aD K (.ref f_between)=true)
  (a_excess:aE K mainGlobals "excess"=some (some (.ref f_excess)))
  (l_excess:K.lookup f_excess=some ⟨oc_excess,od_excess,.func (aK "excess" "excess" (i5 s_excess) (i0 s_excess) (iL s_excess) .none kV_excess dc_excess pm_excess an_excess cd_excess ct_excess),sl_excess⟩)
  (c_excess:aG K cd_excess "excess"=true)
  (k_excess:aD K (.ref f_excess)=true)
  (a_check_box:aE K mainGlobals "check_box"=some (some (.ref f_check_box)))
  (l_check_box:K.lookup f_check_box=some ⟨oc_check_box,od_check_box,.func (aK "check_box" "check_box" (i5 s_check_box) (i0 s_check_box) (iL s_check_box) .none kV_check_box dc_check_box pm_check_box an_check_box cd_check_box ct_check_box),sl_check_box⟩)
  (c_check_box:aG K cd_check_box "check_box"=true)
  (k_check_box:aD K (.ref f_check_box)=true)
  (a_has_point:aE K mainGlobals "has_point"=some (some (.ref f_has_point)))
  (l_has_point:K.lookup f_has_point=some ⟨oc_has_point,od_has_point,.func (aK "has_point" "has_point" (i5 s_has_point) (i0 s_has_point) (iL s_has_point) .none kV_has_point dc_has_point pm_has_point an_has_point cd_has_point ct_has_point),sl_has_point⟩)
  (c_has_point:aG K cd_has_point "has_point"=true)
  (k_has_point:aD K (.ref f_has_point)=true)
  (a_in_box:aE K mainGlobals "in_box"=some (some (.ref f_in_box)))
  (l_in_box:K.lookup f_in_box=some ⟨oc_in_box,od_in_box,.func (aK "in_box" "in_box" (i5 s_in_box) (i0 s_in_box) (iL s_in_box) .none kV_in_box dc_in_box pm_in_box an_in_box cd_in_box ct_in_box),sl_in_box⟩)
  (c_in_box:aG K cd_in_box "in_box"=true)
  (k_in_box:aD K (.ref f_in_box)=true)
  (a_check_count:aE K mainGlobals "check_count"=some (some (.ref f_check_count)))
  (l_check_count:K.lookup f_check_count=some ⟨oc_check_count,od_check_count,.func (aK "check_count" "check_count" (i5 s_check_count) (i0 s_check_count) (iL s_check_count) .none kV_check_count dc_check_count pm_check_count an_check_count cd_check_count ct_check_count),sl_check_count⟩)
  (c_check_count:aG K cd_check_count "check_count"=true)
  (k_check_count:aD K (.ref f_check_count)=true)
  (a_check_box_and_spots:aE K mainGlobals "check_box_and_spots"=some (some (.ref f_check_box_and_spots)))
  (l_check_box_and_spots:K.lookup f_check_box_and_spots=some ⟨oc_check_box_and_spots,od_check_box_and_spots,.func (aK "check_box_and_spots" "check_box_and_spots" (i5 s_check_box_and_spots) (i0 s_check_box_and_spots) (iL s_check_box_and_spots) .none kV_check_box_and_spots dc_check_box_and_spots pm_check_box_and_spots an_check_box_and_spots cd_check_box_and_spots ct_check_box_and_spots),sl_check_box_and_spots⟩)
  (c_check_box_and_spots:aG K cd_check_box_and_spots "check_box_and_spots"=true)
  (k_check_box_and_spots:aD K (.ref f_check_box_and_spots)=true)
  (a_others_of:aE K mainGlobals "others_of"=some (some (.ref f_others_of)))
  (l_others_of:K.lookup f_others_of=some ⟨oc_others_of,od_others_of,.func (aK "others_of" "others_of" (i5 s_others_of) (i0 s_others_of) (iL s_others_of) .none kV_others_of dc_others_of pm_others_of an_others_of cd_others_of ct_others_of),sl_others_of⟩)
  (c_others_of:aG K cd_others_of "others_of"=true)
  (k_others_of:aD K (.ref f_others_of)=true)
  (a_are_unlike:aE K mainGlobals "are_unlike"=some (some (.ref f_are_unlike)))
  (l_are_unlike:K.lookup f_are_unlike=some ⟨oc_are_unlike,od_are_unlike,.func (aK "are_unlike" "are_unlike" (i5 s_are_unlike) (i0 s_are_unlike) (iL s_are_unlike) .none kV_are_unlike dc_are_unlike pm_are_unlike an_are_unlike cd_are_unlike ct_are_unlike),sl_are_unlike⟩)
  (c_are_unlike:aG K cd_are_unlike "are_unlike"=true)
  (k_are_unlike:aD K (.ref f_are_unlike)=true)
  (a_box_field:aE K mainGlobals "box_field"=some (some (.ref f_box_field)))
  (l_box_field:K.lookup f_box_field=some ⟨oc_box_field,od_box_field,.func (aK "box_field" "box_field" (i5 s_box_field) (i0 s_box_field) (iL s_box_field) .none kV_box_field dc_box_field pm_box_field an_box_field cd_box_field ct_box_field),sl_box_field⟩)
  (c_box_field:aG K cd_box_field "box_field"=true)
  (k_box_field:aD K (.ref f_box_field)=true)
  (a_crossing:aE K mainGlobals "crossing"=some (some (.ref f_crossing)))
  (l_crossing:K.lookup f_crossing=some ⟨oc_crossing,od_crossing,.func (aK "crossing" "crossing" (i5 s_crossing) (i0 s_crossing) (iL s_crossing) .none kV_crossing dc_crossing pm_crossing an_crossing cd_crossing ct_crossing),sl_crossing⟩)
  (c_crossing:aG K cd_crossing "crossing"=true)
  (k_crossing:aD K (.ref f_crossing)=true)
  (a_rest:aE K mainGlobals "rest"=some (some (.ref f_rest)))
  (l_rest:K.lookup f_rest=some ⟨oc_rest,od_rest,.func (aK "rest" "rest" (i5 s_rest) (i0 s_rest) (iL s_rest) .none kV_rest dc_rest pm_rest an_rest cd_rest ct_rest),sl_rest⟩)
  (c_rest:aG K cd_rest "rest"=true)
  (k_rest:aD K (.ref f_rest)=true)
  (a_from_first:aE K mainGlobals "from_first"=some (some (.ref f_from_first)))
  (l_from_first:K.lookup f_from_first=some ⟨oc_from_first,od_from_first,.func (aK "from_first" "from_first" (i5 s_from_first) (i0 s_from_first) (iL s_from_first) .none kV_from_first dc_from_first pm_from_first an_from_first cd_from_first ct_from_first),sl_from_first⟩)
  (c_from_first:aG K cd_from_first "from_first"=true)
  (k_from_first:aD K (.ref f_from_first)=true)
  (a_cut:aE K mainGlobals "cut"=some (some (.ref f_cut)))
  (l_cut:K.lookup f_cut=some ⟨oc_cut,od_cut,.func (aK "cut" "cut" (i5 s_cut) (i0 s_cut) (iL s_cut) .none kV_cut dc_cut pm_cut an_cut cd_cut ct_cut),sl_cut⟩)
  (c_cut:aG K cd_cut "cut"=true)
  (k_cut:aD K (.ref f_cut)=true)
  (a_cut_each:aE K mainGlobals "cut_each"=some (some (.ref f_cut_each)))
  (l_cut_each:K.lookup f_cut_each=some ⟨oc_cut_each,od_cut_each,.func (aK "cut_each" "cut_each" (i5 s_cut_each) (i0 s_cut_each) (iL s_cut_each) .none kV_cut_each dc_cut_each pm_cut_each an_cut_each cd_cut_each ct_cut_each),sl_cut_each⟩)
  (c_cut_each:aG K cd_cut_each "cut_each"=true)
  (k_cut_each:aD K (.ref f_cut_each)=true)
  (a_cut_off:aE K mainGlobals "cut_off"=some (some (.ref f_cut_off)))
  (l_cut_off:K.lookup f_cut_off=some ⟨oc_cut_off,od_cut_off,.func (aK "cut_off" "cut_off" (i5 s_cut_off) (i0 s_cut_off) (iL s_cut_off) .none kV_cut_off dc_cut_off pm_cut_off an_cut_off cd_cut_off ct_cut_off),sl_cut_off⟩)
  (c_cut_off:aG K cd_cut_off "cut_off"=true)
  (k_cut_off:aD K (.ref f_cut_off)=true)
  (a_land_within:aE K mainGlobals "land_within"=some (some (.ref f_land_within)))
  (l_land_within:K.lookup f_land_within=some ⟨oc_land_within,od_land_within,.func (aK "land_within" "land_within" (i5 s_land_within) (i0 s_land_within) (iL s_land_within) .none kV_land_within dc_land_within pm_land_within an_land_within cd_land_within ct_land_within),sl_land_within⟩)
  (c_land_within:aG K cd_land_within "land_within"=true)
  (k_land_within:aD K (.ref f_land_within)=true)
  (a_lands:aE K mainGlobals "lands"=some (some (.ref f_lands)))
  (l_lands:K.lookup f_lands=some ⟨oc_lands,od_lands,.func (aK "lands" "lands" (i5 s_lands) (i0 s_lands) (iL s_lands) .none kV_lands dc_lands pm_lands an_lands cd_lands ct_lands),sl_lands⟩)
  (c_lands:aG K cd_lands "lands"=true)
  (k_lands:aD K (.ref f_lands)=true)
  (a_check_lot:aE K mainGlobals "check_lot"=some (some (.ref f_check_lot)))
  (l_check_lot:K.lookup f_check_lot=some ⟨oc_check_lot,od_check_lot,.func (aK "check_lot" "check_lot" (i5 s_check_lot) (i0 s_check_lot) (iL s_check_lot) .none kV_check_lot dc_check_lot pm_check_lot an_check_lot cd_check_lot ct_check_lot),sl_check_lot⟩)
  (c_check_lot:aG K cd_check_lot "check_lot"=true)
  (k_check_lot:aD K (.ref f_check_lot)=true)
  (a_edge_before:aE K mainGlobals "edge_before"=some (some (.ref f_edge_before)))
  (l_edge_before:K.lookup f_edge_before=some ⟨oc_edge_before,od_edge_before,.func (aK "edge_before" "edge_before" (i5 s_edge_before) (i0 s_edge_before) (iL s_edge_before) .none kV_edge_before dc_edge_before pm_edge_before an_edge_before cd_edge_before ct_edge_before),sl_edge_before⟩)
  (c_edge_before:aG K cd_edge_before "edge_before"=true)
  (k_edge_before:aD K (.ref f_edge_before)=true)
  (a_ordered:aE K mainGlobals "ordered"=some (some (.ref f_ordered)))
  (l_ordered:K.lookup f_ordered=some ⟨oc_ordered,od_ordered,.func (aK "ordered" "ordered" (i5 s_ordered) (i0 s_ordered) (iL s_ordered) .none kV_ordered dc_ordered pm_ordered an_ordered cd_ordered ct_ordered),sl_ordered⟩)
  (c_ordered:aG K cd_ordered "ordered"=true)
  (k_ordered:aD K (.ref f_ordered)=true)
  (a_seam:aE K mainGlobals "seam"=some (some (.ref f_seam)))
  (l_seam:K.lookup f_seam=some ⟨oc_seam,od_seam,.func (aK "seam" "seam" (i5 s_seam) (i0 s_seam) (iL s_seam) .none kV_seam dc_seam pm_seam an_seam cd_seam ct_seam),sl_seam⟩)
  (c_seam:aG K cd_seam "seam"=true)
  (k_seam:aD K (.ref f_seam)=true)
  (a__law_feed:aE K mainGlobals "_law_feed"=some (some (.ref f__law_feed)))
  (l__law_feed:K.lookup f__law_feed=some ⟨oc__law_feed,od__law_feed,.func (aK "_law_feed" "_law_feed" (i5 s__law_feed) (i0 s__law_feed) (iL s__law_feed) .none kV__law_feed dc__law_feed pm__law_feed an__law_feed cd__law_feed ct__law_feed),sl__law_feed⟩)
  (c__law_feed:aG K cd__law_feed "_law_feed"=true)
  (k__law_feed:aD K (.ref f__law_feed)=true)
  (a__law_draw:aE K mainGlobals "_law_draw"=some (some (.ref f__law_draw)))
  (l__law_draw:K.lookup f__law_draw=some ⟨oc__law_draw,od__law_draw,.func (aK "_law_draw" "_law_draw" (i5 s__law_draw) (i0 s__law_draw) (iL s__law_draw) .none kV__law_draw dc__law_draw pm__law_draw an__law_draw cd__law_draw ct__law_draw),sl__law_draw⟩)
  (c__law_draw:aG K cd__law_draw "_law_draw"=true)
  (k__law_draw:aD K (.ref f__law_draw)=true)
  (a__law_great:aE K mainGlobals "_law_great"=some (some (.ref f__law_great)))
  (l__law_great:K.lookup f__law_great=some ⟨oc__law_great,od__law_great,.func (aK "_law_great" "_law_great" (i5 s__law_great) (i0 s__law_great) (iL s__law_great) .none kV__law_great dc__law_great pm__law_great an__law_great cd__law_great ct__law_great),sl__law_great⟩)
  (c__law_great:aG K cd__law_great "_law_great"=true)
  (k__law_great:aD K (.ref f__law_great)=true)
  (a__law_scale:aE K mainGlobals "_law_scale"=some (some (.ref f__law_scale)))
  (l__law_scale:K.lookup f__law_scale=some ⟨oc__law_scale,od__law_scale,.func (aK "_law_scale" "_law_scale" (i5 s__law_scale) (i0 s__law_scale) (iL s__law_scale) .none kV__law_scale dc__law_scale pm__law_scale an__law_scale cd__law_scale ct__law_scale),sl__law_scale⟩)
  (c__law_scale:aG K cd__law_scale "_law_scale"=true)
  (k__law_scale:aD K (.ref f__law_scale)=true)
  (a__law_spot:aE K mainGlobals "_law_spot"=some (some (.ref f__law_spot)))
  (l__law_spot:K.lookup f__law_spot=some ⟨oc__law_spot,od__law_spot,.func (aK "_law_spot" "_law_spot" (i5 s__law_spot) (i0 s__law_spot) (iL s__law_spot) .none kV__law_spot dc__law_spot pm__law_spot an__law_spot cd__law_spot ct__law_spot),sl__law_spot⟩)
  (c__law_spot:aG K cd__law_spot "_law_spot"=true)
  (k__law_spot:aD K (.ref f__law_spot)=true)
  (a__law_dozen:aE K mainGlobals "_law_dozen"=some (some (.ref f__law_dozen)))
  (l__law_dozen:K.lookup f__law_dozen=some ⟨oc__law_dozen,od__law_dozen,.func (aK "_law_dozen" "_law_dozen" (i5 s__law_dozen) (i0 s__law_dozen) (iL s__law_dozen) .none kV__law_dozen dc__law_dozen pm__law_dozen an__law_dozen cd__law_dozen ct__law_dozen),sl__law_dozen⟩)
  (c__law_dozen:aG K cd__law_dozen "_law_dozen"=true)
  (k__law_dozen:aD K (.ref f__law_dozen)=true)
  (a__law_spots:aE K mainGlobals "_law_spots"=some (some (.ref f__law_spots)))
  (l__law_spots:K.lookup f__law_spots=some ⟨oc__law_spots,od__law_spots,.func (aK "_law_spots" "_law_spots" (i5 s__law_spots) (i0 s__law_spots) (iL s__law_spots) .none kV__law_spots dc__law_spots pm__law_spots an__law_spots cd__law_spots ct__law_spots),sl__law_spots⟩)
  (c__law_spots:aG K cd__law_spots "_law_spots"=true)
  (k__law_spots:aD K (.ref f__law_spots)=true)
  (a__law_world:aE K mainGlobals "_law_world"=some (some (.ref f__law_world)))
  (l__law_world:K.lookup f__law_world=some ⟨oc__law_world,od__law_world,.func (aK "_law_world" "_law_world" (i5 s__law_world) (i0 s__law_world) (iL s__law_world) .none kV__law_world dc__law_world pm__law_world an__law_world cd__law_world ct__law_world),sl__law_world⟩)
  (c__law_world:aG K cd__law_world "_law_world"=true)
  (k__law_world:aD K (.ref f__law_world)=true)
  (a__law_lot:aE K mainGlobals "_law_lot"=some (some (.ref f__law_lot)))
  (l__law_lot:K.lookup f__law_lot=some ⟨oc__law_lot,od__law_lot,.func (aK "_law_lot" "_law_lot" (i5 s__law_lot) (i0 s__law_lot) (iL s__law_lot) .none kV__law_lot dc__law_lot pm__law_lot an__law_lot cd__law_lot ct__law_lot),sl__law_lot⟩)
  (c__law_lot:aG K cd__law_lot "_law_lot"=true)
  (k__law_lot:aD K (.ref f__law_lot)=true)
  (a__law_whole:aE K mainGlobals "_law_whole"=some (some (.ref f__law_whole)))
  (l__law_whole:K.lookup f__law_whole=some ⟨oc__law_whole,od__law_whole,.func (aK "_law_whole" "_law_whole" (i5 s__law_whole) (i0 s__law_whole) (iL s__law_whole) .none kV__law_whole dc__law_whole pm__law_whole an__law_whole cd__law_whole ct__law_whole),sl__law_whole⟩)
  (c__law_whole:aG K cd__law_whole "_law_whole"=true)
  (k__law_whole:aD K (.ref f__law_whole)=true)
  (a__law_divisor:aE K mainGlobals "_law_divisor"=some (some (.ref f__law_divisor)))
  (l__law_divisor:K.lookup f__law_divisor=some ⟨oc__law_divisor,od__law_divisor,.func (aK "_law_divisor" "_law_divisor" (i5 s__law_divisor) (i0 s__law_divisor) (iL s__law_divisor) .none kV__law_divisor dc__law_divisor pm__law_divisor an__law_divisor cd__law_divisor ct__law_divisor),sl__law_divisor⟩)
  (c__law_divisor:aG K cd__law_divisor "_law_divisor"=true)
  (k__law_divisor:aD K (.ref f__law_divisor)=true)
  (a__law_is_point:aE K mainGlobals "_law_is_point"=some (some (.ref f__law_is_point)))
  (l__law_is_point:K.lookup f__law_is_point=some ⟨oc__law_is_point,od__law_is_point,.func (aK "_law_is_point" "_law_is_point" (i5 s__law_is_point) (i0 s__law_is_point) (iL s__law_is_point) .none kV__law_is_point dc__law_is_point pm__law_is_point an__law_is_point cd__law_is_point ct__law_is_point),sl__law_is_point⟩)
  (c__law_is_point:aG K cd__law_is_point "_law_is_point"=true)
  (k__law_is_point:aD K (.ref f__law_is_point)=true)
  (a__law_way:aE K mainGlobals "_law_way"=some (some (.ref f__law_way)))
  (l__law_way:K.lookup f__law_way=some ⟨oc__law_way,od__law_way,.func (aK "_law_way" "_law_way" (i5 s__law_way) (i0 s__law_way) (iL s__law_way) .none kV__law_way dc__law_way pm__law_way an__law_way cd__law_way ct__law_way),sl__law_way⟩)
  (c__law_way:aG K cd__law_way "_law_way"=true)
  (k__law_way:aD K (.ref f__law_way)=true)
  (a__law_side:aE K mainGlobals "_law_side"=some (some (.ref f__law_side)))
  (l__law_side:K.lookup f__law_side=some ⟨oc__law_side,od__law_side,.func (aK "_law_side" "_law_side" (i5 s__law_side) (i0 s__law_side) (iL s__law_side) .none kV__law_side dc__law_side pm__law_side an__law_side cd__law_side ct__law_side),sl__law_side⟩)
  (c__law_side:aG K cd__law_side "_law_side"=true)
  (k__law_side:aD K (.ref f__law_side)=true)
  (a__law_ahead:aE K mainGlobals "_law_ahead"=some (some (.ref f__law_ahead)))
  (l__law_ahead:K.lookup f__law_ahead=some ⟨oc__law_ahead,od__law_ahead,.func (aK "_law_ahead" "_law_ahead" (i5 s__law_ahead) (i0 s__law_ahead) (iL s__law_ahead) .none kV__law_ahead dc__law_ahead pm__law_ahead an__law_ahead cd__law_ahead ct__law_ahead),sl__law_ahead⟩)
  (c__law_ahead:aG K cd__law_ahead "_law_ahead"=true)
  (k__law_ahead:aD K (.ref f__law_ahead)=true)
  (a__law_edge_right:aE K mainGlobals "_law_edge_right"=some (some (.ref f__law_edge_right)))
  (l__law_edge_right:K.lookup f__law_edge_right=some ⟨oc__law_edge_right,od__law_edge_right,.func (aK "_law_edge_right" "_law_edge_right" (i5 s__law_edge_right) (i0 s__law_edge_right) (iL s__law_edge_right) .none kV__law_edge_right dc__law_edge_right pm__law_edge_right an__law_edge_right cd__law_edge_right ct__law_edge_right),sl__law_edge_right⟩)
  (c__law_edge_right:aG K cd__law_edge_right "_law_edge_right"=true)
  (k__law_edge_right:aD K (.ref f__law_edge_right)=true)
  (a__law_sooner:aE K mainGlobals "_law_sooner"=some (some (.ref f__law_sooner)))
  (l__law_sooner:K.lookup f__law_sooner=some ⟨oc__law_sooner,od__law_sooner,.func (aK "_law_sooner" "_law_sooner" (i5 s__law_sooner) (i0 s__law_sooner) (iL s__law_sooner) .none kV__law_sooner dc__law_sooner pm__law_sooner an__law_sooner cd__law_sooner ct__law_sooner),sl__law_sooner⟩)
  (c__law_sooner:aG K cd__law_sooner "_law_sooner"=true)
  (k__law_sooner:aD K (.ref f__law_sooner)=true)
  (a__law_rows:aE K mainGlobals "_law_rows"=some (some (.ref f__law_rows)))
  (l__law_rows:K.lookup f__law_rows=some ⟨oc__law_rows,od__law_rows,.func (aK "_law_rows" "_law_rows" (i5 s__law_rows) (i0 s__law_rows) (iL s__law_rows) .none kV__law_rows dc__law_rows pm__law_rows an__law_rows cd__law_rows ct__law_rows),sl__law_rows⟩)
  (c__law_rows:aG K cd__law_rows "_law_rows"=true)
  (k__law_rows:aD K (.ref f__law_rows)=true)
  (a_law:aE K mainGlobals "law"=some (some (.ref f_law)))
  (l_law:K.lookup f_law=some ⟨oc_law,od_law,.func (aK "law" "law" (i5 s_law) (i0 s_law) (iL s_law) .none kV_law dc_law pm_law an_law cd_law ct_law),sl_law⟩)
  (c_law:aG K cd_law "law"=true)
  (k_law:aD K (.ref f_law)=true)
  (z_abs:aE K mainGlobals "abs"=some none)
  (z_all:aE K mainGlobals "all"=some none)
  (z_bool:aE K mainGlobals "bool"=some none)
  (z_enumerate:aE K mainGlobals "enumerate"=some none)
  (z_int:aE K mainGlobals "int"=some none)
  (z_isinstance:aE K mainGlobals "isinstance"=some none)
  (z_len:aE K mainGlobals "len"=some none)
  (z_list:aE K mainGlobals "list"=some none)
  (z_max:aE K mainGlobals "max"=some none)
  (z_min:aE K mainGlobals "min"=some none)
  (z_range:aE K mainGlobals "range"=some none)
  (z_set:aE K mainGlobals "set"=some none)
  (z_sorted:aE K mainGlobals "sorted"=some none)
  (z_tuple:aE K mainGlobals "tuple"=some none)
  (z_zip:aE K mainGlobals "zip"=some none)
  (a_MOST_SPOTS:aE K mainGlobals "MOST_SPOTS"=some (some (.int 12 tk_MOST_SPOTS))),
  ∃fd:FuncData,(∀(s:Shared) (v:Value),BindsTo s fd ⟨[v],[]⟩ [("_law_script",v)]) /\ ∀base:Heap,K.In base ->base.Ns mainGlobals mg ->FnOk l.prog w K mg base (CXE l.prog w) 10 fa fd ["_law_script"] (sI K)
theorem walk{l:fX}{q:Program}{loose:List Str}{XP:(Str ->Option Value) ->Heap ->Prop}{YP:World ->Heap ->Prop}{d:DefRec}{K:Params ->ao}(hn:l.most=some 63)(hdf:d.params.defaults=[])
  (hY:∀(w:World) (h:Heap),YP w h ->(K w.params).In h)
  (F:∀(w:World) (mg:Str ->Option Value) (fa:Addr) (h:Heap),(K w.params).In h ->h.Ns mainGlobals mg ->mg d.name=some (.ref fa) ->
   ∃fd:FuncData,(∀(s:Shared) (u:Value),BindsTo s fd ⟨[u],[]⟩ [("_law_script",u)]) /\ ∀base:Heap,(K w.params).In base ->base.Ns mainGlobals mg ->FnOk l.prog w (K w.params) mg base (CXE l.prog w) 10 fa fd ["_law_script"] (sI (K w.params))):
  iA q loose XP YP l.row.toRowW d [] (fun f vs=>iy f vs):=
 L2.walk_of (n:=63) (k:=10) (x:="_law_script") (CX:=fun w=>(CXE l.prog w)) (sp:=fun w=>sI (K w.params)) hn (by decide) hdf ⟨rfl,by decide,by decide⟩ hY F (fun _ _ a ns hl _ hS=>⟨a,ns,rfl,hS,hl,fun _=>rfl⟩) fun _ _ _ _ _ z=>(by obtain⟨_,_,_,_,_,_,_,_,_,_,_,_,_,_,_,hE⟩:=z;exact hE)
end LW
namespace LW
open PySem
noncomputable def isN:Stmt ->Bool
 | .Assign [.Name x _] _ _=>x==("__name__":Str)
 |_=>false
noncomputable def qv:Program:={PySem.Challenge.pw_nearlands_k41_the_seam with main:={PySem.Challenge.pw_nearlands_k41_the_seam.main with body:=PySem.Challenge.pw_nearlands_k41_the_seam.main.body.filter fun s=> !isN s}}
end LW
section
open PySem PySem.W PyProof.Rows
local macro_rules| `(tactic|o_head $H)=> `(tactic|(refine holds_open (q:=LW.qv) (loose:=[]) (Xt:=fun s=>xlAt LW.qv [] s&&recOk (RowW.records PySem.Challenge.rw_nearlands_k41_the_seam.row.toRowW) s) (XP:=XL LW.qv []) (Yf:=Hook.obs $H) (Ya:=Hook.val $H) (YP:=Hook.says $H) (N:=30000) ?hl (Hook.of $H) (Hook.keeps $H) (fun s e=>xl_of s (gq.mp e).1) XL.keeps (by rfl) (by rfl) (by rfl) (fun s e=>recFacts_of (gq.mp e).2) (by rfl) (by first|assumption|decide+kernel) (by decide+kernel) ⟨rfl,rfl,rfl,rfl,rfl,by decide+kernel⟩ ?hw ?hc))
set_option maxRecDepth 100000 in
set_option maxHeartbeats 0 in
theorem LW.early(M:LW.AllMk):PySem.Challenge.rw_nearlands_k41_the_seam.Holds:=by
 w_on;o_law;k_head
 case hl=>
  intro w;unfold openEnds fencedOpening topFrom;rw[Fast.te10274390034422433532,Fast.te14082659384304107361,Fast.te14289696077712309145,Fast.te4187177175401517315,Fast.te1435165496053646825,Fast.te14364793385576792824]
  kernel_rfl
 case hw=>w_witness2
 k_fill
 refine LW.walk (l:=PySem.Challenge.rw_nearlands_k41_the_seam) rfl rfl (fun w h Y=>PySem.W.kIn_of Y) ?F
 case F=>
  intro w mg fa h KX G hmg;refine' M KX G hmg ?x0 ?x1 ?x2 ?x3 ?x4 ?x5 ?x6 ?x7 ?x8 ?x9 ?x10 ?x11 ?x12 ?x13 ?x14 ?x15 ?x16 ?x17 ?x18 ?x19 ?x20 ?x21 ?x22 ?x23 ?x24 ?x25 ?x26 ?x27 ?x28 ?x29 ?x30 ?x31 ?x32 ?x33 ?x34 ?x35 ?x36 ?x37 ?x38 ?x39 ?x40 ?x41 ?x42 ?x43 ?x44 ?x45 ?x46 ?x47 ?x48 ?x49 ?x50 ?x51 ?x52 ?x53 ?x54 ?x55 ?x56 ?x57 ?x58 ?x59 ?x60 ?x61 ?x62 ?x63 ?x64 ?x65 ?x66 ?x67 ?x68 ?x69 ?x70 ?x71 ?x72 ?x73 ?x74 ?x75 ?x76 ?x77 ?x78 ?x79 ?x80 ?x81 ?x82 ?x83 ?x84 ?x85 ?x86 ?x87 ?x88 ?x89 ?x90 ?x91 ?x92 ?x93 ?x94 ?x95 ?x96 ?x97 ?x98 ?x99 ?x100 ?x101 ?x102 ?x103 ?x104 ?x105 ?x106 ?x107 ?x108 ?x109 ?x110 ?x111 ?x112 ?x113 ?x114 ?x115 ?x116 ?x117 ?x118 ?x119 ?x120 ?x121 ?x122 ?x123 ?x124 ?x125 ?x126 ?x127 ?x128 ?x129 ?x130 ?x131 ?x132 ?x133 ?x134 ?x135 ?x136 ?x137 ?x138 ?x139 ?x140 ?x141 ?x142 ?x143 ?x144 ?x145 ?x146 ?x147 ?x148 ?x149 ?x150 ?x151 ?x152 ?x153 ?x154 ?x155 ?x156 ?x157 ?x158 ?x159 ?x160 ?x161 ?x162 ?x163 ?x164 ?x165 ?x166 ?x167 ?x168 ?x169 ?x170 ?x171 ?x172 ?x173 ?x174 ?x175 ?x176 ?x177 ?x178 ?x179 ?x180 ?x181 ?x182 ?x183 ?x184 ?x185 ?x186 ?x187 ?x188 ?x189 ?x190 ?x191 ?x192 ?x193 ?x194 ?x195 ?x196 ?x197 ?x198 ?x199 ?x200 ?x201 ?x202 ?x203
  (case x0=>k_is)
  (case x1=>k_is)
  (case x2=>k_is)
  (case x3=>k_is)
  (case x4=>k_is)
  (case x5=>k_is)
  (case x6=>k_is)
  (case x7=>k_is)
  (case x8=>k_is)
  (case x9=>k_is)
  (case x10=>k_is)
  (case x11=>k_is)
  (case x12=>k_is)
  (case x13=>k_is)
  (case x14=>k_is)
  (case x15=>k_is)
  (case x16=>k_is)
  (case x17=>k_is)
  (case x18=>k_is)
  (case x19=>k_is)
  (case x20=>k_is)
  (case x21=>k_is)
  (case x22=>k_is)
  (case x23=>k_is)
  (case x24=>k_is)
  (case x25=>k_is)
  (case x26=>k_is)
  (case x27=>k_is)
  (case x28=>k_is)
  (case x29=>k_is)
  (case x30=>k_is)
  (case x31=>k_is)
  (case x32=>k_is)
  (case x33=>k_is)
  (case x34=>k_is)
  (case x35=>k_is)
  (case x36=>k_is)
  (case x37=>k_is)
  (case x38=>k_is)
  (case x39=>k_is)
  (case x40=>k_is)
  (case x41=>k_is)
  (case x42=>k_is)
  (case x43=>k_is)
  (case x44=>k_is)
  (case x45=>k_is)
  (case x46=>k_is)
  (case x47=>k_is)
  (case x48=>k_is)
  (case x49=>k_is)
  (case x50=>k_is)
  (case x51=>k_is)
  (case x52=>k_is)
  (case x53=>k_is)
  (case x54=>k_is)
  (case x55=>k_is)
  (case x56=>k_is)
  (case x57=>k_is)
  (case x58=>k_is)
  (case x59=>k_is)
  (case x60=>k_is)
  (case x61=>k_is)
  (case x62=>k_is)
  (case x63=>k_is)
  (case x64=>k_is)
  (case x65=>k_is)
  (case x66=>k_is)
  (case x67=>k_is)
  (case x68=>k_is)
  (case x69=>k_is)
  (case x70=>k_is)
  (case x71=>k_is)
  (case x72=>k_is)
  (case x73=>k_is)
  (case x74=>k_is)
  (case x75=>k_is)
  (case x76=>k_is)
  (case x77=>k_is)
  (case x78=>k_is)
  (case x79=>k_is)
  (case x80=>k_is)
  (case x81=>k_is)
  (case x82=>k_is)
  (case x83=>k_is)
  (case x84=>k_is)
  (case x85=>k_is)
  (case x86=>k_is)
  (case x87=>k_is)
  (case x88=>k_is)
  (case x89=>k_is)
  (case x90=>k_is)
  (case x91=>k_is)
  (case x92=>k_is)
  (case x93=>k_is)
  (case x94=>k_is)
  (case x95=>k_is)
  (case x96=>k_is)
  (case x97=>k_is)
  (case x98=>k_is)
  (case x99=>k_is)
  (case x100=>k_is)
  (case x101=>k_is)
  (case x102=>k_is)
  (case x103=>k_is)
  (case x104=>k_is)
  (case x105=>k_is)
  (case x106=>k_is)
  (case x107=>k_is)
  (case x108=>k_is)
  (case x109=>k_is)
  (case x110=>k_is)
  (case x111=>k_is)
  (case x112=>k_is)
  (case x113=>k_is)
  (case x114=>k_is)
  (case x115=>k_is)
  (case x116=>k_is)
  (case x117=>k_is)
  (case x118=>k_is)
  (case x119=>k_is)
  (case x120=>k_is)
  (case x121=>k_is)
  (case x122=>k_is)
  (case x123=>k_is)
  (case x124=>k_is)
  (case x125=>k_is)
  (case x126=>k_is)
  (case x127=>k_is)
  (case x128=>k_is)
  (case x129=>k_is)
  (case x130=>k_is)
  (case x131=>k_is)
  (case x132=>k_is)
  (case x133=>k_is)
  (case x134=>k_is)
  (case x135=>k_is)
  (case x136=>k_is)
  (case x137=>k_is)
  (case x138=>k_is)
  (case x139=>k_is)
  (case x140=>k_is)
  (case x141=>k_is)
  (case x142=>k_is)
  (case x143=>k_is)
  (case x144=>k_is)
  (case x145=>k_is)
  (case x146=>k_is)
  (case x147=>k_is)
  (case x148=>k_is)
  (case x149=>k_is)
  (case x150=>k_is)
  (case x151=>k_is)
  (case x152=>k_is)
  (case x153=>k_is)
  (case x154=>k_is)
  (case x155=>k_is)
  (case x156=>k_is)
  (case x157=>k_is)
  (case x158=>k_is)
  (case x159=>k_is)
  (case x160=>k_is)
  (case x161=>k_is)
  (case x162=>k_is)
  (case x163=>k_is)
  (case x164=>k_is)
  (case x165=>k_is)
  (case x166=>k_is)
  (case x167=>k_is)
  (case x168=>k_is)
  (case x169=>k_is)
  (case x170=>k_is)
  (case x171=>k_is)
  (case x172=>k_is)
  (case x173=>k_is)
  (case x174=>k_is)
  (case x175=>k_is)
  (case x176=>k_is)
  (case x177=>k_is)
  (case x178=>k_is)
  (case x179=>k_is)
  (case x180=>k_is)
  (case x181=>k_is)
  (case x182=>k_is)
  (case x183=>k_is)
  (case x184=>k_is)
  (case x185=>k_is)
  (case x186=>k_is)
  (case x187=>k_is)
  (case x188=>k_is)
  (case x189=>k_is)
  (case x190=>k_is)
  (case x191=>k_is)
  (case x192=>k_is)
  (case x193=>k_is)
  (case x194=>k_is)
  (case x195=>k_is)
  (case x196=>k_is)
  (case x197=>k_is)
  (case x198=>k_is)
  (case x199=>k_is)
  (case x200=>k_is)
  (case x201=>k_is)
  (case x202=>k_is)
  (case x203=>k_is)
end
namespace L2
open PySem PySem.Spec PyProof.Rows
theorem vH(i:Int)(t:Tok):uh (.inl i) (.int i t)=true:=by simp[uh,Value.isInt]
theorem vG(x:Str)(t:Tok):uh (.inr x) (.str x t)=true:=by simp[uh,Value.isStrOf]
theorem rO(prog:Program)(w:World)(i:Int)(t:Tok):(jK prog w).is (.inl i) (.int i t)=true:=vH i t
theorem rN(prog:Program)(w:World)(x:Str)(t:Tok):(jK prog w).is (.inr x) (.str x t)=true:=vG x t
end L2
namespace L2
open PySem PySem.Spec PyProof.Rows
theorem Vals.get:∀{xs:List V} {us:List Value} {i:Nat} {x:V},Vals xs us ->xs[i]? =some x -> ∃u,us[i]? =some u /\ RelV x u
 |_,_,_,_,.nil,e=>by simp at e
 |_,_,0,_,.cons r _,e=>by simp at e;subst e;exact⟨_,rfl,r⟩
 |_,_,i+1,x,.cons _ t,e=>by
  obtain⟨u,h1,h2⟩:=Vals.get (i:=i) (x:=x) t (by simpa using e)
  exact⟨u,by simpa using h1,h2⟩
theorem Vals.append:∀{xs ys:List V} {us ws:List Value},Vals xs us ->Vals ys ws ->Vals (xs++ys) (us++ws)
 |_,_,_,_,.nil,s=>s
 |_,_,_,_,.cons r t,s=> .cons r (Vals.append t s)
theorem Vals.take:∀{xs:List V} {us:List Value} (n:Nat),Vals xs us ->Vals (xs.take n) (us.take n)
 |_,_,0,_=> .nil
 |_,_,_+1,.nil=> .nil
 |_,_,n+1,.cons r t=> .cons r (Vals.take n t)
theorem Vals.drop:∀{xs:List V} {us:List Value} (n:Nat),Vals xs us ->Vals (xs.drop n) (us.drop n)
 |_,_,0,r=>r
 |_,_,_+1,.nil=> .nil
 |_,_,n+1,.cons _ t=>Vals.drop n t
noncomputable def upd(H:Hp)(a:Addr)(o:HO):Hp:=fun b=>if b=a then some o else H b
theorem iN{H:Hp}{a:Addr}{o:HO}:upd H a o a=some o:=by unfold upd;rw[if_pos rfl]
theorem i6{H:Hp}{a b:Addr}{o:HO}(h:b≠a):upd H a o b=H b:=by unfold upd;rw[if_neg h]
theorem uw{H:Hp}{a:Addr}{o u:HO}:upd (upd H a o) a u=upd H a u:=by
 funext b;unfold upd;split<;>rfl
theorem lI{H:Hp}{a b:Addr}{o u:HO}(h:H a=some o)(h':H b=some u)(d:o≠u):a≠b:=by
 intro e;subst e;rw[h] at h';exact d (ba.inj h')
theorem iY{H:Hp}{a b:Addr}{o:HO}(h:H a=some o)(h':H b=none):a≠b:=by
 intro e;subst e;rw[h] at h';cases h'
section
variable (P:Program) (w:World)
end
section
variable {P:Program} {w:World} {H H':Hp} {h h':Heap} {a:Addr} {o:HO}
theorem Paired.mapP{α β:Type}{F G:α ->β ->Prop}:∀{l₁:List α} {l₂:List β},Paired F l₁ l₂ ->(∀a b,F a b ->G a b) ->Paired G l₁ l₂
 |_,_,.nil,_=> .nil
 |_,_,.cons r t,f=> .cons (f _ _ r) (Paired.mapP t f)
noncomputable def AV:HO ->Bool
 | .tup _=>true
 | .frz _ _=>true
 |_=>false
noncomputable abbrev Still:={o:HO //AV o=true}
theorem ObjOk.stay(x:ObjOk P w H h a o)(k:∀b u,(b=a∨H b=some (.own a)) ->h.get? b=some u ->h'.get? b=some u)
  (ho:∀b,H b=some (.own a) ->H' b=some (.own a)) (ht:∀(b:Addr) (xs:Still),H b=some xs.1 ->H' b=some xs.1):ObjOk P w H' h' a o:=by
 induction o with
 |lst xs=>obtain⟨z,its,n,r,e⟩:=x;exact⟨z,its,n,r,k _ _ (.inl rfl) e⟩
 |tup xs=>obtain⟨z,its,r,ob,e,c⟩:=x;exact⟨z,its,r,ob,k _ _ (.inl rfl) e,c⟩
 |dK kvs=>obtain⟨z,y,vs,r,ob,es,ep,e,c⟩:=x;exact⟨z,y,vs,r,ob,es,ep,k _ _ (.inl rfl) e,c⟩
 |dT kvs=>
  obtain⟨z,y,xs,r,ob,es,ep,e,c⟩:=x
  exact⟨z,y,xs,Paired.mapP r fun p q z=>⟨z.1,ht _ ⟨.tup _,rfl⟩ z.2.1,z.2.2⟩,ob,es,ep,k _ _ (.inl rfl) e,c⟩
 |set S n=>obtain⟨ob,es,ep,t,e,c⟩:=x;exact⟨ob,es,ep,t,k _ _ (.inl rfl) e,c⟩
 |ins C dx fs=>
  obtain⟨d,z,ne,e,mA,⟨od,es,ep,e2,c⟩,r⟩:=x
  exact⟨ho _ d,z,ne,k _ _ (.inl rfl) e,mA,⟨od,es,ep,k _ _ (.inr d) e2,c⟩,r⟩
 |own y=>obtain⟨ob,e⟩:=x;exact⟨ob,k _ _ (.inl rfl) e⟩
 |xd fs=>obtain⟨mA,⟨od,es,ep,e,c⟩,r⟩:=x;exact⟨mA,⟨od,es,ep,k _ _ (.inl rfl) e,c⟩,r⟩
 |rng lo hi=>obtain⟨t,u,v,e⟩:=x;exact⟨t,u,v,k _ _ (.inl rfl) e⟩
 |frz ob u ih=>obtain⟨e,q⟩:=x;exact⟨k _ _ (.inl rfl) e,ih q⟩
 |tbl ps=>
  obtain⟨qs,e,z⟩:=x
  refine⟨qs,k _ _ (.inl rfl) e,z.imp id fun⟨c,oc,l,d,q,t,u,vs,e1,e2,e3,e4⟩=>⟨c,oc,l,d,q,t,u,vs,e1,e2,ht c ⟨.frz oc (.own 0),rfl⟩ e3,e4⟩⟩
 |met f y=>
  have e:h.get? a=some (fD (.ref f) (.ref y)):=x
  show h'.get? a=some (fD (.ref f) (.ref y))
  exact k a _ (.inl rfl) e
 |ext φ=>obtain⟨p,⟨o,e⟩,st⟩:=x;exact⟨st _ _ p fun o q=>k _ _ (.inl rfl) q,⟨o,k _ _ (.inl rfl) e⟩,st⟩
theorem HOk.fresh(x:HOk P w H h)(e:h.objs.size<=a):H a=none:=by
 cases q:H a with
 |none=>rfl
 |some u=>exact absurd (aR (x.lt q) e) (cz _)
theorem HOk.kept(x:HOk P w H h)(k:∀b u,h.get? b=some u ->h'.get? b=some u):HOk P w H h':=fun a o e=>
 (x a o e).stay (fun b u _ q=>k b u q) (fun _ q=>q) fun _ _ q=>q
theorem HOk.laid(x:HOk P w H h)(k:∀b u,h.get? b=some u ->h'.get? b=some u)(hp:h.objs.size<=a)(new:ObjOk P w (upd H a o) h' a o):HOk P w (upd H a o) h':=fun b u e=>by
 have hn:=x.fresh hp
 by_cases hb:b=a
 ·subst hb;rw[iN] at e;cases e;exact new
 ·rw[i6 hb] at e;exact(x b u e).stay (fun c v _ q=>k c v q) (fun c q=>by rw[i6 (iY q hn)];exact q) fun c xs q=>by rw[i6 (iY q hn)];exact q
end
noncomputable def Mut:Option HO ->Prop
 |some (.lst _)=>True
 |some (.dK _)=>True
 |some (.dT _)=>True
 |some (.set _ _)=>True
 |some (.ins _ _ _)=>True
 |some (.ext _)=>True
 |_=>False
section
variable {P:Program} {w:World} {H:Hp} {h h':Heap} {x e:Addr} {o':HO}
theorem HOk.write(ok:HOk P w H h)(mu:Mut (H x))(he:e=x∨H e=some (.own x))(k:∀b u,b≠e ->h.get? b=some u ->h'.get? b=some u)(heo:∃u,h'.get? e=some u)
  (new:ObjOk P w (upd H x o') h' x o'):HOk P w (upd H x o') h':=fun b u q=>by
 have nown:∀c y,H c=some (.own y) ->c≠x:=fun c y r z=>by subst z;rw[r] at mu;exact mu
 have ntup:∀c (xs:Still),H c=some xs.1 ->c≠x:=fun c xs r z=>by
  subst z;rw[r] at mu;obtain⟨o,ho⟩:=xs
  cases o<;>first|exact mu|cases ho
 by_cases hb:b=x
 ·subst hb;rw[iN] at q;cases q;exact new
 ·rw[i6 hb] at q
  by_cases hbe:b=e
  ·have q':H b=some (.own x):=by
    rcases he with z|z
    ·exact absurd (hbe.trans z) hb
    ·rw[hbe];exact z
   rw[q] at q';cases q';obtain⟨v,hv⟩:=heo
   exact⟨v,by rw[hbe];exact hv⟩
  ·refine(ok b u q).stay (fun c v hc r=>k c v ?_ r) (fun c r=>by rw[i6 (nown c b r)];exact r) fun c xs r=>by rw[i6 (ntup c xs r)];exact r
   rcases hc with rfl|hc
   ·exact hbe
   ·rintro rfl;rcases he with z|z
    ·exact nown c b hc z
    ·rw[hc] at z;cases z;exact hb rfl
end
section
variable {fs fs' ex ex':List Addr} {H H1 H2:Hp} {h h1 h2 h':Heap} {a x e:Addr} {o:HO}
theorem Un.any(u:Un fs ex H H1 h h1){b:Addr}{ob:Obj}(q:h.get? b=some ob)(n:H b=none)(hx:b∉ex):∃sl,h1.get? b=some {ob with slots:=sl}:=by
 by_cases hb:b∈fs
 ·exact u.slot b ob q n hb hx
 ·exact⟨ob.slots,u.keep b ob q n hb hx⟩
theorem Un.kept(k:∀b u,h.get? b=some u ->h'.get? b=some u):Un fs ex H H h h':=
 ⟨fun b ob q _ _ _=>k b ob q,fun b ob q _ _ _=>⟨ob.slots,k b ob q⟩,fun _ _ _ n _=>n,fun b ob q _=>⟨ob,k b ob q⟩,fun _ _ q=>q,fun _ _ _ q=>q,fun _ ps q=>⟨#[],by rw[q];simp⟩⟩
theorem Un.refl:Un fs ex H H h h:=Un.kept fun _ _ q=>q
theorem Un.laid(k:∀b u,h.get? b=some u ->h'.get? b=some u)(hp:h.objs.size<=a)(hn:H a=none):Un fs ex H (upd H a o) h h' where
 keep:=fun b u q _ _ _=>k b u q
 slot:=fun b u q _ _ _=>⟨u.slots,k b u q⟩
 free:=fun b u q n _=>by rw[i6 (aU (aR (Heap.lt_size q) hp))];exact n
 there:=fun b u q _=>⟨u,k b u q⟩
 tups:=fun b xs q=>by rw[i6 (iY q hn)];exact q
 frzs:=fun b u xs q=>by rw[i6 (iY q hn)];exact q
 tbls:=fun b ps q=>⟨#[],by rw[i6 (iY q hn),q];simp⟩
theorem Un.write(mu:Mut (H x))(he:e=x∨H e=some (.own x))(k:∀b u,b≠e ->h.get? b=some u ->h'.get? b=some u)(heo:∃u,h'.get? e=some u):Un fs ex H (upd H x o) h h':=by
 have hx:∀b,H b=none ->b≠x:=fun b n z=>by subst z;rw[n] at mu;exact mu
 have hb:∀b,H b=none ->b≠e:=fun b n z=>by
  subst z;rcases he with r|r
  ·exact hx b n r
  ·rw[n] at r;cases r
 have hm:∀b u,H b=some u -> ¬Mut (some u) ->b≠x:=fun b u q nm z=>by subst z;rw[q] at mu;exact nm mu
 refine⟨fun b u q n _ _=>k b u (hb b n) q,fun b u q n _ _=>⟨u.slots,k b u (hb b n) q⟩,fun b u q n _=>by rw[i6 (hx b n)];exact n,fun b u q _=> ?_,
  fun b xs q=>by rw[i6 (hm b _ q fun z=>z)];exact q,fun b u xs q=>by rw[i6 (hm b _ q fun z=>z)];exact q,fun b ps q=>⟨#[],by rw[i6 (hm b _ q fun z=>z),q];simp⟩⟩
 by_cases hbe:b=e
 ·subst hbe;exact heo
 ·exact⟨u,k b u hbe q⟩
end
end L2
namespace L2
open PySem PySem.Spec PyProof.Rows
structure Cx where
 prog:Program
 w:World
 K:ao
 mg:Str ->Option Value
 base:Heap
 A:Around
 N:List Str
 s₀:Shared
 H₀:Hp
 env:Env
 outer:List Env
 stack:List Env
 ex:List Addr
 fn:Str ->Bool
 calm:Bool
 pn:List (Addr×Obj)
 xe:Value ->Shared ->Prop
noncomputable abbrev Cx.fs(X:Cx):List Addr:=frs X.outer
noncomputable def Vis(sc:Scope)(x:Str):Prop:=sc.names.lookup x=some .local∨sc.names.lookup x=some .cell∨sc.names.lookup x=some .free
noncomputable def Loc(sc:Scope)(x:Str):Prop:=sc.names.lookup x=some .local∨sc.names.lookup x=some .cell
noncomputable def Look(env:Env)(h:Heap)(m:Str ->Option Value)(x:Str)(u:Value):Prop:=
 (env.kindOf x=some .local /\ m x=some u)∨((env.kindOf x=some .cell∨env.kindOf x=some .free) /\ ∃c,env.cells.lookup x=some c /\ h.IsCell c (some u))
structure Cx.Ok(X:Cx):Prop where
 mod:Mod X.K X.mg X.base
 kind:X.env.scope.kind= .function
 glob:X.env.globals=mainGlobals
 blt:X.env.builtins=builtinsNs
 above:X.s₀.heap.objs.size<=X.env.locals
 inj:∀x y c,X.env.cells.lookup x=some c ->X.env.cells.lookup y=some c ->x=y
 has:∀x,(X.env.kindOf x=some .cell∨X.env.kindOf x=some .free) -> ∃c,X.env.cells.lookup x=some c
 cab:∀x c,X.fn x=true ->X.env.cells.lookup x=some c ->X.s₀.heap.objs.size<=c
 hd:X.calm=true ->X.A.handled=none
 frames:X.A.frames=some X.stack
 stk:X.stack=X.outer∨(X.stack=X.env::X.outer /\ X.env.frame=some X.env.locals)
 exf:∀b∈X.ex,b≠X.env.locals /\ ∀x c,X.env.cells.lookup x=some c ->c≠b
 bs:∀b o,X.base.get? b=some o ->X.s₀.heap.get? b=some o /\ X.H₀ b=none
 bsz:X.base.objs.size<=X.s₀.heap.objs.size
 noex:∀b o,X.base.get? b=some o ->b∉X.ex
 exfs:∀b∈X.ex,b∉X.fs
 funs:X.s₀.heap.FunFrames X.base X.outer
 frf:∀b∈X.fs,X.H₀ b=none
structure Inv(X:Cx)(pins:List (Addr×Obj))(σ:List (Option V))(H:Hp)(s:Shared):Prop where
 ok:X.Ok
 os:s.os=X.s₀.os
 bare:AllBare s.gens
 base:Un X.fs X.ex X.H₀ H X.s₀.heap s.heap
 loc:∃m,s.heap.Ns X.env.locals m /\ ∀(i:Nat) (x:Str) (v:V),X.N[i]? =some x ->σ[i]? =some (some v) ->Vis X.env.scope x -> ∃u,RelV v u /\ Look X.env s.heap m x u
 cell:∀x c,X.env.cells.lookup x=some c -> ∃v,s.heap.IsCell c v
 free:H X.env.locals=none
 freeC:∀x c,X.env.cells.lookup x=some c ->H c=none
 pin:∀p∈X.pn++pins,s.heap.get? p.1=some p.2 /\ H p.1=none /\ p.1≠X.env.locals /\ p.1∉X.fs /\ ∀v,p.2.data≠ .cell v
 hok:HOk X.prog X.w H s.heap
 len:σ.length=X.N.length
section
variable {X:Cx} {pins:List (Addr×Obj)} {σ:List (Option V)} {H H':Hp} {s:Shared} {h':Heap}
theorem Cx.Ok.nofr(ok:X.Ok){b:Addr}{o:Obj}(e:X.base.get? b=some o):b∉X.fs:=fun hb=>by
 have:=(ok.funs.mem hb).1
 rw[e] at this;cases this
theorem Inv.bs(I:Inv X pins σ H s):∀b o,X.base.get? b=some o ->s.heap.get? b=some o /\ H b=none:=fun b o e=>
 ⟨I.base.keep b o (I.ok.bs b o e).1 (I.ok.bs b o e).2 (I.ok.nofr e) (I.ok.noex b o e),I.base.free b o (I.ok.bs b o e).1 (I.ok.bs b o e).2 (I.ok.noex b o e)⟩
theorem Inv.bk(I:Inv X pins σ H s):∀b o,X.base.get? b=some o ->s.heap.get? b=some o:=fun b o e=>(I.bs b o e).1
theorem Inv.mod(I:Inv X pins σ H s):Mod X.K X.mg X.base:=I.ok.mod
theorem Inv.kIn(I:Inv X pins σ H s):X.K.In s.heap:=I.ok.mod.kin.keeps I.bk
theorem Inv.lt(I:Inv X pins σ H s):X.env.locals<s.heap.objs.size:=let⟨_,hn,_⟩:=I.loc;hn.lt
theorem Inv.sz(I:Inv X pins σ H s):X.s₀.heap.objs.size<=s.heap.objs.size:=cv I.ok.above (fY I.lt)
theorem Inv.nofs(I:Inv X pins σ H s){a:Addr}(h:s.heap.objs.size<=a):a∉X.fs:=fun hb=>by
 obtain⟨_,o,ho,_⟩:=I.ok.funs.mem hb
 exact absurd (aR (Heap.lt_size ho) (cv I.sz h)) (cz _)
theorem Inv.cne(I:Inv X pins σ H s):∀x c,X.env.cells.lookup x=some c ->c≠X.env.locals:=fun x c e z=>by
 obtain⟨v,o,ho,hd⟩:=I.cell x c e
 obtain⟨m,⟨o',es,ep,ho',hd',_⟩,_⟩:=I.loc
 rw[z,ho'] at ho;cases ho;rw[hd'] at hd;cases hd
theorem Inv.funs(I:Inv X pins σ H s):s.heap.FunFrames X.base X.outer:=by
 have all:∀(l:List Env),(∀b∈frs l,b∈X.fs) ->X.s₀.heap.FunFrames X.base l ->s.heap.FunFrames X.base l:=by
  intro l
  induction l with
  |nil=>intro _ _;trivial
  |cons env r ih=>
   intro hs hl;obtain⟨hk,⟨L,o,hf,hn,ho,hd⟩,hr⟩:=hl
   have hL:L∈X.fs:=hs L (by unfold frs;rw[fb,hf];exact bJ)
   obtain⟨sl,e⟩:=I.base.slot L o ho (I.ok.frf L hL) hL fun z=>I.ok.exfs L z hL
   exact⟨hk,⟨L,_,hf,hn,e,hd⟩,ih (fun b hb=>hs b (by unfold frs;rw[fb,hf];exact aP _ hb)) hr⟩
 exact all X.outer (fun _ hb=>hb) I.ok.funs
theorem Inv.stack(I:Inv X pins σ H s):s.heap.FunFrames X.base X.stack:=by
 rcases I.ok.stk with e|⟨e,hf⟩
 ·rw[e];exact I.funs
 ·rw[e];obtain⟨m,hn,_⟩:=I.loc
  refine .cons (by rw[I.ok.kind];decide) hf hn ?_ I.funs
  exact Heap.get?_none_of_le (cv I.ok.bsz I.ok.above)
theorem Inv.stkSub(I:Inv X pins σ H s):∀b∈frs X.stack,b∈X.env.locals::X.fs:=fun b hb=>by
 rcases I.ok.stk with e|⟨e,hf⟩
 ·rw[e] at hb;exact aP _ hb
 ·rw[e] at hb;unfold frs at hb;rw[fb,hf] at hb;exact hb
theorem Inv.stkFree(I:Inv X pins σ H s):∀b∈frs X.stack,H b=none:=fun b hb=>by
 rcases aw.mp (I.stkSub b hb) with e|hb
 ·rw[e];exact I.free
 ·obtain⟨_,o,ho,_⟩:=I.ok.funs.mem hb
  exact I.base.free b o ho (I.ok.frf b hb) fun z=>I.ok.exfs b z hb
theorem Inv.step{g':Array GenState}{t':Nat}{d':Drawn}{ch:List Addr}(I:Inv X pins σ H s)
  (hch:∀b∈ch,(b∈X.ex∨X.s₀.heap.objs.size<=b) /\ b≠X.env.locals /\ (∀x c,X.env.cells.lookup x=some c ->c≠b) /\ ∀p∈X.pn++pins,p.1≠b)
  (keep:∀b o,b≠X.env.locals ->b∉X.fs ->b∉ch ->s.heap.get? b=some o ->H b=none ->h'.get? b=some o)
  (slot:∀b o,b≠X.env.locals ->b∈X.fs ->b∉ch ->s.heap.get? b=some o ->H b=none -> ∃sl,h'.get? b=some {o with slots:=sl}) (free:∀b o,b∉ch ->s.heap.get? b=some o ->H b=none ->H' b=none)
  (there:∀b o,b∉ch ->s.heap.get? b=some o -> ∃o',h'.get? b=some o')
  (tups:∀b xs,H b=some (.tup xs) ->H' b=some (.tup xs)) (frzs:∀b o u,H b=some (.frz o u) ->H' b=some (.frz o u)) (tbls:∀b ps,H b=some (.tbl ps) -> ∃more,H' b=some (.tbl (ps++more)))
  (ns:∀m,s.heap.Ns X.env.locals m ->h'.Ns X.env.locals m) (hok:HOk X.prog X.w H' h') (hg:AllBare g'):
  Inv X pins σ H' {s with heap:=h',gens:=g',drawn:=d',toks:=t'}:=by
 have neL:∀b o,X.s₀.heap.get? b=some o ->b≠X.env.locals:=fun b o e=>aU (aR (Heap.lt_size e) I.ok.above)
 have neC:∀b o,X.s₀.heap.get? b=some o ->b∉X.ex ->b∉ch:=fun b o e hx hb=>by
  rcases(hch b hb).1 with z|z
  ·exact hx z
  ·exact absurd (aR (Heap.lt_size e) z) (cz _)
 have cellK:∀x c,X.env.cells.lookup x=some c -> ∀v,s.heap.IsCell c v ->h'.IsCell c v:=fun x c e v ⟨o,ho,hd⟩=>by
  have nch:c∉ch:=fun z=>(hch c z).2.2.1 x c e rfl
  by_cases hc:c∈X.fs
  ·obtain⟨sl,q⟩:=slot c o (I.cne x c e) hc nch ho (I.freeC x c e)
   exact⟨_,q,hd⟩
  ·exact⟨o,keep c o (I.cne x c e) hc nch ho (I.freeC x c e),hd⟩
 refine⟨I.ok,I.os,hg,⟨fun b o e n hb hx=> ?_,fun b o e n hb hx=> ?_,fun b o e n hx=> ?_,fun b o e hx=> ?_,fun b xs e=>tups b xs (I.base.tups b xs e),fun b o xs e=>frzs b o xs (I.base.frzs b o xs e),fun b ps e=> ?_⟩,?_,fun x c e=> ?_,?_,fun x c e=> ?_,fun p hp=> ?_,hok,I.len⟩
 ·exact keep b o (neL b o e) hb (neC b o e hx) (I.base.keep b o e n hb hx) (I.base.free b o e n hx)
 ·obtain⟨sl,e1⟩:=I.base.slot b o e n hb hx
  obtain⟨sl',e2⟩:=slot b _ (neL b o e) hb (neC b o e hx) e1 (I.base.free b o e n hx)
  exact⟨sl',e2⟩
 ·obtain⟨o',e1⟩:=I.base.there b o e hx
  exact free b o' (neC b o e hx) e1 (I.base.free b o e n hx)
 ·obtain⟨o',e1⟩:=I.base.there b o e hx
  exact there b o' (neC b o e hx) e1
 ·obtain⟨m1,e1⟩:=I.base.tbls b ps e
  obtain⟨m2,e2⟩:=tbls b _ e1
  exact⟨m1++m2,by rw[e2,Array.append_assoc]⟩
 ·obtain⟨m,hn,hl⟩:=I.loc
  refine⟨m,ns m hn,fun i x v e1 e2 e3=> ?_⟩;obtain⟨u,r,l⟩:=hl i x v e1 e2 e3
  refine⟨u,r,?_⟩;rcases l with l|⟨k,c,e,z⟩
  ·exact .inl l
  ·exact .inr ⟨k,c,e,cellK x c e _ z⟩
 ·obtain⟨v,z⟩:=I.cell x c e
  exact⟨v,cellK x c e v z⟩
 ·obtain⟨m,⟨o,_,_,ho,_⟩,_⟩:=I.loc
  exact free _ o (fun z=>(hch _ z).2.1 rfl) ho I.free
 ·obtain⟨v,o,ho,hd⟩:=I.cell x c e
  exact free c o (fun z=>(hch c z).2.2.1 x c e rfl) ho (I.freeC x c e)
 ·obtain⟨e,n,ne,nf,d⟩:=I.pin p hp
  have nch:p.1∉ch:=fun z=>(hch p.1 z).2.2.2 p hp rfl
  exact⟨keep p.1 p.2 ne nf nch e n,free p.1 p.2 nch e n,ne,nf,d⟩
theorem Inv.un{t':Nat}(I:Inv X pins σ H s)(u:Un X.fs [] H H' s.heap h')(hok:HOk X.prog X.w H' h'):Inv X pins σ H' {s with heap:=h',toks:=t'}:=by
 obtain⟨m,⟨o,es,ep,ho,r⟩,_⟩:=id I.loc
 obtain⟨sl,hL⟩:=u.any ho I.free (by simp)
 exact I.step (g':=s.gens) (d':=s.drawn) (ch:=[]) (fun _ z=>nomatch z) (fun b o _ hb _ e n=>u.keep b o e n hb (by simp)) (fun b o _ hb _ e n=>u.slot b o e n hb (by simp)) (fun b o _ e n=>u.free b o e n (by simp)) (fun b o _ e=>u.there b o e (by simp)) u.tups u.frzs u.tbls (fun m' hm=>by
  obtain⟨o',es',ep',ho',r'⟩:=hm
  rw[ho] at ho';cases ho';exact⟨_,es',ep',hL,r'⟩) hok I.bare
theorem Inv.call{g':Array GenState}{t':Nat}{d':Drawn}{ch:List Addr}(I:Inv X pins σ H s)(u:Un (frs X.stack) ch H H' s.heap h')(hok:HOk X.prog X.w H' h')(hg:AllBare g')
  (hch:∀b∈ch,(b∈X.ex∨X.s₀.heap.objs.size<=b) /\ b≠X.env.locals /\ (∀x c,X.env.cells.lookup x=some c ->c≠b) /\ ∀p∈X.pn++pins,p.1≠b):
  Inv X pins σ H' {s with heap:=h',gens:=g',drawn:=d',toks:=t'}:=by
 obtain⟨m,⟨o,es,ep,ho,r⟩,_⟩:=id I.loc
 obtain⟨sl,hL⟩:=u.any ho I.free fun z=>(hch _ z).2.1 rfl
 exact I.step (ch:=ch) hch (fun b o hL hb hc e n=>u.keep b o e n (fun z=>(aw.mp (I.stkSub b z)).elim hL hb) hc) (fun b o _ _ hc e n=>u.any e n hc) (fun b o hc e n=>u.free b o e n hc) (fun b o hc e=>u.there b o e hc) u.tups u.frzs u.tbls (fun m' hm=>by
  obtain⟨o',es',ep',ho',r'⟩:=hm
  rw[ho] at ho';cases ho';exact⟨_,es',ep',hL,r'⟩) hok hg
theorem Inv.turned{t':Nat}{it:Addr}(I:Inv X pins σ H s)(k:∀b o,b≠it ->s.heap.get? b=some o ->h'.get? b=some o)(hn:H it=none)(hL:it≠X.env.locals)
  (h1:it∈X.ex∨X.s₀.heap.objs.size<=it) (h2:∀x c,X.env.cells.lookup x=some c ->c≠it) (h3:∀p∈X.pn++pins,p.1≠it):Inv X pins σ H {s with heap:=h',toks:=t'}:=by
 have nit:∀b u,H b=some u ->b≠it:=fun b u e z=>by rw[z,hn] at e;cases e
 refine I.step (g':=s.gens) (d':=s.drawn) (ch:=[it]) (fun b hb=> ?_) (fun b o _ _ hc e _=>k b o (fun z=>hc (by simp[z])) e) (fun b o _ _ hc e _=>⟨o.slots,k b o (fun z=>hc (by simp[z])) e⟩) (fun _ _ _ _ n=>n)
  (fun b o hc e=>⟨o,k b o (fun z=>hc (by simp[z])) e⟩) (fun _ _ e=>e) (fun _ _ _ e=>e) (fun b ps e=>⟨#[],by rw[e];simp⟩) (fun m hm=> ?_) (fun b u e=> ?_) I.bare
 ·have e:b=it:=by simpa using hb
  subst e;exact⟨h1,hL,h2,h3⟩
 ·obtain⟨o,es,ep,ho,r⟩:=hm
  exact⟨o,es,ep,k _ o (Ne.symm hL) ho,r⟩
 ·refine(I.hok b u e).stay (fun c v hc q=>k c v ?_ q) (fun _ q=>q) fun _ _ q=>q
  rcases hc with z|z
  ·rw[z];exact nit b u e
  ·exact nit c _ z
theorem Inv.tok(I:Inv X pins σ H s)(t:Nat):Inv X pins σ H {s with toks:=t}:=I.un (h':=s.heap) (t':=t) Un.refl I.hok
theorem Inv.kept{t':Nat}(I:Inv X pins σ H s)(k:∀b u,s.heap.get? b=some u ->h'.get? b=some u):Inv X pins σ H {s with heap:=h',toks:=t'}:=I.un (Un.kept k) (I.hok.kept k)
theorem Inv.laid{a:Addr}{o:HO}{t':Nat}(I:Inv X pins σ H s)(k:∀b u,s.heap.get? b=some u ->h'.get? b=some u)(hp:s.heap.objs.size<=a)(new:ObjOk X.prog X.w (upd H a o) h' a o):
  Inv X pins σ (upd H a o) {s with heap:=h',toks:=t'}:=I.un (Un.laid k hp (I.hok.fresh hp)) (I.hok.laid k hp new)
theorem Inv.write{x e:Addr}{o:HO}{t':Nat}(I:Inv X pins σ H s)(mu:Mut (H x))(he:e=x∨H e=some (.own x))(k:∀b u,b≠e ->s.heap.get? b=some u ->h'.get? b=some u)(heo:∃u,h'.get? e=some u)
  (new:ObjOk X.prog X.w (upd H x o) h' x o):Inv X pins σ (upd H x o) {s with heap:=h',toks:=t'}:=I.un (Un.write mu he k heo) (I.hok.write mu he k heo new)
theorem Inv.weak{σ':List (Option V)}(I:Inv X pins σ H s)(hl:σ'.length=σ.length)(w:∀(i:Nat) v,σ'[i]? =some (some v) ->σ[i]? =some (some v)):Inv X pins σ' H s:=
 ⟨I.ok,I.os,I.bare,I.base,let⟨m,hn,hl'⟩:=I.loc;⟨m,hn,fun i x v e1 e2 e3=>hl' i x v e1 (w i v e2) e3⟩,I.cell,I.free,I.freeC,I.pin,I.hok,hl.trans I.len⟩
theorem Inv.pins_of{pins':List (Addr×Obj)}(I:Inv X pins σ H s)(h:∀p∈pins',s.heap.get? p.1=some p.2 /\ H p.1=none /\ p.1≠X.env.locals /\ p.1∉X.fs /\ ∀v,p.2.data≠ .cell v):Inv X pins' σ H s:=
 ⟨I.ok,I.os,I.bare,I.base,I.loc,I.cell,I.free,I.freeC,fun p hp=>(aT.mp hp).elim (fun z=>I.pin p (bK _ z)) (h p),I.hok,I.len⟩
theorem sS{N:List Str}(hN:N.Nodup){i j:Nat}{x:Str}(a:N[i]? =some x)(b:N[j]? =some x):i=j:=by
 obtain⟨h1,e1⟩:=aa.mp a
 obtain⟨h2,e2⟩:=aa.mp b
 exact(b7 hN).mp (e1.trans e2.symm)
theorem qr{M:Model}{A:Around}{E:Value ->Shared ->Prop}{i:Nat}{x:Str}{v:V}{u:Value}{Q:Unit ->Shared ->Prop}(I:Inv X pins σ H s)(hN:X.N.Nodup)(hi:X.N[i]? =some x)(hx:Loc X.env.scope x)(r:RelV v u)
  (h:∀s',Inv X pins (σ.set i (some v)) H s' ->(∃a,Heap.SameBut a s.heap s'.heap /\ (a=X.env.locals∨X.env.cells.lookup x=some a)) ->Q () s') (hf:X.fn x=true∨X.env.scope.names.lookup x=some .local:=by first|exact .inl rfl|exact .inr rfl|assumption):wpAny M A (storeName X.env x u) Q E s:=by
 obtain⟨m,hn,hl⟩:=id I.loc
 have hcls:(X.env.scope.kind== .class||(X.env.scope.kind== .module&&X.env.locals !=X.env.globals))=false:=by rw[I.ok.kind];rfl
 have hiσ:i<σ.length:=by rw[I.len];exact(aa.mp hi).1
 have cne:=I.cne
 have tracked:∀{a:Addr} {h':Heap},(∃o,s.heap.get? a=some o /\ H a=none) ->Heap.SameBut a s.heap h' ->HOk X.prog X.w H h':=fun {a h'} ha hs b ob e=>by
  obtain⟨_,_,hfree⟩:=ha
  refine(I.hok b ob e).stay (fun c w' hc q=>(hs.2 c ?_).trans q) (fun _ q=>q) fun _ _ q=>q
  rintro rfl;rcases hc with rfl|hc
  ·rw[hfree] at e;cases e
  ·rw[hfree] at hc;cases hc
 rcases hx with hk|hk
 ·refine wpAny_storeName_local hk hn (fun h' hn' hs=> ?_) hcls;obtain⟨oL,_,_,hoL,_⟩:=id hn
  refine h _ ⟨I.ok,I.os,I.bare,⟨fun b o e n hb hx=> ?_,fun b o e n hb hx=> ?_,I.base.free,fun b o e hx=> ?_,I.base.tups,I.base.frzs,I.base.tbls⟩,⟨_,hn',fun j y v' e1 e2 e3=> ?_⟩,fun y c e=> ?_,I.free,I.freeC,fun p hp=> ?_,tracked ⟨oL,hoL,I.free⟩ hs,by simpa using I.len⟩ ⟨_,hs,.inl rfl⟩
  ·exact(hs.2 b (aU (aR (Heap.lt_size e) I.ok.above))).trans (I.base.keep b o e n hb hx)
  ·obtain⟨sl,e1⟩:=I.base.slot b o e n hb hx
   exact⟨sl,(hs.2 b (aU (aR (Heap.lt_size e) I.ok.above))).trans e1⟩
  ·obtain⟨o',e1⟩:=I.base.there b o e hx
   exact⟨o',(hs.2 b (aU (aR (Heap.lt_size e) I.ok.above))).trans e1⟩
  ·by_cases hj:j=i
   ·subst hj;rw[hi] at e1;cases e1;rw[fQ hiσ] at e2;cases e2;exact⟨u,r,.inl ⟨hk,by simp⟩⟩
   ·rw[gs (Ne.symm hj)] at e2;obtain⟨u',r',q⟩:=hl j y v' e1 e2 e3
    refine⟨u',r',?_⟩;rcases q with⟨k,e⟩|⟨k,c,e,z⟩
    ·refine .inl ⟨k,?_⟩;have:y≠x:=fun e=>hj (sS hN e1 (e▸hi))
     simp[this,e]
    ·exact .inr ⟨k,c,e,z.sameBut hs (cne y c e)⟩
  ·obtain⟨w',z⟩:=I.cell y c e
   exact⟨w',z.sameBut hs (cne y c e)⟩
  ·obtain⟨e,n,ne,nf,d⟩:=I.pin p hp
   exact⟨(hs.2 p.1 ne).trans e,n,ne,nf,d⟩
 ·have hfn:X.fn x=true:=by
   rcases hf with z|z
   ·exact z
   ·rw[z] at hk;cases hk
  obtain⟨c,hc⟩:=I.ok.has x (.inl hk)
  obtain⟨w',z⟩:=I.cell x c hc
  refine wpAny_storeName_cell I.ok.kind hk hc z (fun h' hc' hs=> ?_);obtain⟨oc,hoc,hocd⟩:=id z
  refine h {s with heap:=h'} ⟨I.ok,I.os,I.bare,⟨fun b o e n hb hx=> ?_,fun b o e n hb hx=> ?_,I.base.free,fun b o e hx=> ?_,I.base.tups,I.base.frzs,I.base.tbls⟩,⟨m,hn.sameBut hs (Ne.symm (cne x c hc)),fun j y v' e1 e2 e3=> ?_⟩,fun y c' e=> ?_,I.free,I.freeC,fun p hp=> ?_,tracked ⟨oc,hoc,I.freeC x c hc⟩ hs,by simpa using I.len⟩ ⟨c,hs,.inr hc⟩
  ·exact(hs.2 b (aU (aR (Heap.lt_size e) (I.ok.cab x c hfn hc)))).trans (I.base.keep b o e n hb hx)
  ·obtain⟨sl,e1⟩:=I.base.slot b o e n hb hx
   exact⟨sl,(hs.2 b (aU (aR (Heap.lt_size e) (I.ok.cab x c hfn hc)))).trans e1⟩
  ·obtain⟨o',e1⟩:=I.base.there b o e hx
   exact⟨o',(hs.2 b (aU (aR (Heap.lt_size e) (I.ok.cab x c hfn hc)))).trans e1⟩
  ·by_cases hj:j=i
   ·subst hj;rw[hi] at e1;cases e1;rw[fQ hiσ] at e2;cases e2;exact⟨u,r,.inr ⟨.inl hk,c,hc,hc'⟩⟩
   ·rw[gs (Ne.symm hj)] at e2;obtain⟨u',r',q⟩:=hl j y v' e1 e2 e3
    refine⟨u',r',?_⟩;rcases q with q|⟨k,c',e,z'⟩
    ·exact .inl q
    ·refine .inr ⟨k,c',e,z'.sameBut hs ?_⟩;rintro rfl;exact hj (sS hN e1 (I.ok.inj _ _ _ e hc▸hi))
  ·by_cases hcc:c'=c
   ·subst hcc;exact⟨_,hc'⟩
   ·obtain⟨w2,z2⟩:=I.cell y c' e
    exact⟨w2,z2.sameBut hs hcc⟩
  ·obtain⟨e,n,ne,nf,d⟩:=I.pin p hp
   refine⟨(hs.2 p.1 ?_).trans e,n,ne,nf,d⟩;intro q;rw[q,hoc] at e;have q':oc=p.2:=ba.inj e
   exact d w' (by rw[<-q'];exact hocd)
theorem lR{M:Model}{A:Around}{E:Value ->Shared ->Prop}{i:Nat}{x:Str}{v:V}{u:Value}{Q:Unit ->Shared ->Prop}(I:Inv X pins σ H s)(hN:X.N.Nodup)(hi:X.N[i]? =some x)(hx:Loc X.env.scope x)(r:RelV v u)
  (h:∀s',Inv X pins (σ.set i (some v)) H s' ->Q () s') (hf:X.fn x=true∨X.env.scope.names.lookup x=some .local:=by first|exact .inl rfl|exact .inr rfl|assumption):wpAny M A (storeName X.env x u) Q E s:=
 qr I hN hi hx r (fun s' I' _=>h s' I') hf
theorem Inv.call'{s':Shared}{ch:List Addr}(I:Inv X pins σ H s)(ho:s'.os=s.os)(u:Un (frs X.stack) ch H H' s.heap s'.heap)(hok:HOk X.prog X.w H' s'.heap)(hg:AllBare s'.gens)
  (hch:∀b∈ch,(b∈X.ex∨X.s₀.heap.objs.size<=b) /\ b≠X.env.locals /\ (∀x c,X.env.cells.lookup x=some c ->c≠b) /\ ∀p∈X.pn++pins,p.1≠b):Inv X pins σ H' s':=by
 obtain⟨h',g',d',t',o'⟩:=s'
 have e:o'=s.os:=ho
 subst e;exact I.call (g':=g') (t':=t') (d':=d') u hok hg hch
end
noncomputable abbrev St:=List (Option V)
noncomputable abbrev TE:=St ->Hp ->VK ->Prop
noncomputable abbrev TT:=St ->Hp ->(Bool ->Hp ->Prop) ->Prop
noncomputable abbrev TA:=St ->Hp ->(List V ->Hp ->Prop) ->Prop
structure Ends where
 nx:St ->Hp ->Prop
 rt:VK
 bk:St ->Hp ->Prop:=fun _ _=>False
 ct:St ->Hp ->Prop:=fun _ _=>False
noncomputable abbrev TS:=Ends ->St ->Hp ->Prop
noncomputable def EP(X:Cx)(pins:List (Addr×Obj))(σ:St)(Q:VK)(u:Value)(s':Shared):Prop:=∃v H',Inv X pins σ H' s' /\ RelV v u /\ Q v H'
noncomputable def TP(X:Cx)(pins:List (Addr×Obj))(σ:St)(Q:Bool ->Hp ->Prop)(b:Bool)(s':Shared):Prop:=∃H',Inv X pins σ H' s' /\ Q b H'
noncomputable def AP(X:Cx)(pins:List (Addr×Obj))(σ:St)(Q:List V ->Hp ->Prop)(us:List Value)(s':Shared):Prop:=∃vs H',Inv X pins σ H' s' /\ Vals vs us /\ Q vs H'
noncomputable def SP(X:Cx)(pins:List (Addr×Obj))(D:Ends)(f:Flow)(s':Shared):Prop:=
 match f with
 | .next=>∃σ' H',Inv X pins σ' H' s' /\ D.nx σ' H'
 | .brk=>∃σ' H',Inv X pins σ' H' s' /\ D.bk σ' H'
 | .cont=>∃σ' H',Inv X pins σ' H' s' /\ D.ct σ' H'
 | .ret u=>∃v σ' H',Inv X pins σ' H' s' /\ RelV v u /\ D.rt v H'
noncomputable def PE(X:Cx)(e:Expr)(t:TE):Prop:=
 ∀(pins:List (Addr×Obj)) (s:Shared) (σ:St) (H:Hp) (Q:VK),Inv X pins σ H s ->t σ H Q ->wpAny (model X.prog X.w) X.A (eval e X.env) (EP X pins σ Q) X.xe s
noncomputable def PT(X:Cx)(e:Expr)(t:TT):Prop:=
 ∀(pins:List (Addr×Obj)) (s:Shared) (σ:St) (H:Hp) (Q:Bool ->Hp ->Prop),Inv X pins σ H s ->t σ H Q ->wpAny (model X.prog X.w) X.A (isTrue e X.env (eval e X.env)) (TP X pins σ Q) X.xe s
noncomputable def PW(X:Cx)(e:Expr)(t:TT):Prop:=
 ∀(whole:Sem Value) (pins:List (Addr×Obj)) (s:Shared) (σ:St) (H:Hp) (Q:Bool ->Hp ->Prop),Inv X pins σ H s ->t σ H Q ->wpAny (model X.prog X.w) X.A (isTrue e X.env whole) (TP X pins σ Q) X.xe s
theorem PW.pt{X:Cx}{e:Expr}{t:TT}(h:PW X e t):PT X e t:=h _
noncomputable def PA(X:Cx)(es:List Expr)(t:TA):Prop:=
 ∀(pos:Pos) (pins:List (Addr×Obj)) (s:Shared) (σ:St) (H:Hp) (Q:List V ->Hp ->Prop),Inv X pins σ H s ->t σ H Q ->wpAny (model X.prog X.w) X.A (spliced (backTo pos (starEach es X.env))) (AP X pins σ Q) X.xe s
noncomputable def PS(X:Cx)(st:Stmt)(t:TS):Prop:=
 ∀(pins:List (Addr×Obj)) (s:Shared) (σ:St) (H:Hp) (D:Ends),Inv X pins σ H s ->t D σ H ->wpAny (model X.prog X.w) X.A (exec st X.env) (SP X pins D) X.xe s
noncomputable def PSs(X:Cx)(st:List Stmt)(t:TS):Prop:=
 ∀(pins:List (Addr×Obj)) (s:Shared) (σ:St) (H:Hp) (D:Ends),Inv X pins σ H s ->t D σ H ->wpAny (model X.prog X.w) X.A (execs st X.env) (SP X pins D) X.xe s
theorem thn{α:Type}{t:Sem α}{Q Q':α ->Shared ->Prop}{M:Model}{A:Around}{E:Value ->Shared ->Prop}{s:Shared}(h:wpAny M A t Q E s)(hQ:∀a s,Q a s ->Q' a s):wpAny M A t Q' E s:=wpAny_mono h hQ fun _ _ x=>x
end L2
namespace L2
open PySem PySem.Spec PyProof.Rows
section
variable {X:Cx}
noncomputable def Aq(i:Nat):TE:=fun σ H Q=>∃v,σ[i]? =some (some v) /\ Q v H
noncomputable def tC(v:V):TE:=fun _ H Q=>Q v H
theorem Bi{i:Nat}{x:Str}{pos:Pos}(hN:X.N[i]? =some x)(hv:Vis X.env.scope x)(hd:(x==("__debug__":Str))=false:=by decide)(hcd:(x==("__classdict__":Str))=false:=by decide):PE X (.Name x pos) (Aq i):=by
 intro pins s σ H Q I h;obtain⟨v,e,h⟩:=h
 obtain⟨m,hn,hl⟩:=I.loc
 obtain⟨u,r,l⟩:=hl i x v hN e hv
 have fin:EP X pins σ Q u s:=⟨v,H,I,r,h⟩
 rcases l with⟨hk,hm⟩|⟨hk,c,hc,hcell⟩
 ·exact wpAny_Name (wpAny_loadName_local I.ok.kind hk hn hm fin) hd
 ·rcases hk with hk|hk
  ·exact wpAny_Name (wpAny_loadName_cell I.ok.kind hk hc hcell fin) hd
  ·exact wpAny_Name (wpAny_loadName_free I.ok.kind hk hc hcell fin hcd) hd
theorem iJ{i j pos}:PE X (.Constant (.int i) j pos) (tC (.int i)):=fun _ _ _ H _ I h=>wpAny_Constant_int ⟨.int i,H,I.tok _,⟨_,rfl⟩,h⟩
theorem nL{b j pos}:PE X (.Constant (.bool b) j pos) (tC (.bl b)):=fun _ _ _ H _ I h=>Constant_bool ⟨.bl b,H,I,rfl,h⟩
theorem yu{j pos}:PE X (.Constant .none j pos) (tC .non):=fun _ _ _ H _ I h=>Constant_none ⟨.non,H,I,rfl,h⟩
theorem kn{x j pos}:PE X (.Constant (.str x) j pos) (tC (.str x)):=fun _ _ _ H _ I h=>Calls.Constant_str ⟨.str x,H,I.tok _,⟨_,rfl⟩,h⟩
noncomputable def Gl(X:Cx)(x:Str):Prop:=X.env.kindOf x=some .globalImplicit
theorem vA{E:Value ->Shared ->Prop}{pins:List (Addr×Obj)}{s:Shared}{σ:St}{H:Hp}{x:Str}{u:Value}{pos:Pos}{Q:Value ->Shared ->Prop}(I:Inv X pins σ H s)(hg:Gl X x)(hm:X.mg x=some u)(h:Q u s)
  (hd:(x==("__debug__":Str))=false:=by decide):wpAny (model X.prog X.w) X.A (eval (.Name x pos) X.env) Q E s:=
 Calls.Name_function_global I.ok.kind hg (Calls.loadGlobal_global (by rw[I.ok.glob];exact I.mod.glob.keeps I.bk) hm h) hd
theorem oG{E:Value ->Shared ->Prop}{pins:List (Addr×Obj)}{s:Shared}{σ:St}{H:Hp}{x:Str}{u:Value}{pos:Pos}{Q:Value ->Shared ->Prop}(I:Inv X pins σ H s)(hg:Gl X x)(hm:X.mg x=none)(hv:bootBuiltins x=some u)(h:Q u s)
  (hn:x≠"__name__":=by decide) (hd:(x==("__debug__":Str))=false:=by decide):wpAny (model X.prog X.w) X.A (eval (.Name x pos) X.env) Q E s:=by
 obtain⟨mb,h1,h2⟩:=I.mod.blt
 exact Calls.Name_function_global I.ok.kind hg (Calls.loadGlobal_builtin (by rw[I.ok.glob];exact I.mod.glob.keeps I.bk) hm (by rw[I.ok.blt];exact h1.keeps I.bk) ((h2 x hn).trans hv) h) hd
theorem u9{x:Str}{v:V}{u:Value}{pos:Pos}(hg:Gl X x)(hm:X.mg x=some u)(r:RelV v u)(hd:(x==("__debug__":Str))=false:=by decide):PE X (.Name x pos) (tC v):=
 fun _ _ _ H _ I h=>vA I hg hm ⟨v,H,I,r,h⟩ hd
theorem nK{x:Str}{v:V}{u:Value}{pos:Pos}(hg:Gl X x)(hm:X.mg x=none)(hv:bootBuiltins x=some u)(r:RelV v u)(hn:x≠"__name__":=by decide)(hd:(x==("__debug__":Str))=false:=by decide):PE X (.Name x pos) (tC v):=
 fun _ _ _ H _ I h=>oG I hg hm hv ⟨v,H,I,r,h⟩ hn hd
variable {a b:Expr} {ta tb:TE} {pos:Pos}
noncomputable def PC(X:Cx)(op:CmpOp)(a b:Expr)(t:TE):Prop:=
 ∀(pins:List (Addr×Obj)) (s:Shared) (σ:St) (H:Hp) (Q:VK),Inv X pins σ H s ->t σ H Q ->
  wpAny (model X.prog X.w) X.A (eval a X.env) (fun v s₁=>wpAny (model X.prog X.w) X.A (eval b X.env) (fun u s₂=>wpAny (model X.prog X.w) X.A (compareOp op v u) (EP X pins σ Q) X.xe s₂) X.xe s₁) X.xe s
noncomputable def AR(ta:TE):TE:=fun σ H Q=>ta σ H fun x H1=>Q (.bl (decide (x= .non))) H1
theorem RelV.none_iff{x:V}{v:Value}(r:RelV x v):(v==Value.none)=decide (x= .non):=by
 cases x with
 |non=>cases r;rfl
 |bl _=>cases r;rfl
 |int _=>obtain⟨t,rfl⟩:=r;rfl
 |str _=>obtain⟨t,rfl⟩:=r;rfl
 |byt _=>obtain⟨t,rfl⟩:=r;rfl
 |flt _=>obtain⟨t,rfl⟩:=r;rfl
 |ref _=>cases r;rfl
 |ty _=>cases r;rfl
theorem Bl{j pos'}(ha:PE X a ta):PC X .Is a (.Constant .none j pos') (AR ta):=by
 intro pins s σ H Q I h;refine thn (ha pins s σ H _ I h) fun v s1 ⟨x,H1,I1,r1,q1⟩=> ?_
 exact Constant_none (is_none_gen ⟨.bl _,H1,I1,by rw[r1.none_iff];rfl,q1⟩)
noncomputable def tB(t:TE):TT:=fun σ H Q=>t σ H fun x H1=>∃c,x= .bl c /\ Q c H1
theorem Bc{op:CmpOp}{t:TE}(h:PC X op a b t)(h1:behindInMarks op b=false:=by first|exact nobehind _ (by decide) (by decide)|rfl):PT X (.Compare a [op] [b] pos) (tB t):=by
 intro pins s σ H Q I hw;refine wpAny_isTrue_Compare1 (thn (h pins s σ H _ I hw) fun v s1 h1=>thn h1 fun u s2 h2=>thn h2 fun c s3 ⟨x,H1,I1,r1,q1⟩=> ?_) h1;obtain⟨d,rfl,q⟩:=q1
 cases r1;exact wpAny_truthy_bool ⟨H1,I1,q⟩
variable {tA tB':TT} {rest:List Expr}
noncomputable def AU(t u:TT):TT:=fun σ H Q=>t σ H fun c H1=>if c=true then u σ H1 Q else Q false H1
noncomputable def tOr(t u:TT):TT:=fun σ H Q=>t σ H fun c H1=>if c=true then Q true H1 else u σ H1 Q
noncomputable def AM(t:TT):TT:=fun σ H Q=>t σ H fun c H1=>Q (!c) H1
theorem kx(ha:PT X a tA):PW X (.BoolOp .And [a] pos) tA:=by
 intro wh pins s σ H Q I h;refine isTrue_and (thn (ha pins s σ H Q I h) fun c s1 e=> ?_);cases c with
 |true=>exact isTrue_and_nil e
 |false=>exact e
theorem kX(ha:PT X a tA):PW X (.BoolOp .Or [a] pos) tA:=by
 intro wh pins s σ H Q I h;refine isTrue_or (thn (ha pins s σ H Q I h) fun c s1 e=> ?_);cases c with
 |false=>exact isTrue_or_nil e
 |true=>exact e
theorem lF(ha:PT X a tA)(hb:PW X (.BoolOp .And (b::rest) pos) tB'):PW X (.BoolOp .And (a::b::rest) pos) (AU tA tB'):=by
 intro wh pins s σ H Q I h;refine isTrue_and (thn (ha pins s σ H _ I h) fun c s1 ⟨H1,I1,q1⟩=> ?_);cases c with
 |true=>exact hb wh pins s1 σ H1 Q I1 q1
 |false=>exact⟨H1,I1,q1⟩
theorem k9(ha:PT X a tA)(hb:PW X (.BoolOp .Or (b::rest) pos) tB'):PW X (.BoolOp .Or (a::b::rest) pos) (tOr tA tB'):=by
 intro wh pins s σ H Q I h;refine isTrue_or (thn (ha pins s σ H _ I h) fun c s1 ⟨H1,I1,q1⟩=> ?_);cases c with
 |true=>exact⟨H1,I1,q1⟩
 |false=>exact hb wh pins s1 σ H1 Q I1 q1
theorem lg(ha:PT X a tA):PT X (.UnaryOp .Not a pos) (AM tA):=by
 intro pins s σ H Q I h;exact isTrue_not (ha pins s σ H (fun c H1=>Q (!c) H1) I h)
noncomputable def uK(ta tb:TE):TE:=fun σ H Q=>ta σ H fun x H1=>∃c,x= .bl c /\ if c=true then tb σ H1 Q else Q (.bl false) H1
noncomputable def uG(ta:TE):TE:=fun σ H Q=>ta σ H fun x H1=>∃c,x= .bl c /\ Q (.bl (!c)) H1
theorem sP{op}{t:TE}(h:PE X a t):PE X (.BoolOp op [a] pos) t:=fun pins s σ H Q I hw=>BoolOp_one (h pins s σ H Q I hw)
theorem sR(ha:PE X a ta)(hb:PE X (.BoolOp .And (b::rest) pos) tb):PE X (.BoolOp .And (a::b::rest) pos) (uK ta tb):=by
 intro pins s σ H Q I h;refine BoolOp_and (thn (ha pins s σ H _ I h) fun v s1 ⟨x,H1,I1,r1,q1⟩=> ?_);obtain⟨c,rfl,q1⟩:=q1
 cases r1;refine wpAny_truthy_bool ?_;cases c with
 |true=>exact hb pins s1 σ H1 Q I1 q1
 |false=>exact⟨.bl false,H1,I1,rfl,q1⟩
theorem Bj(ha:PE X a ta):PE X (.UnaryOp .Not a pos) (uG ta):=by
 intro pins s σ H Q I h;refine UnaryOp_ (thn (ha pins s σ H _ I h) fun v s1 ⟨x,H1,I1,r1,q1⟩=> ?_);obtain⟨c,rfl,q1⟩:=q1
 cases r1;exact not_of (wpAny_truthy_bool ⟨.bl (!c),H1,I1,rfl,q1⟩)
end
end L2
namespace L2
open PySem PySem.Spec PyProof.Rows
noncomputable def SqT(K:ao)(H:Hp)(a:Addr)(xs:List V):Prop:=
 Rd H a (.tup xs)∨
  ∃(o:Obj) (its:Array Value) (n:Nat),K.lookup a=some o /\ o.cls= .type "tuple" /\ o.data= .seq its n /\ its.size<=sizeLine /\ Vals xs its.toList
noncomputable def CO:Value ->Option V
 | .none=>some .non
 | .bool b=>some (.bl b)
 | .int i _=>some (.int i)
 | .str x _=>some (.str x)
 | .bytes b _=>some (.byt b)
 | .float b _=>some (.flt b)
 | .ref a=>some (.ref a)
 | .type n=>some (.ty n)
 |_=>none
theorem RelV.abs{x:V}{u:Value}(r:RelV x u):CO u=some x:=by
 cases x with
 |non=>cases r;rfl
 |bl _=>cases r;rfl
 |int _=>obtain⟨t,rfl⟩:=r;rfl
 |str _=>obtain⟨t,rfl⟩:=r;rfl
 |byt _=>obtain⟨t,rfl⟩:=r;rfl
 |flt _=>obtain⟨t,rfl⟩:=r;rfl
 |ref _=>cases r;rfl
 |ty _=>cases r;rfl
theorem RelV.inj{x y:V}{u:Value}(r:RelV x u)(q:RelV y u):x=y:=ba.inj (r.abs.symm.trans q.abs)
theorem Vals.inj:∀{xs ys:List V} {us:List Value},Vals xs us ->Vals ys us ->xs=ys
 |_,_,_,.nil,.nil=>rfl
 |_,_,_,.cons r t,.cons r' t'=>by rw[r.inj r',Vals.inj t t']
section
variable {X:Cx} {pins:List (Addr×Obj)} {σ:St} {H:Hp} {s:Shared} {a:Addr} {xs ys:List V}
theorem SqT.of{K:ao}(h:H a=some (.tup xs)):SqT K H a xs:= .inl (.inl h)
theorem Inv.list(I:Inv X pins σ H s)(h:SqL X.K H a xs):∃its:List Value,Vals xs its /\ PlainL s.heap a its.toArray /\ xs.length<=sizeLine:=by
 rcases h with h|⟨o,its,n,hk,hc,hd,hs,hz,r⟩
 ·obtain⟨z,its,n,r,e⟩:=h.ok I.hok
  exact⟨its,r,⟨_,n,e,rfl,rfl,rfl⟩,z⟩
 ·refine⟨its.toList,r,⟨o,n,I.kIn a o hk,hc,hd,by simpa using hs⟩,?_⟩;have e:=r.length
  simp only[fc] at e;omega
theorem Inv.tuple(I:Inv X pins σ H s)(h:SqT X.K H a xs):∃its:List Value,Vals xs its /\ IsTup s.heap a its.toArray /\ xs.length<=sizeLine:=by
 rcases h with h|⟨o,its,n,hk,hc,hs,hz,r⟩
 ·obtain⟨z,its,r,p⟩:=h.ok I.hok
  exact⟨its,r,p,z⟩
 ·refine⟨its.toList,r,⟨o,I.kIn a o hk,hc,n,by simpa using hs⟩,?_⟩;have e:=r.length
  simp only[fc] at e;omega
theorem Inv.list_inj(I:Inv X pins σ H s)(h:SqL X.K H a xs)(h':SqL X.K H a ys):xs=ys:=by
 obtain⟨its,r,⟨o,n,e,_,_,d⟩,_⟩:=I.list h
 obtain⟨its',r',⟨o',n',e',_,_,d'⟩,_⟩:=I.list h'
 rw[e] at e';cases e';rw[d] at d'
 injection d' with d1 _
 have:its=its':=by simpa using congrArg iG d1
 subst this;exact r.inj r'
theorem Inv.tuple_inj(I:Inv X pins σ H s)(h:SqT X.K H a xs)(h':SqT X.K H a ys):xs=ys:=by
 obtain⟨its,r,⟨o,e,_,n,d⟩,_⟩:=I.tuple h
 obtain⟨its',r',⟨o',e',_,n',d'⟩,_⟩:=I.tuple h'
 rw[e] at e';cases e';rw[d] at d'
 injection d' with d1 _
 have:its=its':=by simpa using congrArg iG d1
 subst this;exact r.inj r'
end
noncomputable abbrev Cx.wish(X:Cx)(E:Value ->Shared ->Prop):Cx:={X with xe:=E}
noncomputable abbrev Cx.nox(X:Cx):Cx:=X.wish fun _ _=>False
theorem Cx.Ok.wish{X:Cx}(ok:X.Ok)(E:Value ->Shared ->Prop):(X.wish E).Ok:=
 ⟨ok.mod,ok.kind,ok.glob,ok.blt,ok.above,ok.inj,ok.has,ok.cab,ok.hd,ok.frames,ok.stk,ok.exf,ok.bs,ok.bsz,ok.noex,ok.exfs,ok.funs,ok.frf⟩
theorem Cx.Ok.unwish{X:Cx}{E:Value ->Shared ->Prop}(ok:(X.wish E).Ok):X.Ok:=
 ⟨ok.mod,ok.kind,ok.glob,ok.blt,ok.above,ok.inj,ok.has,ok.cab,ok.hd,ok.frames,ok.stk,ok.exf,ok.bs,ok.bsz,ok.noex,ok.exfs,ok.funs,ok.frf⟩
section
variable {X:Cx} {pins:List (Addr×Obj)} {σ:St} {H:Hp} {s:Shared} {E:Value ->Shared ->Prop}
theorem Inv.wish(I:Inv X pins σ H s)(E:Value ->Shared ->Prop):Inv (X.wish E) pins σ H s:=⟨I.ok.wish E,I.os,I.bare,I.base,I.loc,I.cell,I.free,I.freeC,I.pin,I.hok,I.len⟩
theorem Inv.unwish(I:Inv (X.wish E) pins σ H s):Inv X pins σ H s:=⟨I.ok.unwish,I.os,I.bare,I.base,I.loc,I.cell,I.free,I.freeC,I.pin,I.hok,I.len⟩
theorem SP.unwish{D:Ends}{f:Flow}{s':Shared}(h:SP (X.wish E) pins D f s'):SP X pins D f s':=by
 cases f with
 |next=>obtain⟨σ',H',I,q⟩:=h;exact⟨σ',H',I.unwish,q⟩
 |brk=>obtain⟨σ',H',I,q⟩:=h;exact⟨σ',H',I.unwish,q⟩
 |cont=>obtain⟨σ',H',I,q⟩:=h;exact⟨σ',H',I.unwish,q⟩
 |ret u=>obtain⟨v,σ',H',I,r,q⟩:=h;exact⟨v,σ',H',I.unwish,r,q⟩
theorem PSs.nox{st:List Stmt}{t:TS}(h:PSs X.nox st t):PSs X st t:=fun pins s σ H D I hw=>
 wpAny_mono (h pins s σ H D (I.wish _) hw) (fun _ _ q=>q.unwish) fun _ _ z=>False.elim z
end
section
variable {X:Cx} {st:Stmt} {rest:List Stmt} {t u:TS} {e:Expr} {te:TE} {pos:Pos}
noncomputable def uH:TS:=fun D σ H=>D.nx σ H
noncomputable def As(t u:TS):TS:=fun D σ H=>t {D with nx:=u D} σ H
theorem i8:PSs X [] uH:=fun _ _ σ H _ I h=>wpAny_execs_nil ⟨σ,H,I,h⟩
theorem iO(h1:PS X st t)(h2:PSs X rest u):PSs X (st::rest) (As t u):=by
 intro pins s σ H D I h;refine wpAny_execs_cons (thn (h1 pins s σ H {D with nx:=u D} I h) fun f s1 q=> ?_);cases f with
 |next=>
  obtain⟨σ',H',I',q⟩:=q
  exact h2 pins s1 σ' H' D I' q
 |ret v=>exact q
 |brk=>exact q
 |cont=>exact q
theorem iM(h1:PS X st t):PSs X [st] t:=by
 intro pins s σ H D I h;refine wpAny_execs_cons (thn (h1 pins s σ H D I h) fun f s1 q=> ?_);cases f with
 |next=>exact wpAny_execs_nil q
 |ret v=>exact q
 |brk=>exact q
 |cont=>exact q
theorem Inv.quiet{pins:List (Addr×Obj)}{σ:St}{H:Hp}{s:Shared}(I:Inv X pins σ H s):interactive X.env=false:=by simp[interactive,I.ok.kind]
noncomputable def uI(te:TE):TS:=fun D σ H=>te σ H fun _ H1=>D.nx σ H1
theorem jx(he:PE X e te)(hs:swapsWith e none pos.line X.env=pure false:=by rfl):PS X (.Expr e pos) (uI te):=by
 intro pins s σ H D I h;exact wpAny_Expr_any (thn (he pins s σ H _ I h) fun v s1 ⟨x,H1,I1,r1,q1⟩=>⟨σ,H1,I1,q1⟩) I.quiet hs
noncomputable def AK(te:TE):TS:=fun D σ H=>te σ H D.rt
theorem i4(he:PE X e te):PS X (.Return (some e) pos) (AK te):=by
 intro pins s σ H D I h;exact wpAny_Return_some (thn (he pins s σ H _ I h) fun v s1 ⟨x,H1,I1,r1,q1⟩=>⟨x,σ,H1,I1,r1,q1⟩)
noncomputable def AS(c:TT)(t u:TS):TS:=fun D σ H=>c σ H fun b H1=>if b=true then t D σ H1 else u D σ H1
theorem jm{c:Expr}{a b:List Stmt}{tc:TT}(hc:PT X c tc)(ha:PSs X a t)(hb:PSs X b u):PS X (.If c a b pos) (AS tc t u):=by
 intro pins s σ H D I h;refine wpAny_If (thn (hc pins s σ H _ I h) fun d s1 ⟨H1,I1,q1⟩=> ?_);cases d with
 |true=>exact ha pins s1 σ H1 D I1 q1
 |false=>exact hb pins s1 σ H1 D I1 q1
noncomputable def AO:TS:=fun _ _ _=>False
theorem kK:PS X st AO:=fun _ _ _ _ _ _ h=>h.elim
end
noncomputable abbrev TG:=V ->St ->Hp ->(St ->Hp ->Prop) ->Prop
noncomputable abbrev TGs:=List V ->St ->Hp ->(St ->Hp ->Prop) ->Prop
noncomputable def PG(X:Cx)(target:Expr)(t:TG):Prop:=
 ∀(pins:List (Addr×Obj)) (s:Shared) (σ:St) (H:Hp) (v:V) (u:Value) (Q:St ->Hp ->Prop),Inv X pins σ H s ->RelV v u ->t v σ H Q ->
  wpAny (model X.prog X.w) X.A (assign target X.env u) (fun _ s'=>∃σ' H',Inv X pins σ' H' s' /\ Q σ' H') X.xe s
noncomputable def PGs(X:Cx)(ts:List Expr)(t:TGs):Prop:=
 ∀(pins:List (Addr×Obj)) (s:Shared) (σ:St) (H:Hp) (vs:List V) (us:List Value) (Q:St ->Hp ->Prop),Inv X pins σ H s ->Vals vs us ->t vs σ H Q ->
  wpAny (model X.prog X.w) X.A (assignInOrder ((assignEach ts X.env).map (·.2)) us) (fun _ s'=>∃σ' H',Inv X pins σ' H' s' /\ Q σ' H') X.xe s
noncomputable abbrev TIp:=V ->V ->Hp ->VK ->Prop
noncomputable def PIp(X:Cx)(op:Operator)(t:TIp):Prop:=
 ∀(pins:List (Addr×Obj)) (s:Shared) (σ:St) (H:Hp) (x y:V) (v u:Value) (Q:VK),Inv X pins σ H s ->RelV x v ->RelV y u ->t x y H Q ->
  wpAny (model X.prog X.w) X.A (inplaceOp op v u) (EP X pins σ Q) X.xe s
section
variable {X:Cx} {pos:Pos}
noncomputable def rZ(i:Nat):TG:=fun v σ H Q=>Q (σ.set i (some v)) H
theorem iQ{i:Nat}{x:Str}(hN:X.N.Nodup)(hi:X.N[i]? =some x)(hx:Loc X.env.scope x)(hf:X.fn x=true∨X.env.scope.names.lookup x=some .local:=by first|exact .inl rfl|exact .inr rfl|assumption):PG X (.Name x pos) (rZ i):=by
 intro pins s σ H v u Q I r h;exact wpAny_assign_Name (lR I hN hi hx r (fun s' I'=>⟨_,H,I',h⟩) hf)
noncomputable def ou:TGs:=fun vs σ H Q=>vs=[] /\ Q σ H
noncomputable def ky(t:TG)(u:TGs):TGs:=fun vs σ H Q=>∃v r,vs=v::r /\ t v σ H fun σ' H'=>u r σ' H' Q
theorem zp:PGs X [] ou:=by
 intro pins s σ H vs us Q I r h;obtain⟨e,h⟩:=h
 subst e;cases r;exact assignInOrder_nil ⟨σ,H,I,h⟩
theorem xh{e:Expr}{es:List Expr}{t:TG}{u:TGs}(h1:PG X e t)(h2:PGs X es u)
  (hs:(assignEach (e::es) X.env).map (·.2)=assign e X.env::(assignEach es X.env).map (·.2):=by rfl):PGs X (e::es) (ky t u):=by
 intro pins s σ H vs us Q I r h;obtain⟨v,vr,e1,h⟩:=h
 subst e1;cases r with
 |cons r rr=>
  rw[hs];refine assignInOrder_cons (thn (h1 pins s σ H _ _ _ I r h) fun _ s1 ⟨σ1,H1,I1,q1⟩=> ?_);exact h2 pins s1 σ1 H1 _ _ Q I1 rr q1
noncomputable def Ct(K:ao)(n:Nat)(t:TGs):TG:=fun v σ H Q=>∃a xs,v= .ref a /\ SqT K H a xs /\ xs.length=n /\ t xs σ H Q
theorem Bg{es:List Expr}{k:Nat}{t:TGs}{n:Nat}(hc:X.calm=true)(h:PGs X es t)
  (hn:(assignEach es X.env).length=n:=by rfl) (hst:(assignEach es X.env).findIdx? (·.1)=none:=by rfl):PG X (.Tuple es k pos) (Ct X.K n t):=by
 intro pins s σ H v u Q I r hw;obtain⟨a,xs,e1,hq,hl,hw⟩:=hw
 subst e1;cases r;obtain⟨its,rv,ht,hz⟩:=I.tuple hq
 refine assign_Tuple_tuple (I.ok.hd hc) ht (by simp[hn, <-hl,rv.length]) hst fun h' hx=> ?_
 have I1:Inv X pins σ H {s with heap:=h'}:=I.kept (t':=s.toks) fun b o e=>hx b o (aU (Heap.lt_size e)) e
 exact h pins _ σ H xs _ Q I1 (by simpa using rv) hw
noncomputable def yU(te:TE)(g:TG):TS:=fun D σ H=>te σ H fun x H1=>g x σ H1 D.nx
theorem kB{tg e:Expr}{te:TE}{g:TG}(he:PE X e te)(hg:PG X tg g)(hs:swapsWithSole [tg] e pos.line X.env=pure false:=by rfl)(hw:swappedStores [tg] e X.env=pure none:=by rfl)
  (h1:(assignEach [tg] X.env).map (·.2)=[assign tg X.env]:=by rfl):PS X (.Assign [tg] e pos) (yU te g):=by
 intro pins s σ H D I h;refine wpAny_Assign_stores (thn (he pins s σ H _ I h) fun v s1 ⟨x,H1,I1,r1,q1⟩=> ?_) hs hw;rw[h1];exact thn (hg pins s1 σ H1 x v _ I1 r1 q1) fun _ s2 q=>q
theorem jc{i:Nat}{x:Str}{e:Expr}{te:TE}{pos':Pos}(hN:X.N.Nodup)(hi:X.N[i]? =some x)(hx:Loc X.env.scope x)(he:PE X e te)(hs:swapsWith e (some (.Name x pos')) pos.line X.env=pure false:=by rfl)(hf:X.fn x=true∨X.env.scope.names.lookup x=some .local:=by first|exact .inl rfl|exact .inr rfl|assumption):
  PS X (.Assign [.Name x pos'] e pos) (yU te (rZ i)):=by
 intro pins s σ H D I h;refine wpAny_Assign_Name (thn (he pins s σ H _ I h) fun v s1 ⟨y,H1,I1,r1,q1⟩=> ?_) hs;exact lR I1 hN hi hx r1 (fun s2 I2=>⟨_,H1,I2,q1⟩) hf
noncomputable def AL(i j:Nat)(ta:TA):TS:=fun D σ H=>ta σ H fun vs H1=>∃v w,vs=[v,w] /\ D.nx ((σ.set i (some v)).set j (some w)) H1
theorem yr{i j:Nat}{x y:Str}{a b:Expr}{ta:TA}{px py pt:Pos}{kt k2 pt2}(hc:X.calm=true)(hN:X.N.Nodup)(hi:X.N[i]? =some x)(hj:X.N[j]? =some y)(hij:i≠j)
  (hx:X.env.scope.names.lookup x=some .local) (hy:X.env.scope.names.lookup y=some .local) (ha:PA X [a,b] ta)
  (hw:swappedStores [.Tuple [.Name x px,.Name y py] kt pt] (.Tuple [a,b] k2 pt2) X.env=pure (some [x,y]))
  (hs:swapsWithSole [.Tuple [.Name x px,.Name y py] kt pt] (.Tuple [a,b] k2 pt2) pos.line X.env=pure false:=by rfl):
  PS X (.Assign [.Tuple [.Name x px,.Name y py] kt pt] (.Tuple [a,b] k2 pt2) pos) (AL i j ta):=by
 intro pins s σ H D I h;rw[exec_Assign_arm];refine wpAny_bind (wpAny_standAt ?_);rw[hs];refine wpAny_bind (wpAny_pure ?_);rw[if_neg (by decide)];refine wpAny_bind (Tuple_ (thn (ha _ pins s σ H _ I h) fun us s1 ⟨vs,H1,I1,r1,q1⟩=> ?_));obtain⟨v,w,e1,q1⟩:=q1
 subst e1;obtain⟨u1,u2,rfl,rv,rw'⟩:∃u1 u2,us=[u1,u2] /\ RelV v u1 /\ RelV w u2:=by
  cases r1 with
  |cons p q=>
   cases q with
   |cons p' q'=>
    cases q';exact⟨_,_,rfl,p,p'⟩
 refine wpAny_newObj_type ?_ (by show 2<=sizeLine;decide)
 have I2:Inv X pins σ H1 {s1 with heap:=s1.heap.push {cls:= .type "tuple",data:= .seq [u1,u2].toArray}}:=I1.kept (t':=s1.toks) fun b o e=>Heap.get?_push_of_some _ e
 rw[hw];refine wpAny_bind (wpAny_pure ?_);show wpAny (model X.prog X.w) X.A (do rule "assign.swapped-stores";let items<-unpackItems (.ref s1.heap.objs.size) 2 none;assignInOrder [fun v=>bindName X.env y v,fun v=>bindName X.env x v] items.reverse;pure Flow.next) _ _ _
 refine wpAny_bind (wpAny_rule (wpAny_bind (unpackItems_tuple (items:= #[u1,u2]) (I.ok.hd hc) (IsTup.new s1.heap _) fun h' hx'=> ?_)));have I3:=I2.kept (h':=h') (t':=s1.toks) fun b o e=>hx' b o (aU (Heap.lt_size e)) e
 show wpAny _ _ (assignInOrder [fun v=>bindName X.env y v,fun v=>bindName X.env x v] [u2,u1]>>=fun _=>pure Flow.next) _ _ _
 refine wpAny_bind (assignInOrder_cons (wpAny_bindName (lR I3 hN hj (.inl hy) rw' (fun s2 I4=> ?_) (.inr hy))));refine assignInOrder_cons (wpAny_bindName (lR I4 hN hi (.inl hx) rv (fun s3 I5=>assignInOrder_nil (wpAny_pure ?_)) (.inr hx)));rw[List.set_comm _ _ (Ne.symm hij)] at I5;exact⟨_,H1,I5,q1⟩
noncomputable def CC(i:Nat)(te:TE)(ti:TIp):TS:=fun D σ H=>∃x,σ[i]? =some (some x) /\ te σ H fun y H1=>ti x y H1 fun z H2=>D.nx (σ.set i (some z)) H2
theorem Be{i:Nat}{x:Str}{e:Expr}{te:TE}{op:Operator}{ti:TIp}{pos':Pos}(hN:X.N.Nodup)(hi:X.N[i]? =some x)(hx:Loc X.env.scope x)(he:PE X e te)(ho:PIp X op ti)(hf:X.fn x=true∨X.env.scope.names.lookup x=some .local:=by first|exact .inl rfl|exact .inr rfl|assumption):
  PS X (.AugAssign (.Name x pos') op e pos) (CC i te ti):=by
 intro pins s σ H D I h;obtain⟨v,e1,h⟩:=h
 obtain⟨m,hn,hl⟩:=I.loc
 have vis:Vis X.env.scope x:=by rcases hx with k|k;exact .inl k;exact .inr (.inl k)
 obtain⟨u,r,l⟩:=hl i x v hi e1 vis
 refine wpAny_AugAssign_Name ?_;have go:wpAny (model X.prog X.w) X.A (eval e X.env) (fun w s₂=>wpAny (model X.prog X.w) X.A (inplaceOp op u w) (fun r s₃=>wpAny (model X.prog X.w) X.A (storeName X.env x r) (fun _=>SP X pins D .next) X.xe s₃) X.xe s₂) X.xe s:=by
  refine thn (he pins s σ H _ I h) fun w s1 ⟨y,H1,I1,r1,q1⟩=> ?_
  refine thn (ho pins s1 σ H1 v y u w _ I1 r r1 q1) fun z s2 ⟨zv,H2,I2,r2,q2⟩=> ?_
  exact lR I2 hN hi hx r2 (fun s3 I3=>⟨_,H2,I3,q2⟩) hf
 rcases l with⟨hk,hm⟩|⟨hk,c,hc,hcell⟩
 ·exact wpAny_loadName_local I.ok.kind hk hn hm go
 ·rcases hk with hk|hk
  ·exact wpAny_loadName_cell I.ok.kind hk hc hcell go
  ·rcases hx with k|k
   ·have:X.env.scope.names.lookup x=some .free:=hk
    rw[k] at this;cases this
   ·have:X.env.scope.names.lookup x=some .free:=hk
    rw[k] at this;cases this
noncomputable def ipI(f:Int ->Int ->Int):TIp:=fun x y H Q=>∃i j,x= .int i /\ y= .int j /\ Q (.int (f i j)) H
theorem BA:PIp X .Sub (ipI fun i j=>i-j):=by
 intro pins s σ H x y v u Q I r1 r2 h;obtain⟨i,j,e1,e2,q⟩:=h
 subst e1;subst e2;obtain⟨t,rfl⟩:=r1
 obtain⟨t',rfl⟩:=r2
 exact isub_int ⟨.int _,H,I.tok _,⟨_,rfl⟩,q⟩
end
section
variable {X:Cx} {pos:Pos}
noncomputable def AI(c:TT)(tb:TS):TS:=fun D σ H=>∃W:Nat ->St ->Hp ->Prop,(∃m,W m σ H) /\ ∀m σ H,W m σ H ->
 c σ H fun b H1=>if b=true then∃N:St ->Hp ->Prop,(∀σ' H',N σ' H' -> ∃m',m'<m /\ W m' σ' H') /\ tb {D with nx:=N,ct:=N,bk:=D.nx} σ H1 else D.nx σ H1
theorem mX{c:Expr}{body:List Stmt}{tc:TT}{tb:TS}(hp:PassesOwn (model X.prog X.w) X.A X.env X.xe)(hc:PT X c tc)(hb:PSs X body tb):PS X (.While c body [] pos) (AI tc tb):=by
 intro pins s σ H D I h;obtain⟨W,⟨m0,w0⟩,turn⟩:=h
 refine wpAny_While (codeAny_whileLoop (fun n s'=>∃σ' H',Inv X pins σ' H' s' /\ W n σ' H') ?_ m0 ⟨σ,H,I,w0⟩);rintro n s1 ⟨σ1,H1,I1,w1⟩;refine wpAny_passesOwn hp (thn (hc pins s1 σ1 H1 _ I1 (turn n σ1 H1 w1)) fun b s2 ⟨H2,I2,q2⟩=> ?_);cases b with
 |true=>
  obtain⟨N,hN,q2⟩:=q2
  rw[if_pos rfl];refine wpAny_passesOwn hp (thn (hb pins s2 σ1 H2 _ I2 q2) fun f s3 q3=> ?_);cases f with
  |next=>
   obtain⟨σ3,H3,I3,n3⟩:=q3
   obtain⟨m',hm,w3⟩:=hN σ3 H3 n3
   exact⟨m',hm,σ3,H3,I3,w3⟩
  |cont=>
   obtain⟨σ3,H3,I3,n3⟩:=q3
   obtain⟨m',hm,w3⟩:=hN σ3 H3 n3
   exact⟨m',hm,σ3,H3,I3,w3⟩
  |brk=>exact q3
  |ret v=>exact q3
 |false=>
  rw[if_neg bW];exact wpAny_execs_nil ⟨σ1,H2,I2,q2⟩
end
structure It where
 go:Nat ->Hp ->Prop
 yld:Nat ->Hp ->V ->Hp ->Prop
 stop:Nat ->Hp ->Prop
noncomputable def uu(X:Cx)(pins:List (Addr×Obj))(H:Hp)(b:Addr):Prop:=
 H b=none /\ b≠X.env.locals /\ b∉X.fs /\ (b∈X.ex∨X.s₀.heap.objs.size<=b) /\ (∀x c,X.env.cells.lookup x=some c ->c≠b) /\ ∀p∈X.pn++pins,p.1≠b
theorem Inv.fpOk{X:Cx}{pins:List (Addr×Obj)}{σ:St}{H H':Hp}{s:Shared}{b:Addr}(I:Inv X pins σ H s)(hb:s.heap.objs.size<=b)(hn:H' b=none):uu X pins H' b:=by
 refine⟨hn,dN (aR I.lt hb),I.nofs hb,.inr (cv I.sz hb),fun x c e z=> ?_,fun p hp z=> ?_⟩
 ·obtain⟨v,q⟩:=I.cell x c e
  exact absurd (aR q.lt (by rw[z];exact hb)) (cz _)
 ·exact absurd (aR (Heap.lt_size (I.pin p hp).1) (by rw[z];exact hb)) (cz _)
structure Turn(P:Program)(w:World)(K:ao)(tg:Expr)(J:It)(fp:List Addr)(it:Addr)(tn:Nat ->Heap ->Prop):Prop where
 mem:it∈fp
 obj:∀i h,tn i h -> ∀b∈fp,∃o,h.get? b=some o /\ ∀v,o.data≠ .cell v
 keep:∀i h h',tn i h ->(∀b∈fp,∀o,h.get? b=some o ->h'.get? b=some o) ->tn i h'
 item:∀(X:Cx),X.prog=P ->X.w=w ->X.K=K ->X.calm=true -> ∀(i:Nat) (pins:List (Addr×Obj)) (s:Shared) (σ:St) (H:Hp) (E:Value ->Shared ->Prop),Inv X pins σ H s ->(∀b∈fp,uu X pins H b) ->tn i s.heap ->J.go i H ->
  wpAny (model P w) X.A (pyNext (.ref it)) (fun r s1=>∃u,r=some u /\
   wpAny (model P w) X.A (letOwnedTupleGo tg (.ref it) u) (fun _ s2=>∃x H',Inv X pins σ H' s2 /\ RelV x u /\ J.yld i H x H' /\ tn (i+1) s2.heap /\ ∀b∈fp,H' b=none) E s1) E s
 done:∀(X:Cx),X.prog=P ->X.w=w ->X.K=K ->X.calm=true -> ∀(i:Nat) (pins:List (Addr×Obj)) (s:Shared) (σ:St) (H:Hp) (E:Value ->Shared ->Prop),Inv X pins σ H s ->(∀b∈fp,uu X pins H b) ->tn i s.heap ->J.stop i H ->
  wpAny (model P w) X.A (pyNext (.ref it)) (fun r s1=>r=none /\ Inv X pins σ H s1) E s
 self:∀(A:Around) (i:Nat) (s:Shared) (Q:Value ->Shared ->Prop) (E:Value ->Shared ->Prop),tn i s.heap ->Q (.ref it) s ->wpAny (model P w) A (pyIter (.ref it)) Q E s
noncomputable abbrev TI:=St ->Hp ->(It ->Hp ->Prop) ->Prop
noncomputable def PIE(X:Cx)(pins:List (Addr×Obj))(σ:St)(tg:Expr)(R:It ->Hp ->Prop)(itv:Value)(s2:Shared):Prop:=
 ∃(it:Addr) (fp:List Addr) (tn:Nat ->Heap ->Prop) (J:It) (H':Hp),itv= .ref it /\ Inv X pins σ H' s2 /\ Turn X.prog X.w X.K tg J fp it tn /\ tn 0 s2.heap /\ (∀b∈fp,uu X pins H' b) /\ R J H'
noncomputable def PI(X:Cx)(tg iter:Expr)(wi:TI):Prop:=
 ∀(pins:List (Addr×Obj)) (s:Shared) (σ:St) (H:Hp) (R:It ->Hp ->Prop),Inv X pins σ H s ->wi σ H R ->
  wpAny (model X.prog X.w) X.A (eval iter X.env) (fun v s1=>wpAny (model X.prog X.w) X.A (pyIter v) (PIE X pins σ tg R) X.xe s1) X.xe s
theorem zY{M:Model}{A:Around}{E:Value ->Shared ->Prop}{s:Shared}{tg:Expr}{it:Addr}{u:Value}{o:Obj}{n:String}{vs:Array Value}{Q:Unit ->Shared ->Prop}(ho:s.heap.get? it=some o)(hc:o.cls= .type n)(hd:o.data= .fields vs)
  (hn:["enumerate","zip","dict_itemiterator","dict_reverseitemiterator","odict_iterator","itertools.zip_longest","itertools.pairwise"].contains n=false) (hQ:Q () s):wpAny M A (letOwnedTupleGo tg (.ref it) u) Q E s:=by
 unfold letOwnedTupleGo;cases tg<;>first
  |exact wpAny_pure hQ
  |(cases u<;>first
    |exact wpAny_pure hQ
    |(refine wpAny_bind (wpAny_load ho ?_);rw[hc,hd];show wpAny M A (if(["enumerate","zip","dict_itemiterator","dict_reverseitemiterator","odict_iterator","itertools.zip_longest","itertools.pairwise"].contains n&&vs[0]? ==some (rawInt _))=true then _ else _) Q E s;rw[if_neg (by intro h;rw[hn,ir] at h;cases h)];exact wpAny_pure hQ))
noncomputable def Itl(K:ao)(a:Addr):It:=
 ⟨fun i H=>∃xs x,SqL K H a xs /\ xs[i]? =some x,fun i H x H'=>H'=H /\ ∀xs,SqL K H a xs ->xs[i]? =some x,fun i H=>∃xs,SqL K H a xs /\ xs.length<=i⟩
noncomputable def Itt(K:ao)(a:Addr):It:=
 ⟨fun i H=>∃xs x,SqT K H a xs /\ xs[i]? =some x,fun i H x H'=>H'=H /\ ∀xs,SqT K H a xs ->xs[i]? =some x,fun i H=>∃xs,SqT K H a xs /\ xs.length<=i⟩
noncomputable def Itr(lo:Int)(n:Nat):It:=⟨fun i _=>i<n,fun i H x H'=>H'=H /\ x= .int (lo+i),fun i _=>n<=i⟩
theorem uz{P:Program}{w:World}{K:ao}{tg:Expr}(a it:Addr):Turn P w K tg (Itl K a) [it] it (fun i h=>h.IsListIter it a i) where
 mem:=by simp
 obj:=fun i h st b hb=>by
  have e:b=it:=by simpa using hb
  subst e;obtain⟨o,e,c,d⟩:=st
  exact⟨o,e,fun v z=>by rw[d] at z;cases z⟩
 keep:=fun i h h' st k=>st.at fun o e=>k it (by simp) o e
 item:=by
  intro X hP hw hK hc i pins s σ H E I hf st hg;subst hP hw hK;obtain⟨xs,x,hq,hx⟩:=hg
  obtain⟨its,rv,p,hz⟩:=I.list hq
  obtain⟨u,hu,ru⟩:=rv.get hx
  obtain⟨f0,f1,f2,f3,f4,f5⟩:=hf it (by simp)
  refine wpAny_pyNext_list_item st p.isList (x:=u) (by simpa using hu) fun h' st' sb=> ?_
  have I1:Inv X pins σ H {s with heap:=h'}:=I.turned (t':=s.toks) (fun b o hb e=>(sb.2 b hb).trans e) f0 f1 f3 f4 f5
  obtain⟨o,e,c,d⟩:=id st'
  exact⟨u,rfl,zY (s:={s with heap:=h'}) e c d (by decide) ⟨x,H,I1,ru,⟨rfl,fun ys hy=>by rw[I.list_inj hy hq];exact hx⟩,st',fun b hb=>(hf b hb).1⟩⟩
 done:=by
  intro X hP hw hK hc i pins s σ H E I hf st hg;subst hP hw hK;obtain⟨xs,hq,hx⟩:=hg
  obtain⟨its,rv,p,hz⟩:=I.list hq
  obtain⟨f0,f1,f2,f3,f4,f5⟩:=hf it (by simp)
  have hl:=rv.length
  exact wpAny_pyNext_list_end (I.ok.hd hc) st p.isList (by simp;omega) fun h' eb=>⟨rfl,I.turned (t':=s.toks) (fun b o hb e=>eb b o hb e) f0 f1 f3 f4 f5⟩
 self:=fun _ _ _ _ _ st h=>wpAny_pyIter_listiter st h
theorem tU{P:Program}{w:World}{K:ao}{tg:Expr}(a it:Addr):Turn P w K tg (Itt K a) [it] it (fun i h=>h.IsTupleIter it a i) where
 mem:=by simp
 obj:=fun i h st b hb=>by
  have e:b=it:=by simpa using hb
  subst e;obtain⟨o,e,c,d⟩:=st
  exact⟨o,e,fun v z=>by rw[d] at z;cases z⟩
 keep:=fun i h h' st k=>st.at fun o e=>k it (by simp) o e
 item:=by
  intro X hP hw hK hc i pins s σ H E I hf st hg;subst hP hw hK;obtain⟨xs,x,hq,hx⟩:=hg
  obtain⟨its,rv,p,hz⟩:=I.tuple hq
  obtain⟨u,hu,ru⟩:=rv.get hx
  obtain⟨f0,f1,f2,f3,f4,f5⟩:=hf it (by simp)
  refine wpAny_pyNext_tuple_item st (show s.heap.IsTuple a its.toArray from p) (x:=u) (by simpa using hu) fun h' st' sb=> ?_
  have I1:Inv X pins σ H {s with heap:=h'}:=I.turned (t':=s.toks) (fun b o hb e=>(sb.2 b hb).trans e) f0 f1 f3 f4 f5
  obtain⟨o,e,c,d⟩:=id st'
  exact⟨u,rfl,zY (s:={s with heap:=h'}) e c d (by decide) ⟨x,H,I1,ru,⟨rfl,fun ys hy=>by rw[I.tuple_inj hy hq];exact hx⟩,st',fun b hb=>(hf b hb).1⟩⟩
 done:=by
  intro X hP hw hK hc i pins s σ H E I hf st hg;subst hP hw hK;obtain⟨xs,hq,hx⟩:=hg
  obtain⟨its,rv,p,hz⟩:=I.tuple hq
  obtain⟨f0,f1,f2,f3,f4,f5⟩:=hf it (by simp)
  have hl:=rv.length
  exact wpAny_pyNext_tuple_end (I.ok.hd hc) st (show s.heap.IsTuple a its.toArray from p) (by simp;omega) fun h' eb=>⟨rfl,I.turned (t':=s.toks) (fun b o hb e=>eb b o hb e) f0 f1 f3 f4 f5⟩
 self:=fun _ _ _ _ _ st h=>wpAny_pyIter_tupleiter st h
theorem tV{P:Program}{w:World}{K:ao}{tg:Expr}(it:Addr)(lo:Int)(n:Nat):Turn P w K tg (Itr lo n) [it] it (fun i h=>IsRangeIter h it (lo+(i:Nat)*1) ((n:Int)-(i:Nat)) 1) where
 mem:=by simp
 obj:=fun i h st b hb=>by
  have e:b=it:=by simpa using hb
  subst e;exact⟨_,st,fun v z=>by
   have z':Data.fields _=Data.cell v:=z
   cases z'⟩
 keep:=fun i h h' st k=>k it (by simp) _ st
 item:=by
  intro X hP hw hK hc i pins s σ H E I hf st hg;subst hP hw hK;obtain⟨f0,f1,f2,f3,f4,f5⟩:=hf it (by simp)
  have W:=Walks.range (prog:=X.prog) (w:=X.w) (I.ok.hd hc) it lo 1 n
  refine W.item i s _ _ hg st fun v h' tk hv st' kk=> ?_
  obtain⟨t,rfl⟩:=hv
  have I1:Inv X pins σ H {s with heap:=h',toks:=tk}:=I.turned (fun b o hb e=>kk b o (by simpa using hb) e) f0 f1 f3 f4 f5
  refine⟨_,rfl,zY (s:={s with heap:=h',toks:=tk}) (n:="range_iterator") st' rfl rfl (by decide) ⟨.int (lo+i),H,I1,⟨t,?_⟩,⟨rfl,rfl⟩,st',fun b hb=>(hf b hb).1⟩⟩;rw[df]
 done:=by
  intro X hP hw hK hc i pins s σ H E I hf st hg;subst hP hw hK;obtain⟨f0,f1,f2,f3,f4,f5⟩:=hf it (by simp)
  exact wpAny_pyNext_range_end (I.ok.hd hc) st (by have:n<=i:=hg;omega) fun h' eb=>⟨rfl,I.turned (t':=s.toks) (fun b o hb e=>eb b o hb e) f0 f1 f3 f4 f5⟩
 self:=fun _ _ _ _ _ st h=>wpAny_pyIter_rangeiter st h
end L2
namespace L2
open PySem PySem.Spec PyProof.Rows
section
variable {X:Cx} {tg:Expr}
noncomputable def xF(K:ao)(tl:TE):TI:=fun σ H R=>tl σ H fun x H1=>∃a,x= .ref a /\ (∃xs,SqL K H1 a xs) /\ R (Itl K a) H1
noncomputable def BE(K:ao)(tl:TE):TI:=fun σ H R=>tl σ H fun x H1=>∃a,x= .ref a /\ (∃xs,SqT K H1 a xs) /\ R (Itt K a) H1
theorem zo{l:Expr}{tl:TE}(hl:PE X l tl):PI X tg l (xF X.K tl):=by
 intro pins s σ H R I h;refine thn (hl pins s σ H _ I h) fun v s1 ⟨x,H1,I1,r1,q1⟩=> ?_
 obtain⟨a,e,⟨xs,hq⟩,q⟩:=q1
 subst e;cases r1;obtain⟨its,rv,p,hz⟩:=I1.list hq
 refine wpAny_pyIter_list p.isList ?_;refine⟨s1.heap.objs.size,[s1.heap.objs.size],_,_,H1,rfl,I1.kept (t':=s1.toks) fun b o e=>Heap.get?_push_of_some _ e,uz a _,⟨_,Heap.get?_push_size _ rfl,rfl,rfl⟩,fun b hb=> ?_,q⟩;have e:b=s1.heap.objs.size:=by simpa using hb
 subst e;exact I1.fpOk (ax _) (I1.hok.fresh (ax _))
theorem Bf{l:Expr}{tl:TE}(hl:PE X l tl):PI X tg l (BE X.K tl):=by
 intro pins s σ H R I h;refine thn (hl pins s σ H _ I h) fun v s1 ⟨x,H1,I1,r1,q1⟩=> ?_
 obtain⟨a,e,⟨xs,hq⟩,q⟩:=q1
 subst e;cases r1;obtain⟨its,rv,p,hz⟩:=I1.tuple hq
 refine wpAny_pyIter_tuple (show s1.heap.IsTuple a its.toArray from p) ?_;refine⟨s1.heap.objs.size,[s1.heap.objs.size],_,_,H1,rfl,I1.kept (t':=s1.toks) fun b o e=>Heap.get?_push_of_some _ e,tU a _,⟨_,Heap.get?_push_size _ rfl,rfl,rfl⟩,fun b hb=> ?_,q⟩;have e:b=s1.heap.objs.size:=by simpa using hb
 subst e;exact I1.fpOk (ax _) (I1.hok.fresh (ax _))
theorem w8{pins:List (Addr×Obj)}{σ:St}{H:Hp}{s:Shared}{R:It ->Hp ->Prop}{E:Value ->Shared ->Prop}{lo hi:Int}{t u v:Tok}{tk:Nat}(I:Inv X pins σ H s)(h1: -(2^62)<=lo)(h2:lo<2^62)(h3: -(2^62)<=hi)(h4:hi<2^62)
  (q:R (Itr lo (hi-lo).toNat) H):wpAny (model X.prog X.w) X.A (pyIter (.ref s.heap.objs.size)) (PIE X pins σ tg R) E {s with heap:=s.heap.push {cls:= .type "range",data:= .fields #[.int lo t,.int hi u,.int 1 v]},toks:=tk}:=by
 refine wpAny_pyIter_range (IsRange.new ..) (small_one h1 h2 h3 h4) ?_;have I1:Inv X pins σ H {s with heap:=s.heap.push {cls:= .type "range",data:= .fields #[.int lo t,.int hi u,.int 1 v]},toks:=tk}:=I.kept fun b o e=>Heap.get?_push_of_some _ e
 refine⟨(s.heap.push {cls:= .type "range",data:= .fields #[.int lo t,.int hi u,.int 1 v]}).objs.size,[(s.heap.push {cls:= .type "range",data:= .fields #[.int lo t,.int hi u,.int 1 v]}).objs.size],_,_,H,rfl,
  I1.kept (t':=tk) fun b o e=>Heap.get?_push_of_some _ e,tV _ lo (hi-lo).toNat,?_,fun b hb=> ?_,q⟩
 ·have e1:lo+((0:Nat):Int)*1=lo:=by simp
  have e2:(((hi-lo).toNat:Nat):Int)-((0:Nat):Int)=Builtin.Range.rangeSize lo hi 1:=by rw[rangeSize_one];split<;>omega
  show IsRangeIter _ _ (lo+((0:Nat):Int)*1) ((((hi-lo).toNat:Nat):Int)-((0:Nat):Int)) 1
  rw[e1,e2];exact Heap.get?_push_size _ rfl
 ·have e:b=(s.heap.push {cls:= .type "range",data:= .fields #[.int lo t,.int hi u,.int 1 v]}).objs.size:=by simpa using hb
  subst e;exact I1.fpOk (ax _) (I1.hok.fresh (ax _))
noncomputable def xE(ta:TA):TI:=fun σ H R=>ta σ H fun vs H1=>∃j:Int,vs=[.int j] /\ -(2^62)<=j /\ j<2^62 /\ R (Itr 0 j.toNat) H1
theorem jJ{a:Expr}{ta:TA}{p pos:Pos}(hg:Gl X "range")(hm:X.mg "range"=none)(ha:PA X [a] ta)(hs:starEach [a] X.env=[(false,eval a X.env)]:=by rfl):PI X tg (.Call (.Name "range" p) [a] [] pos) (xE ta):=by
 intro pins s σ H R I h;refine Call_ (oG I hg hm boot_range (cL (thn (ha pos pins s σ H _ I h) fun us s1 ⟨vs,H1,I1,r1,q1⟩=> ?_) hs rfl));obtain⟨j,e,q1,q2,q⟩:=q1
 subst e;cases r1 with
 |cons r rr=>
  cases rr;obtain⟨t,rfl⟩:=r
  exact call_range_1 (w8 I1 (by omega) (by omega) q1 q2 (by simpa using q))
noncomputable def yT(wi:TI)(g:TG)(tb:TS):TS:=fun D σ H=>wi σ H fun J H1=>∃W:Nat ->Nat ->St ->Hp ->Prop,(∃m,W 0 m σ H1) /\ ∀i m σ H,W i m σ H ->
 (J.stop i H /\ D.nx σ H)∨(J.go i H /\ ∃N:St ->Hp ->Prop,(∀σ' H',N σ' H' -> ∃m',m'<m /\ W (i+1) m' σ' H') /\ ∀x H',J.yld i H x H' ->g x σ H' fun σ2 H2=>tb {D with nx:=N,ct:=N,bk:=D.nx} σ2 H2)
noncomputable def qF(fp:List Addr)(h:Heap):List (Addr×Obj):=fp.filterMap fun b=>(h.get? b).map fun o=>(b,o)
theorem lD{fp:List Addr}{h:Heap}{b:Addr}{o:Obj}(hb:b∈fp)(e:h.get? b=some o):(b,o)∈qF fp h:=fo.mpr ⟨b,hb,by rw[e];rfl⟩
theorem vg{fp:List Addr}{h:Heap}{p:Addr×Obj}(hp:p∈qF fp h):p.1∈fp /\ h.get? p.1=some p.2:=by
 obtain⟨b,hb,e⟩:=fo.mp hp
 cases q:h.get? b with
 |none=>rw[q] at e;cases e
 |some o=>
  rw[q] at e;have e':(b,o)=p:=ba.inj e
  subst e';exact⟨hb,q⟩
theorem Inv.pinned{pins:List (Addr×Obj)}{σ:St}{H:Hp}{s:Shared}{fp:List Addr}(I:Inv X pins σ H s)(hf:∀b∈fp,uu X pins H b)(ho:∀b∈fp,∃o,s.heap.get? b=some o /\ ∀v,o.data≠ .cell v):Inv X (pins++qF fp s.heap) σ H s:=
 I.pins_of fun p hp=>(aT.mp hp).elim (fun z=>I.pin p (bE _ z)) fun z=>by
  obtain⟨hb,e⟩:=vg z
  obtain⟨f0,f1,f2,_⟩:=hf p.1 hb
  obtain⟨o,e',d⟩:=ho p.1 hb
  rw[e] at e';cases e';exact⟨e,f0,f1,f2,d⟩
theorem Inv.unpinned{pins pl:List (Addr×Obj)}{σ:St}{H:Hp}{s:Shared}(I:Inv X (pins++pl) σ H s):Inv X pins σ H s:=I.pins_of fun p hp=>I.pin p (bE _ (bK _ hp))
theorem j6{iter:Expr}{body:List Stmt}{wi:TI}{g:TG}{tb:TS}{pos:Pos}(hp:PassesOwn (model X.prog X.w) X.A X.env X.xe)(hc:X.calm=true)(hi:PI X tg iter wi)(hg:PG X tg g)(hb:PSs X body tb)
  (hs:∀x,foldedSetIterable iter X.env x=pure x:=by intro _;rfl):PS X (.For tg iter body [] pos) (yT wi g tb):=by
 intro pins s σ H D I h;refine wpAny_For (thn (hi pins s σ H _ I h) fun v s1 h1=>thn h1 fun itv s2 h2=> ?_) hs;obtain⟨it,fp,tn,J,H2,e,I2,T,st2,f2,W,⟨m0,w0⟩,turn⟩:=h2
 subst e
 --what stays true of the iterator's objects through the loop
 have stat:∀{H':Hp},(∀b∈fp,H' b=none) -> ∀b∈fp,uu X pins H' b:=fun hn b hb=>⟨hn b hb,(f2 b hb).2⟩
 refine codeAny_forLoop_any (fun n s'=>∃i σ' H',Inv X pins σ' H' s' /\ tn i s'.heap /\ (∀b∈fp,H' b=none) /\ W i n σ' H') ?_ m0 ⟨0,σ,H2,I2,st2,fun b hb=>(f2 b hb).1,w0⟩;rintro n s3 ⟨i,σ3,H3,I3,st3,fr3,w3⟩;rcases turn i n σ3 H3 w3 with⟨stop,qn⟩|⟨go,N,hN,step⟩
 ·refine wpAny_passesOwn hp (thn (T.done X rfl rfl rfl hc i pins s3 σ3 H3 X.xe I3 (stat fr3) st3 stop) fun r s4 ⟨hr,I4⟩=> ?_);subst hr;exact wpAny_execs_nil ⟨σ3,H3,I4,qn⟩
 ·refine wpAny_passesOwn hp (thn (T.item X rfl rfl rfl hc i pins s3 σ3 H3 X.xe I3 (stat fr3) st3 go) fun r s4 ⟨u,hr,h4⟩=> ?_);subst hr;refine wpAny_passesOwn hp (thn h4 fun _ s5 ⟨x,H5,I5,r5,y5,st5,fr5⟩=> ?_);have I5':=I5.pinned (stat fr5) (T.obj _ _ st5)
  refine wpAny_passesOwn hp (thn (hg _ s5 σ3 H5 x u _ I5' r5 (step x H5 y5)) fun _ s6 ⟨σ6,H6,I6,q6⟩=> ?_);refine wpAny_passesOwn hp (thn (hb _ s6 σ6 H6 _ I6 q6) fun f s7 q7=> ?_);have again:∀{σ7:St} {H7:Hp},Inv X (pins++qF fp s5.heap) σ7 H7 s7 ->N σ7 H7 -> ∃m,m<n /\ ∃i σ' H',Inv X pins σ' H' s7 /\ tn i s7.heap /\ (∀b∈fp,H' b=none) /\ W i m σ' H':=fun {σ7 H7} I7 n7=>by
   obtain⟨m',hm,w7⟩:=hN σ7 H7 n7
   refine⟨m',hm,i+1,σ7,H7,I7.unpinned,T.keep _ _ _ st5 fun b hb o e=>(I7.pin (b,o) (bE _ (bE _ (lD hb e)))).1,fun b hb=> ?_,w7⟩;obtain⟨o,e,d⟩:=T.obj _ _ st5 b hb
   exact(I7.pin (b,o) (bE _ (bE _ (lD hb e)))).2.1
  cases f with
  |next=>obtain⟨σ7,H7,I7,n7⟩:=q7;exact again I7 n7
  |cont=>obtain⟨σ7,H7,I7,n7⟩:=q7;exact again I7 n7
  |brk=>obtain⟨σ7,H7,I7,q7⟩:=q7;exact⟨σ7,H7,I7.unpinned,q7⟩
  |ret v=>obtain⟨x7,σ7,H7,I7,r7,q7⟩:=q7;exact⟨x7,σ7,H7,I7.unpinned,r7,q7⟩
end
theorem xJ{K:ao}{a:Addr}{xs:List V}{g:TG}{tb:TS}{D:Ends}{σ:St}{H:Hp}(Pv:Nat ->St ->Hp ->Prop)(h0:Pv 0 σ H)(hl:∀i σ H,i<=xs.length ->Pv i σ H ->SqL K H a xs)
  (hs:∀i x σ H,xs[i]? =some x ->Pv i σ H ->g x σ H fun σ2 H2=>tb {D with nx:=Pv (i+1),ct:=Pv (i+1),bk:=D.nx} σ2 H2) (hd:∀σ H,Pv xs.length σ H ->D.nx σ H):
  ∃W:Nat ->Nat ->St ->Hp ->Prop,(∃m,W 0 m σ H) /\ ∀i m σ H,W i m σ H ->
   ((Itl K a).stop i H /\ D.nx σ H)∨((Itl K a).go i H /\ ∃N:St ->Hp ->Prop,(∀σ' H',N σ' H' -> ∃m',m'<m /\ W (i+1) m' σ' H') /\ ∀x H',(Itl K a).yld i H x H' ->g x σ H' fun σ2 H2=>tb {D with nx:=N,ct:=N,bk:=D.nx} σ2 H2):=by
 refine⟨fun i m σ H=>m=xs.length-i /\ i<=xs.length /\ Pv i σ H,⟨xs.length,by simp,bb _,h0⟩,?_⟩;rintro i m σ H ⟨rfl,hi,p⟩;have q:=hl i σ H hi p
 by_cases hlt:i<xs.length
 ·refine .inr ⟨⟨xs,xs[i],q,by simp[hlt]⟩,Pv (i+1),fun σ' H' p'=>⟨xs.length-(i+1),by omega,rfl,hlt,p'⟩,fun x H' y=> ?_⟩;obtain⟨e,y⟩:=y
  subst e;exact hs i x σ _ (y xs q) p
 ·have e:i=xs.length:=by omega
  subst e;exact .inl ⟨⟨xs,q,ax _⟩,hd σ H p⟩
theorem zZ{K:ao}{a:Addr}{xs:List V}{g:TG}{tb:TS}{D:Ends}{σ:St}{H:Hp}(Pv:Nat ->St ->Hp ->Prop)(h0:Pv 0 σ H)(hl:∀i σ H,i<=xs.length ->Pv i σ H ->SqT K H a xs)
  (hs:∀i x σ H,xs[i]? =some x ->Pv i σ H ->g x σ H fun σ2 H2=>tb {D with nx:=Pv (i+1),ct:=Pv (i+1),bk:=D.nx} σ2 H2) (hd:∀σ H,Pv xs.length σ H ->D.nx σ H):
  ∃W:Nat ->Nat ->St ->Hp ->Prop,(∃m,W 0 m σ H) /\ ∀i m σ H,W i m σ H ->
   ((Itt K a).stop i H /\ D.nx σ H)∨((Itt K a).go i H /\ ∃N:St ->Hp ->Prop,(∀σ' H',N σ' H' -> ∃m',m'<m /\ W (i+1) m' σ' H') /\ ∀x H',(Itt K a).yld i H x H' ->g x σ H' fun σ2 H2=>tb {D with nx:=N,ct:=N,bk:=D.nx} σ2 H2):=by
 refine⟨fun i m σ H=>m=xs.length-i /\ i<=xs.length /\ Pv i σ H,⟨xs.length,by simp,bb _,h0⟩,?_⟩;rintro i m σ H ⟨rfl,hi,p⟩;have q:=hl i σ H hi p
 by_cases hlt:i<xs.length
 ·refine .inr ⟨⟨xs,xs[i],q,by simp[hlt]⟩,Pv (i+1),fun σ' H' p'=>⟨xs.length-(i+1),by omega,rfl,hlt,p'⟩,fun x H' y=> ?_⟩;obtain⟨e,y⟩:=y
  subst e;exact hs i x σ _ (y xs q) p
 ·have e:i=xs.length:=by omega
  subst e;exact .inl ⟨⟨xs,q,ax _⟩,hd σ H p⟩
theorem qQ{lo:Int}{n:Nat}{g:TG}{tb:TS}{D:Ends}{σ:St}{H:Hp}(Pv:Nat ->St ->Hp ->Prop)(h0:Pv 0 σ H)
  (hs:∀i σ H,i<n ->Pv i σ H ->g (.int (lo+i)) σ H fun σ2 H2=>tb {D with nx:=Pv (i+1),ct:=Pv (i+1),bk:=D.nx} σ2 H2) (hd:∀σ H,Pv n σ H ->D.nx σ H):
  ∃W:Nat ->Nat ->St ->Hp ->Prop,(∃m,W 0 m σ H) /\ ∀i m σ H,W i m σ H ->
   ((Itr lo n).stop i H /\ D.nx σ H)∨((Itr lo n).go i H /\ ∃N:St ->Hp ->Prop,(∀σ' H',N σ' H' -> ∃m',m'<m /\ W (i+1) m' σ' H') /\ ∀x H',(Itr lo n).yld i H x H' ->g x σ H' fun σ2 H2=>tb {D with nx:=N,ct:=N,bk:=D.nx} σ2 H2):=by
 refine⟨fun i m σ H=>m=n-i /\ i<=n /\ Pv i σ H,⟨n,by simp,bb _,h0⟩,?_⟩;rintro i m σ H ⟨rfl,hi,p⟩
 by_cases hlt:i<n
 ·refine .inr ⟨hlt,Pv (i+1),fun σ' H' p'=>⟨n-(i+1),by omega,rfl,hlt,p'⟩,fun x H' y=> ?_⟩;obtain⟨e,y⟩:=y
  subst e y;exact hs i σ _ hlt p
 ·have e:i=n:=by omega
  subst e;exact .inl ⟨ax _,hd σ H p⟩
end L2
namespace L2
open PySem PySem.Spec PyProof.Rows
noncomputable abbrev R2:=V ->V ->Hp ->VK ->Prop
noncomputable def OpR(X:Cx)(f:Value ->Value ->Sem Value)(r:R2):Prop:=
 ∀(pins:List (Addr×Obj)) (s:Shared) (σ:St) (H:Hp) (x y:V) (v u:Value) (Q:VK),Inv X pins σ H s ->RelV x v ->RelV y u ->r x y H Q ->
  wpAny (model X.prog X.w) X.A (f v u) (EP X pins σ Q) X.xe s
noncomputable def UnR(X:Cx)(f:Value ->Sem Value)(r:V ->Hp ->VK ->Prop):Prop:=
 ∀(pins:List (Addr×Obj)) (s:Shared) (σ:St) (H:Hp) (x:V) (v:Value) (Q:VK),Inv X pins σ H s ->RelV x v ->r x H Q ->
  wpAny (model X.prog X.w) X.A (f v) (EP X pins σ Q) X.xe s
noncomputable def kZ(X:Cx)(f:Value)(r:List V ->Hp ->VK ->Prop):Prop:=
 ∀(pins:List (Addr×Obj)) (s:Shared) (σ:St) (H:Hp) (xs:List V) (us:List Value) (Q:VK),Inv X pins σ H s ->Vals xs us ->r xs H Q ->
  wpAny (model X.prog X.w) X.A (call f us) (EP X pins σ Q) X.xe s
noncomputable def tOp(r:R2)(ta tb:TE):TE:=fun σ H Q=>ta σ H fun x H1=>tb σ H1 fun y H2=>r x y H2 Q
noncomputable def tUn(r:V ->Hp ->VK ->Prop)(ta:TE):TE:=fun σ H Q=>ta σ H fun x H1=>r x H1 Q
noncomputable def rI(C:Int ->Int ->Prop)(g:Int ->Int ->V):R2:=fun x y H Q=>∃i j,x= .int i /\ y= .int j /\ C i j /\ Q (g i j) H
noncomputable def rI0(g:Int ->Int ->V):R2:=fun x y H Q=>∃i j,x= .int i /\ y= .int j /\ Q (g i j) H
noncomputable def rU(g:Int ->V):V ->Hp ->VK ->Prop:=fun x H Q=>∃i,x= .int i /\ Q (g i) H
section
variable {X:Cx} {a b c:Expr} {ta tb tc:TE} {pos:Pos}
theorem Cg(ha:PE X a ta)(hb:PE X b tb){pins:List (Addr×Obj)}{s:Shared}{σ:St}{H:Hp}{R:V ->V ->Hp ->Prop}(I:Inv X pins σ H s)
  (h:ta σ H fun x H1=>tb σ H1 fun y H2=>R x y H2) {Q:Value ->Shared ->Prop} {f:Value ->Value ->Sem Value}
  (hf:∀v u s2 x y H2,Inv X pins σ H2 s2 ->RelV x v ->RelV y u ->R x y H2 ->wpAny (model X.prog X.w) X.A (f v u) Q X.xe s2):
  wpAny (model X.prog X.w) X.A (eval a X.env) (fun v s₁=>wpAny (model X.prog X.w) X.A (eval b X.env) (fun u s₂=>wpAny (model X.prog X.w) X.A (f v u) Q X.xe s₂) X.xe s₁) X.xe s:=by
 refine thn (ha pins s σ H _ I h) fun v s1 ⟨x,H1,I1,r1,q1⟩=> ?_
 refine thn (hb pins s1 σ H1 _ I1 q1) fun u s2 ⟨y,H2,I2,r2,q2⟩=> ?_
 exact hf v u s2 x y H2 I2 r1 r2 q2
theorem iS{op:Operator}{r:R2}(ho:OpR X (binaryOp op) r)(ha:PE X a ta)(hb:PE X b tb):PE X (.BinOp a op b pos) (tOp r ta tb):=by
 intro pins s σ H Q I h;exact wpAny_BinOp (Cg ha hb I h fun v u s2 x y H2 I2 rx ry q=>ho pins s2 σ H2 x y v u Q I2 rx ry q)
theorem u6{op:UnaryOp}{r:V ->Hp ->VK ->Prop}(ho:UnR X (unaryOp op) r)(ha:PE X a ta):PE X (.UnaryOp op a pos) (tUn r ta):=by
 intro pins s σ H Q I h;exact UnaryOp_ (thn (ha pins s σ H _ I h) fun v s1 ⟨x,H1,I1,r1,q1⟩=>ho pins s1 σ H1 x v Q I1 r1 q1)
theorem opI{f:Value ->Value ->Sem Value}{C:Int ->Int ->Prop}{g:Int ->Int ->Int}
  (rule:∀(i j:Int) (t u:Tok) (s:Shared) (Q:Value ->Shared ->Prop) (E:Value ->Shared ->Prop),C i j ->Q (.int (g i j) s.toks) {s with toks:=s.toks+1} ->wpAny (model X.prog X.w) X.A (f (.int i t) (.int j u)) Q E s):
  OpR X f (rI C fun i j=> .int (g i j)):=by
 intro pins s σ H x y v u Q I rx ry h;obtain⟨i,j,rfl,rfl,hc,q⟩:=h
 obtain⟨t,rfl⟩:=rx
 obtain⟨t',rfl⟩:=ry
 exact rule i j t t' s _ _ hc ⟨.int (g i j),H,I.tok _,⟨_,rfl⟩,q⟩
theorem Cr{f:Value ->Value ->Sem Value}{g:Int ->Int ->Int}
  (rule:∀(i j:Int) (t u:Tok) (s:Shared) (Q:Value ->Shared ->Prop) (E:Value ->Shared ->Prop),Q (.int (g i j) s.toks) {s with toks:=s.toks+1} ->wpAny (model X.prog X.w) X.A (f (.int i t) (.int j u)) Q E s):
  OpR X f (rI0 fun i j=> .int (g i j)):=by
 intro pins s σ H x y v u Q I rx ry h;obtain⟨i,j,rfl,rfl,q⟩:=h
 obtain⟨t,rfl⟩:=rx
 obtain⟨t',rfl⟩:=ry
 exact rule i j t t' s _ _ ⟨.int (g i j),H,I.tok _,⟨_,rfl⟩,q⟩
theorem Aw{f:Value ->Value ->Sem Value}{g:Int ->Int ->Bool}
  (rule:∀(i j:Int) (t u:Tok) (s:Shared) (Q:Value ->Shared ->Prop) (E:Value ->Shared ->Prop),Q (.bool (g i j)) s ->wpAny (model X.prog X.w) X.A (f (.int i t) (.int j u)) Q E s):
  OpR X f (rI0 fun i j=> .bl (g i j)):=by
 intro pins s σ H x y v u Q I rx ry h;obtain⟨i,j,rfl,rfl,q⟩:=h
 obtain⟨t,rfl⟩:=rx
 obtain⟨t',rfl⟩:=ry
 exact rule i j t t' s _ _ ⟨.bl (g i j),H,I,rfl,q⟩
noncomputable def CMul(i j:Int):Prop:=(-(2^64)<i /\ i<2^64)∨(-(2^64)<j /\ j<2^64)
theorem CMul.ok{i j:Int}(h:CMul i j):IntMulOk i j:=by
 rcases h with⟨h1,h2⟩|⟨h1,h2⟩
 ·exact .of_left (intBits_le_64 h1 h2)
 ·exact .of_right (intBits_le_64 h1 h2)
theorem jv:OpR X (binaryOp .Add) (rI0 fun i j=> .int (i+j)):=Cr fun _ _ _ _ _ _ _ q=>add_int q
theorem jy:OpR X (binaryOp .Sub) (rI0 fun i j=> .int (i-j)):=Cr fun _ _ _ _ _ _ _ q=>sub_int q
theorem kD:OpR X (binaryOp .Mod) (rI (fun _ j=>0<j) fun i j=> .int (i%j)):=opI fun i j _ _ _ _ _ hc q=>by
 have h1:(0:Int)<j:=hc
 exact mod_int' (by omega) (by rw[Int.fmod_eq_emod_of_nonneg i (by omega)];exact q)
theorem unI{f:Value ->Sem Value}{g:Int ->Int}
  (rule:∀(i:Int) (t:Tok) (s:Shared) (Q:Value ->Shared ->Prop) (E:Value ->Shared ->Prop),Q (.int (g i) s.toks) {s with toks:=s.toks+1} ->wpAny (model X.prog X.w) X.A (f (.int i t)) Q E s):
  UnR X f (rU fun i=> .int (g i)):=by
 intro pins s σ H x v Q I rx h;obtain⟨i,rfl,q⟩:=h
 obtain⟨t,rfl⟩:=rx
 exact rule i t s _ _ ⟨.int (g i),H,I.tok _,⟨_,rfl⟩,q⟩
theorem qo:UnR X (unaryOp .USub) (rU fun i=> .int (-i)):=unI fun _ _ _ _ _ q=>neg_int q
end
noncomputable def CD:V ->V ->Bool
 | .non,.non=>true| .non,.int _=>true| .int _,.non=>true| .non,.bl _=>true| .bl _,.non=>true| .non,.str _=>true| .str _,.non=>true
 | .int _,.int _=>true| .bl _,.bl _=>true| .str _,.str _=>true| .byt _,.byt _=>true
 | .int _,.str _=>true| .str _,.int _=>true| .bl _,.str _=>true| .str _,.bl _=>true
 |_,_=>false
noncomputable def rEq:R2:=fun x y H Q=>CD x y=true /\ Q (.bl (decide (x=y))) H
section
variable {X:Cx} {a b c:Expr} {ta tb tc:TE} {pos:Pos}
theorem mD:OpR X (compareOp .Lt) (rI0 fun i j=> .bl (decide (i<j))):=Aw fun _ _ _ _ _ _ _ q=>lt_int q
theorem ua:OpR X (compareOp .LtE) (rI0 fun i j=> .bl (decide (i<=j))):=Aw fun _ _ _ _ _ _ _ q=>le_int q
theorem mR:OpR X (compareOp .Gt) (rI0 fun i j=> .bl (decide (j<i))):=Aw fun _ _ _ _ _ _ _ q=>gt_int q
theorem qJ:OpR X (compareOp .GtE) (rI0 fun i j=> .bl (decide (j<=i))):=Aw fun _ _ _ _ _ _ _ q=>ge_int q
theorem iZ(b:Expr){op:CmpOp}(h:op≠ .In:=by decide)(h2:op≠ .NotIn:=by decide):behindInMarks op b=false:=by
 have e1:(op==CmpOp.In)=false:=by cases op<;>first|rfl|exact absurd rfl h
 have e2:(op==CmpOp.NotIn)=false:=by cases op<;>first|rfl|exact absurd rfl h2
 cases b<;>simp[behindInMarks,e1,e2]
theorem j7{op:CmpOp}{r:R2}(ho:OpR X (compareOp op) r)(ha:PE X a ta)(hb:PE X b tb)(hm:behindInMarks op b=false):PE X (.Compare a [op] [b] pos) (tOp r ta tb):=by
 intro pins s σ H Q I h;exact wpAny_Compare1 (Cg ha hb I h fun v u s2 x y H2 I2 rx ry q=>ho pins s2 σ H2 x y v u Q I2 rx ry q) hm
noncomputable def yl(r r':R2)(ta tb tc:TE):TE:=fun σ H Q=>ta σ H fun x H1=>tb σ H1 fun y H2=>r x y H2 fun z H3=>∃k,z= .bl k /\
 (if k=true then tc σ H3 fun w' H4=>r' y w' H4 Q else Q (.bl false) H3)
theorem sQ{op op':CmpOp}{r r':R2}(ho:OpR X (compareOp op) r)(ho':OpR X (compareOp op') r')(ha:PE X a ta)(hb:PE X b tb)(hc:PE X c tc)
  (hm:lastMarks [op,op'] [b,c]=false:=by with_unfolding_all rfl):PE X (.Compare a [op,op'] [b,c] pos) (yl r r' ta tb tc):=by
 intro pins s σ H Q I h;refine Compare_chain (thn (ha pins s σ H _ I h) fun v s1 ⟨x,H1,I1,r1,q1⟩=>chain_link (thn (hb pins s1 σ H1 _ I1 q1) fun u s2 ⟨y,H2,I2,r2,q2⟩=>
  thn (ho pins s2 σ H2 x y v u _ I2 r1 r2 q2) fun d s3 ⟨z,H3,I3,r3,k,e,q3⟩=> ?_)) hm
 subst e;cases r3;refine wpAny_truthy_bool ?_;cases k with
 |false=>exact ite_ff ⟨.bl false,H3,I3,rfl,q3⟩
 |true=>exact ite_tt (chain_last (thn (hc pins s3 σ H3 _ I3 q3) fun w' s4 ⟨z',H4,I4,r4,q4⟩=>ho' pins s4 σ H4 y z' u w' Q I4 r2 r4 q4))
theorem vv:(sizeLine:Nat)<2^63:=by rw[sizeLine_eq];decide
theorem vals1{x:V}{us:List Value}(r:Vals [x] us):∃u,us=[u] /\ RelV x u:=by
 cases r with
 |cons r1 r2=>cases r2;exact⟨_,rfl,r1⟩
theorem m8:kZ X (.builtin "abs") (fun xs H Q=>∃i,xs=[.int i] /\ Q (.int (if i<0 then -i else i)) H):=by
 intro pins s σ H xs us Q I r h;obtain⟨i,rfl,q⟩:=h
 obtain⟨u,rfl,t,rfl⟩:=vals1 r
 exact call_abs_int fun u tk=>⟨.int (if i<0 then -i else i),H,I.tok _,⟨_,rfl⟩,q⟩
theorem qW:kZ X (.type "int") (fun xs H Q=>(∃i,xs=[.int i] /\ Q (.int i) H)∨∃k,xs=[.bl k] /\ Q (.int (if k then 1 else 0)) H):=by
 intro pins s σ H xs us Q I r h;rcases h with⟨i,rfl,q⟩|⟨k,rfl,q⟩
 ·obtain⟨u,rfl,t,rfl⟩:=vals1 r
  exact call_int_int ⟨.int i,H,I,⟨_,rfl⟩,q⟩
 ·obtain⟨u,rfl,r1⟩:=vals1 r
  cases r1;exact call_int_bool ⟨.int (if k then 1 else 0),H,I.tok _,⟨_,rfl⟩,q⟩
end
end L2
namespace L2
open PySem PySem.Spec PyProof.Rows
structure ObjM(h:Heap)(x dx C:Addr)(mA:Str ->Option Value):Prop where
 obj:h.get? x=some (fW C dx)
 ns:h.Ns1 dx mA
 ne:dx≠x
theorem vq{h:Heap}{dx:Addr}{mA:Str ->Option Value}(n:h.Ns1 dx mA):∃od,h.get? dx=some od /\ ∀name,gx name od=some (mA name):=by
 obtain⟨o,es,ep,ho,hd,hk,_,hm⟩:=n
 refine⟨o,ho,fun name=> ?_⟩;have e:=hm name
 unfold nsFind findBy at e;rw[<-Array.find?_toList] at e;unfold gx;rw[hd];dsimp only;split
 ·rename_i y q
  rw[q] at e;exact congrArg some e
 ·rename_i q
  rw[q] at e;have a:es.toList.any (·.refKey)=false:=by
   rw[fF];intro y hy;obtain⟨z,t,hkey⟩:=hk y (Array.mem_toList_iff.mp hy)
   simp[DictEntry.refKey,hkey]
  have a':¬es.toList.any (·.refKey)=true:=by rw[a];exact bW
  rw[if_neg a'];exact congrArg some e
theorem ObjM.look{h:Heap}{x dx C:Addr}{mA:Str ->Option Value}(I:ObjM h x dx C mA):∃od,PySem.W.InstAt h x (fW C dx) C (some od) /\ ∀name,gx name od=some (mA name):=
 let⟨od,ho,hl⟩:=vq I.ns
 ⟨od,⟨I.obj,rfl,rfl,ho⟩,hl⟩
theorem RelO.some_of{v:V}{o:Option Value}(r:RelO (some v) o):∃u,o=some u /\ RelV v u:=by
 cases o with
 |none=>exact(show False from r).elim
 |some u=>exact⟨u,rfl,r⟩
section
variable {P:Program} {w:World} {H H':Hp} {h h':Heap} {a C dx:Addr} {fs fs':List (Str×V)}
theorem zW(hok:HOk P w H h)(e:H a=some (.ins C dx fs)):∃mA,ObjM h a dx C mA /\ (∀f,RelO (fs.lookup f) (mA f)) /\ iF mA (fs.map (·.1)) /\ fs.length<=1000 /\ H dx=some (.own a):=by
 obtain⟨d,z,ne,ob,mA,n,r,q⟩:=(show ObjOk P w H h a (.ins C dx fs) from hok a _ e)
 exact⟨mA,⟨ob,n,ne⟩,r,q,z,d⟩
end
structure Cls(K:ao)(C:Addr):Prop where
 pg:gS K C Str.empty=true
 hd:PySem.W.hasDictIn K C=true
 po:PySem.W.plainOver K C=true
 sa:iu K (.ref C) "__setattr__"=some (some (.builtin "object.__setattr__"))
theorem Cls.get{K:ao}{C:Addr}(c:Cls K C)(f:Str):gS K C f=true:=c.pg
section
variable {X:Cx} {pins:List (Addr×Obj)} {σ:St} {H:Hp} {s:Shared} {A:Around} {E:Value ->Shared ->Prop} {Q:Value ->Shared ->Prop} {c:Value} {b:Bool}
inductive TyOf(K:ao)(H:Hp):V ->Value ->Prop where
 |non:TyOf K H .non (.type "NoneType")
 |bl (x:Bool):TyOf K H (.bl x) (.type "bool")
 |int (i:Int):TyOf K H (.int i) (.type "int")
 |str (x:Str):TyOf K H (.str x) (.type "str")
 |flt (x:UInt64):TyOf K H (.flt x) (.type "float")
 |lst {a:Addr} {xs:List V} (e:H a=some (.lst xs)):TyOf K H (.ref a) (.type "list")
 |frz {a:Addr} {o:Obj} {xs:List V} (e:H a=some (.frz o (.lst xs))):TyOf K H (.ref a) (.type "list")
 |tup {a:Addr} {xs:List V} (e:H a=some (.tup xs)):TyOf K H (.ref a) (.type "tuple")
 |dK {a:Addr} {kvs:List (Key×V)} (e:H a=some (.dK kvs)):TyOf K H (.ref a) (.type "dict")
 |dT {a:Addr} {kvs:List (List Key×V)} (e:H a=some (.dT kvs)):TyOf K H (.ref a) (.type "dict")
 |ins {a C dx:Addr} {fs:List (Str×V)} (e:H a=some (.ins C dx fs)) (cl:Cls K C) (ha:iu K (.ref C) "__class__"=some (some (.builtin "object.__class__")))
   (hn:PySem.W.specialIn K (.builtin "object.__class__") "__get__"=some (some (.builtin "getset_descriptor.__get__"))) (htk:PySem.W.takesIn K (.builtin "object.__class__")=some true)
   (hm:PySem.W.mroIn K C (.type "object")=some true):TyOf K H (.ref a) (.ref C)
theorem vJ{x:V}{u t:Value}(I:Inv X pins σ H s)(rx:RelV x u)(ty:TyOf X.K H x t)(e:cy X.K t c=some b)(h:∀tk,Q (.bool b) {s with toks:=tk}):
  wpAny (model X.prog X.w) A (call (.builtin "isinstance") [u,c]) Q E s:=by
 cases ty with
 |non=>cases(show u=Value.none from rx);exact cj PySem.W.kitx_none I.kIn True.intro e (fun z=>nomatch z) h
 |bl y=>cases(show u=Value.bool y from rx);exact cj PySem.W.kitx_bool I.kIn True.intro e (fun z=>nomatch z) h
 |int i=>obtain⟨t,q⟩:=(show∃t,u=Value.int i t from rx);cases q;exact cj PySem.W.kitx_int I.kIn True.intro e (fun z=>nomatch z) h
 |str y=>obtain⟨t,q⟩:=(show∃t,u=Value.str y t from rx);cases q;exact cj PySem.W.kitx_str I.kIn True.intro e (fun z=>nomatch z) h
 |flt y=>obtain⟨t,q⟩:=(show∃t,u=Value.float y t from rx);cases q;exact cj PySem.W.kitx_float I.kIn True.intro e (fun z=>nomatch z) h
 | @lst a xs ea=>
  cases(show u=Value.ref a from rx);obtain⟨_,_,n,_,h1⟩:=(show ObjOk X.prog X.w H s.heap a (.lst xs) from I.hok a _ ea)
  exact cj gL I.kIn ⟨_,h1,rfl⟩ e (fun z=>nomatch z) h
 | @frz a ob xs ea=>
  cases(show u=Value.ref a from rx);obtain⟨_,_,_,n,_,h1⟩:=(show ObjOk X.prog X.w H s.heap a (.frz ob (.lst xs)) from I.hok a _ ea)
  exact cj gL I.kIn ⟨_,h1,rfl⟩ e (fun z=>nomatch z) h
 | @tup a xs ea=>
  cases(show u=Value.ref a from rx);obtain⟨_,_,_,p⟩:=(show ObjOk X.prog X.w H s.heap a (.tup xs) from I.hok a _ ea)
  obtain⟨o,h1,h2,_⟩:=p
  exact cj PySem.W.kitx_tuple I.kIn ⟨o,h1,h2⟩ e (fun z=>nomatch z) h
 | @dK a kvs ea=>
  cases(show u=Value.ref a from rx);obtain⟨_,_,vs,_,p⟩:=(show ObjOk X.prog X.w H s.heap a (.dK kvs) from I.hok a _ ea)
  obtain⟨o,es,ep,h1,h2,_⟩:=p
  exact cj gM I.kIn ⟨o,h1,h2.1⟩ e (fun z=>nomatch z) h
 | @dT a kvs ea=>
  cases(show u=Value.ref a from rx);obtain⟨_,_,xs,_,o,es,ep,h1,h2,_⟩:=(show ObjOk X.prog X.w H s.heap a (.dT kvs) from I.hok a _ ea)
  exact cj gM I.kIn ⟨o,h1,h2.1⟩ e (fun z=>nomatch z) h
 | @ins a C dx fs ea cl ha hn htk hm=>
  cases(show u=Value.ref a from rx);obtain⟨mA,O,_⟩:=zW I.hok ea
  obtain⟨od,J,_⟩:=O.look
  exact cj (PySem.W.kitx_own (cl.get _) cl.hd ha hn htk hm) I.kIn J e (fun z=>nomatch z) h
end
end L2
namespace L2
open PySem PySem.Spec PyProof.Rows
theorem Room.mono{j k:Nat}{A:Around}(r:Room k A)(h:j<=k):Room j A:=⟨r.hd,by have:=r.dp;omega,by have:=r.un;omega⟩
theorem Room.deeper{k:Nat}{A:Around}(r:Room (k+1) A)(env:Env):Room k (A.deeper env):=
 ⟨r.hd,by have:=r.dp;show A.depth+1+3*k+5<_;omega,by have:=r.un;show A.units+3+16*k+200<_;omega⟩
theorem Room.depth{k:Nat}{A:Around}(r:Room k A):A.depth<recursionLimit:=by have:=r.dp;omega
theorem Room.units{k:Nat}{A:Around}(r:Room k A):A.units+64<cLine:=by have:=r.un;omega
noncomputable def AN:TA:=fun _ H Q=>Q [] H
noncomputable def tX(ta:TE)(tr:TA):TA:=fun σ H Q=>ta σ H fun x H1=>tr σ H1 fun xs H2=>Q (x::xs) H2
section
variable {X:Cx} {e:Expr} {es:List Expr} {te:TE} {t:TA} {pos:Pos}
theorem iK:PA X [] AN:=fun _ _ _ _ H Q I h=>Calls.spliced_nil ⟨[],H,I,.nil,h⟩
theorem iI(ha:PE X e te)(hr:PA X es t)(hs:starEach (e::es) X.env=(false,eval e X.env)::starEach es X.env:=by rfl):PA X (e::es) (tX te t):=by
 intro pos pins s σ H Q I h;rw[hs];show wpAny _ _ (spliced ((false,eval e X.env)::backTo pos (starEach es X.env))) _ _ s
 refine Calls.spliced_cons (thn (ha pins s σ H _ I h) fun u s1 ⟨x,H1,I1,r1,q1⟩=> ?_);exact thn (hr pos pins s1 σ H1 _ I1 q1) fun us s2 ⟨xs,H2,I2,r2,q2⟩=>⟨x::xs,H2,I2,.cons r1 r2,q2⟩
noncomputable def AJ(t:TA):TE:=fun σ H Q=>t σ H fun xs H1=>xs.length<=sizeLine /\ ∀p,H1 p=none ->Q (.ref p) (upd H1 p (.tup xs))
noncomputable def AQ(t:TA):TE:=fun σ H Q=>t σ H fun xs H1=>xs.length<=sizeLine /\ ∀p,H1 p=none ->Q (.ref p) (upd H1 p (.lst xs))
theorem jk{x1}(h:PA X es t):PE X (.Tuple es x1 pos) (AJ t):=by
 intro pins s σ H Q I hq;refine wpAny_Tuple_spliced (thn (h pos pins s σ H _ I hq) fun us s1 ⟨xs,H1,I1,r,z,q⟩=>⟨by rw[<-r.length];exact z,?_⟩);have hf:H1 s1.heap.objs.size=none:=I1.hok.fresh (ax _)
 refine⟨.ref s1.heap.objs.size,upd H1 s1.heap.objs.size (.tup xs),I1.laid (t':=s1.toks) (fun b u e=>Heap.get?_push_of_some _ e) (ax _) ?_,rfl,q _ hf⟩;exact⟨z,us,r,⟨_,Heap.get?_push_size _ rfl,rfl,_,rfl⟩⟩
theorem jO(h:PA X es t):PE X (.List es pos) (AQ t):=by
 intro pins s σ H Q I hq;refine wpAny_List_spliced (thn (h pos pins s σ H _ I hq) fun us s1 ⟨xs,H1,I1,r,z,q⟩=>⟨by rw[<-r.length];exact z,?_⟩);have hf:H1 s1.heap.objs.size=none:=I1.hok.fresh (ax _)
 refine⟨.ref s1.heap.objs.size,upd H1 s1.heap.objs.size (.lst xs),I1.laid (t':=s1.toks) (fun b u e=>Heap.get?_push_of_some _ e) (ax _) ?_,rfl,q _ hf⟩;exact⟨z,us,0,r,Heap.get?_push_size _ rfl⟩
end
section
variable {X:Cx} {pins:List (Addr×Obj)} {σ:St} {H:Hp} {s s':Shared}
theorem Inv.env0(I:Inv X pins σ H s):Env0 X.prog X.w X.K X.mg X.base X.A X.stack s H:=
 ⟨I.ok.frames,I.ok.mod,I.bs,cv I.ok.bsz I.sz,I.stack,I.stkFree,I.hok,I.bare⟩
theorem Inv.after{Q:VK}{u:Value}(I:Inv X pins σ H s)(h:CE X.stack X.prog X.w H s Q u s'):EP X pins σ Q u s':=by
 obtain⟨v,H',os,bare,un,hok,r,q⟩:=h
 obtain⟨hh,g,d,t,os'⟩:=s'
 obtain rfl:os'=s.os:=os
 exact⟨v,H',I.call (h':=hh) (g':=g) (d':=d) (t':=t) (ch:=[]) un hok bare (fun b z=>absurd z (by simp)),r,q⟩
end
noncomputable def tY(sp:Sp)(dvs:List V)(E:XK)(t:TA):TE:=fun σ H Q=>t σ H fun vs H1=>sp (vs++dvs) H1 Q E
noncomputable def Binds(K:ao)(fd:FuncData)(ps:List Str)(ds:List Value):Prop:=
 ∀(s:Shared) (us:List Value),K.In s.heap ->(us++ds).length=ps.length ->BindsTo s fd ⟨us,[]⟩ (ps.zip (us++ds))
theorem Binds.all{K:ao}{fd:FuncData}{ps:List Str}(h:∀us:List Value,us.length=ps.length ->bindArgs fd ⟨us,[]⟩=pure (ps.zip us)):Binds K fd ps []:=fun s us _ hl=>by
 rw[aL] at hl⊢;exact .of_eq (h us hl)
noncomputable def rh(CX:CXT)(X:Cx)(E:XK):Prop:=∀(pins:List (Addr×Obj)) (σ:St) (H:Hp) (s:Shared) (e:Value) (s':Shared),Inv X pins σ H s ->CX X.stack H s E e s' ->X.xe e s'
section
variable {X:Cx} {CX:CXT} {k:Nat} {f C:Addr} {fd:FuncData} {ps:List Str} {sp:Sp} {dvs:List V} {ds:List Value} {E:XK} {x m:Str} {p pos apos:Pos} {e o:Expr} {es:List Expr} {ta:TE} {t:TA}
theorem A4{pins:List (Addr×Obj)}{σ:St}{H:Hp}{s:Shared}{Q:VK}{us:List Value}{vs:List V}(F:FnOk X.prog X.w X.K X.mg X.base CX k f fd ps sp)(hr:Room k X.A)(hb:Binds X.K fd ps ds)(hd:Vals dvs ds)(hx:rh CX X E)
  (I:Inv X pins σ H s) (r:Vals vs us) (h:sp (vs++dvs) H Q E):wpAny (model X.prog X.w) X.A (call (.ref f) us) (EP X pins σ Q) X.xe s:=by
 have r2:Vals (vs++dvs) (us++ds):=r.append hd
 have hl:(us++ds).length=ps.length:=by rw[<-r2.length];exact F.len _ _ _ _ h
 refine wpAny_call (codeAny_mono (F.run X.A X.stack s H ⟨us,[]⟩ (us++ds) (vs++dvs) Q E hr I.env0 (hb s us I.kIn hl) r2 h) fun r s' hq=> ?_);cases r with
 |error e=>exact hx pins σ H s e s' I hq
 |ok fl=>
  cases fl with
  |ret u=>exact I.after hq
  |next=>exact False.elim hq
  |brk=>exact False.elim hq
  |cont=>exact False.elim hq
theorem zy(F:FnOk X.prog X.w X.K X.mg X.base CX k f fd ps sp)(hr:Room k X.A)(hg:Gl X x)(hm:X.mg x=some (.ref f))(hk:aD X.K (.ref f)=true)(hb:Binds X.K fd ps ds)(hd:Vals dvs ds)(hx:rh CX X E)
  (ha:PA X (e::es) t) (hdb:(x==("__debug__":Str))=false:=by decide) (he:starEach (e::es) X.env=(false,eval e X.env)::starEach es X.env:=by rfl) (hpl:(backTo pos (starEach es X.env)).any (·.1)=false:=by rfl):
  PE X (.Call (.Name x p) (e::es) [] pos) (tY sp dvs E t):=by
 intro pins s σ H Q I h;refine wpAny_Call_Name_kw (vA I hg hm ?_ hdb);refine gD (h₀:=X.base) I.ok.mod.kin hk (thn (ha pos pins s σ H _ I h) fun us s1 ⟨vs,H1,I1,r,q⟩=>⟨I1.kIn,?_⟩) he hpl;exact A4 F hr hb hd hx I1 r q
end
structure FnScope(N P:List Str)(sc:Scope):Prop where
 kind:sc.kind= .function
 co:sc.isCoroutine=false
 gen:sc.isGenerator=false
 nd:N.Nodup
 pre:N.take P.length=P
 par:∀x∈P,sc.names.lookup x=some .local∨sc.names.lookup x=some .cell
 nofree:∀y∈sc.names,y.2≠ .free
theorem qY{kindOf:Str ->Option NameKind}{x:Str}:∀{binds:List (Str×Value)} {m:Str ->Option Value},(∀v,(x,v)∉binds) ->bindL kindOf binds m x=m x
 |[],_,_=>rfl
 |(n,v)::r,m,h=>by
  unfold bindL;rw[qY fun w hw=>h w (aP _ hw)];split
  ·have:x≠n:=by rintro rfl;exact h v bJ
   simp[this]
  ·rfl
theorem q5{kindOf:Str ->Option NameKind}{x:Str}:∀{binds:List (Str×Value)} {m:Str ->Option Value},(∀v,(x,v)∉binds) ->bindC kindOf binds m x=m x
 |[],_,_=>rfl
 |(n,v)::r,m,h=>by
  unfold bindC;rw[q5 fun w hw=>h w (aP _ hw)];split
  ·rfl
  ·have:x≠n:=by rintro rfl;exact h v bJ
   simp[this]
theorem qZ{kindOf:Str ->Option NameKind}{x:Str}{v:Value}:∀{P:List Str} {vs:List Value} {i:Nat} {m:Str ->Option Value},P.Nodup ->P[i]? =some x ->vs[i]? =some v ->kindOf x=some .local ->
  bindL kindOf (P.zip vs) m x=some v
 |[],_,_,_,_,h,_,_=>by simp at h
 |_::_,[],_,_,_,_,h,_=>by simp at h
 |p::P,w::vs,0,m,nd,h1,h2,hk=>by
  simp at h1 h2;subst h1;subst h2;show bindL kindOf ((p,w)::P.zip vs) m p=_
  unfold bindL;rw[qY fun v hv=>(bf.mp nd).1 (bZ hv).1,if_pos hk];simp
 |p::P,w::vs,i+1,m,nd,h1,h2,hk=>by
  show bindL kindOf ((p,w)::P.zip vs) m x=_
  unfold bindL;exact qZ (i:=i) (bf.mp nd).2 (by simpa using h1) (by simpa using h2) hk
theorem rc{kindOf:Str ->Option NameKind}{x:Str}{v:Value}:∀{P:List Str} {vs:List Value} {i:Nat} {m:Str ->Option Value},P.Nodup ->P[i]? =some x ->vs[i]? =some v ->kindOf x≠some .local ->
  bindC kindOf (P.zip vs) m x=some v
 |[],_,_,_,_,h,_,_=>by simp at h
 |_::_,[],_,_,_,_,h,_=>by simp at h
 |p::P,w::vs,0,m,nd,h1,h2,hk=>by
  simp at h1 h2;subst h1;subst h2;show bindC kindOf ((p,w)::P.zip vs) m p=_
  unfold bindC;rw[q5 fun v hv=>(bf.mp nd).1 (bZ hv).1,if_neg hk];simp
 |p::P,w::vs,i+1,m,nd,h1,h2,hk=>by
  show bindC kindOf ((p,w)::P.zip vs) m x=_
  unfold bindC;exact rc (i:=i) (bf.mp nd).2 (by simpa using h1) (by simpa using h2) hk
noncomputable def start(N:List Str)(vs:List V):St:=vs.map some++dE (N.length-vs.length) none
noncomputable def Af(CX:CXT)(P:Program)(w:World)(K:ao)(mg:Str ->Option Value)(base:Heap)(N:List Str)(qual:Str)(scope:Scope)(f:Addr)(cd:Value)(A:Around)(outer:List Env)(s:Shared)(H:Hp)(E:XK):Cx where
 prog:=P
 w:=w
 K:=K
 mg:=mg
 base:=base
 A:=A.deeper (envOfC qual scope s.heap.objs.size f cd)
 N:=N
 s₀:=s
 H₀:=H
 env:=envOfC qual scope s.heap.objs.size f cd
 outer:=outer
 stack:=envOfC qual scope s.heap.objs.size f cd::outer
 ex:=[]
 calm:=true
 fn:=fun _=>true
 pn:=[]
 xe:=fun e s'=>wpAny (model P w) (A.deeper (envOfC qual scope s.heap.objs.size f cd)) (leaving (envOfC qual scope s.heap.objs.size f cd) e) (fun _ s''=>CX outer H s E e s'') (fun e' s''=>CX outer H s E e' s'') s'
theorem tP{sc:Scope}{n:Nat}{x:Str}(h:sc.names.lookup x=some .cell):∃c,(cellsFrom n sc.names []).lookup x=some c:=by
 have q:=fR sc.names n [] (.inl h)
 exact cw.mp q
theorem vK{CX:CXT}{P:Program}{w:World}{K:ao}{mg:Str ->Option Value}{base:Heap}{N ps:List Str}{qual:Str}{scope:Scope}{f:Addr}{cd:Value}{A:Around}{outer:List Env}{s s1:Shared}{H:Hp}{E:XK}{us:List Value}{vs:List V}
  (S:FnScope N ps scope) (hd:A.handled=none) (e0:Env0 P w K mg base A outer s H) (hl:vs.length=ps.length) (r:Vals vs us)
  (x:InCallC s s.heap.objs.size (bindL (envOfC qual scope s.heap.objs.size f cd).kindOf (ps.zip us) fun _=>none) (cellsFrom (s.heap.objs.size+1) scope.names []) (bindC (envOfC qual scope s.heap.objs.size f cd).kindOf (ps.zip us) fun _=>none) s1):
  Inv (Af CX P w K mg base N qual scope f cd A outer s H E) [] (start N vs) H s1:=by
 have hpl:ps.length<=N.length:=by have:=congrArg gA S.pre;rw[aF] at this;omega
 obtain⟨h1,tk,rfl,hk⟩:=x.done
 have noA:∀b:Addr,b∉(Af CX P w K mg base N qual scope f cd A outer s H E).ex:=fun b z=>absurd (show b∈([]:List Addr) from z) (by simp)
 refine⟨⟨e0.mod,S.kind,rfl,rfl,ax _,fun y z c h1 h2=> ?_,fun y hy=> ?_,fun y c _ h=> ?_,fun _=>hd,Around.frames_deeper e0.frames,.inr ⟨rfl,rfl⟩,fun b z=>absurd z (noA b),e0.bs,e0.bsz,fun b _ _=>noA b,fun b z=>absurd z (noA b),e0.funs,e0.frf⟩,
  rfl,e0.bare,Un.kept hk,⟨_,x.toInCall.ns,fun i y v h1 h2 h3=> ?_⟩,fun y c h=>⟨_,x.cell y c h⟩,e0.hok.fresh (ax _),fun y c h=> ?_,fun p hp=>absurd (show p∈([]:List (Addr×Obj)) from hp) (by simp),e0.hok.kept hk,?_⟩
 ·exact name_of_addr x.apart (cT h1) (cT h2)
 ·have hy:scope.names.lookup y=some .cell∨scope.names.lookup y=some .free:=hy
  rcases hy with hy|hy
  ·exact tP hy
  ·exact absurd rfl (S.nofree _ (cT hy))
 ·exact fY (x.above y c (cT h))
 ·have hi:i<vs.length:=by
   unfold start at h2
   by_cases hi:i<vs.length
   ·exact hi
   ·rw[aH (by simpa using hi)] at h2;rw[dQ] at h2;split at h2<;>cases h2
  have ha:vs[i]? =some v:=by
   unfold start at h2;rw[aN (by simpa using hi),au] at h2;cases e:vs[i]? with
   |none=>rw[e] at h2;cases h2
   |some a=>rw[e] at h2;cases h2;rfl
  obtain⟨u,hu,rv⟩:=r.get ha
  have hp:ps[i]? =some y:=by
   rw[<-S.pre,aY (by omega)];exact h1
  have ndP:ps.Nodup:=by rw[<-S.pre];exact S.nd.sublist (List.take_sublist _ _)
  refine⟨u,rv,?_⟩;rcases S.par y (av hp) with k|k
  ·exact .inl ⟨k,qZ ndP hp hu k⟩
  ·obtain⟨c,e⟩:=tP (n:=s.heap.objs.size+1) k
   refine .inr ⟨.inl k,c,e,?_⟩;have q:=x.cell y c e
   rw[rc ndP hp hu (by show scope.names.lookup y≠_;rw[k];decide)] at q
   exact q
 ·exact e0.hok.fresh (fY (x.above y c (cT h)))
 ·unfold start;show _=N.length
  rw[aq,ah,eF];omega
theorem Cd{CX:CXT}{P:Program}{w:World}{K:ao}{mg:Str ->Option Value}{base:Heap}{k:Nat}{f:Addr}{name qual:Str}{params:Arguments}{body:List Stmt}{scope:Scope}{dV kV doc pm cdv ct oc:Value}{an od:Option Addr}
  {osl:Array (Option Value)} {N ps:List Str} {sp:Sp} (lk:K.lookup f=some ⟨oc,od,.func (aK name qual params body scope dV kV doc pm an cdv ct),osl⟩) (hcd:aG K cdv qual=true) (S:FnScope N ps scope)
  (len:∀vs H Q E,sp vs H Q E ->vs.length=ps.length)
  (hbody:∀(A:Around) (outer:List Env) (s:Shared) (H:Hp) (vs:List V) (Q:VK) (E:XK),Room k (A.deeper (envOfC qual scope s.heap.objs.size f cdv)) ->sp vs H Q E ->
   ∃t,PSs (Af CX P w K mg base N qual scope f cdv A outer s H E) body t /\ t {nx:=fun _ H'=>Q .non H',rt:=Q} (start N vs) H):
  FnOk P w K mg base CX (k+1) f (aK name qual params body scope dV kV doc pm an cdv ct) ps sp:=by
 refine⟨len,fun A outer s H args us vs Q E hr e0 hb r hsp=> ?_⟩;have hl:=len _ _ _ _ hsp
 have KX:K.In s.heap:=e0.mod.kin.keeps fun b o e=>(e0.bs b o e).1
 have lim:s.heap.NoLimit:=e0.mod.nolimit.keeps fun b o e=>(e0.bs b o e).1
 have hkind:∀y∈ps.zip us,scope.names.lookup y.1=some .local∨(scope.names.lookup y.1=some .cell /\ ((cellsFrom (s.heap.objs.size+1) scope.names []).lookup y.1).isSome=true):=fun⟨n,v⟩ hy=>by
  rcases S.par n (bZ hy).1 with q|q
  ·exact .inl q
  ·exact .inr ⟨q,fR _ _ _ (.inl q)⟩
 refine codeAny_call_function hr.depth (KX _ _ lk) rfl S.co S.gen rfl (PySem.W.codeRec_of KX hcd) (hb _ _ _ _ ?_);refine wpAny_newFunctionEnv_cells S.kind hkind fun env he s1 x=> ?_
 subst he;refine⟨lim.keeps x.toInCall.keep,codeAny_func ?_⟩;obtain⟨t,ht,hq⟩:=hbody A outer s H vs Q E (hr.deeper _) hsp
 have I:Inv (Af CX P w K mg base N qual scope f cdv A outer s H E) [] (start N vs) H s1:=vK S hr.hd e0 hl r x
 refine wpAny_mono (ht [] s1 (start N vs) H _ I hq) (fun fl s' hs=> ?_) fun e s' hs=>hs
 have fin:∀{σ':St} {H':Hp} {v:V} {u:Value},Inv (Af CX P w K mg base N qual scope f cdv A outer s H E) [] σ' H' s' ->RelV v u ->Q v H' ->CE outer P w H s Q u s':=
  fun {σ' H' v u} J rv q=>⟨v,H',J.os,J.bare,J.base,J.hok,rv,q⟩
 cases fl with
 |ret u=>
  obtain⟨v,σ',H',J,rv,q⟩:=hs
  exact fin J rv q
 |next=>
  obtain⟨σ',H',J,q⟩:=hs
  exact fin (v:=V.non) (u:=Value.none) J rfl q
 |brk=>
  obtain⟨_,_,_,q⟩:=hs
  exact False.elim q
 |cont=>
  obtain⟨_,_,_,q⟩:=hs
  exact False.elim q
end L2
namespace L2
open PySem PySem.Spec PyProof.Rows
section
variable {X:Cx} {x:Str} {p pos:Pos} {e:Expr} {es:List Expr} {t:TA} {id T:String} {r:List V ->Hp ->VK ->Prop}
noncomputable def tCB(r:List V ->Hp ->VK ->Prop)(t:TA):TE:=fun σ H Q=>t σ H fun vs H1=>r vs H1 Q
theorem iU(hc:kZ X (.builtin id) r)(hg:Gl X x)(hm:X.mg x=none)(hv:bootBuiltins x=some (.builtin id))(ha:PA X (e::es) t)(hn:x≠"__name__":=by decide)(hdb:(x==("__debug__":Str))=false:=by decide)
  (he:starEach (e::es) X.env=(false,eval e X.env)::starEach es X.env:=by rfl) (hpl:(backTo pos (starEach es X.env)).any (·.1)=false:=by rfl):PE X (.Call (.Name x p) (e::es) [] pos) (tCB r t):=by
 intro pins s σ H Q I h;refine wpAny_Call_Name_kw (oG I hg hm hv ?_ hn hdb);exact PyProof.Rows.callWith_builtin1 (thn (ha pos pins s σ H _ I h) fun us s1 ⟨vs,H1,I1,r1,q1⟩=>hc pins s1 σ H1 vs us Q I1 r1 q1) he hpl
theorem jN(hc:kZ X (.type T) r)(hg:Gl X x)(hm:X.mg x=none)(hv:bootBuiltins x=some (.type T))(ha:PA X (e::es) t)(hn:x≠"__name__":=by decide)(hdb:(x==("__debug__":Str))=false:=by decide)
  (he:starEach (e::es) X.env=(false,eval e X.env)::starEach es X.env:=by rfl) (hpl:(backTo pos (starEach es X.env)).any (·.1)=false:=by rfl):PE X (.Call (.Name x p) (e::es) [] pos) (tCB r t):=by
 intro pins s σ H Q I h;refine wpAny_Call_Name_kw (oG I hg hm hv ?_ hn hdb);exact cL (thn (ha pos pins s σ H _ I h) fun us s1 ⟨vs,H1,I1,r1,q1⟩=>hc pins s1 σ H1 vs us Q I1 r1 q1) he hpl
end
end L2
namespace HT
open PySem PyProof.Rows
noncomputable def lexLt:List Int ->List Int ->Bool
 |[],[]=>false
 |[],_::_=>true
 |_::_,[]=>false
 |x::xs,y::ys=>if x=y then lexLt xs ys else decide (x<y)
theorem lexLt_cons(x y:Int)(xs ys:List Int):lexLt (x::xs) (y::ys)=if x=y then lexLt xs ys else decide (x<y):=rfl
theorem pR:lexLt [] []=false:=rfl
theorem om(y:Int)(ys:List Int):lexLt [] (y::ys)=true:=rfl
theorem oo(x:Int)(xs:List Int):lexLt (x::xs) []=false:=rfl
theorem xR(A:Around)(s:Shared)(a:Int)(t:Tok)(c:Int)(u:Tok):∃e,SeqAt.EqAt A s (.int a t) (.int c u) e /\ (e=true↔a=c):=
 ⟨(a==c),SeqAt.EqAt.int_int a t c u,by simp⟩
theorem w6(A:Around)(s:Shared)(a:Int)(t:Tok)(c:Int)(u:Tok)(prog:Program)(w:World)(E:Value ->Shared ->Prop)(Q:Value ->Shared ->Prop)(h:Q (.bool (decide (a<c))) s):
  wpAny (model prog w) A (richCompare .Lt (.int a t) (.int c u)) Q E s:=
 (PyProof.Rows.lt_int h:wpAny (model prog w) A (compareOp .Lt (.int a t) (.int c u)) Q E s)
section
open PySem.SeqAt
open PySem.AutoSeq1 (wpAny_loadPart')
open PySem.MeetsSeq PySem.MeetsSeq2 PySem.MeetsSeq3
theorem oW(l b:Addr)(items items2:Array Value)(n n2:Nat)(dd dd2:Option Addr)(sl sl2:Array (Option Value))(ns ms:List Int)(hi:IntsAre items.toList ns)(hj:IntsAre items2.toList ms):
  Meets (Builtin.«tuple.__lt__» ⟨[.ref l,.ref b],[]⟩)
   (fun _ R s=>s.heap.get? l=some {cls:= .type "tuple",dict:=dd,data:= .seq items n,slots:=sl} /\ s.heap.get? b=some {cls:= .type "tuple",dict:=dd2,data:= .seq items2 n2,slots:=sl2} /\
    R (.ok (.ret (.bool (lexLt ns ms)))) s):=
 .of_wp fun prog w A R s h=>by
  obtain⟨hp,g,d,tk,os⟩:=s;obtain⟨hl,hb,h⟩:=h
  have f2:=AutoSeq1.sub_tuple_tuple
  have z1:items.size=ns.length:=by rw[<-hi.length];simp
  have z2:items2.size=ms.length:=by rw[<-hj.length];simp
  wp_walk using wpAny_loadPart' hl,wpAny_loadPart' hb,wpAny_forIn_list _ (fun rest b s'=>b.1=none /\ s'=⟨hp,g,d,tk,os⟩ /\ ∃(vs ws:List Value) (ns' ms':List Int),rest=vs.zip ws /\
   IntsAre vs ns' /\ IntsAre ws ms' /\ ns'.length+items2.size=ms'.length+items.size /\ R (.ok (.ret (.bool (lexLt ns' ms')))) ⟨hp,g,d,tk,os⟩) _
  case turn=>
   rintro⟨y,x⟩ rest b s' ⟨hb',rfl,vs,ws,ns',ms',hz,hvi,hwi,hlen,hR⟩;cases hvi with
   |nil=>rw[List.zip_nil_left] at hz;cases hz
   |cons a t hvi'=>
    cases hwi with
    |nil=>rw[List.zip_nil_right] at hz;cases hz
    |cons c u hwi'=>
     rw[cZ] at hz
     injection hz with hyx hrest
     injection hyx with hy hx
     subst hy hx;rw[lexLt_cons] at hR;simp only[aV] at hlen;obtain⟨e,he,hiff⟩:=xR A.in1 ⟨hp,g,d,tk,os⟩ a t c u
     refine wpAny_bind (he prog w _ _ ?_);cases e with
     |true=>
      rw[if_pos (hiff.mp rfl)] at hR
      wp_walk
      exact⟨rfl,rfl,_,_,_,_,hrest,hvi',hwi',by omega,hR⟩
     |false=>
      rw[if_neg (fun q=>absurd (hiff.mpr q) bW)] at hR;have hri:=w6 A.in1 ⟨hp,g,d,tk,os⟩ a t c u prog w
      wp_walk using hri
      exact⟨_,rfl,by simpa using hR⟩
  case fin=>
   rintro⟨b1,b2⟩ s' ⟨hb',rfl,vs,ws,ns',ms',hz,hvi,hwi,hlen,hR⟩;simp only at hb';subst hb';have hv:lexLt ns' ms'=decide (items.size<items2.size):=by
    cases hvi with
    |nil=>
     cases hwi with
     |nil=>
      simp only[bu] at hlen;rw[pR];exact(decide_eq_false (by omega)).symm
     |cons c u hw=>
      simp only[bu,aV] at hlen;rw[om];exact(decide_eq_true (by omega)).symm
    |cons a t hv=>
     cases hwi with
     |nil=>
      simp only[bu,aV] at hlen;rw[oo];exact(decide_eq_false (by omega)).symm
     |cons c u hw=>
      rw[cZ] at hz;cases hz
   rw[hv] at hR
   wp_walk
   exact⟨_,rfl,by simpa[Builtin.Tuple.tupleCompareSizes] using hR⟩
  case h=>
   exact⟨rfl,rfl,items.toList,items2.toList,ns,ms,rfl,hi,hj,by omega,h⟩
end
section
variable {prog:Program} {w:World} {A:Around} {E:Value ->Shared ->Prop} {s:Shared}
theorem lt_tupInts{l b:Addr}{items items2:Array Value}{ns ms:List Int}{Q:Value ->Shared ->Prop}(hl:IsTup s.heap l items)(hb:IsTup s.heap b items2)(hi:IntsAre items.toList ns)(hj:IntsAre items2.toList ms)
  (hu:A.units<cLine) (h:Q (.bool (lexLt ns ms)) s):wpAny (model prog w) A (compareOp .Lt (.ref l) (.ref b)) Q E s:=by
 obtain⟨⟨cls,dd,data,sl⟩,ho,hc,n,hd⟩:=id hl
 obtain⟨⟨cls2,dd2,data2,sl2⟩,ho2,hc2,n2,hd2⟩:=id hb
 simp only at hc hd hc2 hd2;subst hc hd hc2 hd2;exact richCompare_meets_room (op:= .Lt) ⟨_,ho,rfl⟩ ⟨_,ho2,rfl⟩ PySem.F.slot_tuple_lt PySem.F.entry_tuple_lt (PySem.F.args_tuple_lt_2 _ _) (oW l b items items2 n n2 dd dd2 sl sl2 ns ms hi hj)
  ⟨ho,ho2,show Value.bool (lexLt ns ms)≠Value.notImplemented /\ Q (.bool (lexLt ns ms)) s from⟨(fun x=>nomatch x),h⟩⟩ hu
noncomputable def sIx(n d:Nat):Option Int ->Nat
 |none=>d
 |some v=>if v<0 then(v+(n:Int)).toNat else min v.toNat n
theorem sIx_none(n d:Nat):sIx n d none=d:=rfl
theorem sIx_nat(n d k:Nat):sIx n d (some (k:Int))=min k n:=by
 show(if(k:Int)<0 then((k:Int)+(n:Int)).toNat else min (k:Int).toNat n)=min k n
 rw[if_neg (by omega),Int.toNat_natCast]
theorem A0(n d:Nat)(hd:d<=n)(o:Option Int):sIx n d o<=n:=by
 cases o with
 |none=>exact hd
 |some v=>
  show(if v<0 then(v+(n:Int)).toNat else min v.toNat n)<=n
  by_cases hv:v<0
  ·rw[if_pos hv];omega
  ·rw[if_neg hv];exact Nat.min_le_right _ _
theorem v9(v:Int)(n d:Nat):(if v<0 then max (v+(n:Int)) 0 else min v (n:Int))=((sIx n d (some v):Nat):Int):=by
 show(if v<0 then max (v+(n:Int)) 0 else min v (n:Int))=(((if v<0 then(v+(n:Int)).toNat else min v.toNat n):Nat):Int)
 by_cases hv:v<0
 ·simp only[if_pos hv];omega
 ·simp only[if_neg hv];omega
theorem ut(lo hi:Option Int)(n:Nat):Builtin.Slice.sliceAdjust lo hi 1 (n:Int)=(((sIx n 0 lo:Nat):Int),((sIx n n hi:Nat):Int)):=by
 have h1:¬((1:Int)<0):=by omega
 unfold Builtin.Slice.sliceAdjust;simp only[h1,if_false];refine b9 ?_ ?_
 ·cases lo with
  |none=>rfl
  |some v=>exact v9 v n 0
 ·cases hi with
  |none=>rfl
  |some v=>exact v9 v n n
theorem t8(i j:Nat):Builtin.Slice.slicePlaces (i:Int) (j:Int) 1=j-i:=by
 unfold Builtin.Slice.slicePlaces;have h1:(1:Int)>0:=by omega
 simp only[h1,if_true,Int.ediv_one];split<;>omega
theorem oA{v:Value}{o:Option Int}{Q:Option Int ->Shared ->Prop}(p:IsPart v o)(h:Q o s):wpAny (model prog w) A (Builtin.Slice.slicePartIndex v) Q E s:=by
 cases p with
 |none=>exact slicePart_none h
 |int i t=>exact slicePart_int h
theorem mO{sl:Addr}{vl vu:Value}{lo hi:Option Int}{n:Nat}{Q:Int×Int×Nat ->Shared ->Prop}(hs:s.heap.IsSliceOf sl vl vu .none)(pl:IsPart vl lo)(pu:IsPart vu hi)
  (h:Q (((sIx n 0 lo:Nat):Int),1,sIx n n hi-sIx n 0 lo) s):wpAny (model prog w) A (Builtin.Slice.sliceApplied (.ref sl) (pure (n:Int))) Q E s:=by
 obtain⟨os,hos,hcs,hds⟩:=id hs
 unfold Builtin.Slice.sliceApplied Builtin.Slice.sliceFields;refine wpAny_bind (wpAny_bind (wpAny_field hos hds (x:=vl) rfl (wpAny_bind (wpAny_field hos hds (x:=vu) rfl (wpAny_bind (wpAny_field hos hds (x:= .none) rfl (wpAny_pure ?_)))))));refine wpAny_bind (slicePart_none ?_);show wpAny _ _ (if((1:Int)==0)=true then _ else _) _ _ s
 rw[if_neg (by decide)];refine wpAny_bind (oA pl (wpAny_bind (oA pu (wpAny_bind (wpAny_pure ?_)))));show wpAny _ _ (match Builtin.Slice.sliceAdjust lo hi 1 (n:Int) with|(lo,hi)=>pure (lo,(1:Int),Builtin.Slice.slicePlaces lo hi 1)) _ _ s
 rw[ut lo hi n];show wpAny _ _ (pure (((sIx n 0 lo:Nat):Int),(1:Int),Builtin.Slice.slicePlaces ((sIx n 0 lo:Nat):Int) ((sIx n n hi:Nat):Int) 1)) _ _ s
 rw[t8];exact wpAny_pure h
theorem xg(xs:Array Value)(i k:Nat):((bH k).filterMap fun(m:Nat)=>xs[((i:Int)+(m:Int)*1).toNat]?).toArray=((xs.toList.drop i).take k).toArray:=by
 have e:(fun(m:Nat)=>xs[((i:Int)+(m:Int)*1).toNat]?)=fun m=>xs[i+m]? :=by
  funext m
  have:((i:Int)+(m:Int)*1).toNat=i+m:=by omega
  rw[this]
 rw[e];have:=pick_run xs i k
 rw[List.filterMap_map] at this;have e2:((fun x=>xs[x]?)∘fun x=>i+x)=fun m=>xs[i+m]? :=rfl
 rw[e2] at this;rw[this]
theorem getItem_tuple_cut{t sl:Addr}{items:Array Value}{vl vu:Value}{lo hi:Option Int}{Q:Value ->Shared ->Prop}(ht:IsTup s.heap t items)(hs:s.heap.IsSliceOf sl vl vu .none)(pl:IsPart vl lo)(pu:IsPart vu hi)
  (hw:¬(sIx items.size 0 lo=0 /\ sIx items.size items.size hi=items.size))
  (h:Q (.ref s.heap.objs.size) {s with heap:=s.heap.push {cls:= .type "tuple",data:= .seq ((items.toList.drop (sIx items.size 0 lo)).take (sIx items.size items.size hi-sIx items.size 0 lo)).toArray}})
  (hsz:items.size<=sizeLine):wpAny (model prog w) A (getItem (.ref t) (.ref sl)) Q E s:=by
 have htake:sizeOk (.seq ((items.toList.drop (sIx items.size 0 lo)).take (sIx items.size items.size hi-sIx items.size 0 lo)).toArray):=by
  show((items.toList.drop (sIx items.size 0 lo)).take (sIx items.size items.size hi-sIx items.size 0 lo)).toArray.size<=sizeLine
  rw[aA,aF,aI,fc];omega
 have hj:sIx items.size items.size hi<=items.size:=A0 _ _ (ax _) hi
 obtain⟨os,hos,hcs,hds⟩:=id hs
 have hTs:s.TypeIs (.ref sl) "slice":=⟨os,hos,hcs⟩
 unfold getItem
 try with_reducible refine wpAny_holding ?_
 first|refine wpAny_bind (wpAny_pure ?_)|skip
 refine wpAny_bind (wpAny_sequenceKey ht.typeIs (by decide) ?_);refine wpAny_bind (wpAny_callSpecial?_slot (name:=Str.ofString "__getitem__") ht.typeIs cQ
  (wpAny_call_entry cQ ht.typeIs entry_tuple_getitem ?_ (args_tuple_getitem _ _)))
 show wpAny _ _ (Builtin.Tuple.tupleItemsOf (.ref t)>>=_) _ _ s
 refine wpAny_bind (tupleItemsOf_ ht ?_);refine wpAny_bind (wpAny_typeOf hTs ?_);rw[if_pos (by decide)];refine wpAny_bind (mO hs pl pu ?_);have hno:¬((((sIx items.size 0 lo:Nat):Int)==0&&(1:Int)==1&&(sIx items.size items.size hi-sIx items.size 0 lo)==items.size)=true):=by
  intro q;rw[b8,b8] at q;have q1:((sIx items.size 0 lo:Nat):Int)=0:=eq_of_beq q.1.1
  have q2:sIx items.size items.size hi-sIx items.size 0 lo=items.size:=eq_of_beq q.2
  exact hw ⟨by omega,by omega⟩
 show wpAny _ _ (if(((sIx items.size 0 lo:Nat):Int)==0&&(1:Int)==1&&(sIx items.size items.size hi-sIx items.size 0 lo)==items.size)=true then _ else _) _ _ s
 rw[if_neg hno,xg]
 first
  |exact wpAny_bind (m:=Builtin.Tuple.tupleExact _) (wpAny_newObj_type (wpAny_pure ⟨_,rfl,wpAny_pure h⟩) htake)
  |exact wpAny_bind (m:=Builtin.Tuple.tupleExact _) (wpAny_newObj_type (wpAny_bind (wpAny_pure (wpAny_pure ⟨_,rfl,wpAny_pure h⟩))) htake)
  |exact wpAny_bind (wpAny_bind (m:=Builtin.Tuple.tupleExact _) (wpAny_newObj_type (wpAny_pure (wpAny_pure ⟨_,rfl,wpAny_pure h⟩)) htake))
  |exact wpAny_bind (wpAny_bind (m:=Builtin.Tuple.tupleExact _) (wpAny_newObj_type (wpAny_pure ⟨_,rfl,wpAny_pure h⟩) htake))
end
end HT
namespace L2
open PySem PySem.Spec PyProof.Rows
noncomputable abbrev TO:=St ->Hp ->(Option Int ->Hp ->Prop) ->Prop
noncomputable def PO(X:Cx)(e:Option Expr)(t:TO):Prop:=
 ∀(pins:List (Addr×Obj)) (s:Shared) (σ:St) (H:Hp) (Q:Option Int ->Hp ->Prop),Inv X pins σ H s ->t σ H Q ->
  wpAny (model X.prog X.w) X.A (evalPart e X.env) (fun u s'=>∃o H',Inv X pins σ H' s' /\ IsPart u o /\ Q o H') X.xe s
noncomputable def nr:TO:=fun _ H Q=>Q none H
noncomputable def uF(t:TE):TO:=fun σ H Q=>t σ H fun x H1=>∃i,x= .int i /\ Q (some i) H1
theorem intsAre_of{ns:List Int}:∀{us:List Value},Vals (ns.map V.int) us ->IntsAre us ns:=by
 induction ns with
 |nil=>intro us r;rw[bO] at r;cases r;exact .nil
 |cons n ns ih=>
  intro us r;rw[aM] at r;cases r with
  |cons r1 r2=>
   obtain⟨t,e⟩:=r1
   subst e;exact .cons n t (ih r2)
section
variable {X:Cx} {e:Expr} {te:TE} {lo hi:Option Expr} {tl th:TO} {pos p2:Pos}
theorem kM:PO X none nr:=by
 intro pins s σ H Q I h;rw[evalPart_none];exact wpAny_pure ⟨none,H,I,.none,h⟩
theorem kL(h:PE X e te):PO X (some e) (uF te):=by
 intro pins s σ H Q I hw;rw[evalPart_some];refine thn (h pins s σ H _ I hw) fun u s1 ⟨x,H1,I1,r1,q1⟩=> ?_
 obtain⟨i,rfl,q⟩:=q1
 obtain⟨t,rfl⟩:=r1
 exact⟨some i,H1,I1,.int i t,q⟩
noncomputable def SlR(X:Cx)(r:V ->Option Int ->Option Int ->Hp ->VK ->Prop):Prop:=
 ∀(pins:List (Addr×Obj)) (s:Shared) (σ:St) (H:Hp) (x:V) (v vl vu:Value) (lo hi:Option Int) (sl:Addr) (Q:VK),Inv X pins σ H s ->RelV x v ->s.heap.IsSliceOf sl vl vu .none ->IsPart vl lo ->IsPart vu hi ->r x lo hi H Q ->
  ∃T id,typeLookup (.type T) "__getitem__"=pure (some (.builtin id)) /\ s.TypeIs v T /\ wpAny (model X.prog X.w) X.A (getItem v (.ref sl)) (EP X pins σ Q) X.xe s
noncomputable def tSl(r:V ->Option Int ->Option Int ->Hp ->VK ->Prop)(te:TE)(tl th:TO):TE:=fun σ H Q=>te σ H fun x H1=>tl σ H1 fun l H2=>th σ H2 fun u H3=>r x l u H3 Q
theorem j1{r:V ->Option Int ->Option Int ->Hp ->VK ->Prop}(hr:SlR X r)(he:PE X e te)(hl:PO X lo tl)(hu:PO X hi th):PE X (.Subscript e (.Slice lo hi none p2) pos) (tSl r te tl th):=by
 intro pins s σ H Q I h;refine Subscript_ (thn (he pins s σ H _ I h) fun v s1 ⟨x,H1,I1,r1,q1⟩=> ?_);refine wpAny_Slice (thn (hl pins s1 σ H1 _ I1 q1) fun vl s2 ⟨l,H2,I2,pl,q2⟩=>thn (hu pins s2 σ H2 _ I2 q2) fun vu s3 ⟨u,H3,I3,pu,q3⟩=> ?_);rw[evalPart_none];refine wpAny_pure ?_;have I4:Inv X pins σ H3 {s3 with heap:=s3.heap.push {cls:= .type "slice",data:= .fields #[vl,vu,.none]}}:=I3.kept (t':=s3.toks) fun b ob q=>Heap.get?_push_of_some _ q
 obtain⟨T,id,hT,ht,hg⟩:=hr pins {s3 with heap:=s3.heap.push {cls:= .type "slice",data:= .fields #[vl,vu,.none]}} σ H3 x v vl vu l u s3.heap.objs.size Q I4 r1 (Heap.IsSliceOf.new ..) pl pu q3
 show wpAny (model X.prog X.w) X.A (subscriptTail e (.Slice lo hi none p2) v (.ref s3.heap.objs.size)) (EP X pins σ Q) X.xe {s3 with heap:=s3.heap.push {cls:= .type "slice",data:= .fields #[vl,vu,.none]}}
 exact tail_any (ops:=[.ref s3.heap.objs.size,v]) ht hT hg (by with_unfolding_all rfl)
noncomputable def tN(xs:List V)(lo hi:Option Int):List V:=(xs.drop (HT.sIx xs.length 0 lo)).take (HT.sIx xs.length xs.length hi-HT.sIx xs.length 0 lo)
theorem nZ(xs:List V)(lo hi:Option Int):(tN xs lo hi).length<=xs.length:=by
 unfold tN;rw[aF,aI];omega
noncomputable def Co(K:ao):V ->Option Int ->Option Int ->Hp ->VK ->Prop:=fun x lo hi H Q=>∃a xs,x= .ref a /\ SqT K H a xs /\
 ¬(HT.sIx xs.length 0 lo=0 /\ HT.sIx xs.length xs.length hi=xs.length) /\ ∀p,H p=none ->Q (.ref p) (upd H p (.tup (tN xs lo hi)))
theorem AW:SlR X (Co X.K):=by
 intro pins s σ H x v vl vu lo hi sl Q I rx hs pl pu h;obtain⟨a,xs,rfl,hx,hw,q⟩:=h
 cases rx;obtain⟨its,r,ht,hz⟩:=I.tuple hx
 have hlen:its.toArray.size=xs.length:=by rw[aA];exact r.length.symm
 refine⟨"tuple",_,cQ.lookup,ht.typeIs,?_⟩;refine HT.getItem_tuple_cut ht hs pl pu (by rw[hlen];exact hw) ?_ (by rw[hlen];exact hz);rw[hlen];refine⟨.ref s.heap.objs.size,_,I.laid (t':=s.toks) (o:= .tup (tN xs lo hi)) (fun b ob q=>Heap.get?_push_of_some _ q) (ax _) ?_,rfl,q _ (I.hok.fresh (ax _))⟩;exact⟨cv (nZ xs lo hi) hz,_,(r.drop (HT.sIx xs.length 0 lo)).take (HT.sIx xs.length xs.length hi-HT.sIx xs.length 0 lo),IsTup.new _ _⟩
end
end L2
namespace L2
open PySem PySem.Spec PyProof.Rows
noncomputable def ixN(n:Nat)(i:Int):Option Nat:=if 0<=i then(if i<n then some i.toNat else none) else if -(n:Int)<=i then some (i+n).toNat else none
noncomputable def atI{α:Type}(xs:List α)(i:Int):Option α:=(ixN xs.length i).bind fun j=>xs[j]?
theorem vI{n:Nat}{i:Int}{j:Nat}(h:ixN n i=some j):seqIndex? i n=some j /\ j<n /\ -(n:Int)<=i /\ i<n:=by
 unfold ixN at h
 by_cases h0:0<=i
 ·rw[if_pos h0] at h
  by_cases h1:i<n
  ·rw[if_pos h1] at h;have e:i.toNat=j:=ba.inj h
   exact⟨by rw[seqIndex_of h0 h1,e],by omega,by omega,h1⟩
  ·rw[if_neg h1] at h;cases h
 ·rw[if_neg h0] at h
  by_cases h1: -(n:Int)<=i
  ·rw[if_pos h1] at h;have e:(i+n).toNat=j:=ba.inj h
   exact⟨by rw[seqIndex_neg (by omega) h1,e],by omega,h1,by omega⟩
  ·rw[if_neg h1] at h;cases h
theorem atI_get{α:Type}{xs:List α}{i:Int}{v:α}(h:atI xs i=some v):∃j,seqIndex? i xs.length=some j /\ xs[j]? =some v /\ j<xs.length /\ -(xs.length:Int)<=i /\ i<xs.length:=by
 unfold atI at h;cases e:ixN xs.length i with
 |none=>rw[e] at h;cases h
 |some j=>
  rw[e] at h;obtain⟨h1,h2,h3,h4⟩:=vI e
  exact⟨j,h1,h,h2,h3,h4⟩
theorem jr{α:Type}{xs:List α}{j:Nat}{v:α}(h:xs[j]? =some v):atI xs (j:Int)=some v:=by
 have hj:j<xs.length:=(aa.mp h).1
 have e:ixN xs.length (j:Int)=some j:=by
  unfold ixN;rw[if_pos (by omega),if_pos (by omega)];simp
 unfold atI;rw[e];exact h
noncomputable def Ap(b:Expr):Prop:=∀o i,subscripted b false o i=operate [o,i] (getItem o i)
noncomputable def IxR(X:Cx)(r:R2):Prop:=
 ∀(value slice:Expr) (pins:List (Addr×Obj)) (s:Shared) (σ:St) (H:Hp) (x y:V) (v u:Value) (Q:VK),Inv X pins σ H s ->RelV x v ->RelV y u ->r x y H Q ->
  subscripted slice false v u=operate [v,u] (getItem v u) ->wpAny (model X.prog X.w) X.A (subscriptTail value slice v u) (EP X pins σ Q) X.xe s
noncomputable def MtR(X:Cx)(id:String)(r:V ->List V ->Hp ->VK ->Prop):Prop:=
 ∀(pins:List (Addr×Obj)) (s:Shared) (σ:St) (H:Hp) (x:V) (xs:List V) (v:Value) (us:List Value) (Q:VK),Inv X pins σ H s ->RelV x v ->Vals xs us ->r x xs H Q ->
  wpAny (model X.prog X.w) X.A (call (.builtin id) (v::us)) (EP X pins σ Q) X.xe s
section
variable {X:Cx} {a b:Expr} {ta tb:TE} {pos:Pos}
theorem iW{r:R2}(hr:IxR X r)(ha:PE X a ta)(hb:PE X b tb)(hs:Ap b):PE X (.Subscript a b pos) (tOp r ta tb):=by
 intro pins s σ H Q I h;exact Subscript_ (Cg ha hb I h fun v u s2 x y H2 I2 rx ry q=>hr a b pins s2 σ H2 x y v u Q I2 rx ry q (hs _ _))
noncomputable def CG(K:ao):R2:=fun x y H Q=>∃p xs i v,x= .ref p /\ y= .int i /\ SqL K H p xs /\ atI xs i=some v /\ Q v H
noncomputable def CF(K:ao):R2:=fun x y H Q=>∃p xs i v,x= .ref p /\ y= .int i /\ SqT K H p xs /\ atI xs i=some v /\ Q v H
theorem zU:IxR X (CG X.K):=by
 intro value slice pins s σ H x y v u Q I rx ry h hs;obtain⟨p,xs,i,z,rfl,rfl,hq,he,q⟩:=h
 cases rx;obtain⟨t,rfl⟩:=ry
 obtain⟨its,r,pl,hz⟩:=I.list hq
 obtain⟨j,h1,h2,h3,h4,h5⟩:=atI_get he
 obtain⟨w,ew,rw'⟩:=r.get h2
 have hl:=r.length
 have hn:=vv
 have fin:EP X pins σ Q w s:=⟨z,H,I,rw',q⟩
 by_cases h0:0<=i
 ·have hj:i.toNat=j:=by
   rw[seqIndex_of h0 h5] at h1;exact ba.inj h1
  exact item_listR pl.isList h0 (by omega) (by rw[hj];simpa using ew) fin hs
 ·have hj:(i+(its.toArray.size:Int)).toNat=j:=by
   rw[seqIndex_neg (by omega) h4] at h1;rw[aA, <-hl];exact ba.inj h1
  exact subscriptTail_builtinR (x:=w) pl.isList.typeIs slot_list_getitem.lookup
   (wpAny_getItem_list_neg (Q:=fun r s'=>r=w /\ EP X pins σ Q r s') pl.isList (by omega) (by rw[aA]<;>omega) (by omega) (by rw[hj];simpa using ew) ⟨rfl,fin⟩) hs
theorem By:IxR X (CF X.K):=by
 intro value slice pins s σ H x y v u Q I rx ry h hs;obtain⟨p,xs,i,z,rfl,rfl,hq,he,q⟩:=h
 cases rx;obtain⟨t,rfl⟩:=ry
 obtain⟨its,r,pl,hz⟩:=I.tuple hq
 obtain⟨j,h1,h2,h3,h4,h5⟩:=atI_get he
 obtain⟨w,ew,rw'⟩:=r.get h2
 have hl:=r.length
 have hn:=vv
 have fin:EP X pins σ Q w s:=⟨z,H,I,rw',q⟩
 exact subscriptTail_builtinR (x:=w) pl.typeIs slot_tuple_getitem.lookup
  (getItem_tuple (j:=j) (Q:=fun r s'=>r=w /\ EP X pins σ Q r s') pl (by omega) (by omega) (by rw[aA, <-hl];exact h1) (by simpa using ew) ⟨rfl,fin⟩) hs
theorem qu(lo hi:Option Int)(n:Nat):(sliceBounds lo hi none n).1=((HT.sIx n 0 lo:Nat):Int) /\ (sliceBounds lo hi none n).2.1=((HT.sIx n n hi:Nat):Int) /\ (sliceBounds lo hi none n).2.2=1:=by
 refine⟨?_,?_,rfl⟩
 ·cases lo with
  |none=>simp[sliceBounds,HT.sIx]
  |some i=>
   simp only[sliceBounds,HT.sIx,gT,show(1:Int)>0 by decide,if_true]
   by_cases h:i<0
   ·simp only[h,if_true]<;>omega
   ·simp only[h,if_false]<;>omega
 ·cases hi with
  |none=>simp[sliceBounds,HT.sIx]
  |some i=>
   simp only[sliceBounds,HT.sIx,gT,show(1:Int)>0 by decide,if_true]
   by_cases h:i<0
   ·simp only[h,if_true]<;>omega
   ·simp only[h,if_false]<;>omega
theorem pA(its:List Value)(lo hi:Option Int):slicePick its.toArray lo hi none=((its.drop (HT.sIx its.length 0 lo)).take (HT.sIx its.length its.length hi-HT.sIx its.length 0 lo)).toArray:=by
 obtain⟨h1,h2,h3⟩:=qu lo hi its.toArray.size
 unfold slicePick;rw[h1,h2,h3];simp only[sliceRange_one,pick_run,aA]<;>rfl
noncomputable def Cp(K:ao):V ->Option Int ->Option Int ->Hp ->VK ->Prop:=fun x lo hi H Q=>∃a xs,x= .ref a /\ SqL K H a xs /\ ∀p,H p=none ->Q (.ref p) (upd H p (.lst (tN xs lo hi)))
theorem uM:SlR X (Cp X.K):=by
 intro pins s σ H x v vl vu lo hi sl Q I rx hs pl pu h;obtain⟨a,xs,rfl,hx,q⟩:=h
 cases rx;obtain⟨its,r,ht,hz⟩:=I.list hx
 have hlen:=r.length
 refine⟨"list",_,slot_list_getitem.lookup,ht.isList.typeIs,?_⟩;refine wpAny_getItem_list_slice ht.isList hs pl pu .none (by simp) ?_ (by rw[aA]<;>omega)
 rw[pA, <-hlen];refine⟨.ref s.heap.objs.size,_,I.laid (t':=s.toks) (o:= .lst (tN xs lo hi)) (fun b ob q=>Heap.get?_push_of_some _ q) (ax _) ?_,rfl,q _ (I.hok.fresh (ax _))⟩;exact⟨cv (nZ xs lo hi) hz,_,0,(r.drop (HT.sIx xs.length 0 lo)).take (HT.sIx xs.length xs.length hi-HT.sIx xs.length 0 lo),Heap.get?_push_size _ rfl⟩
noncomputable def qa:V ->Bool
 | .non=>true
 | .bl _=>true
 | .int _=>true
 | .str _=>true
 |_=>false
noncomputable def eqV:V ->V ->Bool
 | .non,.non=>true
 | .bl a,.bl b=>a==b
 | .bl a,.int b=>(if a then 1 else 0)==b
 | .int a,.bl b=>a==(if b then 1 else 0)
 | .int a,.int b=>a==b
 | .str a,.str b=>a==b
 |_,_=>false
theorem BM{A:Around}{s:Shared}{y x:V}{u v:Value}(ry:RelV y u)(rx:RelV x v)(fy:qa y=true)(fx:qa x=true):SeqAt.EqAt A s u v (eqV y x):=by
 cases y with
 |non=>
  cases ry;cases x with
  |non=>cases rx;exact SeqAt.EqAt.same _
  |bl b=>cases rx;exact SeqAt.EqAt.none_bool b
  |int b=>obtain⟨t,rfl⟩:=rx;exact SeqAt.EqAt.none_int b t
  |str b=>obtain⟨t,rfl⟩:=rx;exact SeqAt.EqAt.none_str b t
  |_=>exact absurd (show false=true from fx) bW
 |bl a=>
  cases ry;cases x with
  |non=>cases rx;exact SeqAt.EqAt.bool_none a
  |bl b=>cases rx;exact SeqAt.EqAt.bool_bool a b
  |int b=>obtain⟨t,rfl⟩:=rx;exact SeqAt.EqAt.bool_int a b t
  |str b=>obtain⟨t,rfl⟩:=rx;exact SeqAt.EqAt.bool_str a b t
  |_=>exact absurd (show false=true from fx) bW
 |int a=>
  obtain⟨t',rfl⟩:=ry
  cases x with
  |non=>cases rx;exact SeqAt.EqAt.int_none a t'
  |bl b=>cases rx;exact SeqAt.EqAt.int_bool a t' b
  |int b=>obtain⟨t,rfl⟩:=rx;exact SeqAt.EqAt.int_int a t' b t
  |str b=>obtain⟨t,rfl⟩:=rx;exact SeqAt.EqAt.int_str a t' b t
  |_=>exact absurd (show false=true from fx) bW
 |str a=>
  obtain⟨t',rfl⟩:=ry
  cases x with
  |non=>cases rx;exact SeqAt.EqAt.str_none a t'
  |bl b=>cases rx;exact SeqAt.EqAt.str_bool a t' b
  |int b=>obtain⟨t,rfl⟩:=rx;exact SeqAt.EqAt.str_int a t' b t
  |str b=>obtain⟨t,rfl⟩:=rx;exact SeqAt.EqAt.str_str a t' b t
  |_=>exact absurd (show false=true from fx) bW
 |_=>exact absurd (show false=true from fy) bW
noncomputable def eqU(x:V)(u:Value):Bool:=match u with
 | .none=>eqV .non x
 | .bool b=>eqV (.bl b) x
 | .int i _=>eqV (.int i) x
 | .str z _=>eqV (.str z) x
 |_=>false
theorem yF{x y:V}{u:Value}(r:RelV y u)(f:qa y=true):eqU x u=eqV y x:=by
 cases y with
 |non=>cases r;rfl
 |bl b=>cases r;rfl
 |int i=>obtain⟨t,rfl⟩:=r;rfl
 |str z=>obtain⟨t,rfl⟩:=r;rfl
 |_=>exact absurd (show false=true from f) bW
theorem n5{x:V}:∀{xs:List V} {us:List Value},Vals xs us ->xs.all qa=true ->us.any (eqU x)=xs.any fun y=>eqV y x
 |_,_,.nil,_=>rfl
 |y::xs,u::us,.cons r t,f=>by
  rw[gE,b8] at f;rw[dR,dR,yF r f.1,n5 t f.2]
theorem l4{A:Around}{s:Shared}{x:V}{v:Value}(rx:RelV x v)(fx:qa x=true):∀{xs:List V} {us:List Value},Vals xs us ->xs.all qa=true -> ∀u∈us,SeqAt.EqAt A s u v (eqU x u)
 |_,_,.nil,_=>fun u hu=>by cases hu
 |y::xs,u::us,.cons r t,f=>fun u' hu=>by
  rw[gE,b8] at f;rcases aw.mp hu with rfl|hu
  ·rw[yF r f.1];exact BM r rx f.1 fx
  ·exact l4 rx fx t f.2 u' hu
noncomputable def inV(x:V)(xs:List V):Bool:=xs.any fun y=>eqV y x
noncomputable def rIn(K:ao)(neg:Bool):R2:=fun x y H Q=>∃p xs,y= .ref p /\ (SqL K H p xs∨SqT K H p xs) /\ qa x=true /\ xs.all qa=true /\ Q (.bl (if neg then !inV x xs else inV x xs)) H
theorem vf:OpR X (compareOp .In) (rIn X.K false):=by
 intro pins s σ H x y v u Q I rx ry h;obtain⟨p,xs,rfl,hq,fx,fs,q⟩:=h
 cases ry;rcases hq with hq|hq
 ·obtain⟨its,r,pl,hz⟩:=I.list hq
  refine SeqAt.in_listAt (eqU x) pl.isList (fun w hw=>l4 rx fx r fs w (by simpa using hw)) ⟨.bl _,H,I,rfl,?_⟩;rw[show its.toArray.any (eqU x)=its.any (eqU x) by simp,n5 r fs];exact q
 ·obtain⟨its,r,pl,hz⟩:=I.tuple hq
  refine SeqAt.in_tupleAt (eqU x) pl (fun w hw=>l4 rx fx r fs w (by simpa using hw)) ⟨.bl _,H,I,rfl,?_⟩;rw[show its.toArray.any (eqU x)=its.any (eqU x) by simp,n5 r fs];exact q
theorem qI:OpR X (compareOp .NotIn) (rIn X.K true):=by
 intro pins s σ H x y v u Q I rx ry h;obtain⟨p,xs,rfl,hq,fx,fs,q⟩:=h
 cases ry;rcases hq with hq|hq
 ·obtain⟨its,r,pl,hz⟩:=I.list hq
  refine SeqAt.notIn_listAt (eqU x) pl.isList (fun w hw=>l4 rx fx r fs w (by simpa using hw)) ⟨.bl _,H,I,rfl,?_⟩;rw[show its.toArray.any (eqU x)=its.any (eqU x) by simp,n5 r fs];exact q
 ·obtain⟨its,r,pl,hz⟩:=I.tuple hq
  refine SeqAt.notIn_tupleAt (eqU x) pl (fun w hw=>l4 rx fx r fs w (by simpa using hw)) ⟨.bl _,H,I,rfl,?_⟩;rw[show its.toArray.any (eqU x)=its.any (eqU x) by simp,n5 r fs];exact q
theorem qV:kZ X (.builtin "len") (fun xs H Q=>∃p ys,xs=[.ref p] /\ (SqL X.K H p ys∨SqT X.K H p ys) /\ Q (.int ys.length) H):=by
 intro pins s σ H xs us Q I r h;obtain⟨p,ys,rfl,hq,q⟩:=h
 obtain⟨u,rfl,rx⟩:=vals1 r
 cases rx;have hn:=vv
 rcases hq with hq|hq
 ·obtain⟨its,r',pl,hz⟩:=I.list hq
  have hlen:=r'.length
  exact Calls.call_len_list pl.isList (by simp only[aA]<;>omega) ⟨.int ys.length,H,I.tok _,⟨s.toks+1,by rw[aA,hlen]⟩,q⟩
 ·obtain⟨its,r',pl,hz⟩:=I.tuple hq
  have hlen:=r'.length
  exact len_tuple pl (by simp only[aA]<;>omega) ⟨.int ys.length,H,I.tok _,⟨s.toks+1,by rw[aA,hlen]⟩,q⟩
theorem qU:kZ X (.type "list") (fun xs H Q=>∃p ys,xs=[.ref p] /\ (SqL X.K H p ys∨SqT X.K H p ys) /\ ∀l,H l=none ->Q (.ref l) (upd H l (.lst ys))):=by
 intro pins s σ H xs us Q I r h;obtain⟨p,ys,rfl,hq,q⟩:=h
 obtain⟨u,rfl,rx⟩:=vals1 r
 cases rx;have fin:∀(its:List Value),Vals ys its ->ys.length<=sizeLine -> ∀(h':Heap) (c':Nat),(∀b o',s.heap.get? b=some o' ->h'.get? b=some o') ->
   h'.get? s.heap.objs.size=some {cls:= .type "list",dict:=none,data:= .seq its.toArray c',slots:= #[]} ->EP X pins σ Q (.ref s.heap.objs.size) {s with heap:=h'}:=fun its r' hz h' c' kp e=>
  ⟨.ref s.heap.objs.size,_,I.laid (t':=s.toks) kp (ax _) (show ObjOk X.prog X.w _ h' _ (.lst ys) from⟨hz,its,c',r',e⟩),rfl,q _ (I.hok.fresh (ax _))⟩
 rcases hq with hq|hq
 ·obtain⟨its,r',pl,hz⟩:=I.list hq
  have hlen:=r'.length
  obtain⟨o,ho,hc,n,hd⟩:=pl.isList
  exact call_list_seq p (.inl rfl) ho hc hd (fun h' c' kp e=>fin its r' hz h' c' kp e) (by simp only[aA]<;>omega)
 ·obtain⟨its,r',pl,hz⟩:=I.tuple hq
  have hlen:=r'.length
  obtain⟨o,ho,hc,n,hd⟩:=pl
  exact call_list_seq p (.inr rfl) ho hc hd (fun h' c' kp e=>fin its r' hz h' c' kp e) (by simp only[aA]<;>omega)
noncomputable def tyV(K:ao)(T:String)(x:V)(H:Hp):Prop:=match x with
 | .str _=>T="str"
 | .int _=>T="int"
 | .ref p=>(T="list" /\ ∃xs,SqL K H p xs)∨(T="tuple" /\ ∃o,K.lookup p=some o /\ o.cls= .type "tuple" /\ o.dict=none)∨
   (T="dict" /\ ((∃kvs,H p=some (.dK kvs))∨∃kvs,H p=some (.dT kvs)))∨(T="set" /\ ∃S n,H p=some (.set S n))
 |_=>False
theorem yk{pins:List (Addr×Obj)}{σ:St}{H:Hp}{s:Shared}{T:String}{x:V}{v:Value}(I:Inv X pins σ H s)(r:RelV x v)(ty:tyV X.K T x H):
  s.TypeIs v T /\ ∀a,v= .ref a -> ∃ob,s.heap.get? a=some ob /\ ob.dict=none:=by
 cases x with
 |str z=>
  obtain⟨t,rfl⟩:=r
  cases(show T="str" from ty);exact⟨typeIs_str s z t,fun _ e=>nomatch e⟩
 |int i=>
  obtain⟨t,rfl⟩:=r
  cases(show T="int" from ty);exact⟨typeIs_int s i t,fun _ e=>nomatch e⟩
 |ref p=>
  cases r;rcases ty with⟨rfl,xs,hq⟩|⟨rfl,o,hk,hc,hd⟩|⟨rfl,hk⟩|⟨rfl,S,n,hk⟩
  ·obtain⟨its,_,pl,_⟩:=I.list hq
   refine⟨pl.isList.typeIs,fun a e=> ?_⟩;cases e;obtain⟨o,n,e,c,hd,_⟩:=pl
   exact⟨o,e,hd⟩
  ·refine⟨⟨o,I.kIn p o hk,hc⟩,fun a e=> ?_⟩;cases e;exact⟨o,I.kIn _ o hk,hd⟩
  ·have z:∃o,s.heap.get? p=some o /\ o.ExactDict:=by
    rcases hk with⟨kvs,hk⟩|⟨kvs,hk⟩
    ·obtain⟨_,_,_,_,o,_,_,e,ex,_⟩:=I.hok p _ hk
     exact⟨o,e,ex⟩
    ·obtain⟨_,_,_,_,o,_,_,e,ex,_⟩:=I.hok p _ hk
     exact⟨o,e,ex⟩
   obtain⟨o,e,ex⟩:=z
   refine⟨⟨o,e,ex.1⟩,fun a e2=> ?_⟩;cases e2;exact⟨o,e,ex.2.1⟩
  ·obtain⟨o,_,_,_,e,ex,_⟩:=I.hok p _ hk
   refine⟨⟨o,e,ex.1⟩,fun a e2=> ?_⟩;cases e2;exact⟨o,e,ex.2.1⟩
 |_=>exact False.elim ty
noncomputable def CB(K:ao)(T:String)(r:V ->List V ->Hp ->VK ->Prop)(to:TE):TE:=fun σ H Q=>to σ H fun x H1=>tyV K T x H1 /\ r x [] H1 Q
noncomputable def tBM(K:ao)(T:String)(r:V ->List V ->Hp ->VK ->Prop)(to:TE)(t:TA):TE:=fun σ H Q=>to σ H fun x H1=>tyV K T x H1 /\ t σ H1 fun xs H2=>r x xs H2 Q
variable {o e:Expr} {es:List Expr} {to:TE} {t:TA} {name:Str} {apos cpos:Pos} {T id:String} {r:V ->List V ->Hp ->VK ->Prop}
theorem yx(pa:PlainAttrs T)(slot:Slot T name id)(hty:typeOf (.builtin id)=pure (.type "method_descriptor"))(hm:MtR X id r)(ho:PE X o to)
  (hbase:attributeBase o name X.env (eval o X.env)=eval o X.env:=by rfl) (hline:(apos.endLine==cpos.line)=true:=by rfl):PE X (.Call (.Attribute o name apos) [] [] cpos) (CB X.K T r to):=by
 intro pins s σ H Q I h;refine wpAny_Call_method0_late hbase hline (thn (ho pins s σ H _ I h) fun v s1 ⟨x,H1,I1,r1,ty,q1⟩=> ?_);obtain⟨h1,h2⟩:=yk I1 r1 ty
 exact⟨T,id,pa,slot,hty,h1,h2,Calls.callWith_builtin rfl (PySem.evalArgs_none (hm pins s1 σ H1 x [] v [] Q I1 r1 .nil q1))⟩
theorem zA(pa:PlainAttrs T)(slot:Slot T name id)(hty:typeOf (.builtin id)=pure (.type "method_descriptor"))(hm:MtR X id r)(ho:PE X o to)(ha:PA X (e::es) t)
  (hbase:attributeBase o name X.env (eval o X.env)=eval o X.env:=by rfl)
  (hfew:((backTo cpos (starEach (e::es) X.env)).all (fun x=> !x.1)&&(backToKw cpos (keywordEach [] X.env)).all (fun x=>x.1.isSome)
   &&decide ((e::es).length+([]:List Keyword).length+(if([]:List Keyword).isEmpty then 0 else 1)<30))=true:=by rfl)
  (hline:(apos.endLine==cpos.line)=true:=by rfl) (hs:starEach (e::es) X.env=(false,eval e X.env)::starEach es X.env:=by rfl) (hplain:(backTo cpos (starEach es X.env)).any (·.1)=false:=by rfl):
  PE X (.Call (.Attribute o name apos) (e::es) [] cpos) (tBM X.K T r to t):=by
 intro pins s σ H Q I h;refine wpAny_Call_method_late hbase hfew hline rfl (thn (ho pins s σ H _ I h) fun v s1 ⟨x,H1,I1,r1,ty,q1⟩=> ?_);obtain⟨h1,h2⟩:=yk I1 r1 ty
 refine⟨T,id,pa,slot,hty,h1,h2,?_⟩;have hA:=ha cpos pins s1 σ H1 _ I1 q1
 rw[hs] at hA⊢;refine Calls.callWith_builtin (by show(false||(backTo cpos (starEach es X.env)).any (·.1))=false;rw[hplain]<;>rfl) (Calls.evalArgs_plain ?_)
 exact thn hA fun us s2 ⟨vs,H2,I2,r2,q2⟩=>hm pins s2 σ H2 x vs v us Q I2 r1 r2 q2
end
end L2
namespace L2
open PySem PySem.Spec PyProof.Rows
noncomputable def MtM(X:Cx)(id:String)(r:V ->List V ->Hp ->VK ->Prop):Prop:=
 ∀(pins:List (Addr×Obj)) (s:Shared) (σ:St) (H:Hp) (x:V) (xs:List V) (v:Value) (us:List Value) (Q:VK),Inv X pins σ H s ->RelV x v ->Vals xs us ->r x xs H Q ->
  wpAny (model X.prog X.w) X.A (call (.builtin id) (v::us)) (EP X pins σ Q) X.xe s
theorem Vals.one:∀{x:V} {us:List Value},Vals [x] us -> ∃u,us=[u] /\ RelV x u
 |_,_,.cons r .nil=>⟨_,rfl,r⟩
theorem Vals.two:∀{x y:V} {us:List Value},Vals [x,y] us -> ∃u v,us=[u,v] /\ RelV x u /\ RelV y v
 |_,_,_,.cons r (.cons q .nil)=>⟨_,_,rfl,r,q⟩
theorem Vals.zero:∀{us:List Value},Vals [] us ->us=[]
 |_,.nil=>rfl
theorem Vals.dropLast{xs:List V}{us:List Value}(h:Vals xs us):Vals xs.dropLast us.dropLast:=by
 induction h with
 |nil=>exact .nil
 |cons r t ih=>
  cases t with
  |nil=>exact .nil
  |cons q t'=>exact .cons r ih
theorem Vals.eraseIdx:∀{xs:List V} {us:List Value} (i:Nat),Vals xs us ->Vals (xs.eraseIdx i) (us.eraseIdx i)
 |_,_,_,.nil=> .nil
 |_,_,0,.cons _ t=>t
 |_,_,i+1,.cons r t=> .cons r (Vals.eraseIdx i t)
theorem Vals.reverse{xs:List V}{us:List Value}(h:Vals xs us):Vals xs.reverse us.reverse:=by
 induction h with
 |nil=>exact .nil
 |cons r t ih=>rw[gN,gN];exact Vals.append ih (.cons r .nil)
theorem qM{α:Type}:∀(l:List α) (i:Nat),(l.eraseIdx i).length<=l.length
 |[],_=>ax _
 |_::_,0=>Nat.le_succ _
 |_::r,i+1=>Nat.succ_le_succ (qM r i)
section
variable {X:Cx} {pins:List (Addr×Obj)} {σ:St} {H:Hp} {s:Shared} {l b:Addr} {xs ys zs:List V}
theorem Inv.lset{its its':List Value}{n:Nat}{f:Array Value ->Array Value}{t':Nat}(I:Inv X pins σ H s)(hH:H l=some (.lst xs))
  (e:s.heap.get? l=some {cls:= .type "list",data:= .seq its.toArray n}) (hf:f its.toArray=its'.toArray) (hv:Vals ys its') (hz:ys.length<=sizeLine):
  Inv X pins σ (upd H l (.lst ys)) {s with heap:=s.heap.update l (Obj.mapSeq f),toks:=t'}:=by
 have q:=PySem.IsL.update e f
 rw[hf] at q;refine I.write (x:=l) (e:=l) (by rw[hH];exact trivial) (.inl rfl) (fun b' u hb hu=>(Heap.get?_update_other s.heap (Obj.mapSeq f) (Ne.symm hb)).trans hu) ⟨_,q⟩ ?_;exact⟨hz,its',_,hv,q⟩
theorem Inv.lnew{its:List Value}{t':Nat}(I:Inv X pins σ H s)(hv:Vals ys its)(hz:ys.length<=sizeLine):
  Inv X pins σ (upd H s.heap.objs.size (.lst ys)) {s with heap:=s.heap.push {cls:= .type "list",data:= .seq its.toArray},toks:=t'}:=
 I.laid (fun _ _ q=>Heap.get?_push_of_some _ q) (ax _) ⟨hz,its,0,hv,Heap.get?_push_size _ rfl⟩
theorem Inv.fresh(I:Inv X pins σ H s):H s.heap.objs.size=none:=I.hok.fresh (ax _)
theorem Inv.lstM(I:Inv X pins σ H s)(hH:H l=some (.lst xs)):xs.length<=sizeLine /\ ∃(its:List Value) (n:Nat),Vals xs its /\ xs.length=its.length /\ s.heap.get? l=some {cls:= .type "list",data:= .seq its.toArray n}:=by
 obtain⟨z,its,n,r,e⟩:=I.hok l _ hH
 exact⟨z,its,n,r,r.length,e⟩
end
section
variable {X:Cx}
noncomputable def zf:V ->List V ->Hp ->VK ->Prop:=fun x vs H Q=>∃l xs y,x= .ref l /\ vs=[y] /\ H l=some (.lst xs) /\ xs.length<sizeLine /\ Q .non (upd H l (.lst (xs++[y])))
theorem qK:MtM X "list.append" zf:=by
 intro pins s σ H x vs v us Q I rx rv h;obtain⟨l,xs,y,rfl,rfl,hH,hz,q⟩:=h
 cases rx;obtain⟨u,rfl,ru⟩:=rv.one
 obtain⟨z,its,n,r,hl,e⟩:=I.lstM hH
 refine call_meets F.slot_list_append ⟨_,e,rfl⟩ F.entry_list_append (F.args_list_append_2 _ _) (PySem.list_append l its.toArray n u (by rw[aA];omega)) ⟨e,?_⟩;refine⟨.non,_,I.lset (its':=its++[u]) hH e (by simp) (r.append (.cons ru .nil)) ?_,rfl,q⟩;rw[aq,fZ];omega
noncomputable def A9:V ->List V ->Hp ->VK ->Prop:=fun x vs H Q=>∃l xs i k y,x= .ref l /\ vs=[.int i] /\ H l=some (.lst xs) /\ -(2^63)<=i /\ i<2^63 /\ seqIndex? i xs.length=some k /\ xs[k]? =some y /\ Q y (upd H l (.lst (xs.eraseIdx k)))
theorem xm:MtM X "list.pop" A9:=by
 intro pins s σ H x vs v us Q I rx rv h;obtain⟨l,xs,i,k,y,rfl,rfl,hH,h1,h2,hk,hy,q⟩:=h
 cases rx;obtain⟨u,rfl,ru⟩:=rv.one
 obtain⟨t,rfl⟩:=ru
 obtain⟨z,its,n,r,hl,e⟩:=I.lstM hH
 obtain⟨w,hw,rw'⟩:=r.get hy
 refine call_meets F.slot_list_pop ⟨_,e,rfl⟩ F.entry_list_pop (F.args_list_pop_2 _ _)
  (MeetsSeq.list_pop_at l its.toArray n i t k w (fitsIndex_both h1 h2) (by rw[aA, <-hl];exact hk) (by rw[<-Array.getElem?_toList];exact hw) (by rw[aA];omega)) ⟨e,?_⟩
 refine⟨y,_,I.lset (its':=its.eraseIdx k) hH e ?_ (r.eraseIdx k) ?_,rw',q⟩
 ·show its.toArray.eraseIdxIfInBounds k=(its.eraseIdx k).toArray
  rw[List.eraseIdxIfInBounds_toArray]
 ·have:=qM xs k
  omega
noncomputable def w9:V ->List V ->Hp ->VK ->Prop:=fun x vs H Q=>∃l xs,x= .ref l /\ vs=[] /\ H l=some (.lst xs) /\ Q .non (upd H l (.lst xs.reverse))
theorem ud:MtM X "list.reverse" w9:=by
 intro pins s σ H x vs v us Q I rx rv h;obtain⟨l,xs,rfl,rfl,hH,q⟩:=h
 cases rx;have hus:=rv.zero
 subst hus;obtain⟨z,its,n,r,hl,e⟩:=I.lstM hH
 refine call_meets F.slot_list_reverse ⟨_,e,rfl⟩ F.entry_list_reverse (F.args_list_reverse_1 _) (AutoSeq1.list_reverse_list_0 l its.toArray n (by rw[aA];omega)) ⟨e,?_⟩;refine⟨.non,_,I.lset (its':=its.reverse) hH e (by simp) r.reverse ?_,rfl,q⟩;rw[fe];omega
noncomputable def Ba:V ->List V ->Hp ->VK ->Prop:=fun x vs H Q=>∃l xs,x= .ref l /\ vs=[] /\ H l=some (.lst xs) /\ Q .non (upd H l (.lst []))
theorem xn:MtM X "list.clear" Ba:=by
 intro pins s σ H x vs v us Q I rx rv h;obtain⟨l,xs,rfl,rfl,hH,q⟩:=h
 cases rx;have hus:=rv.zero
 subst hus;obtain⟨z,its,n,r,hl,e⟩:=I.lstM hH
 refine call_meets F.slot_list_clear ⟨_,e,rfl⟩ F.entry_list_clear (F.args_list_clear_1 _) (AutoSeq1.list_clear_list_0 l its.toArray n (by rw[aA];omega)) ⟨e,?_⟩;exact⟨.non,_,I.lset (its':=[]) (ys:=[]) hH e rfl .nil (bb _),rfl,q⟩
noncomputable def CI:R2:=fun x y H Q=>∃l b xs zs,x= .ref l /\ y= .ref b /\ H l=some (.lst xs) /\ H b=some (.lst zs) /\ xs.length+zs.length<=sizeLine /\ ∀p,H p=none ->Q (.ref p) (upd H p (.lst (xs++zs)))
theorem Bp:OpR X (binaryOp .Add) CI:=by
 intro pins s σ H x y v u Q I rx ry h;obtain⟨l,b,xs,zs,rfl,rfl,hH,hB,hz,q⟩:=h
 cases rx;cases ry;obtain⟨z,its,n,r,hl,e⟩:=I.lstM hH
 obtain⟨z2,its2,n2,r2,hl2,e2⟩:=I.lstM hB
 refine PySem.P.add_list e e2 ?_ (by rw[aA,aA];omega);have ea:its.toArray++its2.toArray=(its++its2).toArray:=by simp
 rw[ea];exact⟨.ref _,_,I.lnew (t':=s.toks) (r.append r2) (by rw[aq];omega),rfl,q _ I.fresh⟩
end
end L2
namespace L2
open PySem PySem.Spec PyProof.Rows
noncomputable abbrev E0:XK:=fun _ _ _=>False
structure Fun(K:ao)(x qual:Str)(st:Stmt)(f:Addr)(fd:FuncData):Prop where
 ex:∃(oc:Value) (od:Option Addr) (kV doc pm:Value) (an:Option Addr) (cdv ct:Value) (osl:Array (Option Value)),
  fd=aK x qual (i5 st) (i0 st) (iL st) .none kV doc pm an cdv ct /\ K.lookup f=some ⟨oc,od,.func fd,osl⟩ /\ aG K cdv qual=true
 kp:aD K (.ref f)=true
section
variable {P:Program} {w:World} {K:ao} {mg:Str ->Option Value} {base:Heap}
theorem Fun.binds{x qual:Str}{st:Stmt}{f:Addr}{fd:FuncData}{ps:List Str}(F:Fun K x qual st f fd)
  (h:∀(kV doc pm:Value) (an:Option Addr) (cdv ct:Value) (us:List Value),us.length=ps.length ->bindArgs (aK x qual (i5 st) (i0 st) (iL st) .none kV doc pm an cdv ct) ⟨us,[]⟩=pure (ps.zip us)):Binds K fd ps []:=by
 obtain⟨oc,od,kV,doc,pm,an,cdv,ct,osl,rfl,lk,hcd⟩:=F.ex
 exact .all (h kV doc pm an cdv ct)
theorem jd{x qual:Str}{st:Stmt}{f:Addr}{oc:Value}{od an:Option Addr}{osl:Array (Option Value)}{kV doc pm cdv ct:Value}(l:K.lookup f=some ⟨oc,od,.func (aK x qual (i5 st) (i0 st) (iL st) .none kV doc pm an cdv ct),osl⟩)
  (c:aG K cdv qual=true) (k:aD K (.ref f)=true):Fun K x qual st f (aK x qual (i5 st) (i0 st) (iL st) .none kV doc pm an cdv ct):=⟨⟨oc,od,kV,doc,pm,an,cdv,ct,osl,rfl,l,c⟩,k⟩
end
theorem nU{A:Around}{k:Nat}(hr:Room k A):A.units+1<cLine:=bP (Nat.add_le_add_left (by decide:1<=64) _) hr.units
section
variable {X:Cx}
theorem pv(i:Nat){x:Str}{pos:Pos}(hN:X.N[i]? =some x:=by rfl)(hv:Vis X.env.scope x:=by first|exact aQ rfl|exact gF (aQ rfl)|exact gF (gF rfl))(hd:(x==("__debug__":Str))=false:=by decide)
  (hcd:(x==("__classdict__":Str))=false:=by decide):PE X (.Name x pos) (Aq i):=Bi hN hv hd hcd
end
end L2
namespace L2
open PySem PySem.Spec PyProof.Rows
section
variable {κ:Type} [DecidableEq κ]
noncomputable def ri(kvs:List (κ×V))(k:κ):Option V:=(kvs.find? fun kv=>decide (kv.1=k)).map (·.2)
noncomputable def putK(kvs:List (κ×V))(k:κ)(v:V):List (κ×V):=
 if(kvs.any fun kv=>decide (kv.1=k))=true then kvs.map (fun kv=>if kv.1=k then(kv.1,v) else kv) else kvs++[(k,v)]
theorem oT{p:κ×V}{r:List (κ×V)}{k:κ}(e:p.1=k):ri (p::r) k=some p.2:=by simp[ri,dg,e]
theorem oU{p:κ×V}{r:List (κ×V)}{k:κ}(e:¬p.1=k):ri (p::r) k=ri r k:=by simp[ri,dg,e]
theorem sC(k:κ):∀kvs:List (κ×V),(kvs.any fun kv=>decide (kv.1=k))=(ri kvs k).isSome
 |[]=>rfl
 |p::r=>by
  rw[dR]
  by_cases e:p.1=k
  ·simp only[oT e,decide_eq_true e,Bool.true_or,de]
  ·rw[oU e,decide_eq_false e,iB];exact sC k r
theorem lK(kvs:List (κ×V))(k:κ)(v:V):(putK kvs k v).length<=kvs.length+1:=by
 unfold putK;split
 ·rw[ah];omega
 ·rw[aq,aV,bu];omega
theorem RelO.isSome_eq{o:Option V}{u:Option Value}(r:RelO o u):o.isSome=u.isSome:=by
 cases o with
 |none=>cases u with
  |none=>rfl
  |some _=>exact(show False from r).elim
 |some _=>cases u with
  |none=>exact(show False from r).elim
  |some _=>rfl
theorem KV.val{kvs:List (κ×V)}{vs:List (κ×Value)}(r:KV kvs vs)(k:κ):RelO (ri kvs k) (valueAt vs k):=by
 unfold KV at r
 induction r with
 |nil=>exact True.intro
 | @cons p q ps qs h t ih=>
  obtain⟨h1,h2⟩:=h
  by_cases e:p.1=k
  ·have e':q.1=k:=h1.symm.trans e
   have b:valueAt (q::qs) k=some q.2:=by simp[valueAt,dg,e']
   rw[oT e,b];exact h2
  ·have e':¬q.1=k:=fun z=>e (h1.trans z)
   have b:valueAt (q::qs) k=valueAt qs k:=by simp[valueAt,dg,e']
   rw[oU e,b];exact ih
theorem KV.any{kvs:List (κ×V)}{vs:List (κ×Value)}(r:KV kvs vs)(k:κ):(kvs.any fun kv=>decide (kv.1=k))=vs.any fun kv=>decide (kv.1=k):=by
 unfold KV at r
 induction r with
 |nil=>rfl
 |cons h t ih=>rw[dR,dR,ih,h.1]
theorem KV.repl{kvs:List (κ×V)}{vs:List (κ×Value)}(r:KV kvs vs)(k:κ){y:V}{u:Value}(ry:RelV y u):
  KV (kvs.map fun kv=>if kv.1=k then(kv.1,y) else kv) (vs.map fun kv=>if kv.1=k then(kv.1,u) else kv):=by
 unfold KV at r⊢
 induction r with
 |nil=>exact .nil
 | @cons p q ps qs h t ih=>
  rw[aM,aM];refine .cons ?_ ih;obtain⟨h1,h2⟩:=h
  by_cases e:p.1=k
  ·rw[if_pos e,if_pos (h1.symm.trans e)];exact⟨h1,ry⟩
  ·rw[if_neg e,if_neg (fun z=>e (h1.trans z))];exact⟨h1,h2⟩
theorem KV.put{kvs:List (κ×V)}{vs:List (κ×Value)}(r:KV kvs vs)(k:κ){y:V}{u:Value}(ry:RelV y u):KV (putK kvs k y) (stored vs k u):=by
 unfold putK stored;rw[r.any k]
 by_cases e:(vs.any fun kv=>decide (kv.1=k))=true
 ·rw[if_pos e,if_pos e];exact r.repl k ry
 ·rw[if_neg e,if_neg e];exact Paired.snoc r ⟨rfl,ry⟩
theorem KV.length{kvs:List (κ×V)}{vs:List (κ×Value)}(r:KV kvs vs):kvs.length=vs.length:=Paired.length r
end
theorem xB{P:Program}{w:World}{k:Key}{u:Value}(r:RelV (kV k) u):(jK P w).is k u=true:=by
 cases k with
 |inl i=>obtain⟨t,e⟩:=(show∃t,u=Value.int i t from r);subst e;exact rO P w i t
 |inr x=>obtain⟨t,e⟩:=(show∃t,u=Value.str x t from r);subst e;exact rN P w x t
theorem qN{P:Program}{w:World}:∀{ks:List Key} {us:List Value},Vals (ks.map kV) us ->ItemsAre (jK P w) ks us
 |[],_,r=>by rw[bO] at r;cases r;exact .nil
 |k::ks,_,r=>by
  rw[aM] at r;cases r with
  |cons h t=>exact .cons (xB h) (qN t)
noncomputable abbrev KT(H:Hp):List (List Key×V) ->List (List Key×Addr×Value) ->Prop:=Paired fun p q=>p.1=q.1 /\ H q.2.1=some (.tup (p.1.map kV)) /\ RelV p.2 q.2.2
theorem KT.val{H:Hp}{kvs:List (List Key×V)}{xs:List (List Key×Addr×Value)}(r:KT H kvs xs)(k:List Key):RelO (ri kvs k) ((atKey xs k).map (·.2)):=by
 induction r with
 |nil=>exact True.intro
 | @cons p q ps qs h t ih=>
  obtain⟨h1,_,h2⟩:=h
  by_cases e:p.1=k
  ·have e':q.1=k:=h1.symm.trans e
   have b:atKey (q::qs) k=some q.2:=by simp[atKey,dg,e']
   rw[oT e,b];exact h2
  ·have e':¬q.1=k:=fun z=>e (h1.trans z)
   have b:atKey (q::qs) k=atKey qs k:=by simp[atKey,dg,e']
   rw[oU e,b];exact ih
theorem KT.repl{H:Hp}{kvs:List (List Key×V)}{xs:List (List Key×Addr×Value)}(r:KT H kvs xs)(k:List Key){y:V}{u:Value}(ry:RelV y u):
  KT H (kvs.map fun kv=>if kv.1=k then(kv.1,y) else kv) (xs.map (putAt k u)):=by
 induction r with
 |nil=>exact .nil
 | @cons p q ps qs h t ih=>
  rw[aM,aM];refine .cons ?_ ih;obtain⟨h1,h2,h3⟩:=h
  unfold putAt
  by_cases e:p.1=k
  ·rw[if_pos e,if_pos (h1.symm.trans e)];exact⟨h1,h2,ry⟩
  ·rw[if_neg e,if_neg (fun z=>e (h1.trans z))];exact⟨h1,h2,h3⟩
theorem KT.put{H:Hp}{kvs:List (List Key×V)}{xs:List (List Key×Addr×Value)}(r:KT H kvs xs)(k:List Key){b:Addr}{y:V}{u:Value}(hb:H b=some (.tup (k.map kV)))(ry:RelV y u):
  KT H (putK kvs k y) (storedH xs k b u):=by
 have e:(kvs.any fun kv=>decide (kv.1=k))=(atKey xs k).isSome:=by
  rw[sC,(r.val k).isSome_eq,Option.isSome_map]
 unfold putK storedH;rw[e]
 by_cases q:(atKey xs k).isSome=true
 ·rw[if_pos q,if_pos q];exact r.repl k ry
 ·rw[if_neg q,if_neg q];exact Paired.snoc r ⟨rfl,hb,ry⟩
theorem KT.keeps{H H':Hp}{kvs:List (List Key×V)}{xs:List (List Key×Addr×Value)}(r:KT H kvs xs)(ht:∀b ys,H b=some (.tup ys) ->H' b=some (.tup ys)):KT H' kvs xs:=
 Paired.mapP r fun _ _ z=>⟨z.1,ht _ _ z.2.1,z.2.2⟩
section
variable {P:Program} {w:World} {H:Hp} {h:Heap} {a:Addr}
theorem A7{u:HO}(ok:HOk P w H h)(e:Rd H a u):ObjOk P w H h a u:=e.ok ok
theorem Ae{kvs:List (Key×V)}(ok:HOk P w H h)(e:Rd H a (.dK kvs)):kvs.length<=sizeLine /\ (a==sysModules)=false /\ ∃vs,KV kvs vs /\ h.DictOf (jK P w) a vs:=
 show ObjOk P w H h a (.dK kvs) from A7 ok e
theorem BP{kvs:List (Key×V)}(ok:HOk P w H h)(e:H a=some (.dK kvs)):kvs.length<=sizeLine /\ (a==sysModules)=false /\ ∃vs,KV kvs vs /\ h.DictOf (jK P w) a vs:=Ae ok (.inl e)
theorem vF{ks:List Key}(ok:HOk P w H h)(e:H a=some (.tup (ks.map kV))):(tupleKind (jK P w)).is h ks a:=by
 obtain⟨_,its,r,o,h1,h2,n,h3⟩:=(show ObjOk P w H h a (.tup (ks.map kV)) from ok a _ e)
 exact⟨o,its.toArray,n,h1,h2,h3,by simpa using qN r⟩
theorem Ab{kvs:List (List Key×V)}(ok:HOk P w H h)(e:Rd H a (.dT kvs)):kvs.length<=sizeLine /\ (a==sysModules)=false /\
  ∃xs,KT H kvs xs /\ h.DictOfH (tupleKind (jK P w)) a xs:=by
 obtain⟨z,y,xs,r,o,es,ep,h1,h2,h3,h4,h5⟩:=(show ObjOk P w H h a (.dT kvs) from A7 ok e)
 refine⟨z,y,xs,r,o,es,ep,h1,h2,h3,h4,fun x hx=> ?_,h5⟩;have all:∀{l:List (List Key×V)} {m:List (List Key×Addr×Value)},KT H l m -> ∀x∈m,(tupleKind (jK P w)).is h x.1 x.2.1:=by
  intro l m q
  induction q with
  |nil=>intro x hx;exact nomatch hx
  | @cons p q ps qs hq t ih=>
   intro x hx;rcases aw.mp hx with e|hx
   ·subst e;exact vF ok (by rw[<-hq.1];exact hq.2.1)
   ·exact ih x hx
 exact all r x hx
theorem Cf{kvs:List (List Key×V)}(ok:HOk P w H h)(e:H a=some (.dT kvs)):kvs.length<=sizeLine /\ (a==sysModules)=false /\
  ∃xs,KT H kvs xs /\ h.DictOfH (tupleKind (jK P w)) a xs:=Ab ok (.inl e)
end
noncomputable def DGet(H:Hp)(a:Addr)(y:V)(r:Option V):Prop:=
 (∃kvs k,Rd H a (.dK kvs) /\ y=kV k /\ r=ri kvs k)∨∃kvs k b,Rd H a (.dT kvs) /\ y= .ref b /\ H b=some (.tup (k.map kV)) /\ r=ri kvs k
noncomputable def DPut(H:Hp)(a:Addr)(y v:V)(H':Hp):Prop:=
 (∃kvs k,H a=some (.dK kvs) /\ y=kV k /\ kvs.length<sizeLine /\ H'=upd H a (.dK (putK kvs k v)))∨
 ∃kvs k b,H a=some (.dT kvs) /\ y= .ref b /\ H b=some (.tup (k.map kV)) /\ kvs.length<sizeLine /\ H'=upd H a (.dT (putK kvs k v))
theorem DGet.k{H:Hp}{a:Addr}{kvs:List (Key×V)}{k:Key}(e:H a=some (.dK kvs)):DGet H a (kV k) (ri kvs k):= .inl ⟨kvs,k,.inl e,rfl,rfl⟩
theorem DPut.k{H:Hp}{a:Addr}{kvs:List (Key×V)}{k:Key}{v:V}(e:H a=some (.dK kvs))(hl:kvs.length<sizeLine):DPut H a (kV k) v (upd H a (.dK (putK kvs k v))):= .inl ⟨kvs,k,e,rfl,hl,rfl⟩
section
variable {X:Cx} {pins:List (Addr×Obj)} {σ:St} {H:Hp} {s:Shared} {a:Addr} {y v:V} {u r:Value} {o:Option V} {A:Around} {E:Value ->Shared ->Prop}
theorem Inv.big(I:Inv X pins σ H s):sysModules<s.heap.objs.size:=by
 have h:mainGlobals<s.heap.objs.size:=(I.mod.glob.keeps I.bk).lt
 exact dO (by decide) h
theorem vZ{Q:Value ->Shared ->Prop}(hu:A.units+1<cLine)(I:Inv X pins σ H s)(g:DGet H a y (some v))(ry:RelV y u)(h:∀w' s',Inv X pins σ H s' ->RelV v w' ->Q w' s'):
  wpAny (model X.prog X.w) A (getItem (.ref a) u) Q E s:=by
 rcases g with⟨kvs,k,e,ey,l⟩|⟨kvs,k,b,e,ey,eb,l⟩
 ·subst ey;obtain⟨z,hd,vs,rel,dd⟩:=Ae I.hok e
  obtain⟨w',hw,rw'⟩:=RelO.some_of (v:=v) (o:=valueAt vs k) (by rw[l];exact rel.val k)
  exact wpAny_getItem_of (xB ry) dd.mapOf hw (h w' _ (I.tok _) rw')
 ·subst ey;cases(show u=Value.ref b from ry);obtain⟨z,hd,xs,rel,dd⟩:=Ab I.hok e
  obtain⟨w',hw,rw'⟩:=RelO.some_of (v:=v) (o:=(atKey xs k).map (·.2)) (by rw[l];exact rel.val k)
  obtain⟨p,hp,hp2⟩:=cY.mp hw
  refine wpAny_getItem_heap (tupleKind_room_in1 hu) (vF I.hok eb) dd hp ?_;rw[hp2];exact h w' _ (I.tok _) rw'
theorem sj{h':Heap}{t':Nat}{ob:HO}(I:Inv X pins σ H s)(mu:Mut (H a))(hs:Heap.SameBut a s.heap h')(he:∃q,h'.get? a=some q)(new:ObjOk X.prog X.w (upd H a ob) h' a ob):
  Inv X pins σ (upd H a ob) {s with heap:=h',toks:=t'}:=
 I.write (x:=a) (e:=a) mu (.inl rfl) (fun b q hb z=>(hs.2 b hb).trans z) he new
theorem yH{P:Program}{w:World}{H':Hp}{h':Heap}{kvs:List (Key×V)}{vs:List (Key×Value)}(z:kvs.length<=sizeLine)(hd:(a==sysModules)=false)(rel:KV kvs vs)(dd:h'.DictOf (jK P w) a vs):
  ObjOk P w H' h' a (.dK kvs):=⟨z,hd,vs,rel,dd⟩
theorem vY{H':Hp}{Q:Unit ->Shared ->Prop}(hu:A.units+1<cLine)(I:Inv X pins σ H s)(g:DPut H a y v H')(ry:RelV y u)(rv:RelV v r)(h:∀s',Inv X pins σ H' s' ->Q () s'):
  wpAny (model X.prog X.w) A (setItem (.ref a) u r) Q E s:=by
 rcases g with⟨kvs,k,e,ey,l,eH⟩|⟨kvs,k,b,e,ey,eb,l,eH⟩
 ·subst ey eH;obtain⟨z,hd,vs,rel,dd⟩:=BP I.hok e
  have hz:vs.length<=sizeLine:=by rw[<-rel.length];exact z
  have hl:(putK kvs k v).length<=sizeLine:=by have:=lK kvs k v;omega
  refine wpAny_setItem_pairs (hsz:=hz) (xB ry) dd fun h' dd' hs=>h _ ?_
  have he:∃q,h'.get? a=some q:=let⟨q,_,_,hq,_⟩:=dd';⟨q,hq⟩
  exact sj I (by rw[e];exact True.intro) hs he (yH hl hd (rel.put k rv) dd')
 ·subst ey eH;cases(show u=Value.ref b from ry);obtain⟨z,hd,xs,rel,dd⟩:=Cf I.hok e
  have hz:xs.length<=sizeLine:=by rw[<-Paired.length rel];exact z
  have hl:(putK kvs k v).length<=sizeLine:=by have:=lK kvs k v;omega
  refine wpAny_setItem_heap (hsz:=hz) (tupleKind_room_in1 hu) (vF I.hok eb) dd fun h' dd' hs=>h _ ?_
  obtain⟨q,es,ep,hq,h2,h3,h4,_,h5⟩:=dd'
  refine sj I (by rw[e];exact True.intro) hs ⟨q,hq⟩ ⟨hl,hd,_,(rel.put k eb rv).keeps fun c ys ec=> ?_,q,es,ep,hq,h2,h3,h4,h5⟩;rw[i6 (lI ec e (fun z=>nomatch z))];exact ec
end
noncomputable def Cw(i:Expr):Prop:=∀ov iv,subscripted i false ov iv=operate [ov,iv] (getItem ov iv)
theorem yV{prog:Program}{w:World}{A:Around}{E:Value ->Shared ->Prop}{s:Shared}{env:Env}{value slice:Expr}{pos:Pos}{T id:String}{Q:Value ->Shared ->Prop}
  (hl:typeLookup (.type T) "__getitem__"=pure (some (.builtin id))) (hs:Cw slice)
  (h:wpAny (model prog w) A (eval value env) (fun o s₁=>wpAny (model prog w) A (eval slice env) (fun i s₂=>s₂.TypeIs o T /\ wpAny (model prog w) A (getItem o i) Q E s₂) E s₁) E s):
  wpAny (model prog w) A (eval (.Subscript value slice pos) env) Q E s:=by
 refine Subscript_ (wpAny_mono h (fun o s₁ h₁=>wpAny_mono h₁ (fun i s₂ h₂=> ?_) fun _ _ x=>x) fun _ _ x=>x);obtain⟨hT,h₂⟩:=h₂
 unfold subscriptTail;refine wpAny_bind ?_;rw[getitemInPython_of_ne hT.not_modules];refine wpAny_bind (wpAny_specialOf hT hl ?_);have fin:wpAny (model prog w) A (subscripted slice false o i) (fun r s₃=>wpAny (model prog w) A (letTemporaryGo value o r>>=fun _=>pure r) Q E s₃) E s₂:=by
  rw[hs o i];exact wpAny_operating (wpAny_mono h₂ (fun r s₃ h₃=>wpAny_bind (wpAny_letTemporaryGo (wpAny_pure h₃))) fun _ _ x=>x)
 first
  |exact wpAny_pure (wpAny_bind fin)
  |exact wpAny_bind (wpAny_pure (wpAny_bind fin))
  |exact wpAny_bind fin
theorem sg{X:Cx}{pins:List (Addr×Obj)}{σ:St}{H:Hp}{s:Shared}{a:Addr}{y:V}{o:Option V}(I:Inv X pins σ H s)(g:DGet H a y o):s.TypeIs (.ref a) "dict":=by
 rcases g with⟨kvs,k,e,_,_⟩|⟨kvs,k,b,e,_,_,_⟩
 ·obtain⟨_,_,vs,_,dd⟩:=Ae I.hok e
  exact dd.typeIs
 ·obtain⟨_,_,xs,_,dd⟩:=Ab I.hok e
  exact dd.typeIs
theorem xV{P:Program}{w:World}{H:Hp}(h:Heap)(hb:sysModules<h.objs.size):ObjOk P w H (h.push {cls:= .type "dict",data:= .dict #[]}) h.objs.size (.dK []):=
 ⟨bb _,beq_eq_false_iff_ne.mpr (Ne.symm (aU hb)),[],.nil,Heap.DictOf.new h⟩
noncomputable def nj:List (TE×TE) ->St ->Hp ->(List (V×V) ->Hp ->Prop) ->Prop
 |[],_,H,Q=>Q [] H
 |(tk,tv)::r,σ,H,Q=>tk σ H fun x H1=>tv σ H1 fun y H2=>nj r σ H2 fun ps H3=>Q ((x,y)::ps) H3
noncomputable abbrev VV:List (V×V) ->List (Value×Value) ->Prop:=Paired fun p q=>RelV p.1 q.1 /\ RelV p.2 q.2
noncomputable def PPs(X:Cx)(pos:Pos)(keys:List (Option Expr))(values:List Expr)(trs:List (TE×TE)):Prop:=
 ∀(pins:List (Addr×Obj)) (s:Shared) (σ:St) (H:Hp) (Q:List (V×V) ->Hp ->Prop),Inv X pins σ H s ->nj trs σ H Q ->
  wpAny (model X.prog X.w) X.A (evalPairs (pairTrees keys values X.env pos)) (fun vs s'=>∃ps H',Inv X pins σ H' s' /\ VV ps vs /\ Q ps H') X.xe s
theorem zi{X:Cx}{pos:Pos}:PPs X pos [] [] []:=fun pins s σ H Q I h=>pairTrees_nil_walk ⟨[],H,I,.nil,h⟩
theorem pM{X:Cx}{pos:Pos}{k v:Expr}{ks:List (Option Expr)}{vs:List Expr}{tk tv:TE}{trs:List (TE×TE)}(hk:PE X k tk)(hv:PE X v tv)(hr:PPs X pos ks vs trs):
  PPs X pos (some k::ks) (v::vs) ((tk,tv)::trs):=fun pins s σ H Q I h=>
 pairTrees_cons_walk (thn (hk pins s σ H _ I h) fun u s1 ⟨x,H1,I1,rx,q1⟩=>thn (hv pins s1 σ H1 _ I1 q1) fun w2 s2 ⟨y,H2,I2,ry,q2⟩=>
  thn (hr pins s2 σ H2 _ I2 q2) fun ws s3 ⟨ps,H3,I3,rel,q3⟩=>⟨(x,y)::ps,H3,I3,.cons ⟨rx,ry⟩ rel,q3⟩)
noncomputable def qL(kvs more:List (Key×V)):List (Key×V):=more.foldl (fun acc kv=>putK acc kv.1 kv.2) kvs
theorem KV.merge:∀{more:List (Key×V)} {rs:List (Key×Value)} {kvs:List (Key×V)} {vs:List (Key×Value)},KV more rs ->KV kvs vs ->KV (qL kvs more) (merged vs rs):=by
 intro more rs kvs vs r;unfold KV at r
 induction r generalizing kvs vs with
 |nil=>intro q;exact q
 | @cons p q ps qs h t ih=>
  intro r0;have e:KV (putK kvs p.1 p.2) (stored vs q.1 q.2):=by
   have:=r0.put p.1 h.2
   rw[<-h.1];exact this
  exact ih e
theorem l5:∀(more kvs:List (Key×V)),(qL kvs more).length<=kvs.length+more.length
 |[],kvs=>by show kvs.length<=kvs.length+0;omega
 |p::r,kvs=>by
  have h1:=l5 r (putK kvs p.1 p.2)
  have h2:=lK kvs p.1 p.2
  show(qL (putK kvs p.1 p.2) r).length<=_
  rw[aV];omega
theorem oP{P:Program}{w:World}:∀{kvs:List (Key×V)} {ws:List (Value×Value)},VV (kvs.map fun kv=>(kV kv.1,kv.2)) ws -> ∃rs,Carries (jK P w) ws rs /\ KV kvs rs
 |[],_,r=>by rw[bO] at r;cases r;exact⟨[],True.intro,.nil⟩
 |p::kvs,_,r=>by
  rw[aM] at r;cases r with
  | @cons a b as bs h t=>
   obtain⟨rs,c,q⟩:=oP (P:=P) (w:=w) t
   obtain⟨b1,b2⟩:=b
   exact⟨(p.1,b2)::rs,⟨xB h.1,rfl,c⟩,.cons ⟨rfl,h.2⟩ q⟩
noncomputable def uJ(trs:List (TE×TE)):TE:=fun σ H Q=>∀p,H p=none ->nj trs σ (upd H p (.dK [])) fun ps H2=>H2 p=some (.dK []) /\ ∃kvs:List (Key×V),ps=kvs.map (fun kv=>(kV kv.1,kv.2)) /\ kvs.length<=15 /\ Q (.ref p) (upd H2 p (.dK (qL [] kvs)))
theorem zw{X:Cx}{pos:Pos}{keys:List (Option Expr)}{values:List Expr}{trs:List (TE×TE)}(h:PPs X pos keys values trs)(hall:keys.all (·.isSome)=true)(hl:keys.length=values.length)(h0:keys≠[])
  (h15:keys.length<=15):PE X (.Dict keys values pos) (uJ trs):=by
 intro pins s σ H Q I q;have hn:=I.hok.fresh (ax s.heap.objs.size)
 have I1:=I.laid (a:=s.heap.objs.size) (o:= .dK []) (h':=s.heap.push {cls:= .type "dict",data:= .dict #[]}) (t':=s.toks) (fun _ _ q=>Heap.get?_push_of_some _ q) (ax _) (xV s.heap I.big)
 refine wpAny_Dict_walk (knd:=jK X.prog X.w) hall hl h0 h15 (thn (h pins _ σ _ _ I1 (q _ hn)) fun ws s2 ⟨ps,H2,I2,rel,e,kvs,ep,lk,q2⟩=> ?_);subst ep;obtain⟨rs,c,rk⟩:=oP (P:=X.prog) (w:=X.w) rel
 obtain⟨z,hd,vs0,r0,dd⟩:=BP I2.hok e
 cases r0;refine⟨rs,c,dd,fun h' dd' hs=>⟨.ref s.heap.objs.size,_,?_,rfl,q2⟩⟩;have hz:(qL [] kvs).length<=sizeLine:=by
  have h1:=l5 kvs []
  rw[bu] at h1;rw[sizeLine_eq];omega
 have he:∃q,h'.get? s.heap.objs.size=some q:=let⟨q,_,_,hq,_⟩:=dd';⟨q,hq⟩
 exact sj I2 (by rw[e];exact True.intro) hs he (yH hz hd (rk.merge .nil) dd')
end L2
namespace L2
open PySem PySem.Spec PyProof.Rows
noncomputable def Bd(n:Nat)(i:Int):Prop:=i.natAbs<2^n
theorem Bd.mono{m n:Nat}{i:Int}(h:Bd m i)(hm:m<=n):Bd n i:=aR h (dA (by decide) hm)
theorem Bd.mul{m n:Nat}{i j:Int}(h:Bd m i)(k:Bd n j):Bd (m+n) (i*j):=by
 unfold Bd at*;rw[fA,Nat.pow_add];exact Nat.mul_lt_mul'' h k
theorem oE(m n:Nat):2^m+2^n<=2^(m+n+1):=by
 have h1:2^m<=2^(m+n):=dA (by decide) (Nat.le_add_right _ _)
 have h2:2^n<=2^(m+n):=dA (by decide) (Nat.le_add_left _ _)
 have h3:2^(m+n+1)=2^(m+n)*2:=Nat.pow_succ _ _
 omega
theorem Bd.add{m n:Nat}{i j:Int}(h:Bd m i)(k:Bd n j):Bd (m+n+1) (i+j):=by
 have e:=oE m n
 unfold Bd at*;omega
theorem Bd.sub{m n:Nat}{i j:Int}(h:Bd m i)(k:Bd n j):Bd (m+n+1) (i-j):=by
 have e:=oE m n
 unfold Bd at*;omega
theorem Bd.neg{m:Nat}{i:Int}(h:Bd m i):Bd m (-i):=by
 unfold Bd at*;omega
theorem Bd.of_le{n:Nat}{i:Int}(b:Int)(h1: -b<=i)(h2:i<=b)(hb:b.natAbs<2^n):Bd n i:=by
 unfold Bd;omega
theorem Bd.bits{n:Nat}{i:Int}(h:Bd n i):Builtin.Int.intBits i<=n:=by
 unfold Bd at h;unfold Builtin.Int.intBits;split
 ·exact bb _
 ·rename_i z
  have:i.natAbs≠0:=by
   intro e;apply z;have:i=0:=by omega
   subst this;rfl
  have:=(Nat.log2_lt this).mpr h
  omega
theorem Bd.log{n:Nat}{i:Int}(h:Bd n i)(h0:0<n):i.natAbs.log2<n:=by
 by_cases e:i.natAbs=0
 ·rw[e];exact bP (by decide) h0
 ·exact(Nat.log2_lt e).mpr h
theorem Bd.sq{m:Nat}{i:Int}(h:Bd m i):Bd (m+m) (i^2):=by
 have e:i^2=i*i:=by grind
 rw[e];exact h.mul h
section
variable {X:Cx}
noncomputable def CMulA(i j:Int):Prop:=CMul i j∨(Bd 100000 i /\ Bd 100000 j)
theorem CMulA.ok{i j:Int}(h:CMulA i j):IntMulOk i j:=by
 rcases h with h|⟨h1,h2⟩
 ·exact h.ok
 ·exact .of_bits (cv h1.bits (by decide)) (cv h2.bits (by decide))
theorem iX:OpR X (binaryOp .Mult) (rI CMulA fun i j=> .int (i*j)):=opI fun _ _ _ _ _ _ _ hc q=>mul_int q hc.ok
theorem jT:OpR X (binaryOp .FloorDiv) (rI (fun _ j=>j≠0 /\ Bd 9000 j) fun i j=> .int (i.fdiv j)):=opI fun _ _ _ _ _ _ _ hc q=>floordiv_int hc.1 q (.inl (PyProof.noPylong_of_log2 (hc.2.log (by decide))))
theorem rE:OpR X (binaryOp .Pow) (rI (fun i j=>0<=j /\ j<=100 /\ Bd 100000 i) fun i j=> .int (i^j.toNat)):=opI fun i j _ _ _ _ _ hc q=>by
 obtain⟨h1,h2,h3⟩:=hc
 refine pow_int h1 ?_ q;have hb:Builtin.Int.intBits i<=100000:=h3.bits
 have e:((Builtin.Int.intBits i:Nat):Int)*j<=100000*100:=Int.mul_le_mul (by omega) h2 h1 (by decide)
 exact gP e (by decide)
end
end L2
namespace L2
open PySem PySem.Spec PyProof.Rows
section
variable {prog:Program} {w:World} {A:Around} {E:Value ->Shared ->Prop} {s:Shared}
theorem oM{it l:Addr}{items:Array Value}(hne:l≠it):∀(n i:Nat) (s:Shared) (Q:List Value ->Shared ->Prop),s.heap.IsListIter it l i ->s.heap.IsList l items ->i+n<=items.size ->
  (∀h',h'.IsListIter it l (i+n) ->Heap.SameBut it s.heap h' ->Q ((items.toList.drop i).take n) {s with heap:=h'}) ->wpAny (model prog w) A (draw (.ref it) n) Q E s
 |0,i,s,Q,hit,_,_,hQ=>by
  show wpAny _ _ (pure []) Q E s
  exact wpAny_pure (by simpa using hQ s.heap hit (Heap.SameBut.refl ..))
 |n+1,i,s,Q,hit,ht,hle,hQ=>by
  have hlt:i<items.size:=by omega
  show wpAny _ _ (pyNext (.ref it)>>=_) Q E s
  refine wpAny_bind (wpAny_pyNext_list_item hit ht (x:=items[i]) (by simp[hlt]) fun h₁ hit₁ hs₁=> ?_);refine wpAny_bind (wpAny_holding (oM hne n (i+1) _ _ hit₁ (ht.extBut hs₁.extBut hne) (by omega) fun h₂ hit₂ hs₂=>wpAny_pure ?_));have hd:items.toList.drop i=items[i]::items.toList.drop (i+1):=by simp[bT,hlt]
  have:=hQ h₂ (by rw[show i+(n+1)=i+1+n by omega];exact hit₂) (hs₁.trans hs₂)
  rw[hd,List.take_succ_cons] at this;exact this
theorem mw{t:Addr}{items:Array Value}{Q:List Value ->Shared ->Prop}(hh:A.handled=none)(ht:s.heap.IsList t items)
  (hQ:∀h',Heap.ExtBut s.heap.objs.size s.heap h' ->Q items.toList {s with heap:=h'}):wpAny (model prog w) A (unpackItems (.ref t) items.size none) Q E s:=by
 have hlt:t≠s.heap.objs.size:=by obtain⟨o,ho,_⟩:=ht;exact aU (Heap.lt_size ho)
 unfold unpackItems;refine wpAny_bind ?_
 ·unfold notIterableAtAll;refine wpAny_bind (wpAny_specialOf ht.typeIs slot_list_iter.lookup ?_);refine wpAny_pure ?_;simp only[cc,if_false];refine wpAny_bind (wpAny_holding (wpAny_pyIter_list ht ?_));have ht0:(s.heap.push {cls:= .type "list_iterator",data:= .fields #[.ref t,.int 0 0]}).IsList t items:=ht.at fun o e=>Heap.get?_push_of_some _ e
  refine wpAny_bind (wpAny_holding (oM hlt items.size 0 _ _ ⟨_,Heap.get?_push_size _ rfl,rfl,rfl⟩ ht0 (by omega) fun h₁ hit₁ hs₁=> ?_));have hall:List.take items.size (List.drop 0 items.toList)=items.toList:=by
   rw[dF];exact cN (by simp)
  rw[hall];rw[if_neg (by simp)];have ht₁:h₁.IsList t items:=ht0.extBut hs₁.extBut hlt
  refine wpAny_bind (wpAny_holding (wpAny_pyNext_list_end hh hit₁ ht₁ (by simp) fun h₂ he₂=> ?_));simp only[Option.isSome_none,cc,if_false];refine wpAny_pure (hQ h₂ fun b o hb e=>he₂ b o hb (hs₁.extBut b o hb (Heap.get?_push_of_some _ e)))
theorem mi{env:Env}{elts:List Expr}{x1}{pos:Pos}{t:Addr}{items:Array Value}{Q:Unit ->Shared ->Prop}(hh:A.handled=none)(ht:s.heap.IsList t items)
  (hn:(assignEach elts env).length=items.size) (hstar:(assignEach elts env).findIdx? (·.1)=none)
  (h:∀h',Heap.ExtBut s.heap.objs.size s.heap h' ->wpAny (model prog w) A (assignInOrder ((assignEach elts env).map (·.2)) items.toList) Q E {s with heap:=h'}):
  wpAny (model prog w) A (assign (.Tuple elts x1 pos) env (.ref t)) Q E s:=by
 rw[assign_Tuple];refine wpAny_bind (wpAny_standAt ?_);unfold unpack;rw[hn,hstar];exact wpAny_bind (wpAny_holding (mw hh ht h))
end
section
variable {X:Cx} {pos:Pos}
noncomputable def Cu(K:ao)(n:Nat)(t:TGs):TG:=fun v σ H Q=>∃a xs,v= .ref a /\ SqL K H a xs /\ xs.length=n /\ t xs σ H Q
theorem Bh{es:List Expr}{k:Nat}{t:TGs}{n:Nat}(hc:X.calm=true)(h:PGs X es t)
  (hn:(assignEach es X.env).length=n:=by rfl) (hst:(assignEach es X.env).findIdx? (·.1)=none:=by rfl):PG X (.Tuple es k pos) (Cu X.K n t):=by
 intro pins s σ H v u Q I r hw;obtain⟨a,xs,e1,hq,hl,hw⟩:=hw
 subst e1;cases r;obtain⟨its,rv,ht,hz⟩:=I.list hq
 refine mi (I.ok.hd hc) ht.isList (by simp[hn, <-hl,rv.length]) hst fun h' hx=> ?_
 have I1:Inv X pins σ H {s with heap:=h'}:=I.kept (t':=s.toks) fun b o e=>hx b o (aU (Heap.lt_size e)) e
 exact h pins _ σ H xs _ Q I1 (by simpa using rv) hw
noncomputable def CK(K:ao)(n:Nat)(t:TGs):TG:=fun v σ H Q=>Ct K n t v σ H Q∨Cu K n t v σ H Q
theorem yt{es:List Expr}{k:Nat}{t:TGs}{n:Nat}(hc:X.calm=true)(h:PGs X es t)
  (hn:(assignEach es X.env).length=n:=by rfl) (hst:(assignEach es X.env).findIdx? (·.1)=none:=by rfl):PG X (.Tuple es k pos) (CK X.K n t):=by
 intro pins s σ H v u Q I r hw;rcases hw with hw|hw
 ·exact Bg hc h hn hst pins s σ H v u Q I r hw
 ·exact Bh hc h hn hst pins s σ H v u Q I r hw
end
theorem kT{env:Env}:∀(names:List (Str×NameKind)) (acc:List (Str×Addr)),(∀y∈names,y.2= .free -> ∃c,env.cells.lookup y.1=some c) ->(∀x c,acc.lookup x=some c ->env.cells.lookup x=some c) ->
  ∃cl,(forIn (m:=Sem) names acc fun y cs=>(match y with|(name,kind)=>do
    let mut cs:=cs
    if kind== .free then cs:=(name, <-cellOf env name)::cs
    pure (ForInStep.yield cs):Sem (ForInStep (List (Str×Addr)))))=pure cl /\ (∀x c,cl.lookup x=some c ->env.cells.lookup x=some c) /\ (∀y∈names,y.2= .free -> ∃c,cl.lookup y.1=some c) /\ (∀x c,acc.lookup x=some c -> ∃c',cl.lookup x=some c')
 |[],acc,_,ha=>⟨acc,rfl,ha,fun _ z=>absurd z az,fun x c h=>⟨c,h⟩⟩
 |(n,k)::r,acc,hf,ha=>by
  by_cases hk:k= .free
  ·subst hk;obtain⟨c,hc⟩:=hf (n,.free) bJ rfl
   obtain⟨cl,e,h1,h2,h3⟩:=kT r ((n,c)::acc) (fun y hy=>hf y (aP _ hy)) (fun x d hx=>by
    rw[cH] at hx;split at hx
    ·rename_i z
     have:x=n:=by simpa using z
     subst this;cases hx;exact hc
    ·exact ha x d hx)
   refine⟨cl,?_,h1,fun y hy hyf=> ?_,fun x d hx=> ?_⟩
   ·rw[fg];simp only[beq_self_eq_true,if_true,cellOf,hc,pure_bind,bind_pure_comp,map_pure];simp only[cellOf] at e
    simpa using e
   ·rcases aw.mp hy with z|z
    ·subst z;exact h3 n c (by simp)
    ·exact h2 y z hyf
   ·by_cases z:x=n
    ·subst z;exact h3 x c (by simp)
    ·refine h3 x d ?_;rw[cH];have:(x==n)=false:=by simpa using z
     rw[this];exact hx
  ·obtain⟨cl,e,h1,h2,h3⟩:=kT r acc (fun y hy=>hf y (aP _ hy)) ha
   have hb:(k==NameKind.free)=false:=by simpa using hk
   refine⟨cl,?_,h1,fun y hy hyf=> ?_,h3⟩
   ·rw[fg];simp only[hb,cc,if_false,pure_bind]
    simpa using e
   ·rcases aw.mp hy with z|z
    ·subst z;exact absurd hyf hk
    ·exact h2 y z hyf
theorem qf{scope:Scope}{env:Env}(hf:∀y∈scope.names,y.2= .free -> ∃c,env.cells.lookup y.1=some c):
  ∃cl,closureFor scope env=pure cl /\ (∀x c,cl.lookup x=some c ->env.cells.lookup x=some c) /\ (∀y∈scope.names,y.2= .free -> ∃c,cl.lookup y.1=some c):=by
 obtain⟨cl,e,h1,h2,_⟩:=kT (env:=env) scope.names [] hf (fun x c h=>by simp at h)
 refine⟨cl,?_,h1,h2⟩;unfold closureFor;have e':=e
 simp only[bind_pure] at*
 first|exact e|(rw[e];rfl)|simpa using e
end L2
namespace L2
open PySem PySem.Spec PyProof.Rows
noncomputable def tM(X:Cx)(scope:Scope)(cl:List (Str×Addr))(N:List Str)(C:Addr)(s:Shared)(H:Hp)(ex:List Addr)(pn:List (Addr×Obj)):Cx where
 prog:=X.prog
 w:=X.w
 K:=X.K
 mg:=X.mg
 base:=X.base
 A:=X.A
 N:=N
 s₀:=s
 H₀:=H
 env:=compEnvC scope cl C X.env
 outer:=X.stack
 stack:=X.stack
 ex:=ex
 fn:=fun _=>false
 calm:=X.calm
 pn:=pn
 xe:=fun _ _=>False
structure CScope(X:Cx)(scope:Scope)(N:List Str)(k:Nat)(js:List Nat):Prop where
 kind:scope.kind= .function
 nocell:∀y∈scope.names,y.2≠ .cell
 names:∀y∈scope.names,y.2= .local ->scope.names.lookup y.1=some .local
 frees:∀y∈scope.names,y.2= .free ->X.env.kindOf y.1=some .cell∨X.env.kindOf y.1=some .free
 len:N.length=k+js.length
 look:∀i j,js[i]? =some j -> ∃x,N[k+i]? =some x /\ X.N[j]? =some x /\ scope.names.lookup x=some .free
theorem oj{scope:Scope}{env:Env}(x:Str):(relabel scope env).names.lookup x=(scope.names.lookup x).map fun k=>if(k== .free&&env.scope.kind== .function&&env.kindOf x==some .cell) then .cell else k:=by
 unfold relabel;dsimp only;generalize scope.names=l
 induction l with
 |nil=>rfl
 |cons y r ih=>
  obtain⟨n,k⟩:=y
  rw[aM,cH]
  by_cases hx:x=n
  ·subst hx;dsimp only
   by_cases hc:(k==NameKind.free&&env.scope.kind==ScopeKind.function&&env.kindOf x==some NameKind.cell)=true
   ·rw[if_pos hc];simp only[cH,beq_self_eq_true,cD];rw[if_pos hc]
   ·rw[if_neg hc];simp only[cH,beq_self_eq_true,cD];rw[if_neg hc]
  ·have hb:(x==n)=false:=by simpa using hx
   dsimp only
   by_cases hc:(k==NameKind.free&&env.scope.kind==ScopeKind.function&&env.kindOf n==some NameKind.cell)=true
   ·rw[if_pos hc];simp only[cH,hb];exact ih
   ·rw[if_neg hc];simp only[cH,hb];exact ih
theorem lookup_mem{α:Type}:∀{l:List (Str×α)} {x:Str} {v:α},l.lookup x=some v ->(x,v)∈l
 |[],_,_,h=>by simp at h
 |(n,k)::r,x,v,h=>by
  rw[cH] at h;split at h
  ·rename_i z
   have:x=n:=by simpa using z
   subst this;cases h;exact bJ
  ·exact aP _ (lookup_mem h)
noncomputable def frV(σ:St)(js:List Nat):St:=js.map fun j=>(σ[j]?).join
noncomputable def stLC(σ:St)(k:Nat)(js:List Nat):St:=dE k none++frV σ js
section
variable {X:Cx} {pins:List (Addr×Obj)} {σ:St} {H:Hp} {s:Shared} {scope:Scope} {N:List Str} {k:Nat} {js:List Nat} {cl:List (Str×Addr)} {fp:List Addr}
theorem Inv.block{h1:Heap}{tk:Nat}(I:Inv X pins σ H s)(S:CScope X scope N k js)
  (hcl1:∀x c,cl.lookup x=some c ->X.env.cells.lookup x=some c) (hcl2:∀y∈scope.names,y.2= .free -> ∃c,cl.lookup y.1=some c)
  (hns:h1.Ns s.heap.objs.size (fun _=>none)) (hk:∀b o,s.heap.get? b=some o ->h1.get? b=some o)
  (hf:∀b∈fp,uu X pins H b) (hfp:∀b∈fp,∃o,s.heap.get? b=some o /\ ∀v,o.data≠ .cell v):
  Inv (tM X scope cl N s.heap.objs.size s H fp (X.pn++pins)) [] (stLC σ k js) H {s with heap:=h1,toks:=tk}:=by
 have hxc:∀x c,cl.lookup x=some c ->c<s.heap.objs.size:=fun x c h=>by
  obtain⟨v,q⟩:=I.cell x c (hcl1 x c h)
  exact q.lt
 have lkL:∀x,(compEnvC scope cl s.heap.objs.size X.env).kindOf x=(scope.names.lookup x).map fun k=>if(k== .free&&X.env.scope.kind== .function&&X.env.kindOf x==some .cell) then .cell else k:=fun x=>oj x
 refine⟨⟨I.ok.mod,S.kind,I.ok.glob,I.ok.blt,ax _,fun x y c h1 h2=>I.ok.inj x y c (hcl1 x c h1) (hcl1 y c h2),fun x hx=> ?_,fun x c h _=>absurd (show false=true from h) (by decide),I.ok.hd,I.ok.frames,.inl rfl,fun b hb=> ?_,I.bs,
  cv I.ok.bsz I.sz,fun b o e z=> ?_,fun b hb z=> ?_,I.stack,I.stkFree⟩,rfl,I.bare,Un.kept hk,⟨_,hns,fun i x v e1 e2 e3=> ?_⟩,fun x c h=> ?_,?_,fun x c h=>I.freeC x c (hcl1 x c h),fun p hp=> ?_,I.hok.kept hk,?_⟩
 ·--has
  have hx:((scope.names.lookup x).map fun k=>if(k== .free&&X.env.scope.kind== .function&&X.env.kindOf x==some .cell) then NameKind.cell else k)=some .cell∨((scope.names.lookup x).map fun k=>if(k== .free&&X.env.scope.kind== .function&&X.env.kindOf x==some .cell) then NameKind.cell else k)=some .free:=by
   rcases hx with hx|hx
   ·exact .inl ((lkL x).symm.trans hx)
   ·exact .inr ((lkL x).symm.trans hx)
  have:scope.names.lookup x=some .free:=by
   cases e:scope.names.lookup x with
   |none=>rw[e] at hx;rcases hx with hx|hx<;>cases hx
   |some q=>
    rw[e] at hx
    by_cases hq:q= .free
    ·rw[hq]
    ·have hb:(q==NameKind.free)=false:=by simpa using hq
     simp only[cD,hb,ir,cc,if_false,ba.injEq] at hx;rcases hx with hx|hx
     ·exact absurd hx (S.nocell _ (lookup_mem e))
     ·exact absurd hx hq
  obtain⟨c,hc⟩:=hcl2 _ (lookup_mem this) rfl
  exact⟨c,hc⟩
 ·obtain⟨f0,f1,f2,f3,f4,f5⟩:=hf b hb
  obtain⟨o,ho,_⟩:=hfp b hb
  exact⟨aU (Heap.lt_size ho),fun x c h=>f4 x c (hcl1 x c h)⟩
 ·obtain⟨f0,f1,f2,f3,f4,f5⟩:=hf b z
  rcases f3 with f3|f3
  ·exact I.ok.noex b o e f3
  ·exact absurd (aR (Heap.lt_size (I.ok.bs b o e).1) f3) (cz _)
 ·obtain⟨f0,f1,f2,f3,f4,f5⟩:=hf b hb
  rcases aw.mp (I.stkSub b z) with q|q
  ·exact f1 q
  ·exact f2 q
 ·--the values
  by_cases hi:i<k
  ·have:(stLC σ k js)[i]? =some none:=by
    unfold stLC;rw[aN (by simpa using hi),dQ,if_pos hi]
   rw[this] at e2;cases e2
  ·obtain⟨d,rfl⟩:∃d,i=k+d:=⟨i-k,by omega⟩
   have e2':(frV σ js)[d]? =some (some v):=by
    unfold stLC at e2;rw[aH (by simp)] at e2
    simpa using e2
   unfold frV at e2';rw[au] at e2';cases ej:js[d]? with
   |none=>rw[ej] at e2';cases e2'
   |some j=>
    rw[ej] at e2';have ev:(σ[j]?).join=some v:=ba.inj e2'
    have ev':σ[j]? =some (some v):=by
     cases q:σ[j]? with
     |none=>rw[q] at ev;cases ev
     |some z=>rw[q] at ev;rw[show z=some v from ev]
    obtain⟨x',n1,n2,n3⟩:=S.look d j ej
    have:x'=x:=ba.inj (n1.symm.trans e1)
    subst this;obtain⟨m,hn,hl⟩:=I.loc
    have hkx:=S.frees _ (lookup_mem n3) rfl
    have hvis:Vis X.env.scope x':=by
     rcases hkx with q|q
     ·exact .inr (.inl q)
     ·exact .inr (.inr q)
    obtain⟨u,r,l⟩:=hl j x' v n2 ev' hvis
    refine⟨u,r,?_⟩;obtain⟨c,hc⟩:=hcl2 _ (lookup_mem n3) rfl
    rcases l with⟨l1,_⟩|⟨l1,c',l2,l3⟩
    ·rcases hkx with q|q
     ·exact absurd (l1.symm.trans q) (by decide)
     ·exact absurd (l1.symm.trans q) (by decide)
    ·have:c'=c:=ba.inj (l2.symm.trans (hcl1 _ c hc))
     subst this;refine .inr ⟨?_,c',hc,?_⟩
     ·have q:=lkL x'
      rw[n3] at q
      by_cases hb:((NameKind.free==NameKind.free&&X.env.scope.kind== .function&&X.env.kindOf x'==some .cell))=true
      ·left
       show(compEnvC scope cl s.heap.objs.size X.env).kindOf x'=_
       rw[q];simp only[cD];rw[if_pos hb]
      ·right
       show(compEnvC scope cl s.heap.objs.size X.env).kindOf x'=_
       rw[q];simp only[cD];rw[if_neg hb]
     ·obtain⟨o,ho,hd⟩:=l3
      exact⟨o,hk _ o ho,hd⟩
 ·obtain⟨v,o,ho,hd⟩:=I.cell x c (hcl1 x c h)
  exact⟨v,o,hk _ o ho,hd⟩
 ·exact I.hok.fresh (ax _)
 ·have hp':p∈X.pn++pins:=by simpa[tM] using hp
  obtain⟨e,n,ne,nf,d⟩:=I.pin p hp'
  exact⟨hk _ _ e,n,aU (Heap.lt_size e),fun z=>(aw.mp (I.stkSub _ z)).elim ne nf,d⟩
 ·show(stLC σ k js).length=N.length
  unfold stLC frV;rw[S.len];simp
end
end L2
namespace L2
open PySem PySem.Spec PyProof.Rows
noncomputable def BU(X:Cx)(ifs:List Expr)(t:TT):Prop:=
 ∀(pins:List (Addr×Obj)) (s:Shared) (σ:St) (H:Hp) (Q:Bool ->Hp ->Prop),Inv X pins σ H s ->t σ H Q ->
  wpAny (model X.prog X.w) X.A (forIn ifs true fun c r=>if r=true then do let ok<-isTrue c X.env (eval c X.env);pure (ForInStep.yield ok) else pure (ForInStep.yield r)) (TP X pins σ Q) X.xe s
noncomputable def AH:TT:=fun _ H Q=>Q true H
theorem jF{X:Cx}:BU X [] AH:=fun _ _ _ H _ I h=>wpAny_tests_nil ⟨H,I,h⟩
theorem sO{X:Cx}{c:Expr}{t:TT}(h:PT X c t):BU X [c] t:=fun pins s σ H Q I hw=>wpAny_tests_one (h pins s σ H Q I hw)
noncomputable def tLC(wi:TI)(k:Nat)(js:List Nat)(g:TG)(tt:TT)(te:TE):TE:=fun σ H Q=>wi σ H fun J H1=>∀D,H1 D=none ->
 ∃W:Nat ->Nat ->List V ->Hp ->Prop,(∃m,W 0 m [] (upd H1 D (.lst []))) /\ ∀i m ys H,W i m ys H ->H D=some (.lst ys) /\
  ((J.stop i H /\ Q (.ref D) H)∨(J.go i H /\ ys.length<sizeLine /\ ∃N:List V ->Hp ->Prop,(∀ys' H',N ys' H' -> ∃m',m'<m /\ W (i+1) m' ys' H') /\
   ∀x H',J.yld i H x H' ->g x (stLC σ k js) H' fun σ2 H2=>(σ2.drop k=frV σ js /\ σ2.length=k+js.length) /\ tt σ2 H2 fun b H3=>if b=true then te σ2 H3 fun y H4=>H4 D=some (.lst ys) /\ N (ys++[y]) (upd H4 D (.lst (ys++[y]))) else N ys H3))
section
variable {X:Cx} {scope:Scope} {N:List Str} {k:Nat} {js:List Nat} {elt iter tg:Expr} {ifs:List Expr} {pos:Pos} {wi:TI} {g:TG} {tt:TT} {te:TE}
theorem zS{σ σ2:St}(h1:σ2.drop k=frV σ js)(h2:σ2.length=k+js.length)(i:Nat)(v:V)(h:(stLC σ k js)[i]? =some (some v)):σ2[i]? =some (some v):=by
 unfold stLC at h
 by_cases hi:i<k
 ·rw[aN (by simpa using hi),dQ,if_pos hi] at h;cases h
 ·rw[aH (by simpa using hi), <-h1,cf] at h;simp only[eF] at h;rw[show k+(i-k)=i by omega] at h;exact h
theorem sV{pins:List (Addr×Obj)}{σ:St}{H:Hp}{s:Shared}{cl:List (Str×Addr)}{Q:VK}{it:Addr}{fp:List Addr}{tn:Nat ->Heap ->Prop}{J:It}{RR:Value ->Addr ->Result ->Shared ->Prop}
  (S:CScope X scope N k js) (hc:X.calm=true)
  (hg:∀cl C s H ex pn,PG (tM X scope cl N C s H ex pn) tg g) (ht:∀cl C s H ex pn,BU (tM X scope cl N C s H ex pn) ifs tt) (he:∀cl C s H ex pn,PE (tM X scope cl N C s H ex pn) elt te)
  (hcl1:∀x c,cl.lookup x=some c ->X.env.cells.lookup x=some c) (hcl2:∀y∈scope.names,y.2= .free -> ∃c,cl.lookup y.1=some c)
  (I:Inv X pins σ H s) (T:Turn X.prog X.w X.K tg J fp it tn) (hst:tn 0 s.heap) (hf:∀b∈fp,uu X pins H b)
  (hr:∀D,H D=none ->
   ∃W:Nat ->Nat ->List V ->Hp ->Prop,(∃m,W 0 m [] (upd H D (.lst []))) /\ ∀i m ys H,W i m ys H ->H D=some (.lst ys) /\
    ((J.stop i H /\ Q (.ref D) H)∨(J.go i H /\ ys.length<sizeLine /\ ∃N:List V ->Hp ->Prop,(∀ys' H',N ys' H' -> ∃m',m'<m /\ W (i+1) m' ys' H') /\
     ∀x H',J.yld i H x H' ->g x (stLC σ k js) H' fun σ2 H2=>(σ2.drop k=frV σ js /\ σ2.length=k+js.length) /\ tt σ2 H2 fun b H3=>if b=true then te σ2 H3 fun y H4=>H4 D=some (.lst ys) /\ N (ys++[y]) (upd H4 D (.lst (ys++[y]))) else N ys H3)))
  (hend:∀D C H' s' m,Inv X pins σ H' s' ->s'.heap.Ns C m ->H' C=none ->C≠X.env.locals ->C∉frs X.stack ->X.s₀.heap.objs.size<=C ->(∀x c,X.env.cells.lookup x=some c ->c≠C) ->(∀p∈X.pn++pins,p.1≠C) ->D≠C ->Q (.ref D) H' ->RR (.ref D) C (.ok .next) s')
  {E:Value ->Shared ->Prop}:
  wpAny (model X.prog X.w) X.A (newList []) (fun acc s₃=>wpAny (model X.prog X.w) X.A (newFunctionEnv scope X.env.globals cl [] X.env.qual none .none (some X.env)) (fun cenv s₄=>
   codeAny (model X.prog X.w) X.A (.compStart (.ListComp elt [⟨tg,iter,ifs,0⟩] scope pos) 0 (.ref it) acc {cenv with scope:=relabel scope X.env}) (RR acc cenv.locals) s₄) E s₃) E s:=by
 refine wpAny_newObj_type (wpAny_newFunctionEnv S.nocell (by intro y hy;simp at hy) (fun h₁ hns₁ hsb₁=> ?_) S.kind);dsimp only at hns₁ hsb₁⊢;have hD:H s.heap.objs.size=none:=I.fresh
 obtain⟨W,⟨m0,w0⟩,turn⟩:=hr s.heap.objs.size hD
 have I2:Inv X pins σ (upd H s.heap.objs.size (.lst [])) {s with heap:=s.heap.push {cls:= .type "list",dict:=none,data:= .seq ([]:List Value).toArray},toks:=s.toks}:=I.lnew (its:=[]) .nil (bb _)
 generalize hH2:s.heap.push {cls:= .type "list",dict:=none,data:= .seq ([]:List Value).toArray}=H2 at hns₁ hsb₁ I2⊢;have hsz:H2.objs.size=s.heap.objs.size+1:=by rw[<-hH2,Heap.size_push]
 generalize hs3:({s with heap:=H2,toks:=s.toks}:Shared)=s3 at I2;have hs3h:s3.heap=H2:=by rw[<-hs3]
 have old:∀b o,s.heap.get? b=some o ->H2.get? b=some o:=fun b o e=>by rw[<-hH2];exact Heap.get?_push_of_some _ e
 have old1:∀b o,H2.get? b=some o ->h₁.get? b=some o:=fun b o e=>hsb₁.extBut b o (aU (Heap.lt_size e)) (Heap.get?_push_of_some _ e)
 have hfH:∀b∈fp,∃o,s.heap.get? b=some o /\ ∀v,o.data≠ .cell v:=T.obj 0 _ hst
 have ff:∀b∈fp,uu X pins (upd H s.heap.objs.size (.lst [])) b:=fun b hb=>by
  obtain⟨f0,fr⟩:=hf b hb
  obtain⟨o,ho,_⟩:=hfH b hb
  exact⟨by rw[i6 (aU (Heap.lt_size ho))];exact f0,fr⟩
 have hns':h₁.Ns s3.heap.objs.size (fun _=>none):=by
  rw[hs3h]
  simpa using hns₁
 have J0:Inv (tM X scope cl N s3.heap.objs.size s3 (upd H s.heap.objs.size (.lst [])) fp (X.pn++pins)) [] (stLC σ k js) (upd H s.heap.objs.size (.lst [])) {s3 with heap:=h₁,toks:=s.toks+([]:List (Str×Value)).length}:=
  I2.block (fp:=fp) (tk:=s.toks+([]:List (Str×Value)).length) S hcl1 hcl2 hns' (fun b o e=>old1 b o (by rw[<-hs3h];exact e)) ff (fun b hb=>by
   obtain⟨o,ho,hd⟩:=hfH b hb
   exact⟨o,by rw[hs3h];exact old b o ho,hd⟩)
 have es3:({s3 with heap:=h₁,toks:=s.toks+([]:List (Str×Value)).length}:Shared)={s with heap:=h₁,toks:=s.toks+([]:List (Str×Value)).length}:=by rw[<-hs3]
 rw[es3] at J0;have hst1:tn 0 h₁:=T.keep 0 _ _ hst fun b hb o e=>old1 b o (old b o e)
 generalize hY:tM X scope cl N s3.heap.objs.size s3 (upd H s.heap.objs.size (.lst [])) fp (X.pn++pins)=Y at J0;have eA:Y.A=X.A:=by rw[<-hY];rfl
 have eP:Y.prog=X.prog:=by rw[<-hY];rfl
 have eW:Y.w=X.w:=by rw[<-hY];rfl
 have eK:Y.K=X.K:=by rw[<-hY];rfl
 have eE:Y.env=compEnvC scope cl H2.objs.size X.env:=by rw[<-hY, <-hs3h];rfl
 have eX:Y.xe=fun _ _=>False:=by rw[<-hY];rfl
 have eC:Y.calm=true:=by rw[<-hY];exact hc
 have stat:∀{H':Hp},(∀b∈fp,H' b=none) -> ∀b∈fp,uu Y [] H' b:=fun hn b hb=>by
  obtain⟨f0,f1,f2,f3,f4,f5⟩:=hf b hb
  obtain⟨o,ho,_⟩:=hfH b hb
  refine⟨hn b hb,?_,?_,.inl (by rw[<-hY];exact hb),fun x c h=> ?_,fun p hp=> ?_⟩
  ·rw[eE];exact aU (aR (Heap.lt_size ho) (by rw[hsz];exact Nat.le_succ _))
  ·rw[<-hY];intro z;rcases aw.mp (I.stkSub b z) with q|q
   ·exact f1 q
   ·exact f2 q
  ·rw[eE] at h;exact f4 x c (hcl1 x c h)
  ·rw[<-hY] at hp;exact f5 p (by simpa[tM] using hp)
 have loop:∀s₂:Shared,s₂={s with heap:=h₁,toks:=s.toks+([]:List (Str×Value)).length} ->
   codeAny (model X.prog X.w) X.A (.compLoop (.ListComp elt [⟨tg,iter,ifs,0⟩] scope pos) 0 (.ref it) (.ref s.heap.objs.size) (compEnvC scope cl H2.objs.size X.env)) (RR (.ref s.heap.objs.size) H2.objs.size) s₂:=by
  rintro s₂ rfl;have noE:∀(e:Value) (s':Shared),False ->notedBy (model X.prog X.w) X.A (compEnvC scope cl H2.objs.size X.env) (fun e s'=>RR (.ref s.heap.objs.size) H2.objs.size (.error e) s') e s':=fun _ _ z=>z.elim
  --one turn,by hand:the step ahead of the store is the iterator's
  refine codeAny_loop rfl (fun n s'=>∃i H' ys,Inv Y [] (stLC σ k js) H' s' /\ tn i s'.heap /\ (∀b∈fp,H' b=none) /\ W i n ys H') (fun n s5 hI=> ?_) m0 ⟨0,_,[],J0,hst1,fun b hb=>(ff b hb).1,w0⟩;obtain⟨i,H5,ys,I5,st5,fr5,w5⟩:=hI
  show wpAny _ X.A ((compTurn (.ListComp elt [⟨tg,iter,ifs,0⟩] scope pos) 0 (.ref it) (.ref s.heap.objs.size) (compEnvC scope cl H2.objs.size X.env)).onRaise (fun x=>do noteFrame x (compEnvC scope cl H2.objs.size X.env);theTreesLotGoes x)) _ _ s5
  refine wpAny_noted ?_;rw[compTurn_list];refine wpAny_bind (wpAny_standAt (wpAny_bind ?_));obtain⟨hDy,tr⟩:=turn i n ys H5 w5
  rcases tr with⟨stop,q⟩|⟨go,hlen,NN,hN,step⟩
  ·have h6:=T.done Y eP eW eK eC i [] s5 _ H5 (fun _ _=>False) I5 (stat fr5) st5 stop
   rw[eA] at h6;refine wpAny_mono h6 (fun r s6 h=> ?_) noE;obtain⟨rfl,I6⟩:=h
   refine wpAny_pure ?_;obtain⟨m6,hn6,_⟩:=I6.loc
   rw[eE] at hn6;have hu:Un (frs X.stack) fp (upd H s.heap.objs.size (.lst [])) H5 s3.heap s6.heap:=by
    have:=I6.base
    rw[<-hY] at this;exact this
   have hok6:HOk X.prog X.w H5 s6.heap:=by
    have:=I6.hok
    rw[eP,eW] at this;exact this
   have I7:Inv X pins σ H5 s6:=I2.call' (ch:=fp) (by have:=I6.os;rw[<-hY] at this;exact this) hu hok6 I6.bare fun b hb=>by
    obtain⟨f0,f1,f2,f3,f4,f5⟩:=hf b hb
    exact⟨f3,f1,f4,f5⟩
   have hfree:H5 H2.objs.size=none:=by
    have:=I6.free
    rw[eE] at this;exact this
   refine hend _ _ H5 s6 m6 I7 hn6 hfree ?_ ?_ ?_ ?_ ?_ ?_ q
   ·rw[<-hs3h];exact dN I2.lt
   ·rw[<-hs3h];intro z;rcases aw.mp (I2.stkSub _ z) with q|q
    ·exact absurd q (dN I2.lt)
    ·exact I2.nofs (ax _) q
   ·rw[<-hs3h];exact I2.sz
   ·intro x c h z;obtain⟨v,hv⟩:=I2.cell x c h
    have:=hv.lt
    rw[hs3h,z] at this;exact absurd this (cz _)
   ·intro p hp z;have:=Heap.lt_size (I2.pin p hp).1
    rw[hs3h,z] at this;exact absurd this (cz _)
   ·rw[hsz];exact aU (fN _)
  ·have h6:=T.item Y eP eW eK eC i [] s5 _ H5 (fun _ _=>False) I5 (stat fr5) st5 go
   rw[eA] at h6;refine wpAny_mono h6 (fun r s6 h=> ?_) noE;obtain⟨u,rfl,h7⟩:=h
   refine wpAny_bind (wpAny_mono h7 (fun _ s7 h=> ?_) noE);obtain⟨x,H7,I7,rx,y7,st7,fr7⟩:=h
   have I7':=I7.pinned (stat fr7) (T.obj _ _ st7)
   have h8:=hg cl s3.heap.objs.size s3 (upd H s.heap.objs.size (.lst [])) fp (X.pn++pins)
   rw[hY] at h8;have h8:=h8 _ s7 _ H7 x u _ I7' rx (step x H7 y7)
   rw[eP,eW,eA,eE,eX] at h8;refine wpAny_bind (wpAny_mono h8 (fun _ s8 h=> ?_) noE);obtain⟨σ8,H8,I8,⟨k1,k2⟩,q8⟩:=h
   have h9:=ht cl s3.heap.objs.size s3 (upd H s.heap.objs.size (.lst [])) fp (X.pn++pins)
   rw[hY] at h9;have h9:=h9 _ s8 σ8 H8 _ I8 q8
   rw[eP,eW,eA,eE,eX] at h9;refine wpAny_bind (wpAny_mono h9 (fun ok s9 h=> ?_) noE);obtain⟨H9,I9,q9⟩:=h
   have again:∀{H':Hp} {ys':List V} {s':Shared},Inv Y ([]++qF fp s7.heap) σ8 H' s' ->NN ys' H' -> ∃m,m<n /\ ∃i H' ys,Inv Y [] (stLC σ k js) H' s' /\ tn i s'.heap /\ (∀b∈fp,H' b=none) /\ W i m ys H':=fun {H' ys' s'} I' n'=>by
    obtain⟨m',hm,w'⟩:=hN ys' H' n'
    refine⟨m',hm,i+1,H',ys',(I'.unpinned).weak (by unfold stLC frV;rw[k2];simp) (fun j v h=>zS k1 k2 j v h),T.keep _ _ _ st7 fun b hb o e=>(I'.pin (b,o) (bE _ (bE _ (lD hb e)))).1,fun b hb=> ?_,w'⟩;obtain⟨o,e,d⟩:=T.obj _ _ st7 b hb
    exact(I'.pin (b,o) (bE _ (bE _ (lD hb e)))).2.1
   cases ok with
   |false=>
    rw[if_neg bW] at q9;exact wpAny_pure ⟨rfl,again I9 q9⟩
   |true=>
    rw[if_pos rfl] at q9;have h10:=he cl s3.heap.objs.size s3 (upd H s.heap.objs.size (.lst [])) fp (X.pn++pins)
    rw[hY] at h10;have h10:=h10 _ s9 σ8 H9 _ I9 q9
    rw[eP,eW,eA,eE,eX] at h10;refine wpAny_bind (wpAny_bind (wpAny_mono h10 (fun y s10 h=> ?_) noE));obtain⟨yv,H10,I10,ry,e10,n10⟩:=h
    have h11:=qK (X:=Y) _ s10 σ8 H10 (.ref s.heap.objs.size) [yv] (.ref s.heap.objs.size) [y] (fun _ H'=>NN (ys++[yv]) H') I10 rfl (.cons ry .nil) ⟨_,ys,yv,rfl,rfl,e10,hlen,n10⟩
    rw[eP,eW,eA,eX] at h11;refine wpAny_bind (wpAny_mono h11 (fun _ s11 h=> ?_) noE);obtain⟨_,H11,I11,_,n11⟩:=h
    exact wpAny_pure (wpAny_pure ⟨rfl,again I11 n11⟩)
 exact codeAny_compStart_list (loop _ rfl) (T.self X.A 0 _ _ _ hst1 (loop _ rfl))
end
end L2
namespace L2
open PySem PySem.Spec PyProof.Rows
section
variable {X:Cx} {scope:Scope} {N:List Str} {k:Nat} {js:List Nat} {elt iter tg:Expr} {ifs:List Expr} {pos:Pos} {wi:TI} {g:TG} {tt:TT} {te:TE}
theorem CScope.closure{pins:List (Addr×Obj)}{σ:St}{H:Hp}{s:Shared}(S:CScope X scope N k js)(I:Inv X pins σ H s):
  ∃cl,closureFor scope X.env=pure cl /\ (∀x c,cl.lookup x=some c ->X.env.cells.lookup x=some c) /\ (∀y∈scope.names,y.2= .free -> ∃c,cl.lookup y.1=some c):=
 qf fun y hy hf=>I.ok.has y.1 (S.frees y hy hf)
theorem pO(S:CScope X scope N k js)(hc:X.calm=true)(hi:PI X tg iter wi)
  (hg:∀cl C s H ex pn,PG (tM X scope cl N C s H ex pn) tg g) (ht:∀cl C s H ex pn,BU (tM X scope cl N C s H ex pn) ifs tt) (he:∀cl C s H ex pn,PE (tM X scope cl N C s H ex pn) elt te)
  (hs:∀x,foldedSetIterable iter X.env x=pure x:=by intro _;rfl):PE X (.ListComp elt [⟨tg,iter,ifs,0⟩] scope pos) (tLC wi k js g tt te):=by
 intro pins s σ H Q I h;obtain⟨cl,hclos,hcl1,hcl2⟩:=S.closure I
 rw[eval_ListComp];refine wpAny_comprehension_free (use:=none) rfl hs hclos S.kind S.names (thn (hi pins s σ H _ I h) fun v s1 h1=>thn h1 fun itv s2 h2=> ?_);obtain⟨it,fp,tn,J,H2,rfl,I2,T,st2,f2,hr⟩:=h2
 refine sV (Q:=Q) (RR:=fun acc C=>compPost (model X.prog X.w) X.A X.xe none (EP X pins σ Q) acc C) S hc hg ht he hcl1 hcl2 I2 T st2 f2 hr ?_;intro D C H' s' m I' hn h0 hL hF hz hcell hpin hDC q;refine⟨m,hn,fun h' sb=>⟨.ref D,H',?_,rfl,q⟩⟩;exact I'.turned (t':=s'.toks) (fun b o hb e=>(sb.2 b hb).trans e) h0 hL (.inr hz) hcell hpin
end
end L2
namespace L2
open PySem PySem.Spec PyProof.Rows
section
variable {X:Cx} {scope:Scope} {N:List Str} {k:Nat} {js:List Nat} {elt iter tg:Expr} {ifs:List Expr} {pos:Pos} {wi:TI} {g:TG} {tt:TT} {te:TE}
theorem t7{i:Nat}{y:Str}{py spos:Pos}(S:CScope X scope N k js)(hc:X.calm=true)(hi:PI X tg iter wi)
  (hg:∀cl C s H ex pn,PG (tM X scope cl N C s H ex pn) tg g) (ht:∀cl C s H ex pn,BU (tM X scope cl N C s H ex pn) ifs tt) (he:∀cl C s H ex pn,PE (tM X scope cl N C s H ex pn) elt te)
  (hN:X.N.Nodup) (hix:X.N[i]? =some y) (hy:X.env.scope.names.lookup y=some .local)
  (hsw:swapsWith (.ListComp elt [⟨tg,iter,ifs,0⟩] scope pos) (some (.Name y py)) spos.line X.env=pure true:=by rfl)
  (hs:∀x,foldedSetIterable iter X.env x=pure x:=by intro _;rfl):PS X (.Assign [.Name y py] (.ListComp elt [⟨tg,iter,ifs,0⟩] scope pos) spos) (yU (tLC wi k js g tt te) (rZ i)):=by
 intro pins s σ H D0 I h;obtain⟨cl,hclos,hcl1,hcl2⟩:=S.closure I
 rw[exec_Assign_Name_used _ _ _ _ hsw];refine wpAny_bind (wpAny_standAt (wpAny_bind ?_));show wpAny _ X.A (do let _<-comprehension (.ListComp elt [⟨tg,iter,ifs,0⟩] scope pos) scope X.env _ (newList []) false (eval iter X.env) (some (assign (.Name y py) X.env))) _ _ s
 refine wpAny_bind (wpAny_mono (wpAny_comprehension_free (use:=some (assign (.Name y py) X.env)) (Q:=fun _ s'=>SP X pins D0 .next s') rfl hs hclos S.kind S.names
  (thn (hi pins s σ H _ I h) fun v s1 h1=>thn h1 fun itv s2 h2=> ?_)) (fun _ s' hq=>wpAny_pure (wpAny_pure hq)) fun _ _ e=>e)
 obtain⟨it,fp,tn,J,H2,rfl,I2,T,st2,f2,hr⟩:=h2
 refine sV (Q:=fun v H'=>D0.nx (σ.set i (some v)) H') (RR:=fun acc C=>compPost (model X.prog X.w) X.A X.xe (some (assign (.Name y py) X.env)) (fun _ s'=>SP X pins D0 .next s') acc C) S hc hg ht he hcl1 hcl2 I2 T st2 f2 hr ?_;intro D C H' s' m I' hn h0 hL hF hz hcell hpin hDC q;show wpAny _ X.A (assign (.Name y py) X.env (.ref D)) _ _ _
 refine wpAny_assign_Name (qr I' hN hix (.inl hy) (v:= .ref D) rfl (fun s'' I'' hsb=> ?_) (.inr hy));obtain⟨a,sb,ha⟩:=hsb
 have haC:C≠a:=by
  rcases ha with rfl|ha
  ·exact hL
  ·exact fun z=>hcell y a ha z.symm
 refine⟨m,hn.sameBut sb haC,fun h' sb'=>⟨σ.set i (some (.ref D)),H',?_,q⟩⟩;exact I''.turned (t':=s''.toks) (fun b o hb e=>(sb'.2 b hb).trans e) h0 hL (.inr hz) hcell hpin
end
end L2
namespace L2
open PySem PySem.Spec PyProof.Rows
section
variable {X:Cx}
noncomputable def Cq(K:ao):List V ->Hp ->VK ->Prop:=fun xs H Q=>∃x T t b,xs=[x,.ty T] /\ TyOf K H x t /\ cy K t (.type T)=some b /\ Q (.bl b) H
theorem tQ:kZ X (.builtin "isinstance") (Cq X.K):=by
 intro pins s σ H xs us Q I r h;obtain⟨x,T,t,b,rfl,ty,e,q⟩:=h
 obtain⟨u,v,rfl,ru,rv⟩:=r.two
 obtain rfl:v=Value.type T:=rv
 exact vJ I ru ty e fun tk=>⟨.bl b,H,I.tok tk,rfl,q⟩
theorem rT(K:ao):cy K (.type "int") (.type "int")=some true:=rfl
theorem qO(K:ao):cy K (.type "int") (.type "bool")=some false:=by
 kernel_rfl
theorem qP(K:ao):cy K (.type "bool") (.type "int")=some true:=by
 kernel_rfl
theorem p6(K:ao):cy K (.type "bool") (.type "bool")=some true:=rfl
theorem rQ(K:ao):cy K (.type "tuple") (.type "tuple")=some true:=rfl
theorem nR(K:ao):cy K (.type "list") (.type "list")=some true:=rfl
theorem rS(K:ao):cy K (.type "list") (.type "tuple")=some false:=by
 kernel_rfl
theorem uv:∀{bs:List Bool} {us:List Value},Vals (bs.map V.bl) us ->us=bs.map Value.bool
 |[],_,.nil=>rfl
 |b::r,_,.cons h t=>by
  rw[show _=Value.bool b from h,uv t];rfl
theorem wD{prog:Program}{w:World}{A:Around}(bs:List Bool):TruthOf prog w A (fun i v=>(bs.map Value.bool).toArray[i]? =some v) (fun i=>bs.getD i false):=by
 intro i v s Q E hP hQ;have hP':(bs.map Value.bool)[i]? =some v:=by simpa using hP
 rw[au] at hP';cases e:bs[i]? with
 |none=>rw[e] at hP';cases hP'
 |some b=>
  rw[e] at hP';have:v=Value.bool b:=(ba.inj hP').symm
  subst this;refine wpAny_truthy_bool ?_;have hb:bs.getD i false=b:=by simp[iH,e]
  have hQ':Q (bs.getD i false) s:=hQ
  rw[hb] at hQ';exact hQ'
theorem all_range(bs:List Bool):(bH bs.length).all (fun i=>bs.getD i false)=bs.all id:=by
 rw[fh,eO,eO];constructor
 ·intro h x hx;obtain⟨i,hi,rfl⟩:=eZ.mp hx
  have:=h i (by simpa using hi)
  simpa[iH,hi] using this
 ·intro h i hi;have hi':i<bs.length:=by simpa using hi
  have:=h bs[i] (cI hi')
  simpa[iH,hi'] using this
noncomputable def Bb(K:ao)(f:List Bool ->Bool):List V ->Hp ->VK ->Prop:=fun xs H Q=>∃p bs,xs=[.ref p] /\ SqL K H p (bs.map V.bl) /\ Q (.bl (f bs)) H
theorem xZ(hc:X.calm=true):kZ X (.builtin "all") (Bb X.K fun bs=>bs.all id):=by
 intro pins s σ H xs us Q I r h;obtain⟨p,bs,rfl,hq,q⟩:=h
 obtain⟨u,rfl,ru⟩:=r.one
 obtain rfl:u=Value.ref p:=ru
 obtain⟨its,rv,hl,hz⟩:=I.list hq
 have e:=uv rv
 subst e;obtain⟨o,ho,_⟩:=id hl.isList
 refine call_all_walk (wpAny_pyIter_list hl.isList ?_);refine⟨_,_,_,_,_,_,_,rfl,Walks.list (A:=X.A.in1) (I.ok.hd hc) _ p (aU (Heap.lt_size ho)) _,⟨⟨_,Heap.get?_push_size _ rfl,rfl,rfl⟩,hl.isList.at fun o e=>Heap.get?_push_of_some _ e⟩,wD bs,fun h' tk hk=> ?_⟩;have ea:(bH (bs.map Value.bool).toArray.size).all (fun i=>bs.getD i false)=bs.all id:=by
  rw[aA,ah];exact all_range bs
 rw[ea];exact⟨.bl _,H,I.kept (t':=tk) fun b o e=>hk b o (fun z=>by
  have z':b=s.heap.objs.size:=by simpa using z
  exact absurd (Heap.lt_size e) (by rw[z'];exact cz _)) (Heap.get?_push_of_some _ e),rfl,q⟩
end
mutual
inductive Rdy(K:ao)(H:Hp):V ->PyData ->Prop
 |non:Rdy K H .non .none
 |bl (b:Bool):Rdy K H (.bl b) (.bool b)
 |int (i:Int):Rdy K H (.int i) (.int i)
 |str (x:Str):Rdy K H (.str x) (.str x)
 |tup {a:Addr} {xs:List V} {ds:List PyData}:SqT K H a xs ->RdyAll K H xs ds ->Rdy K H (.ref a) (.tuple ds)
 |lst {a:Addr} {xs:List V} {ds:List PyData}:SqL K H a xs ->RdyAll K H xs ds ->Rdy K H (.ref a) (.list ds)
inductive RdyAll(K:ao)(H:Hp):List V ->List PyData ->Prop
 |nil:RdyAll K H [] []
 |cons {x:V} {xs:List V} {d:PyData} {ds:List PyData}:Rdy K H x d ->RdyAll K H xs ds ->RdyAll K H (x::xs) (d::ds)
end
section
variable {X:Cx} {pins:List (Addr×Obj)} {σ:St} {H:Hp} {s:Shared}
mutual
theorem Rdy.reads(I:Inv X pins σ H s):∀{x:V} {d:PyData},Rdy X.K H x d -> ∀{u:Value},RelV x u -> ∃as,Reads s.heap u d as
 |_,_,.non,u,r=>by cases(show u=Value.none from r);exact⟨_,.none⟩
 |_,_,.bl b,u,r=>by cases(show u=Value.bool b from r);exact⟨_,.bool b⟩
 |_,_,.int i,u,r=>by obtain⟨t,rfl⟩:=(show∃t,u=Value.int i t from r);exact⟨_,.int i t⟩
 |_,_,.str x,u,r=>by obtain⟨t,rfl⟩:=(show∃t,u=Value.str x t from r);exact⟨_,.str x t⟩
 |_,_, @Rdy.tup _ _ a xs ds hq ha,u,r=>by
  cases(show u=Value.ref a from r);obtain⟨its,rv,⟨o,ho,hc,n,hd⟩,hz⟩:=I.tuple hq
  obtain⟨as,ra⟩:=RdyAll.reads I ha rv
  exact⟨_,.tuple ho hc hd (by simpa using ra)⟩
 |_,_, @Rdy.lst _ _ a xs ds hq ha,u,r=>by
  cases(show u=Value.ref a from r);obtain⟨its,rv,⟨o,n,ho,hc,_,hd⟩,hz⟩:=I.list hq
  obtain⟨as,ra⟩:=RdyAll.reads I ha rv
  exact⟨_,.list ho hc hd (by simpa using ra)⟩
theorem RdyAll.reads(I:Inv X pins σ H s):∀{xs:List V} {ds:List PyData},RdyAll X.K H xs ds -> ∀{us:List Value},Vals xs us -> ∃as,ReadsAll s.heap us ds as
 |_,_,.nil,_,.nil=>⟨_,.nil⟩
 |_,_,.cons h t,_,.cons r rs=>by
  obtain⟨as,h1⟩:=Rdy.reads I h r
  obtain⟨bs,h2⟩:=RdyAll.reads I t rs
  exact⟨_,.cons h1 h2⟩
end
end
section
variable {X:Cx}
open PySem.SeqAt in
noncomputable def BY(K:ao)(f:Bool ->Bool):R2:=fun x y H Q=>∃d e,Rdy K H x d /\ Rdy K H y e /\ shaped d=true /\ shaped e=true /\ Q (.bl (f (PyData.eqv d e))) H
theorem Bo(hu:X.A.units+64<cLine):OpR X (compareOp .Eq) (BY X.K id):=by
 intro pins s σ H x y v u Q I rx ry h;obtain⟨d,e,hd,he,sd,se,q⟩:=h
 obtain⟨as,ra⟩:=hd.reads I rx
 obtain⟨bs,rb⟩:=he.reads I ry
 exact eq_dataH ra rb sd se hu ⟨.bl _,H,I,rfl,q⟩
theorem Bm(hu:X.A.units+64<cLine):OpR X (compareOp .NotEq) (BY X.K not):=by
 intro pins s σ H x y v u Q I rx ry h;obtain⟨d,e,hd,he,sd,se,q⟩:=h
 obtain⟨as,ra⟩:=hd.reads I rx
 obtain⟨bs,rb⟩:=he.reads I ry
 exact ne_dataH ra rb sd se hu ⟨.bl _,H,I,rfl,q⟩
end
noncomputable def Ext(H H':Hp):Prop:=∀b o,H b=some o ->H' b=some o
theorem Ext.refl(H:Hp):Ext H H:=fun _ _ h=>h
theorem Ext.trans{H H1 H2:Hp}(a:Ext H H1)(b:Ext H1 H2):Ext H H2:=fun c o h=>b c o (a c o h)
theorem Ext.upd{H:Hp}{p:Addr}{o:HO}(h:H p=none):Ext H (upd H p o):=fun b u e=>by rw[i6 (iY e h)];exact e
theorem Ext.then{H H1:Hp}{p:Addr}{o:HO}(a:Ext H H1)(h:H1 p=none):Ext H (L2.upd H1 p o):=a.trans (Ext.upd h)
theorem Ext.none{H H':Hp}(e:Ext H H'){l:Addr}(h:H' l= .none):H l= .none:=by
 cases q:H l with
 |none=>rfl
 |some o=>rw[e l o q] at h;cases h
theorem Ext.sqT{K:ao}{H H':Hp}{a:Addr}{xs:List V}(e:Ext H H')(h:SqT K H a xs):SqT K H' a xs:=by
 rcases h with(h|⟨o,h⟩)|h
 ·exact .inl (.inl (e _ _ h))
 ·exact .inl (.inr ⟨o,e _ _ h⟩)
 ·exact .inr h
theorem Ext.sqL{K:ao}{H H':Hp}{a:Addr}{xs:List V}(e:Ext H H')(h:SqL K H a xs):SqL K H' a xs:=by
 rcases h with(h|⟨o,h⟩)|h
 ·exact .inl (.inl (e _ _ h))
 ·exact .inl (.inr ⟨o,e _ _ h⟩)
 ·exact .inr h
end L2
namespace L2
open PySem PySem.Spec PyProof.Rows
structure FnB(P:Program)(w:World)(K:ao)(mg:Str ->Option Value)(base:Heap)(CX:CXT)(k:Nat)(x:Str)(ps:List Str)(sp:Sp):Prop where
 ex:∃f fd,FnOk P w K mg base CX k f fd ps sp /\ mg x=some (.ref f) /\ aD K (.ref f)=true /\ Binds K fd ps []
section
variable {X:Cx} {CX:CXT} {k:Nat} {ps:List Str} {sp:Sp} {E:XK} {x:Str} {p pos:Pos} {e:Expr} {es:List Expr} {t:TA}
theorem i9(F:FnB X.prog X.w X.K X.mg X.base CX k x ps sp)(hr:Room k X.A)(hg:Gl X x)(hx:rh CX X E)
  (ha:PA X (e::es) t) (hdb:(x==("__debug__":Str))=false:=by decide) (he:starEach (e::es) X.env=(false,eval e X.env)::starEach es X.env:=by rfl) (hpl:(backTo pos (starEach es X.env)).any (·.1)=false:=by rfl):
  PE X (.Call (.Name x p) (e::es) [] pos) (tY sp [] E t):=by
 obtain⟨f,fd,h1,h2,h3,h4⟩:=F.ex
 exact zy h1 hr hg h2 h3 h4 .nil hx ha hdb he hpl
end
theorem FnB.of{P:Program}{w:World}{K:ao}{mg:Str ->Option Value}{base:Heap}{CX:CXT}{k:Nat}{x:Str}{ps:List Str}{sp:Sp}{f:Addr}{fd:FuncData}(h:FnOk P w K mg base CX k f fd ps sp)(m:mg x=some (.ref f))(kp:aD K (.ref f)=true)(b:Binds K fd ps []):FnB P w K mg base CX k x ps sp:=⟨f,fd,h,m,kp,b⟩
noncomputable def kY{α:Type}(o:Option α)(k:α ->Prop):Prop:=match o with|some v=>k v|none=>False
noncomputable def rp(o:Option HO):Option (List V):=match o with
 |some (.lst xs)=>some xs
 |some (.tup xs)=>some xs
 |_=>none
theorem kJ(xs:List V):rp (some (.lst xs))=some xs:=rfl
theorem jV(xs:List V):rp (some (.tup xs))=some xs:=rfl
noncomputable def ixF:R2:=fun x y H Q=>match x,y with
 | .ref p,.int i=>kY (rp (H p)) fun xs=>kY (atI xs i) fun v=>Q v H
 |_,_=>False
theorem jg{X:Cx}:IxR X ixF:=by
 intro value slice pins s σ H x y v u Q I rx ry q hs;unfold ixF at q;split at q
 ·rename_i p i
  cases e:H p with
  |none=>rw[e] at q;exact q.elim
  |some o=>
   rw[e] at q;cases o with
   |lst xs=>
    have q:kY (atI xs i) fun v=>Q v H:=q
    unfold kY at q;split at q
    ·rename_i w hw
     exact zU value slice pins s σ H _ _ v u Q I rx ry ⟨p,xs,i,w,rfl,rfl,SqL.of e,hw,q⟩ hs
    ·exact q.elim
   |tup xs=>
    have q:kY (atI xs i) fun v=>Q v H:=q
    unfold kY at q;split at q
    ·rename_i w hw
     exact By value slice pins s σ H _ _ v u Q I rx ry ⟨p,xs,i,w,rfl,rfl,SqT.of e,hw,q⟩ hs
    ·exact q.elim
   |_=>exact q.elim
 ·exact q.elim
theorem rd{α:Type}(a:α)(l:List α):atI (a::l) 0=some a:=jr (j:=0) rfl
theorem ye{α:Type}(a b:α)(l:List α):atI (a::b::l) 1=some b:=jr (j:=1) rfl
theorem yd{α:Type}(a b c:α)(l:List α):atI (a::b::c::l) 2=some c:=jr (j:=2) rfl
theorem yc{α:Type}(a b c d:α)(l:List α):atI (a::b::c::d::l) 3=some d:=jr (j:=3) rfl
theorem iR{α:Type}(a:α)(k:α ->Prop):kY (some a) k=k a:=rfl
noncomputable def BR(dsc scope:Scope)(N0 N:List Str)(k:Nat)(js:List Nat):Bool:=
 scope.kind== .function&&scope.names.all (fun y=>y.2 != .cell)&&scope.names.all (fun y=>y.2 != .local||scope.names.lookup y.1==some .local)&&
 scope.names.all (fun y=>y.2 != .free||dsc.names.lookup y.1==some .cell||dsc.names.lookup y.1==some .free)&&N.length==k+js.length&&
 (bH js.length).all (fun i=>match js[i]? with|some j=>(match N[k+i]? with|some x=>N0[j]? ==some x&&scope.names.lookup x==some .free|none=>false)|none=>false)
theorem CScope.of_ok{X:Cx}{dsc scope:Scope}{N0 N:List Str}{k:Nat}{js:List Nat}(e:X.env.scope=dsc)(n:X.N=N0)(h:BR dsc scope N0 N k js=true):CScope X scope N k js:=by
 subst e n;unfold BR at h;simp only[b8,eO] at h;obtain⟨⟨⟨⟨⟨h1,h2⟩,h3⟩,h4⟩,h5⟩,h6⟩:=h
 refine⟨by simpa using h1,fun y hy=>by simpa using h2 y hy,fun y hy hl=> ?_,fun y hy hl=> ?_,by simpa using h5,fun i j hj=> ?_⟩
 ·have:=h3 y hy
  simpa[hl] using this
 ·have:=h4 y hy
  simp only[hl,bne_self_eq_false,iB,Bool.or_eq_true,beq_iff_eq] at this;exact this
 ·have hi:i<js.length:=(aa.mp hj).1
  have:=h6 i (by simpa using hi)
  rw[hj] at this;dsimp only at this;cases q:N[k+i]? with
  |none=>rw[q] at this;cases this
  |some x=>
   rw[q] at this;simp only[b8,beq_iff_eq] at this;exact⟨x,rfl,this.1,this.2⟩
theorem xq{lo:Int}{n:Nat}{g:TG}{tt:TT}{te:TE}{k:Nat}{js:List Nat}{σ:St}{D:Addr}{Q:VK}{H:Hp}(Pv:Nat ->List V ->Hp ->Prop)(h0:Pv 0 [] (upd H D (.lst [])))
  (hn:n<sizeLine) (hl:∀i ys H,i<=n ->Pv i ys H ->H D=some (.lst ys) /\ ys.length<=i)
  (hs:∀i ys H,i<n ->Pv i ys H ->g (.int (lo+i)) (stLC σ k js) H fun σ2 H2=>(σ2.drop k=frV σ js /\ σ2.length=k+js.length) /\ tt σ2 H2 fun b H3=>if b=true then te σ2 H3 fun y H4=>H4 D=some (.lst ys) /\ Pv (i+1) (ys++[y]) (upd H4 D (.lst (ys++[y]))) else Pv (i+1) ys H3)
  (hd:∀ys H,Pv n ys H ->Q (.ref D) H):
  ∃W:Nat ->Nat ->List V ->Hp ->Prop,(∃m,W 0 m [] (upd H D (.lst []))) /\ ∀i m ys H,W i m ys H ->H D=some (.lst ys) /\
  (((Itr lo n).stop i H /\ Q (.ref D) H)∨((Itr lo n).go i H /\ ys.length<sizeLine /\ ∃N:List V ->Hp ->Prop,(∀ys' H',N ys' H' -> ∃m',m'<m /\ W (i+1) m' ys' H') /\
   ∀x H',(Itr lo n).yld i H x H' ->g x (stLC σ k js) H' fun σ2 H2=>(σ2.drop k=frV σ js /\ σ2.length=k+js.length) /\ tt σ2 H2 fun b H3=>if b=true then te σ2 H3 fun y H4=>H4 D=some (.lst ys) /\ N (ys++[y]) (upd H4 D (.lst (ys++[y]))) else N ys H3)):=by
 refine⟨fun i m ys H=>m=n-i /\ i<=n /\ Pv i ys H,⟨n,by simp,bb _,h0⟩,?_⟩;rintro i m ys H ⟨rfl,hi,p⟩;obtain⟨e1,e2⟩:=hl i ys H hi p
 refine⟨e1,?_⟩
 by_cases hlt:i<n
 ·refine .inr ⟨hlt,by omega,Pv (i+1),fun ys' H' p'=>⟨n-(i+1),by omega,rfl,hlt,p'⟩,fun x H' y=> ?_⟩;obtain⟨e,y⟩:=y
  subst e y;exact hs i ys _ hlt p
 ·have e:i=n:=by omega
  subst e;exact .inl ⟨ax _,hd ys H p⟩
theorem zR{K:ao}{a:Addr}{xs:List V}{g:TG}{tt:TT}{te:TE}{k:Nat}{js:List Nat}{σ:St}{D:Addr}{Q:VK}{H:Hp}(Pv:Nat ->List V ->Hp ->Prop)(h0:Pv 0 [] (upd H D (.lst [])))
  (hn:xs.length<sizeLine) (hl:∀i ys H,i<=xs.length ->Pv i ys H ->H D=some (.lst ys) /\ ys.length<=i /\ SqL K H a xs)
  (hs:∀i x ys H,xs[i]? =some x ->Pv i ys H ->g x (stLC σ k js) H fun σ2 H2=>(σ2.drop k=frV σ js /\ σ2.length=k+js.length) /\ tt σ2 H2 fun b H3=>if b=true then te σ2 H3 fun y H4=>H4 D=some (.lst ys) /\ Pv (i+1) (ys++[y]) (upd H4 D (.lst (ys++[y]))) else Pv (i+1) ys H3)
  (hd:∀ys H,Pv xs.length ys H ->Q (.ref D) H):
  ∃W:Nat ->Nat ->List V ->Hp ->Prop,(∃m,W 0 m [] (upd H D (.lst []))) /\ ∀i m ys H,W i m ys H ->H D=some (.lst ys) /\
  (((Itl K a).stop i H /\ Q (.ref D) H)∨((Itl K a).go i H /\ ys.length<sizeLine /\ ∃N:List V ->Hp ->Prop,(∀ys' H',N ys' H' -> ∃m',m'<m /\ W (i+1) m' ys' H') /\
   ∀x H',(Itl K a).yld i H x H' ->g x (stLC σ k js) H' fun σ2 H2=>(σ2.drop k=frV σ js /\ σ2.length=k+js.length) /\ tt σ2 H2 fun b H3=>if b=true then te σ2 H3 fun y H4=>H4 D=some (.lst ys) /\ N (ys++[y]) (upd H4 D (.lst (ys++[y]))) else N ys H3)):=by
 refine⟨fun i m ys H=>m=xs.length-i /\ i<=xs.length /\ Pv i ys H,⟨xs.length,by simp,bb _,h0⟩,?_⟩;rintro i m ys H ⟨rfl,hi,p⟩;obtain⟨e1,e2,q⟩:=hl i ys H hi p
 refine⟨e1,?_⟩
 by_cases hlt:i<xs.length
 ·refine .inr ⟨⟨xs,xs[i],q,by simp[hlt]⟩,by omega,Pv (i+1),fun ys' H' p'=>⟨xs.length-(i+1),by omega,rfl,hlt,p'⟩,fun x H' y=> ?_⟩;obtain⟨e,y⟩:=y
  subst e;exact hs i x ys _ (y xs q) p
 ·have e:i=xs.length:=by omega
  subst e;exact .inl ⟨⟨xs,q,ax _⟩,hd ys H p⟩
theorem yC{K:ao}{a:Addr}{xs:List V}{g:TG}{tt:TT}{te:TE}{k:Nat}{js:List Nat}{σ:St}{D:Addr}{Q:VK}{H:Hp}(Pv:Nat ->List V ->Hp ->Prop)(h0:Pv 0 [] (upd H D (.lst [])))
  (hn:xs.length<sizeLine) (hl:∀i ys H,i<=xs.length ->Pv i ys H ->H D=some (.lst ys) /\ ys.length<=i /\ SqT K H a xs)
  (hs:∀i x ys H,xs[i]? =some x ->Pv i ys H ->g x (stLC σ k js) H fun σ2 H2=>(σ2.drop k=frV σ js /\ σ2.length=k+js.length) /\ tt σ2 H2 fun b H3=>if b=true then te σ2 H3 fun y H4=>H4 D=some (.lst ys) /\ Pv (i+1) (ys++[y]) (upd H4 D (.lst (ys++[y]))) else Pv (i+1) ys H3)
  (hd:∀ys H,Pv xs.length ys H ->Q (.ref D) H):
  ∃W:Nat ->Nat ->List V ->Hp ->Prop,(∃m,W 0 m [] (upd H D (.lst []))) /\ ∀i m ys H,W i m ys H ->H D=some (.lst ys) /\
  (((Itt K a).stop i H /\ Q (.ref D) H)∨((Itt K a).go i H /\ ys.length<sizeLine /\ ∃N:List V ->Hp ->Prop,(∀ys' H',N ys' H' -> ∃m',m'<m /\ W (i+1) m' ys' H') /\
   ∀x H',(Itt K a).yld i H x H' ->g x (stLC σ k js) H' fun σ2 H2=>(σ2.drop k=frV σ js /\ σ2.length=k+js.length) /\ tt σ2 H2 fun b H3=>if b=true then te σ2 H3 fun y H4=>H4 D=some (.lst ys) /\ N (ys++[y]) (upd H4 D (.lst (ys++[y]))) else N ys H3)):=by
 refine⟨fun i m ys H=>m=xs.length-i /\ i<=xs.length /\ Pv i ys H,⟨xs.length,by simp,bb _,h0⟩,?_⟩;rintro i m ys H ⟨rfl,hi,p⟩;obtain⟨e1,e2,q⟩:=hl i ys H hi p
 refine⟨e1,?_⟩
 by_cases hlt:i<xs.length
 ·refine .inr ⟨⟨xs,xs[i],q,by simp[hlt]⟩,by omega,Pv (i+1),fun ys' H' p'=>⟨xs.length-(i+1),by omega,rfl,hlt,p'⟩,fun x H' y=> ?_⟩;obtain⟨e,y⟩:=y
  subst e;exact hs i x ys _ (y xs q) p
 ·have e:i=xs.length:=by omega
  subst e;exact .inl ⟨⟨xs,q,ax _⟩,hd ys H p⟩
end L2
namespace L2
open PySem PySem.Spec PyProof.Rows
section
variable {X:Cx} {st:Stmt} {rest:List Stmt} {t u:TS}
noncomputable def CA(t u:TS):TS:=fun D σ H=>∃Pv:St ->Hp ->Prop,t {D with nx:=Pv} σ H /\ ∀σ H,Pv σ H ->u D σ H
theorem i7(h1:PS X st t)(h2:PSs X rest u):PSs X (st::rest) (CA t u):=by
 intro pins s σ H D I h;obtain⟨Pv,ha,hb⟩:=h
 refine wpAny_execs_cons (thn (h1 pins s σ H {D with nx:=Pv} I ha) fun f s1 q=> ?_);cases f with
 |next=>
  obtain⟨σ',H',I',q⟩:=q
  exact h2 pins s1 σ' H' D I' (hb σ' H' q)
 |ret v=>exact q
 |brk=>exact q
 |cont=>exact q
end
theorem CMulA.of{m n:Nat}{i j:Int}(h:Bd m i)(k:Bd n j)(hm:m<=100000)(hn:n<=100000):CMulA i j:= .inr ⟨h.mono hm,k.mono hn⟩
theorem CMulA.left{i j:Int}(h1: -(2^64)<i)(h2:i<2^64):CMulA i j:= .inl (.inl ⟨h1,h2⟩)
theorem CMulA.right{i j:Int}(h1: -(2^64)<j)(h2:j<2^64):CMulA i j:= .inl (.inr ⟨h1,h2⟩)
theorem yb{a b c d r:Int}(Pr:Int ->Prop)(ha:Pr a)(hb:Pr b)(hc:Pr c)(hd:Pr d)(h0:0<=r)(h4:r<4):∃x,atI [V.int a,V.int b,V.int c,V.int d] r=some (.int x) /\ Pr x:=by
 have:r=0∨r=1∨r=2∨r=3:=by omega
 rcases this with rfl|rfl|rfl|rfl
 ·exact⟨a,rfl,ha⟩
 ·exact⟨b,rfl,hb⟩
 ·exact⟨c,rfl,hc⟩
 ·exact⟨d,rfl,hd⟩
theorem jf{H:Hp}{q b:Addr}{o u:HO}(h:H q=none)(e:H b=some u):upd H q o b=some u:=by rw[i6 (iY e h)];exact e
end L2
namespace L2
open PySem PySem.Spec PyProof.Rows
theorem Bd.lit{n:Nat}{i:Int}(h:i.natAbs<2^64)(hn:64<=n):Bd n i:=Bd.mono (m:=64) h hn
theorem B1:Bd 100000 10=True:=eq_true (Bd.lit (by decide) (by decide))
theorem B0:Bd 9000 64=True:=eq_true (Bd.lit (by decide) (by decide))
theorem bd2:Bd 9000 2=True:=eq_true (Bd.lit (by decide) (by decide))
theorem bd4:Bd 9000 4=True:=eq_true (Bd.lit (by decide) (by decide))
theorem bd3:Bd 9000 3=True:=eq_true (Bd.lit (by decide) (by decide))
theorem pY:ixN 3 0=some 0:=rfl
theorem pX:ixN 3 1=some 1:=rfl
theorem pW:ixN 3 2=some 2:=rfl
theorem p0:ixN 2 0=some 0:=rfl
theorem pZ:ixN 2 1=some 1:=rfl
theorem pV:ixN 4 0=some 0:=rfl
theorem pU:ixN 4 1=some 1:=rfl
theorem pT:ixN 4 2=some 2:=rfl
theorem pS:ixN 4 3=some 3:=rfl
theorem Al{xs:List Int}{k:Int}(h:0<xs.length):∃x,atI (xs.map V.int) (k%(xs.length:Int))=some (.int x) /\ x∈xs:=by
 have h1:=cE k (by omega:(xs.length:Int)≠0)
 have h2:=cg k (by omega:0<(xs.length:Int))
 obtain⟨j,hj⟩:∃j:Nat,k%(xs.length:Int)=(j:Int):=⟨(k%(xs.length:Int)).toNat,by omega⟩
 rw[hj] at h2⊢;have hjl:j<xs.length:=by omega
 exact⟨xs[j],jr (by rw[au];simp[hjl]),cI hjl⟩
end L2
namespace L2
open PySem PySem.Spec PyProof.Rows
theorem uf{K:ao}{a:Addr}{xs:List V}{g:TG}{tt:TT}{te:TE}{k:Nat}{js:List Nat}{σ:St}{D:Addr}{Q:VK}{H:Hp}(vals:V ->V)(hD:H D=none)(hq:SqT K H a xs)(hn:xs.length<sizeLine)
  (hs:∀x ys (R:VK) (R':Hp ->Prop),x∈xs ->R (vals x) (upd H D (.lst ys)) ->g x (stLC σ k js) (upd H D (.lst ys)) fun σ2 H2=>(σ2.drop k=frV σ js /\ σ2.length=k+js.length) /\ tt σ2 H2 fun b H3=>if b=true then te σ2 H3 R else R' H3)
  (hd:Q (.ref D) (upd H D (.lst (xs.map vals)))):
  ∃W:Nat ->Nat ->List V ->Hp ->Prop,(∃m,W 0 m [] (upd H D (.lst []))) /\ ∀i m ys H,W i m ys H ->H D=some (.lst ys) /\
  (((Itt K a).stop i H /\ Q (.ref D) H)∨((Itt K a).go i H /\ ys.length<sizeLine /\ ∃N:List V ->Hp ->Prop,(∀ys' H',N ys' H' -> ∃m',m'<m /\ W (i+1) m' ys' H') /\
   ∀x H',(Itt K a).yld i H x H' ->g x (stLC σ k js) H' fun σ2 H2=>(σ2.drop k=frV σ js /\ σ2.length=k+js.length) /\ tt σ2 H2 fun b H3=>if b=true then te σ2 H3 fun y H4=>H4 D=some (.lst ys) /\ N (ys++[y]) (upd H4 D (.lst (ys++[y]))) else N ys H3)):=by
 refine yC (xs:=xs) (fun i ys H'=>ys=(xs.take i).map vals /\ H'=upd H D (.lst ys)) ⟨rfl,rfl⟩ hn (fun i ys H' hi p=> ?_) (fun i x ys H' hx p=> ?_) (fun ys H' p=> ?_)
 ·obtain⟨e,rfl⟩:=p
  exact⟨iN,by rw[e];simp;omega,(Ext.upd hD).sqT hq⟩
 ·obtain⟨e,rfl⟩:=p
  refine hs x ys _ _ (av hx) ⟨iN,?_,by rw[uw]⟩;rw[e,cR,hx,ay];rfl
 ·obtain⟨rfl,rfl⟩:=p
  rw[bo];exact hd
end L2
namespace L2
open PySem PySem.Spec PyProof.Rows
section
variable {g:TG} {tt:TT} {te tl:TE} {ta:TA} {k:Nat} {js:List Nat} {σ:St} {Q:VK} {H:Hp} {tb:TS} {Dn:Ends} {K:ao} {a:Addr} {xs:List V}
theorem rl(ha:∀R:VK,R (.ref a) H ->tl σ H R)(hq:SqT K H a xs)(hn:xs.length<1000000)(vals:V ->V)
  (hs:∀D x ys (R:VK) (R':Hp ->Prop),H D=none ->x∈xs ->R (vals x) (upd H D (.lst ys)) ->g x (L2.stLC σ k js) (upd H D (.lst ys)) fun σ2 H2=>(σ2.drop k=frV σ js /\ σ2.length=k+js.length) /\ tt σ2 H2 fun b H3=>if b=true then te σ2 H3 R else R' H3)
  (hd:∀D,H D=none ->Q (.ref D) (upd H D (.lst (xs.map vals)))):tLC (BE K tl) k js g tt te σ H Q:=
 ha _ ⟨a,rfl,⟨xs,hq⟩,fun D hD=>uf vals hD hq (dO hn (by decide)) (fun x ys R R' hi h=>hs D x ys R R' hD hi h) (hd D hD)⟩
theorem lP(n:Nat)(ha:∀R:List V ->Hp ->Prop,R [.int n] H ->ta σ H R)(hn:n<1000000)(Pv:Addr ->Nat ->List V ->Hp ->Prop)(h0:∀D,H D=none ->Pv D 0 [] (upd H D (.lst [])))
  (hl:∀D i ys H,i<=n ->Pv D i ys H ->H D=some (.lst ys) /\ ys.length<=i)
  (hs:∀D i ys H1,H D=none ->i<n ->Pv D i ys H1 ->g (.int (0+(i:Int))) (L2.stLC σ k js) H1 fun σ2 H2=>(σ2.drop k=frV σ js /\ σ2.length=k+js.length) /\ tt σ2 H2 fun b H3=>if b=true then te σ2 H3 fun y H4=>H4 D=some (.lst ys) /\ Pv D (i+1) (ys++[y]) (upd H4 D (.lst (ys++[y]))) else Pv D (i+1) ys H3)
  (hd:∀D ys H1,H D=none ->Pv D n ys H1 ->Q (.ref D) H1):tLC (xE ta) k js g tt te σ H Q:=
 ha _ ⟨n,rfl,by omega,by omega,fun D hD=>xq (lo:=0) (n:=(n:Int).toNat) (Pv D) (h0 D hD) (dO (by simpa using hn) (by decide)) (fun i ys H hi p=>hl D i ys H (by simpa using hi) p) (fun i ys H hi p=>hs D i ys H hD (by simpa using hi) p) (fun ys H p=>hd D ys H hD (by simpa using p))⟩
theorem jX(ha:∀R:VK,R (.ref a) H ->tl σ H R)(hq:SqL K H a xs)(hn:xs.length<1000000)(Pv:Addr ->Nat ->List V ->Hp ->Prop)(h0:∀D,H D=none ->Pv D 0 [] (upd H D (.lst [])))
  (hl:∀D i ys H,i<=xs.length ->Pv D i ys H ->H D=some (.lst ys) /\ ys.length<=i /\ SqL K H a xs)
  (hs:∀D i x ys H1,H D=none ->xs[i]? =some x ->Pv D i ys H1 ->g x (L2.stLC σ k js) H1 fun σ2 H2=>(σ2.drop k=frV σ js /\ σ2.length=k+js.length) /\ tt σ2 H2 fun b H3=>if b=true then te σ2 H3 fun y H4=>H4 D=some (.lst ys) /\ Pv D (i+1) (ys++[y]) (upd H4 D (.lst (ys++[y]))) else Pv D (i+1) ys H3)
  (hd:∀D ys H1,H D=none ->Pv D xs.length ys H1 ->Q (.ref D) H1):tLC (xF K tl) k js g tt te σ H Q:=
 ha _ ⟨a,rfl,⟨xs,hq⟩,fun D hD=>zR (Pv D) (h0 D hD) (dO hn (by decide)) (fun i ys H hi p=>hl D i ys H hi p) (fun i x ys H hi p=>hs D i x ys H hD hi p) (fun ys H p=>hd D ys H hD p)⟩
theorem lx(n:Nat)(ha:∀R:List V ->Hp ->Prop,R [.int n] H ->ta σ H R)(hn:n<1000000)(Pv:Nat ->St ->Hp ->Prop)(h0:Pv 0 σ H)
  (hs:∀i σ H,i<n ->Pv i σ H ->g (.int (0+(i:Int))) σ H fun σ2 H2=>tb {Dn with nx:=Pv (i+1),ct:=Pv (i+1),bk:=Dn.nx} σ2 H2) (hd:∀σ H,Pv n σ H ->Dn.nx σ H):yT (xE ta) g tb Dn σ H:=
 ha _ ⟨n,rfl,by omega,by omega,qQ (lo:=0) (n:=(n:Int).toNat) Pv h0 (fun i σ H hi p=>hs i σ H (by simpa using hi) p) (fun σ H p=>hd σ H (by simpa using p))⟩
theorem lQ(ha:∀R:VK,R (.ref a) H ->tl σ H R)(Pv:Nat ->St ->Hp ->Prop)(h0:Pv 0 σ H)(hl:∀i σ H,i<=xs.length ->Pv i σ H ->SqL K H a xs)
  (hs:∀i x σ H,xs[i]? =some x ->Pv i σ H ->g x σ H fun σ2 H2=>tb {Dn with nx:=Pv (i+1),ct:=Pv (i+1),bk:=Dn.nx} σ2 H2) (hd:∀σ H,Pv xs.length σ H ->Dn.nx σ H):yT (xF K tl) g tb Dn σ H:=
 ha _ ⟨a,rfl,⟨xs,hl 0 σ H (bb _) h0⟩,xJ (xs:=xs) Pv h0 hl hs hd⟩
end
end L2
namespace L2
open PySem PySem.Spec PyProof.Rows
section
variable {X:Cx} {K:ao}
theorem wc(hK:X.K=K):kZ X (.builtin "isinstance") (Cq K):=by subst hK;exact tQ
theorem wJ(hK:X.K=K):SlR X (Cp K):=by subst hK;exact uM
theorem yZ(hK:X.K=K):SlR X (Co K):=by subst hK;exact AW
theorem qX(hK:X.K=K)(hc:X.calm=true):kZ X (.builtin "all") (Bb K fun bs=>bs.all id):=by subst hK;exact xZ hc
theorem rG(hK:X.K=K)(hu:X.A.units+64<cLine):OpR X (compareOp .Eq) (BY K id):=by subst hK;exact Bo hu
theorem rF(hK:X.K=K)(hu:X.A.units+64<cLine):OpR X (compareOp .NotEq) (BY K not):=by subst hK;exact Bm hu
theorem ub(hK:X.K=K):OpR X (compareOp .In) (rIn K false):=by subst hK;exact vf
theorem kP(hK:X.K=K):OpR X (compareOp .NotIn) (rIn K true):=by subst hK;exact qI
theorem jG{tg l:Expr}{tl:TE}(hK:X.K=K)(hl:PE X l tl):PI X tg l (xF K tl):=by subst hK;exact zo hl
theorem rB{tg l:Expr}{tl:TE}(hK:X.K=K)(hl:PE X l tl):PI X tg l (BE K tl):=by subst hK;exact Bf hl
end
end L2
namespace L2
open PySem PySem.Spec PyProof.Rows
noncomputable def lJ(o:Option HO):Option (List V):=match o with
 |some (.lst xs)=>some xs
 |_=>none
theorem jA(xs:List V):lJ (some (.lst xs))=some xs:=rfl
theorem jH{o:Option HO}{xs:List V}(h:lJ o=some xs):o=some (.lst xs):=by
 cases o with
 |none=>cases h
 |some o=>
  cases o with
  |lst ys=>rw[show ys=xs from ba.inj h]
  |_=>cases h
theorem ja{α:Type}{o:Option α}{k:α ->Prop}(h:kY o k):∃v,o=some v /\ k v:=by
 unfold kY at h;split at h
 ·exact⟨_,rfl,h⟩
 ·exact h.elim
theorem pG{K:ao}{H:Hp}{p:Addr}{xs:List V}(h:rp (H p)=some xs):SqL K H p xs∨SqT K H p xs:=by
 cases e:H p with
 |none=>rw[e] at h;cases h
 |some o=>
  rw[e] at h;cases o with
  |lst ys=>rw[show ys=xs from ba.inj h] at e;exact .inl (SqL.of e)
  |tup ys=>rw[show ys=xs from ba.inj h] at e;exact .inr (SqT.of e)
  |_=>cases h
section
variable {X:Cx} {e:Expr}
noncomputable def tUp(t:TE):TE:=fun σ H Q=>∃R:VK,t σ H R /\ ∀x H1,R x H1 ->Q x H1
theorem PE.up{t:TE}(h:PE X e t):PE X e (tUp t):=fun pins s σ H Q I ⟨R,hw,hq⟩=>thn (h pins s σ H R I hw) fun v s1 ⟨x,H1,I1,r1,q1⟩=>⟨x,H1,I1,r1,hq x H1 q1⟩
end
theorem uL{n:Nat}(h:n<1000000):n<sizeLine:=dO h (by decide)
noncomputable def An:V ->List V ->Hp ->VK ->Prop:=fun x vs H Q=>match x,vs with
 | .ref l,[y]=>kY (lJ (H l)) fun xs=>xs.length<1000000 /\ Q .non (upd H l (.lst (xs++[y])))
 |_,_=>False
section
variable {X:Cx}
theorem Bq:MtM X "list.append" An:=by
 intro pins s σ H x vs v us Q I rx rv h;unfold An at h;split at h
 ·rename_i l y
  obtain⟨xs,e,hz,q⟩:=ja h
  exact qK pins s σ H _ _ v us Q I rx rv ⟨l,xs,y,rfl,rfl,jH e,uL hz,q⟩
 ·exact h.elim
noncomputable def tML(r:V ->List V ->Hp ->VK ->Prop)(to:TE)(t:TA):TE:=fun σ H Q=>to σ H fun x H1=>match x with
 | .ref l=>(lJ (H1 l)).isSome=true /\ t σ H1 fun vs H2=>r x vs H2 Q
 |_=>False
end
section
variable {X:Cx} {K:ao} {a b:Expr} {ta tb:TE} {pos:Pos}
noncomputable def AE:R2:=fun x y H Q=>match x,y with
 | .ref a,.ref b=>kY (lJ (H a)) fun xs=>kY (lJ (H b)) fun ys=>xs.length+ys.length<1000000 /\ ∀p,H p=none ->Q (.ref p) (upd H p (.lst (xs++ys)))
 |_,_=>False
theorem rH:OpR X (binaryOp .Add) AE:=by
 intro pins s σ H x y v u Q I rx ry h;unfold AE at h;split at h
 ·rename_i p q
  obtain⟨xs,e,h⟩:=ja h
  obtain⟨ys,e',hz,k⟩:=ja h
  exact Bp pins s σ H _ _ v u Q I rx ry ⟨p,q,xs,ys,rfl,rfl,jH e,jH e',fY (uL hz),k⟩
 ·exact h.elim
noncomputable def ue:List V ->Hp ->VK ->Prop:=fun vs H Q=>match vs with
 |[.ref p]=>kY (rp (H p)) fun ys=>∀l,H l=none ->Q (.ref l) (upd H l (.lst ys))
 |_=>False
theorem j5:kZ X (.type "list") ue:=by
 intro pins s σ H xs us Q I r h;unfold ue at h;split at h
 ·rename_i p
  obtain⟨ys,e,h⟩:=ja h
  exact qU pins s σ H _ us Q I r ⟨p,ys,rfl,pG e,h⟩
 ·exact h.elim
noncomputable def Ay:List V ->Hp ->VK ->Prop:=fun vs H Q=>match vs with
 |[.ref p]=>kY (rp (H p)) fun ys=>Q (.int ys.length) H
 |_=>False
theorem jb:kZ X (.builtin "len") Ay:=by
 intro pins s σ H xs us Q I r h;unfold Ay at h;split at h
 ·rename_i p
  obtain⟨ys,e,h⟩:=ja h
  exact qV pins s σ H _ us Q I r ⟨p,ys,rfl,pG e,h⟩
 ·exact h.elim
noncomputable def slF:V ->Option Int ->Option Int ->Hp ->VK ->Prop:=fun x lo hi H Q=>match x with
 | .ref a=>kY (lJ (H a)) fun xs=>∀p,H p=none ->Q (.ref p) (upd H p (.lst (tN xs lo hi)))
 |_=>False
theorem y4:SlR X slF:=by
 intro pins s σ H x v vl vu lo hi sl Q I rx hs pl pu h;unfold slF at h;split at h
 ·rename_i p
  obtain⟨ys,e,h⟩:=ja h
  exact uM pins s σ H _ v vl vu lo hi sl Q I rx hs pl pu ⟨p,ys,rfl,SqL.of (jH e),h⟩
 ·exact h.elim
noncomputable def tyN(H:Hp):V ->Option String
 | .non=>some "NoneType"
 | .bl _=>some "bool"
 | .int _=>some "int"
 | .str _=>some "str"
 | .ref a=>(match H a with
  |some (.lst _)=>some "list"
  |some (.tup _)=>some "tuple"
  |_=>none)
 |_=>none
theorem AF{H:Hp}{x:V}{n:String}(h:tyN H x=some n):TyOf K H x (.type n):=by
 cases x with
 |non=>cases h;exact .non
 |bl b=>cases h;exact .bl b
 |int i=>cases h;exact .int i
 |str y=>cases h;exact .str y
 |ref a=>
  cases e:H a with
  |none=>simp only[tyN,e] at h;cases h
  |some o=>
   cases o with
   |lst xs=>simp only[tyN,e] at h;cases h;exact .lst e
   |tup xs=>simp only[tyN,e] at h;cases h;exact .tup e
   |_=>simp only[tyN,e] at h;cases h
 |_=>cases h
noncomputable def wq:String ->String ->Option Bool
 | "int","int"=>some true| "int","bool"=>some false| "bool","int"=>some true| "bool","bool"=>some true
 | "tuple","tuple"=>some true| "list","list"=>some true| "list","tuple"=>some false| "tuple","list"=>some false|_,_=>none
theorem rR(K:ao):cy K (.type "tuple") (.type "list")=some false:=by kernel_rfl
theorem zV{n T:String}{b:Bool}(h:wq n T=some b):cy K (.type n) (.type T)=some b:=by
 unfold wq at h;split at h
 ·rw[<-h];exact rT K
 ·rw[<-h];exact qO K
 ·rw[<-h];exact qP K
 ·rw[<-h];exact p6 K
 ·rw[<-h];exact rQ K
 ·rw[<-h];exact nR K
 ·rw[<-h];exact rS K
 ·rw[<-h];exact rR K
 ·cases h
noncomputable def Az:List V ->Hp ->VK ->Prop:=fun vs H Q=>match vs with
 |[x,.ty T]=>kY (tyN H x) fun n=>kY (wq n T) fun b=>Q (.bl b) H
 |_=>False
theorem mh:kZ X (.builtin "isinstance") Az:=by
 intro pins s σ H xs us Q I r h;unfold Az at h;split at h
 ·rename_i x T
  obtain⟨n,e,h⟩:=ja h
  obtain⟨b,e',q⟩:=ja h
  exact tQ pins s σ H _ us Q I r ⟨x,T,_,b,rfl,AF e,zV e',q⟩
 ·exact h.elim
end
section
variable {X:Cx} {o e:Expr} {to:TE} {t:TA} {apos cpos:Pos}
theorem pe_app(ho:PE X o to)(ha:PA X [e] t)
  (hbase:attributeBase o "append" X.env (eval o X.env)=eval o X.env:=by rfl)
  (hfew:((backTo cpos (starEach [e] X.env)).all (fun x=> !x.1)&&(backToKw cpos (keywordEach [] X.env)).all (fun x=>x.1.isSome)
   &&decide ([e].length+([]:List Keyword).length+(if([]:List Keyword).isEmpty then 0 else 1)<30))=true:=by rfl)
  (hline:(apos.endLine==cpos.line)=true:=by rfl) (hs:starEach [e] X.env=(false,eval e X.env)::starEach [] X.env:=by rfl) (hplain:(backTo cpos (starEach [] X.env)).any (·.1)=false:=by rfl):
  PE X (.Call (.Attribute o "append" apos) [e] [] cpos) (tML An to t):=by
 intro pins s σ H Q I h;refine zA cJ PySem.F.slot_list_append PySem.F.type_list_append Bq ho.up ha hbase hfew hline hs hplain pins s σ H Q I ⟨_,h,fun x H1 q=> ?_⟩;cases x with
 |ref l=>
  obtain⟨h1,h2⟩:=q
  obtain⟨xs,e⟩:=cw.mp h1
  exact⟨.inl ⟨rfl,xs,SqL.of (jH e)⟩,h2⟩
 |_=>exact q.elim
noncomputable def Au(r:V ->List V ->Hp ->VK ->Prop)(to:TE):TE:=fun σ H Q=>to σ H fun x H1=>match x with
 | .ref l=>(lJ (H1 l)).isSome=true /\ r x [] H1 Q
 |_=>False
end
theorem tz:wq "int" "int"=some true:=rfl
theorem tx:wq "int" "bool"=some false:=rfl
theorem tu:wq "bool" "int"=some true:=rfl
theorem tf:wq "bool" "bool"=some true:=rfl
theorem sZ:wq "tuple" "tuple"=some true:=rfl
theorem sY:wq "list" "list"=some true:=rfl
theorem sX:wq "list" "tuple"=some false:=rfl
end L2
namespace L2
open PySem
theorem Ext.set{H H2:Hp}{D:Addr}{o:HO}(x:Ext H H2)(hD:H D= .none):Ext H (L2.upd H2 D o):=fun b u e=>by rw[i6 (iY e hD)];exact x b u e
end L2
namespace L2
open PySem
noncomputable def wC(o:Option HO):Option (Int×Int×Int):=match o with
 |some (.tup [.int a,.int b,.int c])=>some (a,b,c)
 |_=>none
theorem lN(a b c:Int):wC (some (.tup [.int a,.int b,.int c]))=some (a,b,c):=rfl
theorem mz{o:Option HO}{x:Int×Int×Int}(h:wC o=some x):o=some (.tup [.int x.1,.int x.2.1,.int x.2.2]):=by
 unfold wC at h;split at h
 ·cases h;rfl
 ·cases h
noncomputable def AG(o:Option HO):Option (Int×Int):=match o with
 |some (.tup [.int a,.int b])=>some (a,b)
 |_=>none
theorem lO(a b:Int):AG (some (.tup [.int a,.int b]))=some (a,b):=rfl
theorem uB{o:Option HO}{x:Int×Int}(h:AG o=some x):o=some (.tup [.int x.1,.int x.2]):=by
 unfold AG at h;split at h
 ·cases h;rfl
 ·cases h
noncomputable def B3(n:Nat)(x:Int×Int×Int):Prop:=Bd n x.1 /\ Bd n x.2.1 /\ Bd n x.2.2
noncomputable def B2(n:Nat)(x:Int×Int):Prop:=Bd n x.1 /\ Bd n x.2
end L2
namespace L2
open PySem
section
variable {X:Cx} {pos:Pos}
noncomputable def kj(n:Nat)(t:TGs):TG:=fun v σ H Q=>match v with
 | .ref a=>kY (rp (H a)) fun xs=>xs.length=n /\ t xs σ H Q
 |_=>False
theorem n6{es:List Expr}{k:Nat}{t:TGs}{n:Nat}(hc:X.calm=true)(h:PGs X es t)
  (hn:(assignEach es X.env).length=n:=by rfl) (hst:(assignEach es X.env).findIdx? (·.1)=none:=by rfl):PG X (.Tuple es k pos) (kj n t):=by
 intro pins s σ H v u Q I r hw;unfold kj at hw;split at hw
 ·rename_i a
  obtain⟨xs,e,hl,q⟩:=ja hw
  rcases pG (K:=X.K) e with e|e
  ·exact yt hc h hn hst pins s σ H _ u Q I r (.inr ⟨a,xs,rfl,e,hl,q⟩)
  ·exact yt hc h hn hst pins s σ H _ u Q I r (.inl ⟨a,xs,rfl,e,hl,q⟩)
 ·exact hw.elim
end
end L2
namespace L2
open PySem
theorem tH(a b c d:Int):PyData.eqv (.tuple [.int a,.int b]) (.tuple [.int c,.int d])=decide (a=c /\ b=d):=by
 rw[fh];simp[PyData.eqv,PyData.eqvAll]
theorem BL(a b c d e f:Int):PyData.eqv (.tuple [.int a,.int b,.int c]) (.tuple [.int d,.int e,.int f])=decide (a=d /\ b=e /\ c=f):=by
 rw[fh];simp[PyData.eqv,PyData.eqvAll]
theorem qC{K:ao}{H:Hp}{q:Addr}{a b:Int}(e:H q=some (.tup [.int a,.int b])):Rdy K H (.ref q) (.tuple [.int a,.int b]):= .tup (SqT.of e) (.cons (.int a) (.cons (.int b) .nil))
end L2
namespace L2
open PySem PySem.Spec PyProof.Rows
noncomputable def Cm(a C:Addr)(h:Heap):Prop:=∃(o:Obj) (vs:Array Value),h.get? a=some o /\ o.cls= .ref C /\ o.data= .fields vs
noncomputable def IsExcD(a C:Addr)(od:Option Addr)(h:Heap):Prop:=∃(o:Obj) (vs:Array Value),h.get? a=some o /\ o.cls= .ref C /\ o.data= .fields vs /\ ∀dx,od=some dx ->o.dict=some dx
theorem IsExcD.e{a C:Addr}{od:Option Addr}{h:Heap}(x:IsExcD a C od h):Cm a C h:=by
 obtain⟨o,vs,h1,h2,h3,_⟩:=x
 exact⟨o,vs,h1,h2,h3⟩
end L2
namespace L2
open PySem PySem.Spec PyProof.Rows
theorem iV{X:Cx}{P:Program}{w:World}:rh (CXE P w) X E0:=fun _ _ _ _ _ _ _ h=>by
 obtain⟨_,_,_,_,_,_,_,_,_,_,_,_,_,_,_,hE⟩:=h
 exact hE.elim
end L2
namespace L2
open PySem PySem.Spec PyProof.Rows
section
variable {X:Cx} {pins pins' pn:List (Addr×Obj)} {σ:St} {H:Hp} {s:Shared} {W:Value ->Shared ->Prop} {ev:Value} {D:Ends} {f:Flow}
theorem Inv.track{a:Addr}{o:HO}(I:Inv X pins σ H s)(hn:H a=none)(h0:∀b u,X.s₀.heap.get? b=some u ->b∉X.ex ->b≠a)(hl:X.env.locals≠a)(hc:∀x c,X.env.cells.lookup x=some c ->c≠a)
  (hp:∀p∈X.pn++pins,p.1≠a) (new:ObjOk X.prog X.w (upd H a o) s.heap a o):Inv X pins σ (upd H a o) s:=by
 refine⟨I.ok,I.os,I.bare,⟨I.base.keep,I.base.slot,fun b u q n hx=> ?_,I.base.there,fun b xs q=> ?_,fun b u xs q=> ?_,fun b ps q=> ?_⟩,I.loc,I.cell,?_,fun x c e=> ?_,fun p hq=> ?_,fun b u q=> ?_,I.len⟩
 ·rw[i6 (h0 b u q hx)];exact I.base.free b u q n hx
 ·have z:=I.base.tups b xs q
  rw[i6 (iY z hn)];exact z
 ·have z:=I.base.frzs b u xs q
  rw[i6 (iY z hn)];exact z
 ·obtain⟨more,z⟩:=I.base.tbls b ps q
  exact⟨more,by rw[i6 (iY z hn)];exact z⟩
 ·rw[i6 hl];exact I.free
 ·rw[i6 (hc x c e)];exact I.freeC x c e
 ·obtain⟨e1,e2,e3,e4,e5⟩:=I.pin p hq
  exact⟨e1,by rw[i6 (hp p hq)];exact e2,e3,e4,e5⟩
 ·by_cases hb:b=a
  ·subst hb;rw[iN] at q;cases q;exact new
  ·rw[i6 hb] at q;exact(I.hok b u q).stay (fun c v _ z=>z) (fun c z=>by rw[i6 (iY z hn)];exact z) fun c xs z=>by rw[i6 (iY z hn)];exact z
end
end L2
namespace L2
open PySem PySem.Spec PyProof.Rows
section
variable {P:Program} {w:World} {K:ao} {mg:Str ->Option Value} {base:Heap} {x qual:Str} {st:Stmt} {f:Addr} {fd:FuncData} {N ps:List Str} {k:Nat} {sp:Sp}
theorem okE(F:Fun K x qual st f fd)(S:FnScope N ps (iL st))(len:∀vs H Q E,sp vs H Q E ->vs.length=ps.length)
  (hb:∀(cdv:Value) (A:Around) (outer:List Env) (s:Shared) (H:Hp) (vs:List V) (Q:VK) (E:XK),Room k (A.deeper (envOfC qual (iL st) s.heap.objs.size f cdv)) ->sp vs H Q E ->
   ∃t,PSs (Af (CXE P w) P w K mg base N qual (iL st) f cdv A outer s H E) (i0 st) t /\ t {nx:=fun _ H'=>Q .non H',rt:=Q} (start N vs) H):FnOk P w K mg base (CXE P w) (k+1) f fd ps sp:=by
 have e:=F.ex
 obtain⟨oc,od,kV,doc,pm,an,cdv,ct,osl,e,lk,hcd⟩:=e
 subst e;exact Cd lk hcd S len (hb cdv)
theorem okN(F:Fun K x qual st f fd)(S:FnScope N ps (iL st))(len:∀vs H Q E,sp vs H Q E ->vs.length=ps.length)
  (hb:∀(cdv:Value) (A:Around) (outer:List Env) (s:Shared) (H:Hp) (vs:List V) (Q:VK) (E:XK),Room k (A.deeper (envOfC qual (iL st) s.heap.objs.size f cdv)) ->sp vs H Q E ->
   ∃t,PSs (Af (CXE P w) P w K mg base N qual (iL st) f cdv A outer s H E).nox (i0 st) t /\ t {nx:=fun _ H'=>Q .non H',rt:=Q} (start N vs) H):FnOk P w K mg base (CXE P w) (k+1) f fd ps sp:=
 okE F S len fun cdv A outer s H vs Q E hr h=>by
  obtain⟨t,h1,h2⟩:=hb cdv A outer s H vs Q E hr h
  exact⟨t,h1.nox,h2⟩
end
end L2
namespace L2
open PySem PySem.Spec PyProof.Rows
section
variable {X:Cx}
theorem yQ{X:Cx}{pins:List (Addr×Obj)}{σ:St}{H:Hp}{s:Shared}{h':Heap}{tk:Nat}{wr:List Addr}{T:Addr}{x y:V}{u v:Value}(I:Inv X pins σ H s)(hf:∀b∈wr,uu X pins H b)(hT:s.heap.objs.size<=T)
  (ht:h'.IsTuple T #[u,v]) (rx:RelV x u) (ry:RelV y v) (k:∀b o,b∉wr ->s.heap.get? b=some o ->h'.get? b=some o):Inv X pins σ (upd H T (.tup [x,y])) {s with heap:=h',toks:=tk}:=by
 have hn:H T=none:=I.hok.fresh hT
 have tr:∀b w,H b=some w ->b∉wr:=fun b w e z=>by rw[(hf b z).1] at e;cases e
 refine I.step (g':=s.gens) (d':=s.drawn) (ch:=wr) (fun b hb=> ?_) (fun b o _ _ hc e _=>k b o hc e) (fun b o _ _ hc e _=>⟨o.slots,k b o hc e⟩) (fun b o hc e n=> ?_) (fun b o hc e=>⟨o,k b o hc e⟩) (fun b xs e=> ?_) (fun b o w e=> ?_) (fun b ps e=> ?_) (fun m hm=> ?_) (fun b w e=> ?_) I.bare
 ·obtain⟨f0,f1,f2,f3,f4,f5⟩:=hf b hb
  exact⟨f3,f1,f4,f5⟩
 ·rw[i6 (aU (aR (Heap.lt_size e) hT))];exact n
 ·rw[i6 (iY e hn)];exact e
 ·rw[i6 (iY e hn)];exact e
 ·exact⟨#[],by rw[i6 (iY e hn),e];simp⟩
 ·obtain⟨o,es,ep,ho,r⟩:=hm
  exact⟨o,es,ep,k _ o (fun z=>(hf _ z).2.1 rfl) ho,r⟩
 ·by_cases hb:b=T
  ·subst hb;rw[iN] at e;cases e;exact⟨show 2<=sizeLine by decide,[u,v],.cons rx (.cons ry .nil),ht⟩
  ·rw[i6 hb] at e;refine(I.hok b w e).stay (fun c z hc q=>k c z ?_ q) (fun c q=>by rw[i6 (iY q hn)];exact q) fun c xs q=>by rw[i6 (iY q hn)];exact q
   rcases hc with rfl|hc
   ·exact tr _ _ e
   ·exact tr _ _ hc
end
end L2
namespace L2
open PySem PySem.Spec PyProof.Rows
noncomputable def BQ(o:Option HO):Option (List (Key×V)):=match o with
 |some (.dK kvs)=>some kvs
 |_=>none
theorem tK(kvs:List (Key×V)):BQ (some (.dK kvs))=some kvs:=rfl
theorem vW{o:Option HO}{kvs:List (Key×V)}(h:BQ o=some kvs):o=some (.dK kvs):=by
 unfold BQ at h;split at h
 ·cases h;rfl
 ·cases h
noncomputable def tDg(k:Str)(td:TE):TE:=fun σ H Q=>td σ H fun x H1=>match x with
 | .ref a=>kY (BQ (H1 a)) fun kvs=>kY (ri kvs (Sum.inr k)) fun v=>Q v H1
 |_=>False
noncomputable def tDp(k:Str)(td tv:TE):TS:=fun D σ H=>tv σ H fun v H1=>td σ H1 fun x H2=>match x with
 | .ref a=>kY (BQ (H2 a)) fun kvs=>kvs.length<1000000 /\ D.nx σ (upd H2 a (.dK (putK kvs (Sum.inr k) v)))
 |_=>False
section
variable {X:Cx} {o i value:Expr} {pos pos':Pos} {td tv:TE} {k:Str}
theorem mH(hu:X.A.units+1<cLine)(ho:PE X o td)(hi:PE X i (tC (.str k)))(hs:Cw i):PE X (.Subscript o i pos) (tDg k td):=by
 intro pins s σ H Q I h;refine yV PySem.F.slot_dict_getitem.lookup hs (thn (ho pins s σ H _ I h) fun u s1 ⟨x,H1,I1,rx,q1⟩=> ?_);cases x with
 |ref a=>
  obtain⟨kvs,e,q1⟩:=ja q1
  obtain⟨v,e2,q1⟩:=ja q1
  have e:=vW e
  refine thn (hi pins s1 σ H1 (fun y H2=>y=V.str k /\ H2=H1) I1 ⟨rfl,rfl⟩) fun iv s2 ⟨y,H2,I2,ry,ey,eH⟩=> ?_
  subst ey;subst eH;obtain rfl:u=Value.ref a:=rx
  have g:DGet H2 a (V.str k) (some v):=by
   have:=DGet.k (k:=Sum.inr k) e
   rw[e2] at this;exact this
  exact⟨sg I2 g,vZ hu I2 g ry fun w' s3 I3 rw'=>⟨v,H2,I3,rw',q1⟩⟩
 |_=>exact q1.elim
theorem u4(hu:X.A.units+1<cLine)(ho:PE X o td)(hi:PE X i (tC (.str k)))(hv:PE X value tv)(hs:swapsWith value (some (.Subscript o i pos')) pos.line X.env=pure false):
  PS X (.Assign [.Subscript o i pos'] value pos) (tDp k td tv):=by
 intro pins s σ H D I h;refine wpAny_Assign_Subscript (thn (hv pins s σ H _ I h) fun r s1 ⟨v,H1,I1,rv,q1⟩=>thn (ho pins s1 σ H1 _ I1 q1) fun u s2 ⟨x,H2,I2,rx,q2⟩=> ?_) hs;cases x with
 |ref a=>
  obtain⟨kvs,e,hl,q2⟩:=ja q2
  have e:=vW e
  refine thn (hi pins s2 σ H2 (fun y H3=>y=V.str k /\ H3=H2) I2 ⟨rfl,rfl⟩) fun iv s3 ⟨y,H3,I3,ry,ey,eH⟩=> ?_
  subst ey;subst eH;obtain rfl:u=Value.ref a:=rx
  exact vY hu I3 (DPut.k (k:=Sum.inr k) e (uL hl)) ry rv fun s4 I4=>⟨σ,_,I4,q2⟩
 |_=>exact q2.elim
end
end L2
namespace L2
open PySem PySem.Spec PyProof.Rows
section
variable {X:Cx} {pos pos':Pos}
theorem Ai(val:Nat ->Int):∀k,argBest (fun i j=>decide (val i<val j)) k<=k /\ ∀j,j<=k ->val (argBest (fun i j=>decide (val i<val j)) k)<=val j:=by
 intro k
 induction k with
 |zero=>
  rw[argBest.eq_1];exact⟨ax _,fun j hj=>by obtain rfl:j=0:=(by omega);exact cP _⟩
 |succ k ih=>
  rw[show k+1=k.succ from rfl,argBest.eq_2]
  by_cases h:val (k+1)<val (argBest (fun i j=>decide (val i<val j)) k)
  ·rw[if_pos (decide_eq_true h)];refine⟨ax _,fun j hj=> ?_⟩
   by_cases e:j=k+1
   ·subst e;exact cP _
   ·have:=ih.2 j (by omega)
    omega
  ·rw[if_neg (by rw[decide_eq_true_eq];exact h)];refine⟨by have:=ih.1;omega,fun j hj=> ?_⟩
   by_cases e:j=k+1
   ·subst e;omega
   ·exact ih.2 j (by omega)
theorem Aj(val:Nat ->Int):∀k,argBest (fun i j=>decide (val i>val j)) k<=k /\ ∀j,j<=k ->val j<=val (argBest (fun i j=>decide (val i>val j)) k):=by
 intro k
 induction k with
 |zero=>
  rw[argBest.eq_1];exact⟨ax _,fun j hj=>by obtain rfl:j=0:=(by omega);exact cP _⟩
 |succ k ih=>
  rw[show k+1=k.succ from rfl,argBest.eq_2]
  by_cases h:val (k+1)>val (argBest (fun i j=>decide (val i>val j)) k)
  ·rw[if_pos (decide_eq_true h)];refine⟨ax _,fun j hj=> ?_⟩
   by_cases e:j=k+1
   ·subst e;exact cP _
   ·have:=ih.2 j (by omega)
    omega
  ·rw[if_neg (by rw[decide_eq_true_eq];exact h)];refine⟨by have:=ih.1;omega,fun j hj=> ?_⟩
   by_cases e:j=k+1
   ·subst e;omega
   ·exact ih.2 j (by omega)
noncomputable def yq(K:ao)(ok:Int ->Int ->Prop):List V ->Hp ->VK ->Prop:=fun vs H Q=>∃(l:Addr) (ns:List Int),vs=[.ref l] /\ SqL K H l (ns.map V.int) /\ 0<ns.length /\ ∀M,M∈ns ->(∀a∈ns,ok M a) ->Q (.int M) H
theorem yj{ns:List Int}:∀{its:List Value},Vals (ns.map V.int) its ->its.length=ns.length /\ ∀(i:Nat) (v:Value),its[i]? =some v -> ∃t,v=Value.int (ns.getD i 0) t:=by
 induction ns with
 |nil=>intro its r;cases r;exact⟨rfl,fun i v h=>by simp at h⟩
 |cons n ns ih=>
  intro its r;cases r with
  |cons p q=>
   obtain⟨h1,h2⟩:=ih q
   refine⟨by simp[h1],fun i v h=> ?_⟩;cases i with
   |zero=>cases h;exact p
   |succ i=>exact h2 i v h
theorem nN{ns:List Int}{i:Nat}(h:i<ns.length):ns.getD i 0∈ns:=by
 rw[aZ,ag h];exact cI h
theorem jU{K:ao}(hK:X.K=K)(hcalm:X.calm=true):kZ X (.builtin "min") (yq K fun M a=>M<=a):=by
 subst hK;intro pins s σ H xs us Q I r h;obtain⟨l,ns,rfl,hl,h0,q⟩:=h
 obtain⟨u,rfl,rx⟩:=vals1 r
 cases rx;obtain⟨its,r',pl,hz⟩:=I.list hl
 obtain⟨hlen,hat⟩:=yj r'
 have hIs:=pl.isList
 refine call_min_walk (wpAny_pyIter_list hIs ?_);obtain⟨o,ho,hcl,hdt⟩:=hIs
 have W:=Walks.list (prog:=X.prog) (w:=X.w) (A:=X.A.in1) (show X.A.in1.handled=none from I.ok.hd hcalm) s.heap.objs.size l (aU (Heap.lt_size ho)) its.toArray
 have S0:(s.heap.push {cls:= .type "list_iterator",data:= .fields #[.ref l,.int 0 0]}).IsListIter s.heap.objs.size l 0 /\ (s.heap.push {cls:= .type "list_iterator",data:= .fields #[.ref l,.int 0 0]}).IsList l its.toArray:=⟨⟨_,Heap.get?_push_size _ rfl,rfl,rfl⟩,⟨o,Heap.get?_push_of_some _ ho,hcl,hdt⟩⟩
 refine⟨s.heap.objs.size,[s.heap.objs.size,l],[s.heap.objs.size],its.toArray.size,(fun i v=>its.toArray[i]? =some v),_,fun i j=>decide (ns.getD i 0<ns.getD j 0),rfl,W,S0,?_,?_,CmpOf.ints_lt (fun i=>ns.getD i 0) (fun i v hv=>hat i v (by simpa using hv)),?_⟩
 ·intro b hb;simp only[aw,az,or_false] at hb;rw[Heap.size_push];rcases hb with rfl|rfl
  ·exact fN _
  ·exact dm (Heap.lt_size ho)
 ·simp only[aA];omega
 ·intro v h' tk hv kp;obtain⟨hb1,hb2⟩:=Ai (fun i=>ns.getD i 0) (its.toArray.size-1)
  simp only[aA] at hb1 hb2 hv;rw[f6] at hv;obtain⟨t,rfl⟩:=hat _ v hv
  refine⟨.int _,H,I.kept (t':=tk) (fun b ob hq=>kp b ob ?_ (Heap.get?_push_of_some _ hq)),⟨t,rfl⟩,q _ (nN (by omega)) fun a ha=> ?_⟩
  ·simp only[aw,az,or_false];exact aU (Heap.lt_size hq)
  ·obtain⟨j,hj⟩:=bg ha
   have lj:=(aa.mp hj).1
   have:=hb2 j (by omega)
   rw[show ns.getD j 0=a by rw[aZ,hj];rfl] at this;exact this
theorem kf{K:ao}(hK:X.K=K)(hcalm:X.calm=true):kZ X (.builtin "max") (yq K fun M a=>a<=M):=by
 subst hK;intro pins s σ H xs us Q I r h;obtain⟨l,ns,rfl,hl,h0,q⟩:=h
 obtain⟨u,rfl,rx⟩:=vals1 r
 cases rx;obtain⟨its,r',pl,hz⟩:=I.list hl
 obtain⟨hlen,hat⟩:=yj r'
 have hIs:=pl.isList
 refine call_max_walk (wpAny_pyIter_list hIs ?_);obtain⟨o,ho,hcl,hdt⟩:=hIs
 have W:=Walks.list (prog:=X.prog) (w:=X.w) (A:=X.A.in1) (show X.A.in1.handled=none from I.ok.hd hcalm) s.heap.objs.size l (aU (Heap.lt_size ho)) its.toArray
 have S0:(s.heap.push {cls:= .type "list_iterator",data:= .fields #[.ref l,.int 0 0]}).IsListIter s.heap.objs.size l 0 /\ (s.heap.push {cls:= .type "list_iterator",data:= .fields #[.ref l,.int 0 0]}).IsList l its.toArray:=⟨⟨_,Heap.get?_push_size _ rfl,rfl,rfl⟩,⟨o,Heap.get?_push_of_some _ ho,hcl,hdt⟩⟩
 refine⟨s.heap.objs.size,[s.heap.objs.size,l],[s.heap.objs.size],its.toArray.size,(fun i v=>its.toArray[i]? =some v),_,fun i j=>decide (ns.getD i 0>ns.getD j 0),rfl,W,S0,?_,?_,CmpOf.ints_gt (fun i=>ns.getD i 0) (fun i v hv=>hat i v (by simpa using hv)),?_⟩
 ·intro b hb;simp only[aw,az,or_false] at hb;rw[Heap.size_push];rcases hb with rfl|rfl
  ·exact fN _
  ·exact dm (Heap.lt_size ho)
 ·simp only[aA];omega
 ·intro v h' tk hv kp;obtain⟨hb1,hb2⟩:=Aj (fun i=>ns.getD i 0) (its.toArray.size-1)
  simp only[aA] at hb1 hb2 hv;rw[f6] at hv;obtain⟨t,rfl⟩:=hat _ v hv
  refine⟨.int _,H,I.kept (t':=tk) (fun b ob hq=>kp b ob ?_ (Heap.get?_push_of_some _ hq)),⟨t,rfl⟩,q _ (nN (by omega)) fun a ha=> ?_⟩
  ·simp only[aw,az,or_false];exact aU (Heap.lt_size hq)
  ·obtain⟨j,hj⟩:=bg ha
   have lj:=(aa.mp hj).1
   have:=hb2 j (by omega)
   rw[show ns.getD j 0=a by rw[aZ,hj];rfl] at this;exact this
end
end L2
namespace L2
open PySem PySem.Spec PyProof.Rows
noncomputable def Ite(K:ao)(a:Addr):It:=
 ⟨fun i H=>∃xs,SqL K H a xs /\ i<xs.length,
  fun i H v H'=>∃t,v= .ref t /\ H t=none /\ ∀xs x,SqL K H a xs ->xs[i]? =some x ->H'=upd H t (.tup [.int (i:Int),x]),
  fun i H=>∃xs,SqL K H a xs /\ i=xs.length⟩
noncomputable def BF(K:ao)(ta:TA):TI:=fun σ H R=>ta σ H fun vs H1=>∃a,vs=[.ref a] /\ (∃xs,SqL K H1 a xs) /\ R (Ite K a) H1
section
variable {X:Cx}
theorem uA{P:Program}{w:World}{K:ao}{elts:List Expr}{kk:Nat}{pos:Pos}(n l:Addr)(h1:l<n):Turn P w K (.Tuple elts kk pos) (Ite K l) [n+1,n] (n+1)
  (fun i h=>(∃old,IsEnum h (n+1) n (↑i) old) /\ h.IsListIter n l i) where
 mem:=by simp
 obj:=fun i h st b hb=>by
  obtain⟨⟨old,z1⟩,⟨o1,e1,c1,d1⟩⟩:=st
  simp only[aw,az,or_false] at hb;rcases hb with rfl|rfl
  ·exact⟨_,z1,fun v q=>by cases q⟩
  ·exact⟨_,e1,fun v q=>by rw[d1] at q;cases q⟩
 keep:=fun i h h' st k=>by
  obtain⟨⟨old,z1⟩,z4⟩:=st
  exact⟨⟨old,k _ (by simp) _ z1⟩,z4.at fun o e=>k _ (by simp) o e⟩
 item:=by
  intro X hP hw hK hc i pins s σ H E I hf st hg;subst hP hw hK;obtain⟨xs,q1,hi⟩:=hg
  obtain⟨us,r1,p1,_⟩:=I.list q1
  obtain⟨z1,z4⟩:=st
  have W:=WalksT.enumerate (prog:=X.prog) (w:=X.w) (I.ok.hd hc) (n+1) n l (gU n) (aU (dm h1)) (aU h1) us.toArray
  have len1:=r1.length
  refine W.item i s _ _ (by simp only[aA];omega) ⟨z1,z4,p1.isList⟩ fun T vals h' tk hPt hT hTup hMid hk=> ?_
  obtain⟨t,u,hu,rfl⟩:=hPt
  refine⟨.ref T,rfl,W.go elts kk pos i T _ _ _ hMid fun h'' st' hk'=> ?_⟩;obtain⟨x,hx⟩:∃x,xs[i]? =some x:=⟨_,ag hi⟩
  obtain⟨u',eu,rx⟩:=r1.get hx
  have e1:u'=u:=by
   have z:us[i]? =some u:=by simpa using hu
   rw[eu] at z;exact ba.inj z
  subst e1;have ap:=W.apart i T h' hMid
  have ht2:h''.IsTuple T #[.int (i:Int) t,u']:=hTup.at fun o e=>hk' T o ap e
  have J:=yQ (x:= .int (i:Int)) (tk:=tk) (h':=h'') I (wr:=[n+1,n]) hf hT ht2 ⟨t,rfl⟩ rx (fun b o hb e=>hk' b o hb (hk b o hb e))
  refine⟨.ref T,_,J,rfl,⟨T,rfl,I.hok.fresh hT,fun xs' x' a1 a3=> ?_⟩,⟨st'.1,st'.2.1⟩,fun b hb=> ?_⟩
  ·rw[I.list_inj a1 q1,hx] at a3;cases a3;rfl
  ·have hb0:=(hf b hb).1
   have hlt:b<s.heap.objs.size:=by
    obtain⟨old,z1⟩:=z1
    obtain⟨o1,e1,_⟩:=z4
    simp only[aw,az,or_false] at hb;rcases hb with rfl|rfl
    ·exact Heap.lt_size z1
    ·exact Heap.lt_size e1
   rw[i6 (aU (aR hlt hT))];exact hb0
 done:=by
  intro X hP hw hK hc i pins s σ H E I hf st hg;subst hP hw hK;obtain⟨xs,q1,hi⟩:=hg
  obtain⟨us,r1,p1,_⟩:=I.list q1
  obtain⟨z1,z4⟩:=st
  have W:=WalksT.enumerate (prog:=X.prog) (w:=X.w) (I.ok.hd hc) (n+1) n l (gU n) (aU (dm h1)) (aU h1) us.toArray
  have e:i=us.toArray.size:=by
   simp only[aA];rw[<-r1.length];exact hi
  subst e;refine W.done s _ _ ⟨z1,z4,p1.isList⟩ fun h' tk hk=>⟨rfl,?_⟩
  have tr:∀b w,H b=some w ->b∉[n+1,n]:=fun b w e z=>by
   rw[(hf b z).1] at e;cases e
  refine I.step (g':=s.gens) (d':=s.drawn) (ch:=[n+1,n]) (fun b hb=> ?_) (fun b o _ _ hc e _=>hk b o hc e) (fun b o _ _ hc e _=>⟨o.slots,hk b o hc e⟩) (fun b o hc e n=>n) (fun b o hc e=>⟨o,hk b o hc e⟩) (fun b xs e=>e) (fun b o w e=>e) (fun b ps e=>⟨#[],by rw[e];simp⟩) (fun m hm=> ?_) (fun b w e=> ?_) I.bare
  ·obtain⟨f0,f1,f2,f3,f4,f5⟩:=hf b hb
   exact⟨f3,f1,f4,f5⟩
  ·obtain⟨o,es,ep,ho,r⟩:=hm
   exact⟨o,es,ep,hk _ o (fun z=>(hf _ z).2.1 rfl) ho,r⟩
  ·refine(I.hok b w e).stay (fun c z hc q=>hk c z ?_ q) (fun _ q=>q) fun _ _ q=>q
   rcases hc with rfl|hc
   ·exact tr _ _ e
   ·exact tr _ _ hc
 self:=fun A i s Q E st q=>by
  obtain⟨⟨old,z1⟩,_⟩:=st
  exact wpAny_pyIter_enum z1 q
theorem rC{a:Expr}{ta:TA}{p pos tpos:Pos}{elts:List Expr}{kk:Nat}{K:ao}(hK:X.K=K)(hg:Gl X "enumerate")(hm:X.mg "enumerate"=none)(ha:PA X [a] ta)(hs:starEach [a] X.env=[(false,eval a X.env)]:=by rfl):
  PI X (.Tuple elts kk tpos) (.Call (.Name "enumerate" p) [a] [] pos) (BF K ta):=by
 subst hK;intro pins s σ H R I h;refine Call_ (oG I hg hm boot_enumerate (cL (thn (ha pos pins s σ H _ I h) fun us s1 z=> ?_) hs rfl));obtain⟨vs,H1,I1,r1,l,rfl,⟨xs,q1⟩,q⟩:=z
 obtain⟨u,rfl,ru⟩:=r1.one
 obtain rfl:u=Value.ref l:=ru
 obtain⟨is1,s1',p1,_⟩:=I1.list q1
 have b1:l<s1.heap.objs.size:=by
  obtain⟨o,e,_⟩:=p1.isList
  exact Heap.lt_size e
 refine call_enumerate_list p1.isList fun h' hz hi1 hsz hk=> ?_
 refine wpAny_pyIter_enum hz ?_;refine⟨_,_,_,_,H1,rfl,I1.kept (t':=s1.toks) hk,uA s1.heap.objs.size l b1,⟨⟨_,hz⟩,hi1⟩,fun b hb=> ?_,q⟩;simp only[aw,az,or_false] at hb;have hle:s1.heap.objs.size<=b:=by
  rcases hb with rfl|rfl<;>omega
 exact I1.fpOk hle (I1.hok.fresh hle)
end
section
variable {K:ao} {a:Addr} {xs:List V} {ta:TA} {g:TG} {tb:TS} {Dn:Ends} {σ:St} {H:Hp}
theorem ni(Ra:Addr ->Hp ->Prop)(ha:∀R:List V ->Hp ->Prop,(∀a H1,Ra a H1 ->R [.ref a] H1) ->ta σ H R)
  (hb:∀a H1,Ra a H1 -> ∃xs,∃Pv:Nat ->St ->Hp ->Prop,Pv 0 σ H1 /\ (∀i σ H,i<=xs.length ->Pv i σ H ->SqL K H a xs) /\
   (∀i x t σ H,xs[i]? =some x ->Pv i σ H ->H t=none ->g (.ref t) σ (upd H t (.tup [.int (i:Int),x])) fun σ2 H2=>tb {Dn with nx:=Pv (i+1),ct:=Pv (i+1),bk:=Dn.nx} σ2 H2) /\ ∀σ H,Pv xs.length σ H ->Dn.nx σ H):
  yT (BF K ta) g tb Dn σ H:=by
 refine ha _ fun a H1 q=> ?_
 obtain⟨xs,Pv,h0,hq,hs,hd⟩:=hb a H1 q
 have s1:=hq 0 σ H1 (bb _) h0
 refine⟨a,rfl,⟨xs,s1⟩,fun i m σ H=>Pv i σ H /\ i<=xs.length /\ m=xs.length-i,⟨_,h0,bb _,rfl⟩,?_⟩;rintro i m σ H ⟨p,hi,rfl⟩;have s1:=hq i σ H hi p
 rcases ft hi with hi|hi
 ·right
  refine⟨⟨xs,s1,by omega⟩,fun σ' H'=>Pv (i+1) σ' H',fun σ' H' p'=>⟨xs.length-(i+1),by omega,p',by omega,rfl⟩,?_⟩;rintro v H' ⟨t,rfl,hn,e⟩;obtain⟨x,hx⟩:∃x,xs[i]? =some x:=⟨_,ag hi⟩
  rw[e xs x s1 hx];exact hs i x t σ H hx p hn
 ·left
  exact⟨⟨xs,s1,by omega⟩,hd σ H (hi▸p)⟩
end
noncomputable def CH(K:ao):R2:=fun x y H Q=>∃d ds,Rdy K H x d /\ Rdy K H y (.list ds) /\ SeqAt.shaped d=true /\ SeqAt.shaped (.list ds)=true /\ (∀y∈ds,SeqAt.noMix y d=true) /\ Q (.bl (decide (Spec.countIn d ds≠0))) H
theorem zB{X:Cx}{K:ao}(hK:X.K=K)(hu:X.A.units+65<cLine):OpR X (compareOp .In) (CH K):=by
 subst hK;intro pins s σ H x y v u Q I rx ry h;obtain⟨d,ds,h1,h2,s1,s2,nm,q⟩:=h
 obtain⟨as,r1⟩:=h1.reads I rx
 obtain⟨bs,r2⟩:=h2.reads I ry
 exact in_list_dataH r2 r1 s2 s1 hu nm ⟨.bl _,H,I,rfl,q⟩
theorem xi{X:Cx}{x:Str}{i:Int}{pos:Pos}(hg:Gl X x)(hm:∃t,X.mg x=some (.int i t))(hd:(x==("__debug__":Str))=false:=by decide):PE X (.Name x pos) (tC (.int i)):=by
 obtain⟨t,hm⟩:=hm
 exact u9 hg hm ⟨t,rfl⟩ hd
end L2
namespace L2
open PySem PySem.Spec PyProof.Rows
section
variable {X:Cx}
noncomputable def B7(K:ao):List V ->Hp ->VK ->Prop:=fun vs H Q=>∃(l:Addr) (ns:List Int),vs=[.ref l] /\ SqL K H l (ns.map V.int) /\ ns.length<1000 /\ ∀p S,H p=none ->Q (.ref p) (upd H p (.set S (firstMet (fun i=>ns.getD i 0) ns.length).length))
theorem wa{K:ao}(hK:X.K=K)(hcalm:X.calm=true):kZ X (.type "set") (B7 K):=by
 subst hK;intro pins s σ H xs us Q I r h;obtain⟨l,ns,rfl,hl,hn,q⟩:=h
 obtain⟨u,rfl,rx⟩:=vals1 r
 cases rx;obtain⟨its,r',pl,hz⟩:=I.list hl
 have hlen:its.length=ns.length:=by rw[<-r'.length,ah]
 refine PySem.call_set_list (items:=its.toArray) (ns:=ns) (I.ok.hd hcalm) pl.isList (by simpa using intsAre_of r') (by rw[aA,hlen];exact dO (Nat.succ_lt_succ hn) (by decide)) fun h' tk hS kp=> ?_
 have hsz:its.toArray.size=ns.length:=by rw[aA,hlen]
 rw[hsz] at hS;refine⟨.ref s.heap.objs.size,_,I.laid (t':=tk) (o:= .set _ _) (fun b ob e=>kp b ob (Heap.lt_size e) e) (ax _) hS,rfl,q _ _ (I.hok.fresh (ax _))⟩
noncomputable def B8:List V ->Hp ->VK ->Prop:=fun vs H Q=>∃(p:Addr) (S:Int ->Bool) (n:Nat),vs=[.ref p] /\ H p=some (.set S n) /\ n<100000 /\ Q (.int n) H
theorem wb:kZ X (.builtin "len") B8:=by
 intro pins s σ H xs us Q I r h;obtain⟨p,S,n,rfl,hp,hn,q⟩:=h
 obtain⟨u,rfl,rx⟩:=vals1 r
 cases rx;obtain⟨o,es,ep,t,ho,hex,hd,hel,hmem,hb,hf,e⟩:=I.hok p _ hp
 subst e;exact PySem.call_len_set ho hex hd hf (by omega) ⟨.int es.size,H,I.tok _,⟨s.toks+1,rfl⟩,q⟩
theorem ow{ns:List Int}(h:ns.Nodup):(firstMet (fun i=>ns.getD i 0) ns.length).length=ns.length:=by
 have e:(bH ns.length).map (fun i=>ns.getD i 0)=ns:=by
  apply d7;intro i;rw[au]
  by_cases hi:i<ns.length
  ·rw[gB hi];simp[hi]
  ·rw[bF (by rw[cK];omega),bF (by omega)];rfl
 unfold firstMet;rw[e];have key:∀(r:List Int) (acc:List Int),(∀x∈r,x∉acc) ->r.Nodup ->(r.foldl step_dedup acc).length=acc.length+r.length:=by
  intro r
  induction r with
  |nil=>intro acc _ _;rfl
  |cons x r ih=>
   intro acc h1 h2;rw[bf] at h2;have hx:acc.any (· ==x)=false:=by
    rw[fF];intro y hy e;have:y=x:=by simpa using e
    subst this;exact h1 y (by simp) hy
   rw[ic];have es:step_dedup acc x=acc++[x]:=by
    unfold step_dedup;rw[hx];rfl
   rw[es,ih (acc++[x]) ?_ h2.2,aq,aV]
   ·simp only[aV,bu];omega
   ·intro y hy hm;rcases aT.mp hm with q|q
    ·exact h1 y (by simp[hy]) q
    ·rw[bA] at q;subst q;exact h2.1 hy
 have:=key ns [] (by simp) h
 simpa using this
noncomputable def Ah:V ->List V ->Hp ->VK ->Prop:=fun x vs H Q=>match x,vs with
 | .ref l,[]=>kY (lJ (H l)) fun _=>Q .non (upd H l (.lst []))
 |_,_=>False
variable {o:Expr} {to:TE} {apos cpos:Pos}
theorem zM:MtM X "list.clear" Ah:=by
 intro pins s σ H x vs v us Q I rx rv h;unfold Ah at h;split at h
 ·rename_i l
  obtain⟨xs,e,q⟩:=ja h
  exact xn pins s σ H _ _ v us Q I rx rv ⟨l,xs,rfl,rfl,jH e,q⟩
 ·exact h.elim
theorem zx(ho:PE X o to)(hbase:attributeBase o "clear" X.env (eval o X.env)=eval o X.env:=by rfl)(hline:(apos.endLine==cpos.line)=true:=by rfl):PE X (.Call (.Attribute o "clear" apos) [] [] cpos) (Au Ah to):=by
 intro pins s σ H Q I h;refine yx cJ PySem.F.slot_list_clear PySem.F.type_list_clear zM ho.up hbase hline pins s σ H Q I ⟨_,h,fun x H1 q=> ?_⟩;cases x with
 |ref l=>
  obtain⟨h1,h2⟩:=q
  obtain⟨xs,e⟩:=cw.mp h1
  exact⟨.inl ⟨rfl,xs,SqL.of (jH e)⟩,h2⟩
 |_=>exact q.elim
end
end L2
namespace L2
open PySem
section
variable {g:TG} {tl:TE} {σ:St} {H:Hp} {tb:TS} {Dn:Ends} {K:ao}
theorem rm(R:VK)(h:tl σ H R)
  (hb:∀x H1,R x H1 -> ∃(a:Addr) (xs:List V),x= .ref a /\ ∃Pv:Nat ->St ->Hp ->Prop,Pv 0 σ H1 /\ (∀i σ H,i<=xs.length ->Pv i σ H ->SqT K H a xs) /\
   (∀i x σ H,xs[i]? =some x ->Pv i σ H ->g x σ H fun σ2 H2=>tb {Dn with nx:=Pv (i+1),ct:=Pv (i+1),bk:=Dn.nx} σ2 H2) /\ ∀σ H,Pv xs.length σ H ->Dn.nx σ H):yT (BE K (tUp tl)) g tb Dn σ H:=by
 refine⟨R,h,fun x H1 q=> ?_⟩;obtain⟨a,xs,rfl,Pv,h0,hl,hs,hd⟩:=hb x H1 q
 exact⟨a,rfl,⟨xs,hl 0 σ H1 (bb _) h0⟩,zZ (xs:=xs) Pv h0 hl hs hd⟩
end
end L2
namespace L2
open PySem
mutual
noncomputable def jI:PyData ->Bool
 | .int _=>true
 | .none=>true
 | .list xs=>jQ xs
 | .tuple xs=>jQ xs
 |_=>false
noncomputable def jQ:List PyData ->Bool
 |[]=>true
 |x::xs=>jI x&&jQ xs
end
mutual
theorem vS:∀(d e:PyData),jI d=true ->jI e=true ->(PyData.eqv d e=true↔d=e)
 | .int a,e,_,he=>by
  cases e<;>simp[PyData.eqv,jI] at he⊢
 | .none,e,_,he=>by
  cases e<;>simp[PyData.eqv,jI] at he⊢
 | .list xs,e,hd,he=>by
  cases e with
  |list ys=>
   simp only[jI] at hd he;simp only[PyData.eqv,PyData.list.injEq];exact mE xs ys hd he
  |_=>simp[PyData.eqv,jI] at he⊢
 | .tuple xs,e,hd,he=>by
  cases e with
  |tuple ys=>
   simp only[jI] at hd he;simp only[PyData.eqv,PyData.tuple.injEq];exact mE xs ys hd he
  |_=>simp[PyData.eqv,jI] at he⊢
 | .bool _,e,hd,_=>by simp[jI] at hd
 | .str _,e,hd,_=>by simp[jI] at hd
 | .dict _,e,hd,_=>by simp[jI] at hd
theorem mE:∀(xs ys:List PyData),jQ xs=true ->jQ ys=true ->(PyData.eqvAll xs ys=true↔xs=ys)
 |[],[],_,_=>by simp[PyData.eqvAll]
 |[],y::ys,_,_=>by simp[PyData.eqvAll]
 |x::xs,[],_,_=>by simp[PyData.eqvAll]
 |x::xs,y::ys,hx,hy=>by
  simp only[jQ,b8] at hx hy;simp only[PyData.eqvAll,b8,cA.injEq];rw[vS x y hx.1 hy.1,mE xs ys hx.2 hy.2]
end
theorem kN{α:Type}(f:α ->PyData)(h:∀a,jI (f a)=true):∀l:List α,jQ (l.map f)=true
 |[]=>rfl
 |a::l=>by
  rw[aM,jQ,h a,kN f h l];rfl
theorem vQ{d e:PyData}(hd:jI d=true)(h:d=e):PyData.eqv d e=true:=(vS d e hd (h▸hd)).mpr h
end L2
namespace L2
open PySem PySem.Spec PyProof.Rows
noncomputable def ze(K:ao):R2:=fun x y H Q=>∃d ds,Rdy K H x d /\ Rdy K H y (.list ds) /\ SeqAt.shaped d=true /\ SeqAt.shaped (.list ds)=true /\ (∀y∈ds,SeqAt.noMix y d=true) /\ Q (.bl (!decide (Spec.countIn d ds≠0))) H
theorem t9{X:Cx}{K:ao}(hK:X.K=K)(hu:X.A.units+65<cLine):OpR X (compareOp .NotIn) (ze K):=by
 subst hK;intro pins s σ H x y v u Q I rx ry h;obtain⟨d,ds,h1,h2,s1,s2,nm,q⟩:=h
 obtain⟨as,r1⟩:=h1.reads I rx
 obtain⟨bs,r2⟩:=h2.reads I ry
 exact notIn_list_dataH r2 r1 s2 s1 hu nm ⟨.bl _,H,I,rfl,q⟩
end L2
namespace L2
open PySem
section
variable {ta:TA} {g:TG} {tb:TS} {Dn:Ends} {σ:St} {H:Hp}
theorem nh(Pn:Nat ->Hp ->Prop)(ha:∀R:List V ->Hp ->Prop,(∀(n:Nat) H1,Pn n H1 ->R [.int n] H1) ->ta σ H R)
  (hb:∀n H1,Pn n H1 ->n<1000000 /\ ∃Pv:Nat ->St ->Hp ->Prop,Pv 0 σ H1 /\ (∀i σ H,i<n ->Pv i σ H ->g (.int (0+(i:Int))) σ H fun σ2 H2=>tb {Dn with nx:=Pv (i+1),ct:=Pv (i+1),bk:=Dn.nx} σ2 H2) /\ ∀σ H,Pv n σ H ->Dn.nx σ H):yT (xE ta) g tb Dn σ H:=
 ha _ fun n H1 hn=>by
  obtain⟨h1,Pv,h0,hs,hd⟩:=hb n H1 hn
  exact⟨n,rfl,by omega,by omega,qQ (lo:=0) (n:=(n:Int).toNat) Pv h0 (fun i σ H hi p=>hs i σ H (by simpa using hi) p) (fun σ H p=>hd σ H (by simpa using p))⟩
end
end L2
namespace L2
open PySem
theorem lY{X:Cx}{a b:Expr}{p:Pos}{es:List Expr}{te:TE}{t:TA}(ha:PE X (.Subscript a b p) te)(hr:PA X es t):PA X (.Subscript a b p::es) (tX te t):=iI ha hr rfl
end L2
namespace L2
open PySem PySem.Spec PyProof.Rows
section
variable {X:Cx} {a b:Expr} {ta tb:TE} {pos:Pos}
noncomputable def AB(i:Nat):TE:=fun σ H Q=>match σ[i]? with
 |some (some v)=>Q v H
 |_=>False
theorem pvF(i:Nat){x:Str}(hN:X.N[i]? =some x:=by rfl)(hv:Vis X.env.scope x:=by first|exact aQ rfl|exact gF (aQ rfl)|exact gF (gF rfl))(hd:(x==("__debug__":Str))=false:=by decide)
  (hcd:(x==("__classdict__":Str))=false:=by decide):PE X (.Name x pos) (AB i):=by
 intro pins s σ H Q I h;refine pv i hN hv hd hcd pins s σ H Q I ?_;unfold AB at h;split at h
 ·exact⟨_,‹_›,h⟩
 ·exact h.elim
noncomputable def fI(C:Int ->Int ->Prop)(g:Int ->Int ->V):R2:=fun x y H Q=>match x,y with
 | .int i,.int j=>C i j /\ Q (g i j) H
 |_,_=>False
noncomputable def fI0(g:Int ->Int ->V):R2:=fun x y H Q=>match x,y with
 | .int i,.int j=>Q (g i j) H
 |_,_=>False
noncomputable def fU(g:Int ->V):V ->Hp ->VK ->Prop:=fun x H Q=>match x with
 | .int i=>Q (g i) H
 |_=>False
theorem OpR.f{F:Value ->Value ->Sem Value}{C:Int ->Int ->Prop}{g:Int ->Int ->V}(h:OpR X F (rI C g)):OpR X F (fI C g):=by
 intro pins s σ H x y v u Q I r1 r2 q;refine h pins s σ H x y v u Q I r1 r2 ?_;unfold fI at q;split at q
 ·exact⟨_,_,rfl,rfl,q.1,q.2⟩
 ·exact q.elim
theorem OpR.f0{F:Value ->Value ->Sem Value}{g:Int ->Int ->V}(h:OpR X F (rI0 g)):OpR X F (fI0 g):=by
 intro pins s σ H x y v u Q I r1 r2 q;refine h pins s σ H x y v u Q I r1 r2 ?_;unfold fI0 at q;split at q
 ·exact⟨_,_,rfl,rfl,q⟩
 ·exact q.elim
theorem UnR.f{F:Value ->Sem Value}{g:Int ->V}(h:UnR X F (rU g)):UnR X F (fU g):=by
 intro pins s σ H x v Q I r1 q;refine h pins s σ H x v Q I r1 ?_;unfold fU at q;split at q
 ·exact⟨_,rfl,q⟩
 ·exact q.elim
noncomputable def fEq:R2:=fun x y H Q=>match x,y with
 | .int i,.int j=>Q (.bl (decide (i=j))) H
 |_,_=>rEq x y H Q
theorem OpR.e{F:Value ->Value ->Sem Value}(h:OpR X F rEq):OpR X F fEq:=by
 intro pins s σ H x y v u Q I r1 r2 q;refine h pins s σ H x y v u Q I r1 r2 ?_;unfold fEq at q;split at q
 ·refine⟨rfl,?_⟩
  simpa only[V.int.injEq] using q
 ·exact q
theorem jD:OpR X (compareOp .Eq) (fI0 fun i j=> .bl (decide (i=j))):=OpR.f0 (Aw fun _ _ _ _ _ _ _ q=>eq_int q)
theorem lZ:OpR X (compareOp .NotEq) (fI0 fun i j=> .bl (!decide (i=j))):=OpR.f0 (Aw fun _ _ _ _ _ _ _ q=>ne_int q)
noncomputable def uj(t:TE):TT:=fun σ H Q=>t σ H fun x H'=>match x with
 | .bl k=>Q k H'
 |_=>False
theorem iT{op:CmpOp}{r:R2}(ho:OpR X (compareOp op) r)(ha:PE X a ta)(hb:PE X b tb)(hm:behindInMarks op b=false):PT X (.Compare a [op] [b] pos) (uj (tOp r ta tb)):=by
 intro pins s σ H Q I h;refine wpAny_isTrue_Compare1 (thn (ha pins s σ H _ I h) fun v s1 ⟨x,H1,I1,r1,q1⟩=>thn (hb pins s1 σ H1 _ I1 q1) fun u s2 ⟨y,H2,I2,r2,q2⟩=>
  thn (ho pins s2 σ H2 x y v u _ I2 r1 r2 q2) fun c s3 ⟨z,H3,I3,r3,q3⟩=> ?_) hm
 dsimp only at q3;split at q3
 ·cases r3;exact wpAny_truthy_bool ⟨H3,I3,q3⟩
 ·exact q3.elim
noncomputable def uk(t:TG)(u:TGs):TGs:=fun vs σ H Q=>match vs with
 |v::r=>t v σ H fun σ' H'=>u r σ' H' Q
 |[]=>False
noncomputable def AC:TGs:=fun vs σ H Q=>match vs with
 |[]=>Q σ H
 |_=>False
theorem jh:PGs X [] AC:=by
 intro pins s σ H vs us Q I r h;refine zp pins s σ H vs us Q I r ?_;unfold AC at h;split at h
 ·exact⟨rfl,h⟩
 ·exact h.elim
theorem iP{e:Expr}{es:List Expr}{t:TG}{u:TGs}(h1:PG X e t)(h2:PGs X es u)
  (hs:(assignEach (e::es) X.env).map (·.2)=assign e X.env::(assignEach es X.env).map (·.2):=by rfl):PGs X (e::es) (uk t u):=by
 intro pins s σ H vs us Q I r h;refine xh h1 h2 hs pins s σ H vs us Q I r ?_;unfold uk at h;split at h
 ·exact⟨_,_,rfl,h⟩
 ·exact h.elim
theorem jP{e:Expr}{t:TE}(h:PE X e t)(he:∀whole,isTrue e X.env whole=(do let v<-whole;standAt e.pos;holding [v] (truthy v)):=by intro _;rfl):PT X e (uj t):=by
 intro pins s σ H Q I hw;refine isTrue_plain (thn (h pins s σ H _ I hw) fun v s1 ⟨x,H1,I1,r1,q1⟩=> ?_) (he _);dsimp only at q1;split at q1
 ·cases r1;exact wpAny_truthy_bool ⟨H1,I1,q1⟩
 ·exact q1.elim
end
end L2
namespace L2
open PySem PySem.Spec PyProof.Rows
noncomputable def nH:V ->List V ->Hp ->VK ->Prop:=fun x vs H Q=>match x,vs with
 | .ref l,[.int i]=>kY (lJ (H l)) fun xs=>xs.length<1000000 /\ kY (ixN xs.length i) fun k=>kY (xs[k]?) fun y=>Q y (upd H l (.lst (xs.eraseIdx k)))
 |_,_=>False
noncomputable def zd:V ->List V ->Hp ->VK ->Prop:=fun x vs H Q=>match x,vs with
 | .ref l,[]=>kY (lJ (H l)) fun xs=>Q .non (upd H l (.lst xs.reverse))
 |_,_=>False
noncomputable def p7(n:Nat)(i:Int):Nat:=if i<0 then(i+(n:Int)).toNat else min i.toNat n
noncomputable def zX:V ->List V ->Hp ->VK ->Prop:=fun x vs H Q=>match x,vs with
 | .ref l,[.int i,y]=>kY (lJ (H l)) fun xs=>xs.length<1000000 /\ (-(2^63)<=i /\ i<2^63) /\ Q .non (upd H l (.lst (xs.take (p7 xs.length i)++[y]++xs.drop (p7 xs.length i))))
 |_,_=>False
section
variable {X:Cx}
theorem vm:MtM X "list.pop" nH:=by
 intro pins s σ H x vs v us Q I rx rv h;unfold nH at h;split at h
 ·rename_i l i
  obtain⟨xs,e,hl,h⟩:=ja h
  obtain⟨k,e1,h⟩:=ja h
  obtain⟨y,e2,q⟩:=ja h
  obtain⟨h1,h2,h3,h4⟩:=vI e1
  exact xm pins s σ H _ _ v us Q I rx rv ⟨l,xs,i,k,y,rfl,rfl,jH e,by omega,by omega,h1,e2,q⟩
 ·exact h.elim
theorem zK:MtM X "list.reverse" zd:=by
 intro pins s σ H x vs v us Q I rx rv h;unfold zd at h;split at h
 ·rename_i l
  obtain⟨xs,e,q⟩:=ja h
  exact ud pins s σ H _ _ v us Q I rx rv ⟨l,xs,rfl,rfl,jH e,q⟩
 ·exact h.elim
theorem zL:MtM X "list.insert" zX:=by
 intro pins s σ H x vs v us Q I rx rv h;unfold zX at h;split at h
 ·rename_i l i y
  obtain⟨xs,e,hl,⟨hi1,hi2⟩,q⟩:=ja h
  replace e:=jH e
  cases rx;obtain⟨u,w,rfl,ru,rw'⟩:=rv.two
  obtain⟨t,rfl⟩:=ru
  obtain⟨z,its,n,r,hl',e'⟩:=I.lstM e
  have hz:its.toArray.size<=sizeLine:=by rw[aA];omega
  refine call_meets F.slot_list_insert ⟨_,e',rfl⟩ F.entry_list_insert (F.args_list_insert_3 _ _ _) (fS l its.toArray n i t w (by simp[fitsIndex_both hi1 hi2]) hz) ⟨e',?_⟩;refine⟨.non,upd H l (.lst (xs.take (p7 xs.length i)++[y]++xs.drop (p7 xs.length i))),I.lset (its':=its.take (p7 its.length i)++[w]++its.drop (p7 its.length i)) e e' ?_ ?_ ?_,rfl,?_⟩
  ·show(its.toArray.extract 0 (if i<0 then(i+(its.toArray.size:Int)).toNat else min i.toNat its.toArray.size)).push w++its.toArray.extract (if i<0 then(i+(its.toArray.size:Int)).toNat else min i.toNat its.toArray.size)=_
   rw[aA];unfold p7;generalize(if i<0 then(i+(its.length:Int)).toNat else min i.toNat its.length)=k;simp[List.extract_eq_take_drop];exact cN (by rw[aI];exact ax _)
  ·rw[<-hl'];exact((r.take _).append (.cons rw' .nil)).append (r.drop _)
  ·simp only[aq,aF,aI,fZ];have:1000000+1<=sizeLine:=by decide
   omega
  ·exact q
 ·exact h.elim
variable {o e f:Expr} {to:TE} {t:TA} {apos cpos:Pos}
theorem zt(ho:PE X o to)(ha:PA X [e] t)
  (hbase:attributeBase o "pop" X.env (eval o X.env)=eval o X.env:=by rfl)
  (hfew:((backTo cpos (starEach [e] X.env)).all (fun x=> !x.1)&&(backToKw cpos (keywordEach [] X.env)).all (fun x=>x.1.isSome)
   &&decide ([e].length+([]:List Keyword).length+(if([]:List Keyword).isEmpty then 0 else 1)<30))=true:=by rfl)
  (hline:(apos.endLine==cpos.line)=true:=by rfl) (hs:starEach [e] X.env=(false,eval e X.env)::starEach [] X.env:=by rfl) (hplain:(backTo cpos (starEach [] X.env)).any (·.1)=false:=by rfl):
  PE X (.Call (.Attribute o "pop" apos) [e] [] cpos) (tML nH to t):=by
 intro pins s σ H Q I h;refine zA cJ PySem.F.slot_list_pop PySem.F.type_list_pop vm ho.up ha hbase hfew hline hs hplain pins s σ H Q I ⟨_,h,fun x H1 q=> ?_⟩;cases x with
 |ref l=>
  obtain⟨h1,h2⟩:=q
  obtain⟨xs,e⟩:=cw.mp h1
  exact⟨.inl ⟨rfl,xs,SqL.of (jH e)⟩,h2⟩
 |_=>exact q.elim
theorem zu(ho:PE X o to)(ha:PA X [e,f] t)
  (hbase:attributeBase o "insert" X.env (eval o X.env)=eval o X.env:=by rfl)
  (hfew:((backTo cpos (starEach [e,f] X.env)).all (fun x=> !x.1)&&(backToKw cpos (keywordEach [] X.env)).all (fun x=>x.1.isSome)
   &&decide ([e,f].length+([]:List Keyword).length+(if([]:List Keyword).isEmpty then 0 else 1)<30))=true:=by rfl)
  (hline:(apos.endLine==cpos.line)=true:=by rfl) (hs:starEach [e,f] X.env=(false,eval e X.env)::starEach [f] X.env:=by rfl) (hplain:(backTo cpos (starEach [f] X.env)).any (·.1)=false:=by rfl):
  PE X (.Call (.Attribute o "insert" apos) [e,f] [] cpos) (tML zX to t):=by
 intro pins s σ H Q I h;refine zA cJ PySem.F.slot_list_insert PySem.F.type_list_insert zL ho.up ha hbase hfew hline hs hplain pins s σ H Q I ⟨_,h,fun x H1 q=> ?_⟩;cases x with
 |ref l=>
  obtain⟨h1,h2⟩:=q
  obtain⟨xs,e⟩:=cw.mp h1
  exact⟨.inl ⟨rfl,xs,SqL.of (jH e)⟩,h2⟩
 |_=>exact q.elim
theorem zr(ho:PE X o to)(hbase:attributeBase o "reverse" X.env (eval o X.env)=eval o X.env:=by rfl)(hline:(apos.endLine==cpos.line)=true:=by rfl):PE X (.Call (.Attribute o "reverse" apos) [] [] cpos) (Au zd to):=by
 intro pins s σ H Q I h;refine yx cJ PySem.F.slot_list_reverse PySem.F.type_list_reverse zK ho.up hbase hline pins s σ H Q I ⟨_,h,fun x H1 q=> ?_⟩;cases x with
 |ref l=>
  obtain⟨h1,h2⟩:=q
  obtain⟨xs,e⟩:=cw.mp h1
  exact⟨.inl ⟨rfl,xs,SqL.of (jH e)⟩,h2⟩
 |_=>exact q.elim
end
end L2
namespace L2
open PySem PySem.Spec PyProof.Rows
noncomputable def qq(f:Addr)(tn:TE)(sp:Sp)(E:XK)(t:TA):TE:=fun σ H Q=>tn σ H fun v H'=>v= .ref f /\ t σ H' fun vs H1=>sp vs H1 Q E
section
variable {X:Cx} {CX:CXT} {k:Nat} {ps:List Str} {sp:Sp} {E:XK} {x x0:Str} {p pos:Pos} {e:Expr} {es:List Expr} {t:TA} {tn:TE}
theorem Bk{f:Addr}(F:FnB X.prog X.w X.K X.mg X.base CX k x0 ps sp)(hm0:X.mg x0=some (.ref f))(hr:Room k X.A)(hn:PE X (.Name x p) tn)(hx:rh CX X E)
  (ha:PA X (e::es) t) (he:starEach (e::es) X.env=(false,eval e X.env)::starEach es X.env:=by rfl) (hpl:(backTo pos (starEach es X.env)).any (·.1)=false:=by rfl):
  PE X (.Call (.Name x p) (e::es) [] pos) (qq f tn sp E t):=by
 obtain⟨f',fd,F1,hm,hk,hb⟩:=F.ex
 have ef:f'=f:=by
  rw[hm0] at hm;cases hm;rfl
 subst ef;intro pins s σ H Q I h;refine wpAny_Call_Name_kw (thn (hn pins s σ H _ I h) fun u s0 z=> ?_);obtain⟨v,H0,I0,r0,ev,h2⟩:=z
 subst ev;cases r0;have ha2:=ha pos pins s0 σ H0 _ I0 h2
 refine gD (h₀:=X.base) I0.ok.mod.kin hk (thn ha2 fun us s1 z=> ?_) he hpl;obtain⟨vs,H1,I1,r,q⟩:=z
 refine⟨I1.kIn,?_⟩;have hl:us.length=ps.length:=by
  rw[<-r.length];exact F1.len _ _ _ _ q
 have hb2:=hb s1 us I1.kIn (by rw[aL];exact hl)
 rw[aL] at hb2;have run:=F1.run X.A X.stack s1 H1 ⟨us,[]⟩ us vs Q E hr I1.env0 hb2 r q
 refine wpAny_call (codeAny_mono run fun r' s' hq=> ?_)
 match r',hq with
 | .error ev,hq=>exact hx pins σ H1 s1 ev s' I1 hq
 | .ok (.ret u),hq=>exact I1.after hq
 | .ok .next,hq=>exact False.elim hq
 | .ok .brk,hq=>exact False.elim hq
 | .ok .cont,hq=>exact False.elim hq
end
end L2
namespace L2
open PySem PySem.Spec PyProof.Rows
noncomputable abbrev jz(h:Heap)(T:Addr)(a b c:Value):Prop:=h.get? T=some {cls:= .type "tuple",data:= .seq #[a,b,c]}
structure ZipApart3(z TI TO i1 i2 i3 l1 l2 l3:Addr):Prop where
 TIz:TI≠z
 TOz:TO≠z
 TITO:TI≠TO
 i1z:i1≠z
 i2z:i2≠z
 i3z:i3≠z
 TIi1:TI≠i1
 TIi2:TI≠i2
 TIi3:TI≠i3
 TOi1:TO≠i1
 TOi2:TO≠i2
 TOi3:TO≠i3
 i12:i1≠i2
 i13:i1≠i3
 i23:i2≠i3
 l1z:l1≠z
 l1TO:l1≠TO
 l1i1:l1≠i1
 l1i2:l1≠i2
 l1i3:l1≠i3
 l2z:l2≠z
 l2TO:l2≠TO
 l2i1:l2≠i1
 l2i2:l2≠i2
 l2i3:l2≠i3
 l3z:l3≠z
 l3TO:l3≠TO
 l3i1:l3≠i1
 l3i2:l3≠i2
 l3i3:l3≠i3
theorem ox{n l1 l2 l3:Nat}(h1:l1<n)(h2:l2<n)(h3:l3<n):ZipApart3 (n+5) (n+3) (n+4) n (n+1) (n+2) l1 l2 l3:=by
 constructor<;>(first|(intro h;have h:(_:Nat)=_:=h;omega)|(show(_:Nat)≠_;omega))
section
variable {prog:Program} {w:World} {A:Around} {E:Value ->Shared ->Prop} {s:Shared}
theorem oV{T:Addr}{a b c x:Value}{k:Nat}{Q:Unit ->Shared ->Prop}(hT:jz s.heap T a b c)
  (h:∀h',h'.get? T=some {cls:= .type "tuple",data:= .seq ((#[a,b,c]:Array Value).setIfInBounds k x)} ->Heap.SameBut T s.heap h' ->Q () {s with heap:=h'}):
  wpAny (model prog w) A (updateSeq T (·.setIfInBounds k x)) Q E s:=by
 refine wpAny_updateSeq hT rfl (h _ ?_ (Heap.SameBut.update ..));rw[Heap.get?_update_self _ hT rfl];simp[Obj.mapSeq]
theorem n8{z TI TO i1 i2 i3 l1 l2 l3:Addr}{k:Nat}{xs1 xs2 xs3:Array Value}{x1 x2 x3 a b c:Value}{Q:Value ->Shared ->Prop}(D:ZipApart3 z TI TO i1 i2 i3 l1 l2 l3)
  (hz:IsZip s.heap z TI TO .none) (hTI:jz s.heap TI (.ref i1) (.ref i2) (.ref i3)) (hTO:jz s.heap TO a b c)
  (h1:s.heap.IsListIter i1 l1 k) (h2:s.heap.IsListIter i2 l2 k) (h3:s.heap.IsListIter i3 l3 k) (hl1:s.heap.IsList l1 xs1) (hl2:s.heap.IsList l2 xs2) (hl3:s.heap.IsList l3 xs3) (hx1:xs1[k]? =some x1) (hx2:xs2[k]? =some x2) (hx3:xs3[k]? =some x3)
  (hQ:∀h',IsZip h' z TI TO (rawInt s.heap.objs.size) ->jz h' TO x1 x2 x3 ->h'.IsListIter i1 l1 (k+1) ->h'.IsListIter i2 l2 (k+1) ->h'.IsListIter i3 l3 (k+1) ->jz h' s.heap.objs.size x1 x2 x3 ->h'.objs.size=s.heap.objs.size+1 ->(∀c o,c≠z ->c≠TO ->c≠i1 ->c≠i2 ->c≠i3 ->s.heap.get? c=some o ->h'.get? c=some o) ->Q (.ref s.heap.objs.size) {s with heap:=h'}):
  wpAny (model prog w) A (Builtin.«zip.__next__» ⟨[.ref z],[]⟩) (fun fin s'=>∃v,fin= .done (.ret v) /\ Q v s') E s:=by
 show wpAny _ _ (field (.ref z) 2>>=_) _ _ _
 refine wpAny_bind (wpAny_field hz rfl (x:= .bool false) rfl ?_);show wpAny _ _ (field (.ref z) 3>>=_) _ _ _
 refine wpAny_bind (wpAny_field hz rfl (x:= .ref TI) rfl ?_);refine wpAny_bind (wpAny_seqItems hTI rfl ?_);show wpAny _ _ (Builtin.SmallTypes.ownedTupleIsFree (.ref z)>>=_) _ _ _
 refine wpAny_bind ?_;unfold Builtin.SmallTypes.ownedTupleIsFree;refine wpAny_bind (wpAny_field hz rfl (x:= .none) rfl (wpAny_pure ?_));simp only[if_true];refine wpAny_bind (wpAny_rule ?_);refine wpAny_bind (wpAny_field hz rfl (x:= .ref TO) rfl ?_);refine wpAny_bind (wpAny_setField_rec hz (by simp) fun g1 hz1 hs1=> ?_);replace hz1:IsZip g1 z TI TO .ellipsis:=hz1
 refine wpAny_bind ?_;simp only[gV,ie,fg,iw];refine wpAny_bind (wpAny_bind (wpAny_onRaise ?_));show wpAny _ _ (Builtin.SmallTypes.nextOf (.ref i1)>>=_) _ _ _
 refine wpAny_bind (wpAny_nextOf_list_item (h1.extBut hs1.extBut D.i1z) (hl1.extBut hs1.extBut D.l1z) hx1 fun g2 hi1 hs2=>wpAny_pure ?_);have hTO2:jz g2 TO a b c:=(hs2.extBut _ _ D.TOi1 (hs1.extBut _ _ D.TOz hTO))
 refine wpAny_bind (wpAny_seqItems hTO2 rfl ?_);refine wpAny_bind (oV hTO2 fun g3 hTO3 hs3=> ?_);replace hTO3:jz g3 TO x1 b c:=hTO3
 refine wpAny_bind (wpAny_letGo (wpAny_pure ?_));refine wpAny_bind (wpAny_bind (wpAny_onRaise ?_));show wpAny _ _ (Builtin.SmallTypes.nextOf (.ref i2)>>=_) _ _ _
 refine wpAny_bind (wpAny_nextOf_list_item (((h2.extBut hs1.extBut D.i2z).extBut hs2.extBut D.i12.symm).extBut hs3.extBut D.TOi2.symm) (((hl2.extBut hs1.extBut D.l2z).extBut hs2.extBut D.l2i1).extBut hs3.extBut D.l2TO) hx2 fun g4 hi2 hs4=>wpAny_pure ?_);have hTO4:jz g4 TO x1 b c:=(hs4.extBut _ _ D.TOi2 hTO3)
 refine wpAny_bind (wpAny_seqItems hTO4 rfl ?_);refine wpAny_bind (oV hTO4 fun g5 hTO5 hs5=> ?_);replace hTO5:jz g5 TO x1 x2 c:=hTO5
 refine wpAny_bind (wpAny_letGo (wpAny_pure ?_));refine wpAny_bind (wpAny_bind (wpAny_onRaise ?_));show wpAny _ _ (Builtin.SmallTypes.nextOf (.ref i3)>>=_) _ _ _
 refine wpAny_bind (wpAny_nextOf_list_item (((((h3.extBut hs1.extBut D.i3z).extBut hs2.extBut D.i13.symm).extBut hs3.extBut D.TOi3.symm).extBut hs4.extBut D.i23.symm).extBut hs5.extBut D.TOi3.symm) (((((hl3.extBut hs1.extBut D.l3z).extBut hs2.extBut D.l3i1).extBut hs3.extBut D.l3TO).extBut hs4.extBut D.l3i2).extBut hs5.extBut D.l3TO) hx3 fun g6 hi3 hs6=>wpAny_pure ?_);have hTO6:jz g6 TO x1 x2 c:=(hs6.extBut _ _ D.TOi3 hTO5)
 refine wpAny_bind (wpAny_seqItems hTO6 rfl ?_);refine wpAny_bind (oV hTO6 fun g7 hTO7 hs7=> ?_);replace hTO7:jz g7 TO x1 x2 x3:=hTO7
 refine wpAny_bind (wpAny_letGo (wpAny_pure (wpAny_pure ?_)));refine wpAny_bind (wpAny_seqItems hTO7 rfl ?_);refine wpAny_bind (wpAny_newTuple ?_);have hsz:g7.objs.size=s.heap.objs.size:=by rw[hs7.1,hs6.1,hs5.1,hs4.1,hs3.1,hs2.1,hs1.1]
 have hz7:IsZip g7 z TI TO .ellipsis:=(hs7.extBut _ _ D.TOz.symm (hs6.extBut _ _ D.i3z.symm (hs5.extBut _ _ D.TOz.symm (hs4.extBut _ _ D.i2z.symm (hs3.extBut _ _ D.TOz.symm (hs2.extBut _ _ D.i1z.symm hz1))))))
 have hk7:∀c o,c≠z ->c≠TO ->c≠i1 ->c≠i2 ->c≠i3 ->s.heap.get? c=some o ->g7.get? c=some o:=fun c o c1 c2 c3 c4 c5 e=>(hs7.extBut _ _ c2 (hs6.extBut _ _ c5 (hs5.extBut _ _ c2 (hs4.extBut _ _ c4 (hs3.extBut _ _ c2 (hs2.extBut _ _ c3 (hs1.extBut _ _ c1 e)))))))
 have h17:g7.IsListIter i1 l1 (k+1):=(((((hi1.extBut hs3.extBut D.TOi1.symm).extBut hs4.extBut D.i12).extBut hs5.extBut D.TOi1.symm).extBut hs6.extBut D.i13).extBut hs7.extBut D.TOi1.symm)
 have h27:g7.IsListIter i2 l2 (k+1):=(((hi2.extBut hs5.extBut D.TOi2.symm).extBut hs6.extBut D.i23).extBut hs7.extBut D.TOi2.symm)
 have h37:g7.IsListIter i3 l3 (k+1):=(hi3.extBut hs7.extBut D.TOi3.symm)
 have hzlt:z<g7.objs.size:=Heap.lt_size hz7
 show wpAny _ _ (Builtin.SmallTypes.ownedTupleHandOut (.ref z) (.ref g7.objs.size)>>=_) _ _ _
 refine wpAny_bind ?_;unfold Builtin.SmallTypes.ownedTupleHandOut;have hz8:IsZip (g7.push {cls:= .type "tuple",data:= .seq #[x1,x2,x3]}) z TI TO .ellipsis:=Heap.get?_push_of_some _ hz7
 refine wpAny_bind (wpAny_setField_rec hz8 (by simp) fun g9 hz9 hs9=> ?_);replace hz9:IsZip g9 z TI TO (rawInt g7.objs.size):=hz9
 refine wpAny_setField_rec hz9 (by simp) fun g10 hz10 hs10=> ?_
 replace hz10:IsZip g10 z TI TO (rawInt g7.objs.size):=hz10
 have up:∀c o,c≠z ->g7.get? c=some o ->g10.get? c=some o:=fun c o c1 e=>hs10.extBut _ _ c1 (hs9.extBut _ _ c1 (Heap.get?_push_of_some _ e))
 have hT10:jz g10 g7.objs.size x1 x2 x3:=hs10.extBut _ _ (dN hzlt) (hs9.extBut _ _ (dN hzlt) (Heap.get?_push_size _ rfl))
 have hsz10:g10.objs.size=g7.objs.size+1:=by rw[hs10.1,hs9.1,Heap.size_push]
 rw[hsz] at hz10 hT10 hsz10;refine wpAny_pure ⟨_,rfl,?_⟩;show Q (.ref g7.objs.size) _
 rw[hsz];exact hQ g10 hz10 (up _ _ D.TOz hTO7) (h17.at fun o e=>up _ o D.i1z e) (h27.at fun o e=>up _ o D.i2z e) (h37.at fun o e=>up _ o D.i3z e) hT10 hsz10 fun c o c1 c2 c3 c4 c5 e=>up c o c1 (hk7 c o c1 c2 c3 c4 c5 e)
theorem oS{z TI TO i1 i2 i3 l1 l2 l3:Addr}{k:Nat}{xs1:Array Value}{a b c:Value}{Q:Fin ->Shared ->Prop}(hh:A.handled=none)(D:ZipApart3 z TI TO i1 i2 i3 l1 l2 l3)
  (hz:IsZip s.heap z TI TO .none) (hTI:jz s.heap TI (.ref i1) (.ref i2) (.ref i3)) (hTO:jz s.heap TO a b c)
  (h1:s.heap.IsListIter i1 l1 k) (hl1:s.heap.IsList l1 xs1) (hend:xs1[k]? =none)
  (hE:∀h' e,(∀c o,c≠z ->c≠TO ->c≠i1 ->c≠i2 ->c≠i3 ->s.heap.get? c=some o ->h'.get? c=some o) ->(∃o,h'.get? e=some o /\ o.cls= .type "StopIteration") ->E (.ref e) {s with heap:=h'}):
  wpAny (model prog w) A (Builtin.«zip.__next__» ⟨[.ref z],[]⟩) Q E s:=by
 show wpAny _ _ (field (.ref z) 2>>=_) _ _ _
 refine wpAny_bind (wpAny_field hz rfl (x:= .bool false) rfl ?_);show wpAny _ _ (field (.ref z) 3>>=_) _ _ _
 refine wpAny_bind (wpAny_field hz rfl (x:= .ref TI) rfl ?_);refine wpAny_bind (wpAny_seqItems hTI rfl ?_);show wpAny _ _ (Builtin.SmallTypes.ownedTupleIsFree (.ref z)>>=_) _ _ _
 refine wpAny_bind ?_;unfold Builtin.SmallTypes.ownedTupleIsFree;refine wpAny_bind (wpAny_field hz rfl (x:= .none) rfl (wpAny_pure ?_));simp only[if_true];refine wpAny_bind (wpAny_rule ?_);refine wpAny_bind (wpAny_field hz rfl (x:= .ref TO) rfl ?_);refine wpAny_bind (wpAny_setField_rec hz (by simp) fun g1 hz1 hs1=> ?_);replace hz1:IsZip g1 z TI TO .ellipsis:=hz1
 refine wpAny_bind ?_;simp only[gV,ie,fg,iw];refine wpAny_bind (wpAny_bind (wpAny_onRaise ?_));show wpAny _ _ (Builtin.SmallTypes.nextOf (.ref i1)>>=_) _ _ _
 refine wpAny_bind (wpAny_nextOf_list_end hh (h1.extBut hs1.extBut D.i1z) (hl1.extBut hs1.extBut D.l1z) hend fun g2 e hs2 he=> ?_);obtain⟨oe,hoe,hce⟩:=he
 have hz2:IsZip g2 z TI TO .ellipsis:=hs2 _ _ D.i1z.symm hz1
 have hez:e≠z:=fun x=>by subst x;rw[hz2] at hoe;cases hoe;simp at hce
 refine wpAny_setField_rec hz2 (by simp) fun g3 _ hs3=>hE g3 e (fun c o c1 _ c3 _ _ x=>hs3.extBut _ _ c1 (hs2 _ _ c3 (hs1.extBut _ _ c1 x))) ⟨oe,hs3.extBut _ _ hez hoe,hce⟩
theorem mQ{z TI TO i1 i2 i3 l1 l2 l3:Addr}{k:Nat}{xs1 xs2 xs3:Array Value}{x1 x2 x3 a b c:Value}{Q:Option Value ->Shared ->Prop}(D:ZipApart3 z TI TO i1 i2 i3 l1 l2 l3)
  (hz:IsZip s.heap z TI TO .none) (hTI:jz s.heap TI (.ref i1) (.ref i2) (.ref i3)) (hTO:jz s.heap TO a b c)
  (h1:s.heap.IsListIter i1 l1 k) (h2:s.heap.IsListIter i2 l2 k) (h3:s.heap.IsListIter i3 l3 k) (hl1:s.heap.IsList l1 xs1) (hl2:s.heap.IsList l2 xs2) (hl3:s.heap.IsList l3 xs3) (hx1:xs1[k]? =some x1) (hx2:xs2[k]? =some x2) (hx3:xs3[k]? =some x3)
  (hQ:∀h',IsZip h' z TI TO (rawInt s.heap.objs.size) ->jz h' TO x1 x2 x3 ->h'.IsListIter i1 l1 (k+1) ->h'.IsListIter i2 l2 (k+1) ->h'.IsListIter i3 l3 (k+1) ->jz h' s.heap.objs.size x1 x2 x3 ->h'.objs.size=s.heap.objs.size+1 ->(∀c o,c≠z ->c≠TO ->c≠i1 ->c≠i2 ->c≠i3 ->s.heap.get? c=some o ->h'.get? c=some o) ->Q (some (.ref s.heap.objs.size)) {s with heap:=h'}):
  wpAny (model prog w) A (pyNext (.ref z)) Q E s:=by
 have hT:s.TypeIs (.ref z) "zip":=⟨_,hz,rfl⟩
 unfold pyNext;exact wpAny_bind (wpAny_attempt (wpAny_callSpecial?_slot (name:=Str.ofString "__next__") hT F.slot_zip_next
  (wpAny_call_entry F.slot_zip_next hT F.entry_zip_next
   (n8 D hz hTI hTO h1 h2 h3 hl1 hl2 hl3 hx1 hx2 hx3 fun h' a1 a2 a3 a4 a5 a6 a7 a8=>wpAny_pure (hQ h' a1 a2 a3 a4 a5 a6 a7 a8)) (F.args_zip_next_1 _))))
theorem nG{z TI TO i1 i2 i3 l1 l2 l3:Addr}{k:Nat}{xs1:Array Value}{a b c:Value}{Q:Option Value ->Shared ->Prop}(hh:A.handled=none)(D:ZipApart3 z TI TO i1 i2 i3 l1 l2 l3)
  (hz:IsZip s.heap z TI TO .none) (hTI:jz s.heap TI (.ref i1) (.ref i2) (.ref i3)) (hTO:jz s.heap TO a b c)
  (h1:s.heap.IsListIter i1 l1 k) (hl1:s.heap.IsList l1 xs1) (hend:xs1[k]? =none)
  (hQ:∀h',(∀c o,c≠z ->c≠TO ->c≠i1 ->c≠i2 ->c≠i3 ->s.heap.get? c=some o ->h'.get? c=some o) ->Q none {s with heap:=h'}):wpAny (model prog w) A (pyNext (.ref z)) Q E s:=by
 have hT:s.TypeIs (.ref z) "zip":=⟨_,hz,rfl⟩
 unfold pyNext;refine wpAny_bind (wpAny_attempt (wpAny_callSpecial?_slot (name:=Str.ofString "__next__") hT F.slot_zip_next
  (wpAny_call_entry F.slot_zip_next hT F.entry_zip_next (oS hh D hz hTI hTO h1 hl1 hend fun h' e hk he=> ?_) (F.args_zip_next_1 _))))
 obtain⟨o,ho,hc⟩:=he
 refine wpAny_bind (wpAny_isInstance (T:="StopIteration") (b:=true) ⟨o,ho,hc⟩ isSubtype_stop ?_);exact wpAny_pure (hQ _ hk)
end
theorem n9(a b c:Value):checkTypeCall "zip" ⟨[a,b,c],[]⟩=pure ():=by kernel_rfl
theorem pQ(a b c:Value):checkBuiltinCall "zip.__new__" ⟨[.type "zip",a,b,c],[]⟩=pure ():=by kernel_rfl
theorem mq(a b c d:Value):argsOk "object.__init__" ⟨[a,b,c,d],[]⟩:=by
 unfold argsOk;rw[signature?_of (id:="object.__init__") (n:=['_', '_', 't', 'i', 'n', 'i', '_', '_']) (o:=['t', 'c', 'e', 'j', 'b', 'o']) (by kernel_rfl) F.owner_object];kernel_rfl
noncomputable abbrev wA(h:Heap)(l1:Addr):Heap:=h.push {cls:= .type "list_iterator",data:= .fields #[.ref l1,.int 0 0]}
noncomputable abbrev wz(h:Heap)(l1 l2:Addr):Heap:=(wA h l1).push {cls:= .type "list_iterator",data:= .fields #[.ref l2,.int 0 0]}
noncomputable abbrev wy(h:Heap)(l1 l2 l3:Addr):Heap:=(wz h l1 l2).push {cls:= .type "list_iterator",data:= .fields #[.ref l3,.int 0 0]}
noncomputable abbrev wx(h:Heap)(l1 l2 l3:Addr):Heap:=(wy h l1 l2 l3).push {cls:= .type "tuple",data:= .seq #[.ref h.objs.size,.ref (wA h l1).objs.size,.ref (wz h l1 l2).objs.size]}
noncomputable abbrev ww(h:Heap)(l1 l2 l3:Addr):Heap:=(wx h l1 l2 l3).push {cls:= .type "tuple",data:= .seq #[.none,.none,.none]}
noncomputable abbrev qh(h:Heap)(l1 l2 l3:Addr):Heap:=(ww h l1 l2 l3).push {cls:= .type "zip",data:= .fields #[.none,.bool false,.bool false,.ref (wy h l1 l2 l3).objs.size,.ref (wx h l1 l2 l3).objs.size]}
set_option maxHeartbeats 4000000 in
theorem ol(l1 l2 l3:Addr)(xs ys zs:Array Value):
  Meets (Builtin.«zip.__new__» ⟨[.type "zip",.ref l1,.ref l2,.ref l3],[]⟩) (fun _ R s=>s.heap.IsList l1 xs /\ s.heap.IsList l2 ys /\ s.heap.IsList l3 zs /\
   R (.ok (.ret (.ref (ww s.heap l1 l2 l3).objs.size))) {s with heap:=qh s.heap l1 l2 l3}):=
 .of_wp fun prog w A R s h=>by
  obtain⟨hp,g,d,tk,os⟩:=s;obtain⟨hl1,hl2,hl3,h⟩:=h
  have hsub:=sub_zip
  have hL1:Heap.IsList (Shared.heap ⟨hp,g,d,tk,os⟩) l1 xs:=hl1
  have hL2:Heap.IsList (Shared.heap ⟨hp.push {cls:= .type "list_iterator",data:= .fields #[.ref l1,.int 0 0]},g,d,tk,os⟩) l2 ys:=Heap.IsList.push hl2 _
  have hL3:Heap.IsList (Shared.heap ⟨(hp.push {cls:= .type "list_iterator",data:= .fields #[.ref l1,.int 0 0]}).push {cls:= .type "list_iterator",data:= .fields #[.ref l2,.int 0 0]},g,d,tk,os⟩) l3 zs:=Heap.IsList.push (Heap.IsList.push hl3 _) _
  wp_walk using wpAny_pyIter_list hL1,wpAny_pyIter_list hL2,wpAny_pyIter_list hL3
  exact⟨_,rfl,h⟩
section
variable {prog:Program} {w:World} {A:Around} {E:Value ->Shared ->Prop} {s:Shared}
theorem uq{l1 l2 l3:Addr}{xs ys zs:Array Value}{Q:Value ->Shared ->Prop}(hl1:s.heap.IsList l1 xs)(hl2:s.heap.IsList l2 ys)(hl3:s.heap.IsList l3 zs)
  (h:∀h',IsZip h' (s.heap.objs.size+5) (s.heap.objs.size+3) (s.heap.objs.size+4) .none ->jz h' (s.heap.objs.size+3) (.ref s.heap.objs.size) (.ref (s.heap.objs.size+1)) (.ref (s.heap.objs.size+2)) ->
   jz h' (s.heap.objs.size+4) .none .none .none ->h'.IsListIter s.heap.objs.size l1 0 ->h'.IsListIter (s.heap.objs.size+1) l2 0 ->h'.IsListIter (s.heap.objs.size+2) l3 0 ->h'.objs.size=s.heap.objs.size+6 ->
   (∀c o,s.heap.get? c=some o ->h'.get? c=some o) ->Q (.ref (s.heap.objs.size+5)) {s with heap:=h'}):
  wpAny (model prog w) A (call (.type "zip") [.ref l1,.ref l2,.ref l3]) Q E s:=by
 refine callType_new F.called_zip (by decide) (n9 _ _ _) (pQ _ _ _) (fun obj=>mq obj _ _ _) F.entry_zip_new
  (ol l1 l2 l3 xs ys zs) ⟨hl1,hl2,hl3,?_⟩
 have z1:(wA s.heap l1).objs.size=s.heap.objs.size+1:=Heap.size_push ..
 have z2:(wz s.heap l1 l2).objs.size=s.heap.objs.size+2:=by rw[Heap.size_push,z1]
 have z3:(wy s.heap l1 l2 l3).objs.size=s.heap.objs.size+3:=by rw[Heap.size_push,z2]
 have z4:(wx s.heap l1 l2 l3).objs.size=s.heap.objs.size+4:=by rw[Heap.size_push,z3]
 have z5:(ww s.heap l1 l2 l3).objs.size=s.heap.objs.size+5:=by rw[Heap.size_push,z4]
 have z6:(qh s.heap l1 l2 l3).objs.size=s.heap.objs.size+6:=by rw[Heap.size_push,z5]
 have g6:(qh s.heap l1 l2 l3).get? (ww s.heap l1 l2 l3).objs.size=some _:=Heap.get?_push_size _ rfl
 have g5:(qh s.heap l1 l2 l3).get? (wx s.heap l1 l2 l3).objs.size=some _:=Heap.get?_push_of_some _ (Heap.get?_push_size _ rfl)
 have g4:(qh s.heap l1 l2 l3).get? (wy s.heap l1 l2 l3).objs.size=some _:=Heap.get?_push_of_some _ (Heap.get?_push_of_some _ (Heap.get?_push_size _ rfl))
 have g3:(qh s.heap l1 l2 l3).get? (wz s.heap l1 l2).objs.size=some _:=Heap.get?_push_of_some _ (Heap.get?_push_of_some _ (Heap.get?_push_of_some _ (Heap.get?_push_size _ rfl)))
 have g2:(qh s.heap l1 l2 l3).get? (wA s.heap l1).objs.size=some _:=Heap.get?_push_of_some _ (Heap.get?_push_of_some _ (Heap.get?_push_of_some _ (Heap.get?_push_of_some _ (Heap.get?_push_size _ rfl))))
 have g1:(qh s.heap l1 l2 l3).get? s.heap.objs.size=some _:=Heap.get?_push_of_some _ (Heap.get?_push_of_some _ (Heap.get?_push_of_some _ (Heap.get?_push_of_some _ (Heap.get?_push_of_some _ (Heap.get?_push_size _ rfl)))))
 show _ /\ _
 rw[z3,z4,z5] at g6;rw[z1,z2,z3] at g4;rw[z4] at g5;rw[z2] at g3;rw[z1] at g2;rw[z5];exact⟨⟨_,g6,rfl⟩,h _ g6 g4 g5 ⟨_,g1,rfl,rfl⟩ ⟨_,g2,rfl,rfl⟩ ⟨_,g3,rfl,rfl⟩ z6 fun c o x=>
  Heap.get?_push_of_some _ (Heap.get?_push_of_some _ (Heap.get?_push_of_some _ (Heap.get?_push_of_some _ (Heap.get?_push_of_some _ (Heap.get?_push_of_some _ x)))))⟩
theorem oy(hh:A.handled=none)(z TI TO i1 i2 i3 l1 l2 l3:Addr)(D:ZipApart3 z TI TO i1 i2 i3 l1 l2 l3)(xs ys zs:Array Value)(e2:ys.size=xs.size)(e3:zs.size=xs.size):
  WalksT prog w A z [z,TI,TO,i1,i2,i3,l1,l2,l3] [z,TO,i1,i2,i3] xs.size
   (fun i vals=>∃x y v,xs[i]? =some x /\ ys[i]? =some y /\ zs[i]? =some v /\ vals= #[x,y,v])
   (fun i h=>IsZip h z TI TO .none /\ jz h TI (.ref i1) (.ref i2) (.ref i3) /\ (∃a b c,jz h TO a b c) /\ h.IsListIter i1 l1 i /\ h.IsListIter i2 l2 i /\ h.IsListIter i3 l3 i /\ h.IsList l1 xs /\ h.IsList l2 ys /\ h.IsList l3 zs)
   (fun i T h=>IsZip h z TI TO (rawInt T) /\ jz h TI (.ref i1) (.ref i2) (.ref i3) /\ (∃a b c,jz h TO a b c) /\ h.IsListIter i1 l1 (i+1) /\ h.IsListIter i2 l2 (i+1) /\ h.IsListIter i3 l3 (i+1) /\ h.IsList l1 xs /\ h.IsList l2 ys /\ h.IsList l3 zs /\
    T≠z /\ T≠TO /\ T≠i1 /\ T≠i2 /\ T≠i3) where
 sub:=fun c hc=>by simp at hc⊢;rcases hc with rfl|rfl|rfl|rfl|rfl<;>simp
 frame:=fun i h h' hst hk=>by
  obtain⟨hz,hTI,⟨a,b,c,hTO⟩,h1,h2,h3,hl1,hl2,hl3⟩:=hst
  exact⟨hk z (by simp) _ hz,hk TI (by simp) _ hTI,⟨a,b,c,hk TO (by simp) _ hTO⟩,h1.at fun o e=>hk i1 (by simp) o e,h2.at fun o e=>hk i2 (by simp) o e,h3.at fun o e=>hk i3 (by simp) o e,
   hl1.at fun o e=>hk l1 (by simp) o e,hl2.at fun o e=>hk l2 (by simp) o e,hl3.at fun o e=>hk l3 (by simp) o e⟩
 item:=fun i s Q E hi hst hQ=>by
  obtain⟨hz,hTI,⟨a,b,c,hTO⟩,h1,h2,h3,hl1,hl2,hl3⟩:=hst
  have hiy:i<ys.size:=by omega
  have hiz:i<zs.size:=by omega
  refine mQ D hz hTI hTO h1 h2 h3 hl1 hl2 hl3 (ck hi) (ck hiy) (ck hiz) fun h' a1 a2 a3 a4 a5 a6 a7 hk=> ?_
  have lt:∀{c o},s.heap.get? c=some o ->s.heap.objs.size≠c:=fun e=>dN (Heap.lt_size e)
  exact hQ s.heap.objs.size #[xs[i],ys[i],zs[i]] h' s.toks ⟨_,_,_,ck hi,ck hiy,ck hiz,rfl⟩ (ax _) ⟨_,a6,rfl,_,rfl⟩
   ⟨a1,hk _ _ D.TIz D.TITO D.TIi1 D.TIi2 D.TIi3 hTI,⟨_,_,_,a2⟩,a3,a4,a5,hl1.at fun o e=>hk _ o D.l1z D.l1TO D.l1i1 D.l1i2 D.l1i3 e,hl2.at fun o e=>hk _ o D.l2z D.l2TO D.l2i1 D.l2i2 D.l2i3 e,hl3.at fun o e=>hk _ o D.l3z D.l3TO D.l3i1 D.l3i2 D.l3i3 e,
    lt hz,lt hTO,(by obtain⟨_,e,_⟩:=h1;exact lt e),(by obtain⟨_,e,_⟩:=h2;exact lt e),(by obtain⟨_,e,_⟩:=h3;exact lt e)⟩
   fun c o hc e=>hk c o (fun x=>hc (by simp[x])) (fun x=>hc (by simp[x])) (fun x=>hc (by simp[x])) (fun x=>hc (by simp[x])) (fun x=>hc (by simp[x])) e
 go:=fun elts k pos i T s Q E hm hQ=>by
  obtain⟨hz,hTI,⟨a,b,c,hTO⟩,h1,h2,h3,hl1,hl2,hl3,_⟩:=hm
  refine wpAny_letOwnedTupleGo_zip hz fun h' hz' hs'=>hQ h' ⟨hz',hs'.extBut _ _ D.TIz hTI,⟨a,b,c,hs'.extBut _ _ D.TOz hTO⟩,h1.extBut hs'.extBut D.i1z,h2.extBut hs'.extBut D.i2z,h3.extBut hs'.extBut D.i3z,
   hl1.extBut hs'.extBut D.l1z,hl2.extBut hs'.extBut D.l2z,hl3.extBut hs'.extBut D.l3z⟩ fun c o hc e=>hs'.extBut _ _ (fun x=>hc (by simp[x])) e
 apart:=fun i T h hm hT=>by
  obtain⟨_,_,_,_,_,_,_,_,_,t1,t2,t3,t4,t5⟩:=hm
  simp at hT;rcases hT with rfl|rfl|rfl|rfl|rfl
  ·exact t1 rfl
  ·exact t2 rfl
  ·exact t3 rfl
  ·exact t4 rfl
  ·exact t5 rfl
 done:=fun s Q E hst hQ=>by
  obtain⟨hz,hTI,⟨a,b,c,hTO⟩,h1,h2,h3,hl1,hl2,hl3⟩:=hst
  exact nG hh D hz hTI hTO h1 hl1 (Array.getElem?_eq_none (ax _)) fun h' hk=>hQ h' s.toks fun c o hc e=>
   hk c o (fun x=>hc (by simp[x])) (fun x=>hc (by simp[x])) (fun x=>hc (by simp[x])) (fun x=>hc (by simp[x])) (fun x=>hc (by simp[x])) e
 self:=fun i s Q E hst hQ=>wpAny_pyIter_zip hst.1 hQ
end
noncomputable def Cy(K:ao)(a b c:Addr):It:=
 ⟨fun i H=>∃xs ys zs,SqL K H a xs /\ SqL K H b ys /\ SqL K H c zs /\ ys.length=xs.length /\ zs.length=xs.length /\ i<xs.length,
  fun i H v H'=>∃t,v= .ref t /\ H t=none /\ ∀xs ys zs x y z,SqL K H a xs ->SqL K H b ys ->SqL K H c zs ->xs[i]? =some x ->ys[i]? =some y ->zs[i]? =some z ->H'=upd H t (.tup [x,y,z]),
  fun i H=>∃xs ys zs,SqL K H a xs /\ SqL K H b ys /\ SqL K H c zs /\ ys.length=xs.length /\ zs.length=xs.length /\ i=xs.length⟩
noncomputable def BD(K:ao)(ta:TA):TI:=fun σ H R=>ta σ H fun vs H1=>∃a b c,vs=[.ref a,.ref b,.ref c] /\ (∃xs,SqL K H1 a xs) /\ (∃ys,SqL K H1 b ys) /\ (∃zs,SqL K H1 c zs) /\ R (Cy K a b c) H1
theorem wt{X:Cx}{pins:List (Addr×Obj)}{σ:St}{H:Hp}{s:Shared}{h':Heap}{tk:Nat}{wr:List Addr}{T:Addr}{x y z:V}{u v w:Value}(I:Inv X pins σ H s)(hf:∀b∈wr,uu X pins H b)(hT:s.heap.objs.size<=T)
  (ht:h'.IsTuple T #[u,v,w]) (rx:RelV x u) (ry:RelV y v) (rz:RelV z w) (k:∀b o,b∉wr ->s.heap.get? b=some o ->h'.get? b=some o):Inv X pins σ (upd H T (.tup [x,y,z])) {s with heap:=h',toks:=tk}:=by
 have hn:H T=none:=I.hok.fresh hT
 have tr:∀b w,H b=some w ->b∉wr:=fun b w e z=>by rw[(hf b z).1] at e;cases e
 refine I.step (g':=s.gens) (d':=s.drawn) (ch:=wr) (fun b hb=> ?_) (fun b o _ _ hc e _=>k b o hc e) (fun b o _ _ hc e _=>⟨o.slots,k b o hc e⟩) (fun b o hc e n=> ?_) (fun b o hc e=>⟨o,k b o hc e⟩) (fun b xs e=> ?_) (fun b o w e=> ?_) (fun b ps e=> ?_) (fun m hm=> ?_) (fun b w e=> ?_) I.bare
 ·obtain⟨f0,f1,f2,f3,f4,f5⟩:=hf b hb
  exact⟨f3,f1,f4,f5⟩
 ·rw[i6 (aU (aR (Heap.lt_size e) hT))];exact n
 ·rw[i6 (iY e hn)];exact e
 ·rw[i6 (iY e hn)];exact e
 ·exact⟨#[],by rw[i6 (iY e hn),e];simp⟩
 ·obtain⟨o,es,ep,ho,r⟩:=hm
  exact⟨o,es,ep,k _ o (fun z=>(hf _ z).2.1 rfl) ho,r⟩
 ·by_cases hb:b=T
  ·subst hb;rw[iN] at e;cases e;exact⟨show 3<=sizeLine by decide,[u,v,_],.cons rx (.cons ry (.cons rz .nil)),ht⟩
  ·rw[i6 hb] at e;refine(I.hok b w e).stay (fun c z hc q=>k c z ?_ q) (fun c q=>by rw[i6 (iY q hn)];exact q) fun c xs q=>by rw[i6 (iY q hn)];exact q
   rcases hc with rfl|hc
   ·exact tr _ _ e
   ·exact tr _ _ hc
theorem uy{P:Program}{w:World}{K:ao}{elts:List Expr}{kk:Nat}{pos:Pos}(n l1 l2 l3:Addr)(h1:l1<n)(h2:l2<n)(h3:l3<n):Turn P w K (.Tuple elts kk pos) (Cy K l1 l2 l3) [n+5,n+3,n+4,n,n+1,n+2] (n+5)
  (fun i h=>IsZip h (n+5) (n+3) (n+4) .none /\ jz h (n+3) (.ref n) (.ref (n+1)) (.ref (n+2)) /\ (∃a b c,jz h (n+4) a b c) /\ h.IsListIter n l1 i /\ h.IsListIter (n+1) l2 i /\ h.IsListIter (n+2) l3 i) where
 mem:=by simp
 obj:=fun i h st b hb=>by
  obtain⟨z1,z2,⟨a,c,d,z3⟩,⟨o1,e1,c1,d1⟩,⟨o2,e2,c2,d2⟩,⟨o3,e3,c3,d3⟩⟩:=st
  simp only[aw,az,or_false] at hb;rcases hb with rfl|rfl|rfl|rfl|rfl|rfl
  ·exact⟨_,z1,fun v q=>by cases q⟩
  ·exact⟨_,z2,fun v q=>by cases q⟩
  ·exact⟨_,z3,fun v q=>by cases q⟩
  ·exact⟨_,e1,fun v q=>by rw[d1] at q;cases q⟩
  ·exact⟨_,e2,fun v q=>by rw[d2] at q;cases q⟩
  ·exact⟨_,e3,fun v q=>by rw[d3] at q;cases q⟩
 keep:=fun i h h' st k=>by
  obtain⟨z1,z2,⟨a,c,d,z3⟩,z4,z5,z6⟩:=st
  exact⟨k _ (by simp) _ z1,k _ (by simp) _ z2,⟨a,c,d,k _ (by simp) _ z3⟩,z4.at fun o e=>k _ (by simp) o e,z5.at fun o e=>k _ (by simp) o e,z6.at fun o e=>k _ (by simp) o e⟩
 item:=by
  intro X hP hw hK hc i pins s σ H E I hf st hg;subst hP hw hK;obtain⟨xs,ys,zs,q1,q2,q3,m2,m3,hi⟩:=hg
  obtain⟨us,r1,p1,_⟩:=I.list q1
  obtain⟨vs,r2,p2,_⟩:=I.list q2
  obtain⟨ws,r3,p3,_⟩:=I.list q3
  obtain⟨z1,z2,z3,z4,z5,z6⟩:=st
  have len1:=r1.length
  have len2:=r2.length
  have len3:=r3.length
  have W:=oy (prog:=X.prog) (w:=X.w) (I.ok.hd hc) (n+5) (n+3) (n+4) n (n+1) (n+2) l1 l2 l3 (ox h1 h2 h3) us.toArray vs.toArray ws.toArray (by simp only[aA];omega) (by simp only[aA];omega)
  refine W.item i s _ _ (by simp only[aA];omega) ⟨z1,z2,z3,z4,z5,z6,p1.isList,p2.isList,p3.isList⟩ fun T vals h' tk hPt hT hTup hMid hk=> ?_
  obtain⟨u,v,w,hu,hv,hw,rfl⟩:=hPt
  refine⟨.ref T,rfl,W.go elts kk pos i T _ _ _ hMid fun h'' st' hk'=> ?_⟩;obtain⟨x,hx⟩:∃x,xs[i]? =some x:=⟨_,ag hi⟩
  obtain⟨y,hy⟩:∃y,ys[i]? =some y:=⟨_,ag (by omega)⟩
  obtain⟨z,hz⟩:∃z,zs[i]? =some z:=⟨_,ag (by omega)⟩
  obtain⟨u',eu,rx⟩:=r1.get hx
  obtain⟨v',ev,ry⟩:=r2.get hy
  obtain⟨w',ew,rz⟩:=r3.get hz
  have e1:u'=u:=by
   have z:us[i]? =some u:=by simpa using hu
   rw[eu] at z;exact ba.inj z
  have e2:v'=v:=by
   have z:vs[i]? =some v:=by simpa using hv
   rw[ev] at z;exact ba.inj z
  have e3:w'=w:=by
   have z:ws[i]? =some w:=by simpa using hw
   rw[ew] at z;exact ba.inj z
  subst e1 e2 e3;have ap:=W.apart i T h' hMid
  have ht2:h''.IsTuple T #[u',v',w']:=hTup.at fun o e=>hk' T o ap e
  have J:=wt (tk:=tk) (h':=h'') I (wr:=[n+5,n+4,n,n+1,n+2]) (fun b hb=>hf b (by simp only[aw,az,or_false] at hb⊢;rcases hb with rfl|rfl|rfl|rfl|rfl<;>simp)) hT ht2 rx ry rz (fun b o hb e=>hk' b o hb (hk b o hb e))
  refine⟨.ref T,_,J,rfl,⟨T,rfl,I.hok.fresh hT,fun xs' ys' zs' x' y' z' a1 a2 a3 a4 a5 a6=> ?_⟩,⟨st'.1,st'.2.1,st'.2.2.1,st'.2.2.2.1,st'.2.2.2.2.1,st'.2.2.2.2.2.1⟩,fun b hb=> ?_⟩
  ·rw[I.list_inj a1 q1,hx] at a4;rw[I.list_inj a2 q2,hy] at a5;rw[I.list_inj a3 q3,hz] at a6;cases a4;cases a5;cases a6;rfl
  ·have hb0:=(hf b hb).1
   have hlt:b<s.heap.objs.size:=by
    obtain⟨o1,e1,_⟩:=z4
    obtain⟨o2,e2,_⟩:=z5
    obtain⟨o3,e3,_⟩:=z6
    obtain⟨a,c,d,z3⟩:=z3
    simp only[aw,az,or_false] at hb;rcases hb with rfl|rfl|rfl|rfl|rfl|rfl
    ·exact Heap.lt_size z1
    ·exact Heap.lt_size z2
    ·exact Heap.lt_size z3
    ·exact Heap.lt_size e1
    ·exact Heap.lt_size e2
    ·exact Heap.lt_size e3
   rw[i6 (aU (aR hlt hT))];exact hb0
 done:=by
  intro X hP hw hK hc i pins s σ H E I hf st hg;subst hP hw hK;obtain⟨xs,ys,zs,q1,q2,q3,m2,m3,hi⟩:=hg
  obtain⟨us,r1,p1,_⟩:=I.list q1
  obtain⟨vs,r2,p2,_⟩:=I.list q2
  obtain⟨ws,r3,p3,_⟩:=I.list q3
  obtain⟨z1,z2,z3,z4,z5,z6⟩:=st
  have len1:=r1.length
  have len2:=r2.length
  have len3:=r3.length
  have W:=oy (prog:=X.prog) (w:=X.w) (I.ok.hd hc) (n+5) (n+3) (n+4) n (n+1) (n+2) l1 l2 l3 (ox h1 h2 h3) us.toArray vs.toArray ws.toArray (by simp only[aA];omega) (by simp only[aA];omega)
  have e:i=us.toArray.size:=by
   simp only[aA];omega
  subst e;refine W.done s _ _ ⟨z1,z2,z3,z4,z5,z6,p1.isList,p2.isList,p3.isList⟩ fun h' tk hk=>⟨rfl,?_⟩
  have hf':∀b∈[n+5,n+4,n,n+1,n+2],uu X pins H b:=fun b hb=>hf b (by simp only[aw,az,or_false] at hb⊢;rcases hb with rfl|rfl|rfl|rfl|rfl<;>simp)
  have tr:∀b w,H b=some w ->b∉[n+5,n+4,n,n+1,n+2]:=fun b w e z=>by
   rw[(hf' b z).1] at e;cases e
  refine I.step (g':=s.gens) (d':=s.drawn) (ch:=[n+5,n+4,n,n+1,n+2]) (fun b hb=> ?_) (fun b o _ _ hc e _=>hk b o hc e) (fun b o _ _ hc e _=>⟨o.slots,hk b o hc e⟩) (fun b o hc e n=>n) (fun b o hc e=>⟨o,hk b o hc e⟩) (fun b xs e=>e) (fun b o w e=>e) (fun b ps e=>⟨#[],by rw[e];simp⟩) (fun m hm=> ?_) (fun b w e=> ?_) I.bare
  ·obtain⟨f0,f1,f2,f3,f4,f5⟩:=hf' b hb
   exact⟨f3,f1,f4,f5⟩
  ·obtain⟨o,es,ep,ho,r⟩:=hm
   exact⟨o,es,ep,hk _ o (fun z=>(hf' _ z).2.1 rfl) ho,r⟩
  ·refine(I.hok b w e).stay (fun c z hc q=>hk c z ?_ q) (fun _ q=>q) fun _ _ q=>q
   rcases hc with rfl|hc
   ·exact tr _ _ e
   ·exact tr _ _ hc
 self:=fun A i s Q E st q=>wpAny_pyIter_zip st.1 q
section
variable {X:Cx}
theorem zm{a b c:Expr}{ta:TA}{p pos tpos:Pos}{elts:List Expr}{kk:Nat}{K:ao}(hK:X.K=K)(hg:Gl X "zip")(hm:X.mg "zip"=none)(ha:PA X [a,b,c] ta)(hs:starEach [a,b,c] X.env=[(false,eval a X.env),(false,eval b X.env),(false,eval c X.env)]:=by rfl)(hs2:starEach [b,c] X.env=[(false,eval b X.env),(false,eval c X.env)]:=by rfl):
  PI X (.Tuple elts kk tpos) (.Call (.Name "zip" p) [a,b,c] [] pos) (BD K ta):=by
 subst hK;intro pins s σ H R I h;refine Call_ (oG I hg hm boot_zip (cL (thn (ha pos pins s σ H _ I h) fun us s1 z=> ?_) (by rw[hs,hs2]) (by rw[hs2];rfl)));obtain⟨vs,H1,I1,r1,l1,l2,l3,rfl,⟨xs,q1⟩,⟨ys,q2⟩,⟨zs,q3⟩,q⟩:=z
 obtain⟨u,v,w,rfl,ru,rv,rw'⟩:∃u v w,us=[u,v,w] /\ RelV (.ref l1) u /\ RelV (.ref l2) v /\ RelV (.ref l3) w:=by
  cases r1 with
  |cons a1 t1=>cases t1 with
   |cons a2 t2=>cases t2 with
    |cons a3 t3=>cases t3;exact⟨_,_,_,rfl,a1,a2,a3⟩
 obtain rfl:u=Value.ref l1:=ru
 obtain rfl:v=Value.ref l2:=rv
 obtain rfl:w=Value.ref l3:=rw'
 obtain⟨is1,s1',p1,_⟩:=I1.list q1
 obtain⟨is2,s2',p2,_⟩:=I1.list q2
 obtain⟨is3,s3',p3,_⟩:=I1.list q3
 have bl:∀{l:Addr} {is:List Value},PlainL s1.heap l is.toArray ->l<s1.heap.objs.size:=fun {l is} p=>by
  obtain⟨o,e,_⟩:=p.isList
  exact Heap.lt_size e
 refine uq p1.isList p2.isList p3.isList fun h' hz hTI hTO hi1 hi2 hi3 hsz hk=> ?_
 refine wpAny_pyIter_zip hz ?_;refine⟨_,_,_,_,H1,rfl,I1.kept (t':=s1.toks) hk,uy s1.heap.objs.size l1 l2 l3 (bl p1) (bl p2) (bl p3),⟨hz,hTI,⟨_,_,_,hTO⟩,hi1,hi2,hi3⟩,fun b hb=> ?_,q⟩;simp only[aw,az,or_false] at hb;have hle:s1.heap.objs.size<=b:=by
  rcases hb with rfl|rfl|rfl|rfl|rfl|rfl<;>omega
 exact I1.fpOk hle (I1.hok.fresh hle)
end
section
variable {K:ao} {ta:TA} {g:TG} {tb:TS} {Dn:Ends} {σ:St} {H:Hp}
theorem uE(Ra:Addr ->Addr ->Addr ->Hp ->Prop)(ha:∀R:List V ->Hp ->Prop,(∀a b c H1,Ra a b c H1 ->R [.ref a,.ref b,.ref c] H1) ->ta σ H R)
  (hb:∀a b c H1,Ra a b c H1 -> ∃xs ys zs,∃Pv:Nat ->St ->Hp ->Prop,ys.length=xs.length /\ zs.length=xs.length /\ Pv 0 σ H1 /\ (∀i σ H,i<=xs.length ->Pv i σ H ->SqL K H a xs /\ SqL K H b ys /\ SqL K H c zs) /\
   (∀i x y z t σ H,xs[i]? =some x ->ys[i]? =some y ->zs[i]? =some z ->Pv i σ H ->H t=none ->g (.ref t) σ (upd H t (.tup [x,y,z])) fun σ2 H2=>tb {Dn with nx:=Pv (i+1),ct:=Pv (i+1),bk:=Dn.nx} σ2 H2) /\ ∀σ H,Pv xs.length σ H ->Dn.nx σ H):
  yT (BD K ta) g tb Dn σ H:=by
 refine ha _ fun a b c H1 q=> ?_
 obtain⟨xs,ys,zs,Pv,l2,l3,h0,hq,hs,hd⟩:=hb a b c H1 q
 obtain⟨s1,s2,s3⟩:=hq 0 σ H1 (bb _) h0
 refine⟨a,b,c,rfl,⟨xs,s1⟩,⟨ys,s2⟩,⟨zs,s3⟩,fun i m σ H=>Pv i σ H /\ i<=xs.length /\ m=xs.length-i,⟨_,h0,bb _,rfl⟩,?_⟩;rintro i m σ H ⟨p,hi,rfl⟩;obtain⟨s1,s2,s3⟩:=hq i σ H hi p
 rcases ft hi with hi|hi
 ·right
  refine⟨⟨xs,ys,zs,s1,s2,s3,l2,l3,by omega⟩,fun σ' H'=>Pv (i+1) σ' H',fun σ' H' p'=>⟨xs.length-(i+1),by omega,p',by omega,rfl⟩,?_⟩;rintro v H' ⟨t,rfl,hn,e⟩;obtain⟨x,hx⟩:∃x,xs[i]? =some x:=⟨_,ag hi⟩
  obtain⟨y,hy⟩:∃y,ys[i]? =some y:=⟨_,ag (by omega)⟩
  obtain⟨z,hz⟩:∃z,zs[i]? =some z:=⟨_,ag (by omega)⟩
  rw[e xs ys zs x y z s1 s2 s3 hx hy hz];exact hs i x y z t σ H hx hy hz p hn
 ·left
  exact⟨⟨xs,ys,zs,s1,s2,s3,l2,l3,by omega⟩,hd σ H (hi▸p)⟩
end
end L2
namespace SR
open PySem PySem.W PyProof.Rows
noncomputable def evT(lt:Nat ->Nat ->Bool){α:Type}:KasT α ->α
 | .ret a=>a
 | .ask i j k=>evT lt (k (lt i j))
theorem lE(lt:Nat ->Nat ->Bool){α β:Type}(f:α ->KasT β):∀t:KasT α,evT lt (t.bind f)=evT lt (f (evT lt t))
 | .ret _=>rfl
 | .ask i j k=>lE lt f (k (lt i j))
noncomputable abbrev g(p:Array Nat)(i:Nat):Nat:=p.getD i 0
theorem BG{p q:Array Nat}{i j:Nat}(h:p[i]? =q[j]?):g p i=g q j:=by
 unfold g;rw[dh,dh,h]
structure Ord(lt:Nat ->Nat ->Bool):Prop where
 as:∀a b,lt a b=true ->lt b a=false
 tr:∀a b c,lt b a=false ->lt c b=false ->lt c a=false
noncomputable def sl(lt:Nat ->Nat ->Bool)(a b:Nat):Prop:=lt a b=true∨(lt b a=false /\ a<b)
section
variable {lt:Nat ->Nat ->Bool} (O:Ord lt)
include O
theorem y0{a b:Nat}(h:sl lt a b):lt b a=false:=h.elim (O.as a b) fun q=>q.1
theorem vo{a b c:Nat}(h1:lt a b=true)(h2:lt c b=false):lt a c=true:=by
 cases e:lt a c with
 |true=>rfl
 |false=>
  have:=O.tr _ _ _ h2 e
  rw[h1] at this;cases this
theorem le_lt{a b c:Nat}(h1:lt b a=false)(h2:lt b c=true):lt a c=true:=by
 cases e:lt a c with
 |true=>rfl
 |false=>
  have:=O.tr _ _ _ e h1
  rw[h2] at this;cases this
theorem wI{a b c:Nat}(h1:sl lt a b)(h2:sl lt b c):sl lt a c:=by
 rcases h1 with q|⟨q1,q2⟩
 ·exact .inl (vo O q (y0 O h2))
 ·rcases h2 with r|⟨r1,r2⟩
  ·exact .inl (le_lt O q1 r)
  ·exact .inr ⟨O.tr _ _ _ q1 r1,by omega⟩
end
noncomputable def Asc(lt:Nat ->Nat ->Bool)(p:Array Nat)(m:Nat):Prop:=∀i j,i<j ->j<m ->sl lt (g p i) (g p j)
noncomputable def Dsc(lt:Nat ->Nat ->Bool)(p:Array Nat)(m:Nat):Prop:=∀i j,i<j ->j<m ->sl lt (g p j) (g p i)
structure Pre(N:Nat)(p:Array Nat)(n:Nat):Prop where
 sz:p.size=N
 pm:p.Perm (bV (bH N))
 hi:∀k,n<=k ->k<N ->g p k=k
 lo:∀k,k<n ->g p k<n
 le:n<=N
theorem ot{p:Array Nat}{i j:Nat}(hj:j<=p.size)(k:Nat):g (kas_rev p i j) k=if i<=k /\ k<j then g p (i+j-1-k) else g p k:=by
 have e:=getElem?_mirror_all (i:=i) hj k
 by_cases h:i<=k /\ k<j
 ·rw[if_pos h] at e⊢;exact BG e
 ·rw[if_neg h] at e⊢;exact BG e
theorem Pre.rev{N n:Nat}{p:Array Nat}(h:Pre N p n){i j:Nat}(hj:j<=n):Pre N (kas_rev p i j) n:=by
 have z:=h.sz
 have l:=h.le
 refine⟨(mirror_size _ _ _ _).trans h.sz,(mirror_perm _ _ _ _).trans h.pm,fun k h1 h2=> ?_,fun k hk=> ?_,h.le⟩
 ·rw[ot (by omega),if_neg (by omega)];exact h.hi k h1 h2
 ·rw[ot (by omega)];split
  ·exact h.lo _ (by omega)
  ·exact h.lo k hk
theorem Pre.succ{N n:Nat}{p:Array Nat}(h:Pre N p n)(hn:n<N):Pre N p (n+1):=by
 refine⟨h.sz,h.pm,fun k h1 h2=>h.hi k (by omega) h2,fun k hk=> ?_,hn⟩
 by_cases e:k=n
 ·rw[e,h.hi n (ax _) hn];omega
 ·have:=h.lo k (by omega)
  omega
section
variable {lt:Nat ->Nat ->Bool} (O:Ord lt) {N:Nat}
include O
theorem yg{p:Array Nat}{n:Nat}(h:Asc lt p n)(hP:Pre N p n)(hn:n<N)(h1:1<=n)(c:lt (g p n) (g p (n-1))=false):Asc lt p (n+1):=fun i j hij hj=>by
 by_cases e:j=n
 ·subst e;have last:sl lt (g p (j-1)) (g p j):= .inr ⟨c,by rw[hP.hi j (ax _) hn];exact hP.lo _ (by omega)⟩
  by_cases e2:i=j-1
  ·rw[e2];exact last
  ·exact wI O (h i (j-1) (by omega) (by omega)) last
 ·exact h i j hij (by omega)
theorem wj{p:Array Nat}:∀(f n:Nat),Asc lt p n ->Pre N p n ->1<=n ->n+f=N -> ∃m,evT lt (kas_asc p f n)=m /\ n<=m /\ m<=N /\ Asc lt p m /\ Pre N p m /\ (m<N ->lt (g p m) (g p (m-1))=true)
 |0,n,h,hP,h1,e=>⟨n,rfl,ax _,by omega,h,hP,fun q=>by omega⟩
 |f+1,n,h,hP,h1,e=>by
  show∃m,evT lt (if lt (g p n) (g p (n-1))=true then KasT.ret n else kas_asc p f (n+1))=m /\ _
  by_cases c:lt (g p n) (g p (n-1))=true
  ·rw[if_pos c];exact⟨n,rfl,ax _,by omega,h,hP,fun _=>c⟩
  ·rw[if_neg c];have c':lt (g p n) (g p (n-1))=false:=by simpa using c
   obtain⟨m,e1,e2,e3,e4,e5,e6⟩:=wj f (n+1) (yg O h hP (by omega) h1 c') (hP.succ (by omega)) (by omega) (by omega)
   exact⟨m,e1,by omega,e3,e4,e5,e6⟩
end
structure Dn(lt:Nat ->Nat ->Bool)(p:Array Nat)(n q:Nat):Prop where
 qn:q+1<=n
 d1:∀i j,i<j ->j<n-(q+1) ->sl lt (g p j) (g p i)
 d2:∀i j,i<n-(q+1) ->n-(q+1)<=j ->j<n ->lt (g p j) (g p i)=true
 d3:∀i j,n-(q+1)<=i ->i<j ->j<n ->lt (g p j) (g p i)=false /\ lt (g p i) (g p j)=false /\ g p i<g p j
section
variable {lt:Nat ->Nat ->Bool} (O:Ord lt) {N:Nat}
include O
theorem Dn.close{p:Array Nat}{n q:Nat}(h:Dn lt p n q)(hn:n<=p.size):Dsc lt (if q>0 then kas_rev p (n-(q+1)) n else p) n:=fun i j hij hj=>by
 have qn:=h.qn
 have val:∀k,k<n ->g (if q>0 then kas_rev p (n-(q+1)) n else p) k=if n-(q+1)<=k then g p (n-(q+1)+n-1-k) else g p k:=fun k hk=>by
  by_cases c:q>0
  ·rw[if_pos c,ot hn]
   by_cases c2:n-(q+1)<=k
   ·rw[if_pos ⟨c2,hk⟩,if_pos c2]
   ·rw[if_neg (fun z=>c2 z.1),if_neg c2]
  ·rw[if_neg c];split
   ·congr 1
    omega
   ·rfl
 rw[val i (by omega),val j hj]
 by_cases c:n-(q+1)<=i
 ·rw[if_pos c,if_pos (by omega)];obtain⟨a,b,e⟩:=h.d3 (n-(q+1)+n-1-j) (n-(q+1)+n-1-i) (by omega) (by omega) (by omega)
  exact .inr ⟨a,e⟩
 ·rw[if_neg c]
  by_cases c2:n-(q+1)<=j
  ·rw[if_pos c2];exact .inl (h.d2 i _ (by omega) (by omega) (by omega))
  ·rw[if_neg c2];exact h.d1 i j hij (by omega)
theorem Dn.eqs{p:Array Nat}{n q:Nat}(h:Dn lt p n q){i:Nat}(h1:n-(q+1)<=i)(h2:i<n):lt (g p i) (g p (n-1))=false /\ lt (g p (n-1)) (g p i)=false:=by
 by_cases e:i=n-1
 ·subst e;have:∀a,lt a a=false:=fun a=>by
   cases q:lt a a with
   |false=>rfl
   |true=>rw[O.as a a q] at q;cases q
  exact⟨this _,this _⟩
 ·obtain⟨a,b,_⟩:=h.d3 i (n-1) h1 (by omega) (by omega)
  exact⟨b,a⟩
theorem sh:∀(f:Nat) (p:Array Nat) (n q:Nat),Dn lt p n q ->Pre N p n ->n+f=N -> ∃p' n' q',evT lt (kas_desc f p n q)=(p',n',q') /\ Dn lt p' n' q' /\ Pre N p' n' /\ n<=n'
 |0,p,n,q,h,hP,e=>⟨p,n,q,rfl,h,hP,ax _⟩
 |f+1,p,n,q,h,hP,e=>by
  have qn:=h.qn
  have z:=hP.sz
  show∃p' n' q',evT lt (if lt (g p n) (g p (n-1))=true then(if q>0 then kas_desc f (kas_rev p (n-(q+1)) n) (n+1) 0 else kas_desc f p (n+1) 0) else .ask (p.getD (n-1) 0) (p.getD n 0) fun d=>if d=true then .ret (p,n,q) else kas_desc f p (n+1) (q+1))=(p',n',q') /\ _
  by_cases c:lt (g p n) (g p (n-1))=true
  ·rw[if_pos c];have ds:=Dn.close O h (by omega)
   have eq2:(if q>0 then kas_desc f (kas_rev p (n-(q+1)) n) (n+1) 0 else kas_desc f p (n+1) 0)=kas_desc f (if q>0 then kas_rev p (n-(q+1)) n else p) (n+1) 0:=by split<;>rfl
   rw[eq2];have hP':Pre N (if q>0 then kas_rev p (n-(q+1)) n else p) n:=by
    split
    ·exact hP.rev (ax _)
    ·exact hP
   have low:∀i,i<n ->lt (g p n) (g (if q>0 then kas_rev p (n-(q+1)) n else p) i)=true:=fun i hi=>by
    have key:∀k,k<n ->lt (g p n) (g p k)=true:=fun k hk=>by
     by_cases c2:n-(q+1)<=k
     ·exact vo O c (Dn.eqs O h c2 hk).1
     ·exact vo O c (O.as _ _ (h.d2 k (n-1) (by omega) (by omega) (by omega)))
    split
    ·rw[ot (by omega)];split
     ·exact key _ (by omega)
     ·exact key i hi
    ·exact key i hi
   have gn:g (if q>0 then kas_rev p (n-(q+1)) n else p) n=g p n:=by
    rw[hP'.hi n (ax _) (by omega),hP.hi n (ax _) (by omega)]
   generalize(if q>0 then kas_rev p (n-(q+1)) n else p)=p2 at ds hP' low gn;obtain⟨p',n',q',e1,e2,e3,e4⟩:=sh f p2 (n+1) 0 ⟨by omega,fun i j h1 h2=>ds i j h1 (by omega),fun i j h1 h2 h3=>by
    have:j=n:=by omega
    rw[this,gn];exact low i (by omega),fun i j h1 h2 h3=>by omega⟩ (hP'.succ (by omega)) (by omega)
   exact⟨p',n',q',e1,e2,e3,by omega⟩
  ·rw[if_neg c];have c':lt (g p n) (g p (n-1))=false:=by simpa using c
   show∃p' n' q',evT lt (if lt (g p (n-1)) (g p n)=true then KasT.ret (p,n,q) else kas_desc f p (n+1) (q+1))=(p',n',q') /\ _
   by_cases d:lt (g p (n-1)) (g p n)=true
   ·rw[if_pos d];exact⟨p,n,q,rfl,h,hP,ax _⟩
   ·rw[if_neg d];have d':lt (g p (n-1)) (g p n)=false:=by simpa using d
    have gn:=hP.hi n (ax _) (by omega)
    obtain⟨p',n',q',e1,e2,e3,e4⟩:=sh f p (n+1) (q+1) ⟨by omega,fun i j h1 h2=>h.d1 i j h1 (by omega),fun i j h1 h2 h3=>by
     by_cases ej:j=n
     ·rw[ej];exact le_lt O d' (h.d2 i (n-1) (by omega) (by omega) (by omega))
     ·exact h.d2 i j (by omega) (by omega) (by omega),fun i j h1 h2 h3=>by
     by_cases ej:j=n
     ·subst ej;have E:=Dn.eqs O h (i:=i) (by omega) h2
      refine⟨O.tr _ _ _ E.2 c',O.tr _ _ _ d' E.1,?_⟩;rw[gn];exact hP.lo i h2
     ·exact h.d3 i j (by omega) h2 (by omega)⟩ (hP.succ (by omega)) (by omega)
    exact⟨p',n',q',e1,e2,e3,by omega⟩
theorem Ad{p:Array Nat}{n:Nat}(h:Dsc lt p n)(hn:n<=p.size):Asc lt (kas_rev p 0 n) n:=fun i j hij hj=>by
 rw[ot hn,ot hn,if_pos ⟨bb _,by omega⟩,if_pos ⟨bb _,hj⟩];exact h _ _ (by omega) (by omega)
theorem yS{p:Array Nat}{n:Nat}(h:Dsc lt p n)(hP:Pre N p n)(h1:1<=n):∃m p',evT lt (kas_tail3 n N p)=(m,p') /\ Asc lt p' m /\ Pre N p' m /\ 1<=m:=by
 unfold kas_tail3;rw[lE];have l:=hP.le
 have z:=hP.sz
 obtain⟨m,e1,e2,e3,e4,e5,e6⟩:=wj O (N-n) n (Ad O h (by omega)) (hP.rev (ax _)) h1 (by omega)
 rw[e1];exact⟨m,_,rfl,e4,e5,by omega⟩
theorem nY{p:Array Nat}{n:Nat}(h:Dsc lt p n)(hP:Pre N p n)(h1:1<=n)(hn:n<N)(low:∀i,i<n ->lt (g p n) (g p i)=true):∃m p',evT lt (kas_descPart n N p)=(m,p') /\ Asc lt p' m /\ Pre N p' m /\ 1<=m:=by
 unfold kas_descPart;rw[lE];obtain⟨p',n',q',e1,e2,e3,e4⟩:=sh O (N-(n+1)) p (n+1) 0 ⟨by omega,fun i j a b=>h i j a (by omega),fun i j a b c=>by
  have:j=n:=by omega
  rw[this];exact low i (by omega),fun i j a b c=>by omega⟩ (hP.succ hn) (by omega)
 rw[e1];have z:=e3.sz
 have l:=e3.le
 have ds:=Dn.close O e2 (by omega)
 have hP':Pre N (if q'>0 then kas_rev p' (n'-(q'+1)) n' else p') n':=by
  split
  ·exact e3.rev (ax _)
  ·exact e3
 have:=yS O ds hP' (by omega)
 dsimp only;split
 ·rename_i c
  rw[if_pos c] at this;exact this
 ·rename_i c
  rw[if_neg c] at this;exact this
theorem xY(h2:2<=N):∃m p',evT lt (kas_count N (bV (bH N)))=(m,p') /\ Asc lt p' m /\ Pre N p' m /\ 1<=m:=by
 have gr:∀k,k<N ->g (bV (bH N)) k=k:=fun k hk=>by
  unfold g;rw[dh];simp[hk]
 have hP:∀n,n<=N ->Pre N (bV (bH N)) n:=fun n hn=>⟨by simp,.refl _,fun k _ h=>gr k h,fun k hk=>by rw[gr k (by omega)];exact hk,hn⟩
 unfold kas_count;rw[lE];obtain⟨n,e1,e2,e3,e4,e5,e6⟩:=wj O (p:=bV (bH N)) (N-1) 1 (fun i j a b=>by omega) (hP 1 (by omega)) (ax _) (by omega)
 rw[e1]
 by_cases c:(n==N)=true
 ·rw[if_pos c];exact⟨n,_,rfl,e4,e5,e2⟩
 ·rw[if_neg c];have hn:n<N:=by
   have:n≠N:=by simpa using c
   omega
  have st:=e6 hn
  by_cases c1:n>1
  ·rw[if_pos c1];show∃m p',evT lt (if lt (g _ 0) (g _ (n-1))=true then KasT.ret (n,_) else kas_descPart n N (kas_rev _ 0 n))=(m,p') /\ _
   by_cases c2:lt (g (bV (bH N)) 0) (g (bV (bH N)) (n-1))=true
   ·rw[if_pos c2];exact⟨n,_,rfl,e4,e5,e2⟩
   ·rw[if_neg c2];have c2':lt (g (bV (bH N)) 0) (g (bV (bH N)) (n-1))=false:=by simpa using c2
    have z:=(hP n e3).sz
    have irr:∀a,lt a a=false:=fun a=>by
     cases q:lt a a with
     |false=>rfl
     |true=>rw[O.as a a q] at q;cases q
    have up:∀i j,i<=j ->j<n ->lt (g (bV (bH N)) j) (g (bV (bH N)) i)=false:=fun i j h1 h2=>by
     by_cases e:i=j
     ·rw[e];exact irr _
     ·exact y0 O (e4 i j (by omega) h2)
    have all:∀i j,i<n ->j<n ->lt (g (bV (bH N)) i) (g (bV (bH N)) j)=false:=fun i j h1 h2=>
     O.tr _ _ _ (O.tr _ _ _ (up j (n-1) (by omega) (by omega)) c2') (up 0 i (bb _) h1)
    refine nY O (fun i j h1 h2=> ?_) ((hP n e3).rev (ax _)) e2 hn fun i hi=> ?_
    ·rw[ot (by omega),ot (by omega),if_pos ⟨bb _,h2⟩,if_pos ⟨bb _,by omega⟩];refine .inr ⟨all _ _ (by omega) (by omega),?_⟩;rw[gr _ (by omega),gr _ (by omega)];omega
    ·rw[ot (by omega),ot (by omega),if_neg (by omega),if_pos ⟨bb _,hi⟩];exact vo O st (all _ _ (by omega) (by omega))
  ·rw[if_neg c1];have:n=1:=by omega
   subst this;exact nY O (fun i j h1 h2=>by omega) (hP 1 e3) (ax _) hn fun i hi=>by
    have:i=0:=by omega
    rw[this];exact st
theorem pN{p:Array Nat}{k:Nat}(h:Asc lt p k):∀(f l r:Nat),l<=r ->r<=k ->r-l<=f ->(∀i,i<l ->lt (g p k) (g p i)=false) ->(∀i,r<=i ->i<k ->lt (g p k) (g p i)=true) ->
  ∃x,evT lt (kas_place p k f l r)=x /\ x<=k /\ (∀i,i<x ->lt (g p k) (g p i)=false) /\ ∀i,x<=i ->i<k ->lt (g p k) (g p i)=true
 |0,l,r,h1,h2,h3,h4,h5=>⟨l,rfl,by omega,h4,fun i a b=>h5 i (by omega) b⟩
 |f+1,l,r,h1,h2,h3,h4,h5=>by
  have irr:∀a,lt a a=false:=fun a=>by
   cases q:lt a a with
   |false=>rfl
   |true=>rw[O.as a a q] at q;cases q
  have up:∀i j,i<=j ->j<k ->lt (g p j) (g p i)=false:=fun i j h1 h2=>by
   by_cases e:i=j
   ·rw[e];exact irr _
   ·exact y0 O (h i j (by omega) h2)
  show∃x,evT lt (if l≥r then KasT.ret l else .ask (p.getD k 0) (p.getD ((l+r) /2) 0) fun c=>if c=true then kas_place p k f l ((l+r) /2) else kas_place p k f ((l+r) /2+1) r)=x /\ _
  by_cases c:l≥r
  ·rw[if_pos c];exact⟨l,rfl,by omega,h4,fun i a b=>h5 i (by omega) b⟩
  ·rw[if_neg c];show∃x,evT lt (if lt (g p k) (g p ((l+r) /2))=true then kas_place p k f l ((l+r) /2) else kas_place p k f ((l+r) /2+1) r)=x /\ _
   by_cases d:lt (g p k) (g p ((l+r) /2))=true
   ·rw[if_pos d];exact pN h f l ((l+r) /2) (by omega) (by omega) (by omega) h4 fun i a b=>vo O d (up _ _ a b)
   ·rw[if_neg d];have d':lt (g p k) (g p ((l+r) /2))=false:=by simpa using d
    exact pN h f ((l+r) /2+1) r (by omega) h2 (by omega) (fun i a=>O.tr _ _ _ (up i ((l+r) /2) (by omega) (by omega)) d') h5
theorem yK:∀(f:Nat) (p:Array Nat) (k:Nat),Asc lt p k ->Pre N p k ->k+f=N -> ∃p',evT lt (kas_bin f p k)=p' /\ Asc lt p' N /\ Pre N p' N
 |0,p,k,h,hP,e=>by
  have e':k=N:=e
  subst e';exact⟨p,rfl,h,hP⟩
 |f+1,p,k,h,hP,e=>by
  show∃p',evT lt ((kas_place p k k 0 k).bind fun l=>kas_bin f (bubble p k (k-l)) (k+1))=p' /\ _
  rw[lE];obtain⟨x,e1,xk,q1,q2⟩:=pN O h k 0 k (bb _) (ax _) (by omega) (fun i a=>absurd a (ig _)) fun i a b=>by omega
  rw[e1];have z:=hP.sz
  have gb:∀i,g (bubble p k (k-x)) i=if i=x then g p k else if x<i /\ i<=k then g p (i-1) else g p i:=fun i=>by
   have e:=getElem?_bubble (xs:=p) (src:=k) (by omega) (k-x) (by omega) i
   rw[show k-(k-x)=x by omega] at e
   by_cases c1:i=x
   ·rw[if_pos c1] at e⊢;exact BG e
   ·rw[if_neg c1] at e⊢
    by_cases c2:x<i /\ i<=k
    ·rw[if_pos c2] at e⊢;exact BG e
    ·rw[if_neg c2] at e⊢;exact BG e
  have hk:=hP.hi k (ax _) (by omega)
  refine yK f (bubble p k (k-x)) (k+1) (fun i j hij hj=> ?_) ⟨(bubble_size _ _ _).trans z,(bubble_perm _ _ _).trans hP.pm,fun i h1 h2=> ?_,fun i hi=> ?_,by omega⟩ (by omega)
  ·rw[gb,gb]
   by_cases c1:i=x
   ·rw[if_pos c1,if_neg (by omega),if_pos (by omega)];exact .inl (q2 _ (by omega) (by omega))
   ·rw[if_neg c1]
    by_cases c2:j=x
    ·rw[if_pos c2,if_neg (by omega)];refine .inr ⟨q1 i (by omega),?_⟩;rw[hk];exact hP.lo i (by omega)
    ·rw[if_neg c2]
     by_cases c3:x<i /\ i<=k
     ·rw[if_pos c3,if_pos (by omega)];exact h _ _ (by omega) (by omega)
     ·rw[if_neg c3]
      by_cases c4:x<j /\ j<=k
      ·rw[if_pos c4];exact h _ _ (by omega) (by omega)
      ·rw[if_neg c4];exact h _ _ hij (by omega)
  ·rw[gb,if_neg (by omega),if_neg (by omega)];exact hP.hi i (by omega) h2
  ·rw[gb];split
   ·omega
   ·split
    ·have:=hP.lo (i-1) (by omega)
     omega
    ·have:=hP.lo i (by omega)
     omega
theorem yY(h2:2<=N):∃p,evT lt (kas_sort N)=p /\ p.size=N /\ p.Perm (bV (bH N)) /\ Asc lt p N:=by
 unfold kas_sort;rw[lE];obtain⟨m,p',e,h,hP,m1⟩:=xY O h2
 rw[e];dsimp only;have l:=hP.le
 by_cases c:m<N
 ·rw[if_pos c,Nat.max_eq_left m1];obtain⟨p2,e2,h3,hP2⟩:=yK O (N-m) p' m h hP (by omega)
  exact⟨p2,e2,hP2.sz,hP2.pm,h3⟩
 ·rw[if_neg c];have:m=N:=by omega
  subst this;exact⟨p',rfl,hP.sz,hP.pm,h⟩
end
end SR
namespace L2
open PySem PySem.Spec PyProof.Rows PySem.W
noncomputable def CN(X:Cx)(A:Around)(qual:Str)(scope:Scope)(cl:List (Str×Addr))(N:List Str)(L f c:Addr)(s:Shared)(H:Hp)(pn:List (Addr×Obj)):Cx where
 prog:=X.prog
 w:=X.w
 K:=X.K
 mg:=X.mg
 base:=X.base
 A:=A.deeper (envX qual scope L f (.ref c) cl)
 N:=N
 s₀:=s
 H₀:=H
 env:=envX qual scope L f (.ref c) cl
 outer:=X.stack
 stack:=envX qual scope L f (.ref c) cl::X.stack
 ex:=[]
 fn:=fun _=>false
 calm:=X.calm
 pn:=pn
 xe:=fun _ _=>False
end L2
namespace L2
open PySem PySem.Spec PyProof.Rows PySem.W
structure LamB(mg:Str ->Option Value)(base:Heap)(c P:Addr):Prop where
 hd:CodeHd base c P
 bm:base.BuiltinsAt mg P
 ne:mainGlobals≠P
 gl:base.Ns mainGlobals mg
noncomputable def tagL(l d:Nat)(q:Str):Array Value:= #[rawInt l,rawInt d,.str q 0]
end L2
namespace SR
open PySem PySem.W PyProof.Rows
noncomputable def AskIn(N:Nat){α:Type}:KasT α ->(α ->Prop) ->Prop
 | .ret a,R=>R a
 | .ask i j k,R=>i<N /\ j<N /\ ∀b,AskIn N (k b) R
theorem AskIn.mono{N:Nat}{α:Type}{R R':α ->Prop}(h:∀a,R a ->R' a):∀{t:KasT α},AskIn N t R ->AskIn N t R'
 | .ret _,q=>h _ q
 | .ask _ _ _,q=>⟨q.1,q.2.1,fun b=>AskIn.mono h (q.2.2 b)⟩
theorem AskIn.bind{N:Nat}{α β:Type}{f:α ->KasT β}{R:β ->Prop}:∀{t:KasT α},AskIn N t (fun a=>AskIn N (f a) R) ->AskIn N (t.bind f) R
 | .ret _,q=>q
 | .ask _ _ _,q=>⟨q.1,q.2.1,fun b=>AskIn.bind (q.2.2 b)⟩
theorem sW{lt:Nat ->Nat ->Bool}{N:Nat}{cmp:Nat ->Nat ->(Bool ->Shared ->Prop) ->Shared ->Prop}{s:Shared}(hc:∀i j C,i<N ->j<N ->C (lt i j) s ->cmp i j C s){α:Type}{Q:α ->Shared ->Prop}{R:α ->Prop}:
  ∀(t:KasT α),AskIn N t R ->Q (evT lt t) s ->t.kasWp cmp Q s
 | .ret _,_,h=>h
 | .ask i j k,q,h=>hc i j _ q.1 q.2.1 (sW hc (k (lt i j)) (q.2.2 _) h)
noncomputable def Bn(N:Nat)(p:Array Nat):Prop:=∀i,p.getD i 0<N
theorem Bn.pos{N:Nat}{p:Array Nat}(h:Bn N p):0<N:=bP (bb _) (h 0)
theorem Bn.of{N:Nat}{p:Array Nat}(hN:0<N)(h:∀x∈p,x<N):Bn N p:=fun i=>by
 by_cases hi:i<p.size
 ·have e:p.getD i 0=p[i]:=by simp[gm,hi]
  rw[e];exact h _ (Array.getElem_mem hi)
 ·have e:p.getD i 0=0:=by simp[gm,hi]
  rw[e];exact hN
theorem Bn.mem{N:Nat}{p:Array Nat}(h:Bn N p):∀x∈p,x<N:=fun x hx=>by
 obtain⟨i,hi,rfl⟩:=Array.mem_iff_getElem.mp hx
 have:=h i
 have e:p.getD i 0=p[i]:=by simp[gm,hi]
 rwa [e] at this
theorem Bn.perm{N:Nat}{p q:Array Nat}(h:Bn N p)(e:q.Perm p):Bn N q:= .of h.pos fun x hx=>h.mem x (e.mem_iff.mp hx)
theorem Bn.rev{N:Nat}{p:Array Nat}(h:Bn N p)(i j:Nat):Bn N (kas_rev p i j):=h.perm (mirror_perm _ _ _ _)
section
variable {N:Nat}
theorem su{p:Array Nat}(h:Bn N p):∀f n:Nat,AskIn N (kas_asc p f n) fun _=>True
 |0,_=>trivial
 |f+1,n=>⟨h _,h _,fun b=>by
  cases b
  ·exact su h f (n+1)
  ·trivial⟩
theorem m9:∀(f:Nat) (p:Array Nat) (n q:Nat),Bn N p ->AskIn N (kas_desc f p n q) fun r=>Bn N r.1
 |0,p,n,q,h=>h
 |f+1,p,n,q,h=>⟨h _,h _,fun b=>by
  cases b
  ·exact⟨h _,h _,fun d=>by
    cases d
    ·exact m9 f p (n+1) (q+1) h
    ·exact h⟩
  ·show AskIn N (if q>0 then _ else _) _
   by_cases c:q>0
   ·rw[if_pos c];exact m9 f _ _ _ (h.rev _ _)
   ·rw[if_neg c];exact m9 f _ _ _ h⟩
theorem rf{n nrem:Nat}{p:Array Nat}(h:Bn N p):AskIn N (kas_tail3 n nrem p) fun r=>Bn N r.2:=
 AskIn.bind ((su (h.rev _ _) _ _).mono fun _ _=>h.rev _ _)
theorem mK{n nrem:Nat}{p:Array Nat}(h:Bn N p):AskIn N (kas_descPart n nrem p) fun r=>Bn N r.2:=
 AskIn.bind ((m9 _ _ _ _ h).mono fun r hr=>by
  by_cases c:r.2.2>0
  ·rw[if_pos c];exact rf (hr.rev _ _)
  ·rw[if_neg c];exact rf hr)
theorem wf{nrem:Nat}{p:Array Nat}(h:Bn N p):AskIn N (kas_count nrem p) fun r=>Bn N r.2:=
 AskIn.bind ((su h _ _).mono fun n _=>by
  by_cases c:(n==nrem)=true
  ·rw[if_pos c];exact h
  ·rw[if_neg c]
   by_cases c2:n>1
   ·rw[if_pos c2];exact⟨h _,h _,fun b=>by
     cases b
     ·exact mK (h.rev _ _)
     ·exact h⟩
   ·rw[if_neg c2];exact mK h)
theorem n4{p:Array Nat}(h:Bn N p)(k:Nat):∀f l r:Nat,AskIn N (kas_place p k f l r) fun _=>True
 |0,_,_=>trivial
 |f+1,l,r=>by
  unfold kas_place
  by_cases c:l≥r
  ·rw[if_pos c];trivial
  ·rw[if_neg c];exact⟨h _,h _,fun b=>by
    cases b
    ·exact n4 h k f _ _
    ·exact n4 h k f _ _⟩
theorem wg:∀(f:Nat) (p:Array Nat) (k:Nat),Bn N p ->AskIn N (kas_bin f p k) fun _=>True
 |0,_,_,_=>trivial
 |f+1,p,k,h=>AskIn.bind ((n4 h k _ _ _).mono fun l _=>wg f _ _ (h.perm (bubble_perm _ _ _)))
theorem yf(hN:0<N):AskIn N (kas_sort N) fun _=>True:=by
 have h0:Bn N (bV (bH N)):= .of hN fun x hx=>by simpa using hx
 refine AskIn.bind ((wf h0).mono fun r hr=> ?_)
 by_cases c:r.1<N
 ·rw[if_pos c];exact wg _ _ _ hr
 ·rw[if_neg c];trivial
end
theorem sort_wp{lt:Nat ->Nat ->Bool}(O:Ord lt){N:Nat}(h2:2<=N){cmp:Nat ->Nat ->(Bool ->Shared ->Prop) ->Shared ->Prop}{s:Shared}(hc:∀i j C,i<N ->j<N ->C (lt i j) s ->cmp i j C s)
  {Q:Array Nat ->Shared ->Prop} (h:∀p:Array Nat,p.toList.Perm (bH N) ->p.toList.Pairwise (sl lt) ->Q p s):(kas_sort N).kasWp cmp Q s:=by
 refine sW hc (kas_sort N) (yf (by omega)) ?_;obtain⟨p,e,sz,pm,as⟩:=yY O h2
 rw[e];refine h p ?_ ?_
 ·have:=Array.perm_iff_toList_perm.mp pm
  simpa using this
 ·rw[cp];intro i j hi hj hij;have hi':i<p.size:=by simpa using hi
  have hj':j<p.size:=by simpa using hj
  have q:=as i j hij (by omega)
  have e1:g p i=p[i]:=by simp[g,gm,hi']
  have e2:g p j=p[j]:=by simp[g,gm,hj']
  rw[e1,e2] at q
  simpa using q
end SR
namespace L2
open PySem PySem.Spec PyProof.Rows PySem.W
section
variable {X:Cx} {pins:List (Addr×Obj)} {σ:St} {H:Hp} {s:Shared}
structure Ours(X:Cx)(pins:List (Addr×Obj))(H:Hp)(s:Shared)(a:Addr):Prop where
 n:H a=none
 ge:X.s₀.heap.objs.size<=a
 nl:a≠X.env.locals
 nc:∀x c,X.env.cells.lookup x=some c ->c≠a
 np:∀p∈X.pn++pins,p.1≠a
 nf:a∉X.fs
theorem Inv.fresh_ours(I:Inv X pins σ H s){a:Addr}(h:s.heap.objs.size<=a):Ours X pins H s a:=
 ⟨I.hok.fresh h,cv I.sz h,dN (aR I.lt h),fun x c e z=>by
  obtain⟨v,o,ho,_⟩:=I.cell x c e
  rw[z] at ho;exact absurd (aR (Heap.lt_size ho) h) (cz _),fun p hp z=>by
  obtain⟨e,_⟩:=I.pin p hp
  rw[z] at e;exact absurd (aR (Heap.lt_size e) h) (cz _),I.nofs h⟩
theorem Inv.set_ours{a:Addr}{h':Heap}{tk:Nat}(I:Inv X pins σ H s)(O:Ours X pins H s a)(k:∀b o,b≠a ->s.heap.get? b=some o ->h'.get? b=some o):Inv X pins σ H {s with heap:=h',toks:=tk}:=
 I.turned k O.n O.nl (.inr O.ge) O.nc O.np
theorem Inv.take{a:Addr}{o:HO}(I:Inv X pins σ H s)(O:Ours X pins H s a)(new:ObjOk X.prog X.w (upd H a o) s.heap a o):Inv X pins σ (upd H a o) s:=
 I.track O.n (fun b u e _=>aU (aR (Heap.lt_size e) O.ge)) (Ne.symm O.nl) O.nc O.np new
end
noncomputable def CP(X:Cx)(s:Shared)(u:Value)(xs:List V):Prop:=∀(A:Around) (E:Value ->Shared ->Prop) (Q:List Value ->Shared ->Prop),A.handled=none ->
 (∀us h' tk,(∀b o,s.heap.get? b=some o ->h'.get? b=some o) ->Vals xs us ->Q us {s with heap:=h',toks:=tk}) ->wpAny (model X.prog X.w) A (collect u) Q E s
section
variable {X:Cx} {pins:List (Addr×Obj)} {σ:St} {H:Hp} {s:Shared}
theorem vO{l:Addr}{xs:List V}(I:Inv X pins σ H s)(hl:SqL X.K H l xs)(h64:xs.length<64):CP X s (.ref l) xs:=by
 intro A E Q _ h;obtain⟨its,r,pl,hz⟩:=I.list hl
 have hlen:=r.length
 refine collect_list pl.isList (h _ _ _ (fun b o e=> ?_) r) (by rw[sizeLine_eq];omega);have hlt:=Heap.lt_size e
 rw[Heap.get?_update_ne _ _ _ _ (aU hlt)];exact Heap.get?_push_of_some _ e
end
end L2
namespace L2
open PySem PySem.Spec PyProof.Rows PySem.W
noncomputable abbrev Ax(us:List Value)(n:Nat):Obj:=seqObj "list" us.toArray n
section
variable {X:Cx} {pins:List (Addr×Obj)} {σ:St} {H:Hp} {s:Shared} {A:Around}
structure KeyLt(X:Cx)(A:Around)(Rk:V ->V ->Hp ->Prop)(xs:List V)(lt:Nat ->Nat ->Bool)(pins:List (Addr×Obj))(σ:St)(H:Hp):Prop where
 ord:SR.Ord lt
 ask:∀own s1 H1 kvs ks,Ext H H1 ->Inv X (own++pins) σ H1 s1 ->Paired (fun x k=>Rk x k H1) xs kvs ->Vals kvs ks ->2<=xs.length ->
  ∃κ,(∀(Q:SortKind ->Shared ->Prop) E,Q κ s1 ->wpAny (model X.prog X.w) A (keyKind' ks.toArray) Q E s1) /\ ∀i j C,i<xs.length ->j<xs.length ->C (lt i j) s1 ->kas_ask X.prog X.w A κ ks i j C s1
noncomputable def kW(lt:Nat ->Nat ->Bool)(n:Nat)(q:List Nat):Prop:=q.Perm (bH n) /\ q.Pairwise (SR.sl lt)
noncomputable def atV(xs:List V)(i:Nat):V:=xs.getD i .non
theorem qk{xs:List V}{us:List Value}(r:Vals xs us):∀{q:List Nat},(∀i∈q,i<xs.length) ->Vals (q.map (atV xs)) (q.map fun i=>us.getD i Value.none)
 |[],_=> .nil
 |i::q,h=>by
  have hi:=h i bJ
  refine .cons ?_ (qk r fun j hj=>h j (aP _ hj));obtain⟨u,hu,ru⟩:=r.get (ag hi)
  have e1:atV xs i=xs[i]:=by simp[atV,hi]
  have e2:us.getD i Value.none=u:=by rw[aZ,hu];rfl
  rw[e1];show RelV _ (us.getD i Value.none)
  rw[e2];exact ru
end
end L2
namespace L2
open PySem PySem.Spec PyProof.Rows PySem.W
theorem vw:∀a b:List Int,HT.lexLt a b=true ->HT.lexLt b a=false
 |[],[],h=>by cases h
 |[],_::_,_=>rfl
 |_::_,[],h=>by cases h
 |x::a,y::b,h=>by
  rw[HT.lexLt_cons] at h⊢
  by_cases e:x=y
  ·rw[if_pos e] at h;rw[if_pos e.symm];exact vw a b h
  ·rw[if_neg e] at h;rw[if_neg (Ne.symm e)];simp only[decide_eq_true_eq,decide_eq_false_iff_not] at h⊢;omega
theorem yz:∀a b c:List Int,HT.lexLt b a=false ->HT.lexLt c b=false ->HT.lexLt c a=false
 |[],_,c,_,_=>by cases c<;>rfl
 |_::_,[],_,h,_=>by cases h
 |_::_,_::_,[],_,h=>by cases h
 |x::a,y::b,z::c,h1,h2=>by
  rw[HT.lexLt_cons] at h1 h2⊢
  by_cases e1:y=x
  ·rw[if_pos e1] at h1
   by_cases e2:z=y
   ·rw[if_pos e2] at h2;rw[if_pos (e2.trans e1)];exact yz a b c h1 h2
   ·rw[if_neg e2] at h2;rw[if_neg (fun q=>e2 (q.trans e1.symm))];rw[<-e1];exact h2
  ·rw[if_neg e1] at h1
   by_cases e2:z=y
   ·rw[if_neg (fun q=>e1 (e2.symm.trans q)),e2];exact h1
   ·rw[if_neg e2] at h2;simp only[decide_eq_false_iff_not] at h1 h2;rw[if_neg (by omega)];simp only[decide_eq_false_iff_not];omega
noncomputable def ltT(g:V ->List Int)(xs:List V)(i j:Nat):Bool:=HT.lexLt (g (atV xs i)) (g (atV xs j))
theorem B9(g:V ->List Int)(xs:List V):SR.Ord (ltT g xs):=⟨fun a b h=>vw _ _ h,fun a b c h1 h2=>yz _ _ _ h1 h2⟩
theorem qG{α β:Type}{F:α ->β ->Prop}:∀{as:List α} {bs:List β},Paired F as bs -> ∀{i:Nat} {a:α},as[i]? =some a -> ∃b,bs[i]? =some b /\ F a b
 |_,_,.cons r t,0,a,h=>by cases h;exact⟨_,rfl,r⟩
 |_,_,.cons r t,i+1,a,h=>qG t (i:=i) (by simpa using h)
theorem Ak{xs:List V}{i:Nat}(h:i<xs.length):xs[i]? =some (atV xs i):=by
 rw[ag h];simp[atV,h]
section
variable {X:Cx} {A:Around} {xs:List V} {pins:List (Addr×Obj)} {σ:St} {H:Hp}
theorem sU{s:Shared}{b:Bool}{C:Bool ->Shared ->Prop}:∀{us vs:List Value} {ns ms:List Int} {i:Nat},IntsAre us ns ->IntsAre vs ms ->ns.length=ms.length ->C (HT.lexLt ns ms) s ->
  KatLex X.prog X.w A b false C (us.zip vs) i s
 |_,_,_,_,_,.nil,.nil,_,h=>h
 |_,_,_,_,i,.cons x t hu,.cons y t' hv,hl,h=>by
  have hl':=hl
  simp only[aV,Nat.add_right_cancel_iff] at hl';rw[cZ];refine kat_cons (wpAny_eqBool_int ?_);rw[HT.lexLt_cons] at h
  by_cases e:x=y
  ·rw[if_pos e] at h;have:(x==y)=true:=by simpa using e
   rw[this];exact kat_yes (sU hu hv hl' h)
  ·rw[if_neg e] at h;have:(x==y)=false:=by simpa using e
   rw[this];refine kat_no ?_
   by_cases c:(b&&i==0)=true
   ·rw[c];exact oneLt_int h
   ·have c':(b&&i==0)=false:=by simpa using c
    rw[c'];exact kat_one _ _ (lt_int h)
end
end L2
namespace L2
open PySem PySem.Spec PyProof.Rows PySem.W
section
variable {X:Cx} {pins:List (Addr×Obj)} {σ:St} {H:Hp} {s:Shared} {A:Around}
theorem nM{α:Type}{F:α ->α ->Prop}:∀{as:List α},(∀a∈as,F a a) ->Paired F as as
 |[],_=> .nil
 |a::as,h=> .cons (h a bJ) (nM fun b hb=>h b (aP _ hb))
theorem wH{a:Addr}{n:Nat}{us:List Value}{xs:List V}{lt:Nat ->Nat ->Bool}{Rk:V ->V ->Hp ->Prop}{P:PySem.Fin ->Shared ->Prop}{E:Value ->Shared ->Prop}(I:Inv X pins σ H s)(O:Ours X pins H s a)(ha:s.heap.get? a=some (Ax us n))
  (r:Vals xs us) (h64:us.length<64) (hp:∀x∈xs,Rk x x H) (Kl:KeyLt X A Rk xs lt pins σ H)
  (h:∀q s1 c,kW lt xs.length q ->Inv X pins σ H s1 ->Ours X pins H s1 a ->s1.heap.get? a=some (Ax (q.map fun i=>us.getD i Value.none) c) ->P (.done (.ret .none)) s1):
  wpAny (model X.prog X.w) A (Builtin.«list.sort» ⟨[.ref a],[]⟩) P E s:=by
 have hlen:=r.length
 have sz64:∀k,k<64 ->k<=sizeLine:=fun k hk=>by rw[sizeLine_eq];omega
 have s1:=Heap.SameBut.update s.heap a (Obj.mapSeq fun _=>(#[]:Array Value))
 obtain⟨e1,ho1⟩:∃e1,(s.heap.update a (Obj.mapSeq fun _=>(#[]:Array Value))).get? a=some (seqObj "list" #[] e1):=⟨_,get?_update_seq ha fun _=> #[]⟩
 have I1:Inv X pins σ H {s with heap:=s.heap.update a (Obj.mapSeq fun _=>(#[]:Array Value))}:=I.set_ours (tk:=s.toks) O fun b o hb e=>(s1.2 b hb).trans e
 rw[list_sort_plain];refine wpAny_bind (listItems_at ha rfl (wpAny_bind (listUpdate_at ha rfl ?_ (by rw[aA];exact sz64 _ h64) (bb _))));refine wpAny_bind (seqEpoch_at ho1 rfl (wpAny_bind (wpAny_newTuple (wpAny_bind (wpAny_newList (wpAny_holding ?_) (bb _))) (by show us.length<=_;exact sz64 _ h64))));generalize hh1:s.heap.update a (Obj.mapSeq fun _=>(#[]:Array Value))=h1 at*;have I2:Inv X pins σ H {s with heap:=h1.push (seqObj "tuple" us.toArray 0)}:=I1.kept (t':=s.toks) fun b o e=>Heap.get?_push_of_some _ e
 have I3:Inv X pins σ H {s with heap:=(h1.push (seqObj "tuple" us.toArray 0)).push (seqObj "list" #[] 0)}:=I2.kept (t':=s.toks) fun b o e=>Heap.get?_push_of_some _ e
 have ea3:((h1.push (seqObj "tuple" us.toArray 0)).push (seqObj "list" #[] 0)).get? a=some (seqObj "list" #[] e1):=Heap.get?_push_of_some _ (Heap.get?_push_of_some _ ho1)
 show wpAny _ A _ P E {s with heap:=(h1.push (seqObj "tuple" us.toArray 0)).push (seqObj "list" #[] 0)}
 generalize hs3:({s with heap:=(h1.push (seqObj "tuple" us.toArray 0)).push (seqObj "list" #[] 0)}:Shared)=s3 at*;have ga:s3.heap.get? a=some (seqObj "list" #[] e1):=by rw[<-hs3];exact ea3
 dsimp only
 --the end
 have tail:∀(st:SortSt) (q:List Nat),kW lt xs.length q ->failedOf st=none ->(arrOf st).map (·.2)=bV (q.map fun i=>us.getD i Value.none) ->wpAny (model X.prog X.w) A (do
   let touched:=(<-seqEpoch a)!=e1
   Builtin.List.listUpdate (.ref a) fun _=>(arrOf st).map (·.2)
   if let some e:=failedOf st then rule "list.sort.comparison-raised";throw e
   if touched then rule "list.sort.modified";raiseError "ValueError" "list modified during sort"
   ret .none) P E s3:=fun st q hq hfl hout=>by
  have ql:q.length=us.length:=by
   have:=hq.1.length_eq
   rw[cK] at this;omega
  have t2:=Heap.SameBut.update s3.heap a (Obj.mapSeq fun _=>(arrOf st).map (·.2))
  obtain⟨c2,hc2⟩:∃c2,(s3.heap.update a (Obj.mapSeq fun _=>(arrOf st).map (·.2))).get? a=some (seqObj "list" ((arrOf st).map (·.2)) c2):=⟨_,get?_update_seq ga fun _=>(arrOf st).map (·.2)⟩
  refine wpAny_bind (seqEpoch_at ga rfl (wpAny_bind (listUpdate_at ga rfl ?_ (bb _) (by
   show((arrOf st).map (·.2)).size<=_
   rw[hout,aA,ah,sizeLine_eq];omega))))
  rw[hfl];simp only[bne_self_eq_false,cc,if_false];have J2:Inv X pins σ H {s3 with heap:=s3.heap.update a (Obj.mapSeq fun _=>(arrOf st).map (·.2))}:=I3.set_ours (tk:=s3.toks) (a:=a) ⟨O.n,O.ge,O.nl,O.nc,O.np,O.nf⟩ fun b o hb g=>(t2.2 b hb).trans g
  refine wpAny_pure (h q _ c2 hq J2 ⟨O.n,O.ge,O.nl,O.nc,O.np,O.nf⟩ ?_);rw[hout] at hc2⊢;exact hc2
 by_cases h2:us.toArray.size<2
 ·rw[if_pos h2,if_pos h2];rw[aA] at h2;refine wpAny_bind (wpAny_pure ?_);rw[StateT.run_pure];refine wpAny_bind (wpAny_pure ?_)
  try dsimp only
  refine tail (SortSt.mk' general' (us.toArray.zip us.toArray) #[] 7 none) (bH xs.length) ⟨ix _,?_⟩ rfl ?_
  ·rw[cp];intro i j hi hj hij;rw[cK] at hi hj;omega
  ·show((us.toArray.zip us.toArray).map (·.2))=_
   apply Array.toList_inj.mp;rw[Array.toList_map,ksk_zip];rw[List.map_snd_zip (by simp)];rw[hlen];apply List.ext_getElem
   ·simp
   ·intro i h1 h3;simp at h1 h3;simp[h1]
 ·rw[if_neg h2,if_neg h2];rw[aA] at h2;obtain⟨κ,kk,ka⟩:=Kl.ask [] s3 H xs us (fun _ _ z=>z) I3 (nM hp) r (by omega)
  refine wpAny_bind (kk _ _ ?_);refine wpAny_bind (wpAny_mono (kat_run (κ:=κ) (vs:=us) (ks:=us) (Q:=fun st' s2=>s2=s3 /\ ∃q,kW lt xs.length q /\ failedOf st'=none /\ (arrOf st').map (·.2)=bV (q.map fun i=>us.getD i Value.none))
   (G:=fun p s2=>s2=s3 /\ kW lt xs.length p.toList) rfl (by omega) h64 (fun p st' s2 a1 a2 a3 a4=>⟨a4.1,p.toList,a4.2,a3,kat_snds rfl a2⟩) ?_) ?_ fun _ _ e=>e)
  ·exact SR.sort_wp (N:=us.length) (cmp:=kas_ask X.prog X.w A κ us) (s:=s3) (Q:=fun p s2=>s2=s3 /\ kW lt xs.length p.toList) Kl.ord (by omega) (fun i j C hi hj hC=>ka i j C (by omega) (by omega) hC) fun p hp hs=>⟨rfl,by rw[hlen];exact hp,hs⟩
  ·rintro⟨⟨⟩,st'⟩ s2 ⟨rfl,q,hq,hf,ho⟩;exact tail st' q hq hf ho
end
end L2
namespace L2
open PySem PySem.Spec PyProof.Rows PySem.W
noncomputable abbrev Rw4:=(Int×Int×Int)×(Int×Int×Int)×Int×Int
noncomputable def l3(p:Int×Int×Int):List Int:=[p.1,p.2.1,p.2.2]
noncomputable def flR(r:Rw4):List Int:=l3 r.1++(l3 r.2.1++[r.2.2.1,r.2.2.2])
noncomputable def Av(g:V ->Rw4):V ->V ->Hp ->Prop:=fun x k H=>∃t p q,k= .ref t /\ H t=some (.tup [.ref p,.ref q,.int (g x).2.2.1,.int (g x).2.2.2]) /\ H p=some (.tup ((l3 (g x).1).map V.int)) /\ H q=some (.tup ((l3 (g x).2.1).map V.int))
noncomputable def A8(K:ao):List V ->Hp ->VK ->Prop:=fun vs H Q=>∃(l:Addr) (xs:List V) (g:V ->Rw4),vs=[.ref l] /\ SqL K H l xs /\ xs.length<64 /\ (∀x∈xs,Av g x x H) /\
 ∀D q,H D=none ->kW (ltT (fun v=>flR (g v)) xs) xs.length q ->Q (.ref D) (upd H D (.lst (q.map (atV xs))))
theorem nO:∀(a b r s:List Int),a.length=b.length ->HT.lexLt (a++r) (b++s)=if a=b then HT.lexLt r s else HT.lexLt a b
 |[],[],r,s,_=>by simp
 |[],_::_,_,_,h=>by simp at h
 |_::_,[],_,_,h=>by simp at h
 |x::a,y::b,r,s,h=>by
  rw[ar,ar,HT.lexLt_cons,HT.lexLt_cons]
  by_cases e:x=y
  ·subst e;rw[if_pos rfl,if_pos rfl,nO a b r s (by simpa using h)]
   by_cases e2:a=b
   ·subst e2;rw[if_pos rfl,if_pos rfl]
   ·rw[if_neg e2,if_neg (fun q=>e2 (by simpa using q))]
  ·rw[if_neg e,if_neg (fun q=>e (cA.inj q).1),if_neg e]
section
variable {X:Cx} {A:Around} {xs:List V} {pins:List (Addr×Obj)} {σ:St} {H:Hp}
theorem items_int:∀{k:List Int} {us:List Value},Vals (k.map V.int) us ->ItemsAre (intKind X.prog X.w) k us
 |[],_,.nil=> .nil
 |n::k,_,.cons r t=>by
  obtain⟨t',rfl⟩:=r
  exact .cons (intKind_is _ _ _ _) (items_int t)
theorem zT(g:V ->Rw4)(hu:A.units<cLine):KeyLt X A (Av g) xs (ltT (fun v=>flR (g v)) xs) pins σ H:=⟨B9 _ xs,fun own s1 H1 kvs ks x1 J pr vk h2=>by
 have pt:∀{p:Addr} {z:Int×Int×Int},H1 p=some (.tup ((l3 z).map V.int)) ->IsTupleKey (intKind X.prog X.w) s1.heap (l3 z) p /\ ∃its:List Value,IsTup s1.heap p its.toArray /\ IntsAre its (l3 z):=by
  intro p z e;obtain⟨its,r,ht,hz⟩:=J.tuple (SqT.of e)
  obtain⟨o,e1,e2,n,e3⟩:=ht
  exact⟨⟨o,its.toArray,n,e1,e2,e3,by simpa using items_int (X:=X) r⟩,its,⟨o,e1,e2,n,e3⟩,intsAre_of r⟩
 have tup:∀{x k:V} {u:Value},Av g x k H1 ->RelV k u -> ∃t o p q n tm tn,u= .ref t /\ s1.heap.get? t=some o /\ o.cls= .type "tuple" /\ o.data= .seq #[.ref p,.ref q,.int (g x).2.2.1 tm,.int (g x).2.2.2 tn] n /\ H1 p=some (.tup ((l3 (g x).1).map V.int)) /\ H1 q=some (.tup ((l3 (g x).2.1).map V.int)):=by
  intro x k u rk ru;obtain⟨t,p,q,rfl,et,ep,eq⟩:=rk
  cases ru;obtain⟨its,r,ht,hz⟩:=J.tuple (SqT.of et)
  obtain⟨o,e1,e2,n,e3⟩:=ht
  cases r with
  |cons a r=>
   cases r with
   |cons b r=>
    cases r with
    |cons c r=>
     cases r with
     |cons d r=>
      cases r;cases a;cases b;obtain⟨tm,rfl⟩:=c
      obtain⟨tn,rfl⟩:=d
      exact⟨t,o,p,q,n,tm,tn,rfl,e1,e2,e3,ep,eq⟩
 have at':∀i,i<xs.length -> ∃t o p q n tm tn,ks.getD i Value.none= .ref t /\ s1.heap.get? t=some o /\ o.cls= .type "tuple" /\ o.data= .seq #[.ref p,.ref q,.int (g (atV xs i)).2.2.1 tm,.int (g (atV xs i)).2.2.2 tn] n /\ H1 p=some (.tup ((l3 (g (atV xs i)).1).map V.int)) /\ H1 q=some (.tup ((l3 (g (atV xs i)).2.1).map V.int)):=fun i hi=>by
  obtain⟨k,ek,rk⟩:=qG pr (Ak hi)
  obtain⟨u,eu,ru⟩:=vk.get ek
  obtain⟨t,o,p,q,n,tm,tn,rfl,z⟩:=tup rk ru
  exact⟨t,o,p,q,n,tm,tn,by rw[aZ,eu];rfl,z⟩
 have firsts:∀{xs' kvs':List V} {ks':List Value},Paired (fun x k=>Av g x k H1) xs' kvs' ->Vals kvs' ks' -> ∃fs,KatTups s1.heap ks' fs /\ fs.length=xs'.length /\ ∀v∈fs,Looks (model X.prog X.w) s1.heap (typeOf v) (.type "tuple"):=by
  intro xs' kvs' ks' p
  induction p generalizing ks' with
  |nil=>intro v;cases v;exact⟨[],.nil,rfl,fun v hv=>absurd hv (by simp)⟩
  |cons r t ih=>
   intro v;cases v with
   |cons a b=>
    obtain⟨fs,k1,k2,k3⟩:=ih b
    obtain⟨t,o,p,q,n,tm,tn,rfl,e1,e2,e3,ep,eq⟩:=tup r a
    refine⟨.ref p::fs,KatTups.cons e1 e2 e3 rfl k1,by simp[k2],fun v hv=> ?_⟩;rcases aw.mp hv with rfl|hv
    ·obtain⟨⟨o',items,n',f1,f2,f3,f4⟩,_⟩:=pt ep
     intro A Q E s kp hQ;have hT:IsTupleKey (intKind X.prog X.w) s.heap _ p:=⟨o',items,n',kp _ _ f1,f2,f3,f4⟩
     exact wpAny_typeOf hT.typeIs hQ
    ·exact k3 v hv
 have lk:ks.length=xs.length:=by
  have h1:=pr.length
  have h2:=vk.length
  omega
 obtain⟨fs,k1,k2,k3⟩:=firsts pr vk
 refine⟨tuples' (Value.type "tuple"!=Value.type "tuple"),fun Q E h=>kat_kind k1 (by omega) k3 (by decide) h,fun i j C hi' hj' hC=> ?_⟩;obtain⟨t,o,p,q,n,tm,tn,e0,e1,e2,e3,ep,eq⟩:=at' i hi'
 obtain⟨t',o',p',q',n',tm',tn',f0,f1,f2,f3,fp,fq⟩:=at' j hj'
 show wpAny _ _ (keyLt' (tuples' _) (ks.getD i Value.none) (ks.getD j Value.none)) C _ s1
 rw[e0,f0];refine kat_lt e1 e3 f1 f3 ?_;rw[show decide ((#[Value.ref p,.ref q,.int (g (atV xs i)).2.2.1 tm,.int (g (atV xs i)).2.2.2 tn]:Array Value).size<(#[Value.ref p',.ref q',.int (g (atV xs j)).2.2.1 tm',.int (g (atV xs j)).2.2.2 tn']:Array Value).size)=false from rfl];have hC':C (HT.lexLt (flR (g (atV xs i))) (flR (g (atV xs j)))) s1:=hC
 unfold flR at hC';rw[nO (l3 (g (atV xs i)).1) (l3 (g (atV xs j)).1) _ _ rfl] at hC';obtain⟨tp,ip,jp,kp⟩:=pt ep
 obtain⟨tp',ip',jp',kp'⟩:=pt fp
 obtain⟨tq,iq,jq,kq⟩:=pt eq
 obtain⟨tq',iq',jq',kq'⟩:=pt fq
 show KatLex X.prog X.w A (Value.type "tuple"!=Value.type "tuple") false C [(.ref p,.ref p'),(.ref q,.ref q'),(.int _ tm,.int _ tm'),(.int _ tn,.int _ tn')] 0 s1
 rw[show(Value.type "tuple"!=Value.type "tuple")=false from rfl];refine kat_cons (wpAny_eqBool_tuple hu tp tp' ?_)
 by_cases c1:l3 (g (atV xs i)).1=l3 (g (atV xs j)).1
 ·rw[if_pos c1,nO (l3 (g (atV xs i)).2.1) (l3 (g (atV xs j)).2.1) _ _ rfl] at hC';rw[decide_eq_true c1];refine kat_yes (kat_cons (wpAny_eqBool_tuple hu tq tq' ?_))
  by_cases c2:l3 (g (atV xs i)).2.1=l3 (g (atV xs j)).2.1
  ·rw[if_pos c2] at hC';rw[decide_eq_true c2];exact kat_yes (sU (.cons _ _ (.cons _ _ .nil)) (.cons _ _ (.cons _ _ .nil)) rfl hC')
  ·rw[if_neg c2] at hC';rw[decide_eq_false c2];exact kat_no (kat_one _ _ (HT.lt_tupInts jq jq' kq kq' hu hC'))
 ·rw[if_neg c1] at hC';rw[decide_eq_false c1];exact kat_no (kat_one _ _ (HT.lt_tupInts jp jp' kp kp' hu hC'))⟩
theorem oQ{K:ao}(hK:X.K=K)(hc:X.calm=true)(hu:X.A.units+64<cLine):kZ X (.builtin "sorted") (A8 K):=by
 subst hK;intro pins s σ H vs us0 Q I r0 h;obtain⟨l,xs,g,rfl,hl,h64,hg,fin⟩:=h
 obtain⟨u,rfl,rx⟩:=vals1 r0
 cases rx;refine Calls.call_function_entry kind_sorted plain_sorted entry_sorted (args_sorted1 _) ?_;unfold Builtin.«sorted»;refine wpAny_bind (m:=checkCount "sorted" 1 1 _) (wpAny_pure ?_);refine wpAny_bind (vO I hl h64 _ _ _ (I.ok.hd hc) fun us h' tk kp r=> ?_);have hlen:=r.length
 refine wpAny_bind (wpAny_newList ?_ (by rw[sizeLine_eq];omega));have I1:Inv X pins σ H {s with heap:=h',toks:=tk}:=I.kept kp
 have I2:Inv X pins σ H {s with heap:=h'.push (Ax us 0),toks:=tk}:=I1.kept (t':=tk) fun b o e=>Heap.get?_push_of_some _ e
 have OD:=I1.fresh_ours (a:=h'.objs.size) (ax _)
 have eD:(h'.push (Ax us 0)).get? h'.objs.size=some (Ax us 0):=Heap.get?_push_size _ rfl
 have OD2:Ours X pins H {s with heap:=h'.push (Ax us 0),toks:=tk} h'.objs.size:=⟨OD.n,OD.ge,OD.nl,OD.nc,OD.np,OD.nf⟩
 refine wpAny_bind (wpAny_holding (wpAny_call_entry slot_list_sort ⟨_,eD,rfl⟩ entry_list_sort ?body (args_list_sort _)))
 case body=>
  refine wH (Rk:=Av g) (lt:=ltT (fun v=>flR (g v)) xs) I2 OD2 eD r (by omega) (fun x hx=>hg x hx) (zT g (by show X.A.units+1+1<_;omega)) fun q s1 c hq J O ga=>⟨_,rfl,?_⟩
  refine wpAny_pure ⟨_,rfl,?_⟩;have hb:∀i∈q,i<xs.length:=fun i hi=>by
   have:=hq.1.mem_iff.mp hi
   simpa using this
  refine⟨.ref _,_,J.take O ?_,rfl,fin _ q OD.n hq⟩;refine⟨?_,_,c,qk r hb,ga⟩;rw[ah,hq.1.length_eq,cK,sizeLine_eq];omega
end
end L2
namespace L2
open PySem PySem.Spec PyProof.Rows
section
variable {g:TG} {tt:TT} {te tl:TE} {k:Nat} {js:List Nat} {σ:St} {Q:VK} {H:Hp} {K:ao}
theorem tW(R:VK)(h:tl σ H R)
  (hb:∀x H1,R x H1 -> ∃(a:Addr) (xs:List V),x= .ref a /\ SqT K H1 a xs /\ xs.length<1000000 /\ ∃Pv:Addr ->Nat ->List V ->Hp ->Prop,(∀D,H1 D=none ->Pv D 0 [] (upd H1 D (.lst []))) /\
   (∀D i ys H,i<=xs.length ->Pv D i ys H ->H D=some (.lst ys) /\ ys.length<=i /\ SqT K H a xs) /\
   (∀D i x ys H2,H1 D=none ->xs[i]? =some x ->Pv D i ys H2 ->g x (L2.stLC σ k js) H2 fun σ2 H3=>(σ2.drop k=frV σ js /\ σ2.length=k+js.length) /\ tt σ2 H3 fun b H4=>if b=true then te σ2 H4 fun y H5=>H5 D=some (.lst ys) /\ Pv D (i+1) (ys++[y]) (upd H5 D (.lst (ys++[y]))) else Pv D (i+1) ys H4) /\
   ∀D ys H2,H1 D=none ->Pv D xs.length ys H2 ->Q (.ref D) H2):tLC (BE K (tUp tl)) k js g tt te σ H Q:=by
 refine⟨R,h,fun x H1 q=> ?_⟩;obtain⟨a,xs,rfl,hq,hn,Pv,h0,hl,hs,hd⟩:=hb x H1 q
 exact⟨a,rfl,⟨xs,hq⟩,fun D hD=>yC (Pv D) (h0 D hD) (dO hn (by decide)) (fun i ys H hi p=>hl D i ys H hi p) (fun i x ys H hi p=>hs D i x ys H hD hi p) (fun ys H p=>hd D ys H hD p)⟩
end
end L2
namespace MA
noncomputable def sgn(n:Int):Int:=if n<0 then -1 else if 0<n then 1 else 0
theorem pE{n:Int}(h:0<n):sgn n=1:=by unfold sgn;rw[if_neg (by omega),if_pos h]
theorem pF{n:Int}(h:n<0):sgn n= -1:=by unfold sgn;rw[if_pos h]
theorem uN(n:Int):sgn n= -1∨sgn n=0∨sgn n=1:=by unfold sgn;split<;>(try split)<;>simp
noncomputable def ab(i:Int):Int:=if i<0 then -i else i
theorem rg(i:Int):ab i=(i.natAbs:Int):=by unfold ab;split<;>omega
theorem tD{a b:Int}(hb:0<b):aB b (a%b)=aB a b:=by
 rw[Int.gcd_comm a b];have h:aB b (a%b+b*(a /b))=aB b (a%b):=Int.gcd_add_mul_left_right ..
 rw[Int.emod_add_mul_ediv] at h;exact h.symm
theorem mI(a b:Int):aB (a.natAbs:Int) b=aB a b:=by
 rw[bD,bD];simp
theorem l6(a b:Int):aB a (b.natAbs:Int)=aB a b:=by
 rw[bD,bD];simp
theorem gcd_zero{a:Int}(ha:0<=a):(aB a 0:Int)=a:=by simp;omega
noncomputable def com(x y w:Int):Int:=(aB (aB w x) y:Int)*sgn w
structure IsPt(x y w a b c:Int):Prop where
 pos:0<c
 ex:a*w=x*c
 ey:b*w=y*c
 low:aB (aB a b) c=1
 la:a.natAbs<=x.natAbs
 lb:b.natAbs<=y.natAbs
 lc:c.natAbs<=w.natAbs
theorem yJ{x y w:Int}(hw:w≠0):com x y w≠0:=by
 unfold com;have h1:aB (aB w x) y≠0:=by
  intro h;have:=dH.mp h
  have h2:aB w x=0:=by have:=this.1;omega
  exact hw (dH.mp h2).1
 intro h;rcases bp.mp h with h|h
 ·omega
 ·rcases dS hw with z|z
  ·rw[pF z] at h;omega
  ·rw[pE z] at h;omega
theorem v8(x y w:Int)(hw:w≠0):com x y w∣x /\ com x y w∣y /\ com x y w∣w:=by
 have key:∀z,(aB (aB w x) y:Int)∣z ->com x y w∣z:=by
  intro z hz;unfold com;rcases dS hw with q|q
  ·rw[pF q];rw[show(aB (aB w x) y:Int)* -1= -(aB (aB w x) y:Int) by omega];exact Int.neg_dvd.mpr hz
  ·rw[pE q,df];exact hz
 have g1:(aB (aB w x) y:Int)∣(aB w x:Int):=eQ _ _
 exact⟨key x (dq g1 (d8 _ _)),key y (d8 _ _),key w (dq g1 (eQ _ _))⟩
theorem j4{a b:Int}(h:b∣a):a.fdiv b=a /b:=by
 exact Int.fdiv_eq_ediv_of_dvd h
theorem jC(a b:Int)(h:b∣a):(a /b).natAbs<=a.natAbs:=by
 rw[Int.natAbs_ediv_of_dvd h];exact Nat.div_le_self _ _
theorem nS{x y w:Int}(hw:w≠0):IsPt x y w (x.fdiv (com x y w)) (y.fdiv (com x y w)) (w.fdiv (com x y w)):=by
 obtain⟨dx,dy,dw⟩:=v8 x y w hw
 have hc:=yJ (x:=x) (y:=y) hw
 rw[j4 dx,j4 dy,j4 dw];obtain⟨a,ha⟩:=dx
 obtain⟨b,hb⟩:=dy
 obtain⟨c,hcw⟩:=dw
 have ea:x /com x y w=a:=by
  have:=bX a hc
  rw[<-ha] at this;exact this
 have eb:y /com x y w=b:=by
  have:=bX b hc
  rw[<-hb] at this;exact this
 have ec:w /com x y w=c:=by
  have:=bX c hc
  rw[<-hcw] at this;exact this
 have la:=jC x _ (⟨a,ha⟩:com x y w∣x)
 have lb:=jC y _ (⟨b,hb⟩:com x y w∣y)
 have lc:=jC w _ (⟨c,hcw⟩:com x y w∣w)
 rw[ea] at la⊢;rw[eb] at lb⊢;rw[ec] at lc⊢;generalize hG:com x y w=G at*;have hgg:(aB (aB w x) y:Int)*sgn w=G:=by rw[<-hG];rfl
 have gpos:0<(aB (aB w x) y:Int):=by
  have:(aB (aB w x) y:Int)≠0:=by
   intro z;rw[z,eG] at hgg;exact hc hgg.symm
  omega
 refine⟨?_,by rw[ha,hcw];grind,by rw[hb,hcw];grind,?_,la,lb,lc⟩
 ·--c is above 0
  rcases dS hw with q|q
  ·rw[pF q] at hgg;have hGn:G<0:=by omega
   have h1:G*c<0:=by rw[<-hcw];exact q
   exact Int.pos_of_mul_neg_right h1 hGn
  ·rw[pE q,df] at hgg;have h1:0<G*c:=by rw[<-hcw];exact q
   exact Int.pos_of_mul_pos_right h1 (by omega)
 ·--lowest terms
  have e1:aB (aB w x) y=G.natAbs:=by
   have:=congrArg Int.natAbs hgg
   rw[fA] at this;have h2:(sgn w).natAbs=1:=by
    rcases dS hw with q|q
    ·rw[pF q];rfl
    ·rw[pE q];rfl
   rw[h2,Nat.mul_one] at this
   simpa using this
  have e2:aB (aB w x) y=G.natAbs*aB (aB c a) b:=by
   rw[hcw,ha,hb];rw[gW];have:((G.natAbs*aB c a:Nat):Int).gcd (G*b)=G.natAbs*aB (aB c a) b:=by
    rw[bD,fA];simp only[fu];rw[gX,bD (aB c a:Int) b];simp
   exact this
  have gn:0<G.natAbs:=by omega
  have e3:aB (aB c a) b=1:=by
   rw[e1] at e2;have:G.natAbs*1=G.natAbs*aB (aB c a) b:=by omega
   exact(fB gn this).symm
  have e4:aB (aB a b) c=aB (aB c a) b:=by
   rw[Int.gcd_comm (aB a b:Int) c,Int.gcd_assoc]
  rw[e4,e3]
end MA
namespace MA
theorem isPt_same{x y w a b c x' y' w' a' b' c':Int}(h:IsPt x y w a b c)(k:IsPt x' y' w' a' b' c')(hw:w≠0)(hw':w'≠0)(e1:x*w'=x'*w)(e2:y*w'=y'*w):a=a' /\ b=b' /\ c=c':=by
 have f1:a*c'=a'*c:=by
  have h1:=h.ex
  have h2:=k.ex
  have:(w*w')*(a*c'-a'*c)=0:=by grind
  rcases bp.mp this with z|z
  ·rcases bp.mp z with z|z
   ·exact absurd z hw
   ·exact absurd z hw'
  ·omega
 have f2:b*c'=b'*c:=by
  have h1:=h.ey
  have h2:=k.ey
  have:(w*w')*(b*c'-b'*c)=0:=by grind
  rcases bp.mp this with z|z
  ·rcases bp.mp z with z|z
   ·exact absurd z hw
   ·exact absurd z hw'
  ·omega
 have dv:∀{a b c a' b' c':Int},aB (aB a b) c=1 ->a*c'=a'*c ->b*c'=b'*c ->c∣c':=by
  intro a b c a' b' c' hl e1 e2;have d1:c∣a*c':=⟨a',by rw[e1,f7]⟩
  have d2:c∣b*c':=⟨b',by rw[e2,f7]⟩
  have d3:c∣(aB (a*c') (b*c'):Int):=ii d1 d2
  rw[gO] at d3;have d4:c∣((aB a b:Int)*(c'.natAbs:Int)):=by
   have:=d3
   push_cast at this
   exact this
  have d5:c∣c*(c'.natAbs:Int):=Int.dvd_mul_right _ _
  have d6:c∣(aB ((aB a b:Int)*(c'.natAbs:Int)) (c*(c'.natAbs:Int)):Int):=ii d4 d5
  rw[gO,hl] at d6;simp only[Nat.one_mul,fu] at d6;exact Int.dvd_natAbs.mp d6
 have g1:c∣c':=dv h.low f1 f2
 have g2:c'∣c:=dv k.low f1.symm f2.symm
 have ec:c=c':=Int.dvd_antisymm (by have:=h.pos;omega) (by have:=k.pos;omega) g1 g2
 subst ec;have hc:=h.pos
 exact⟨bC (by omega) f1,bC (by omega) f2,rfl⟩
structure IsLn(a b c x y z:Int):Prop where
 ex:∃g:Int,0<g /\ a=g*x /\ b=g*y /\ c=g*z /\ g=(aB (aB a b) c:Int)
 low:aB (aB x y) z=1
 la:x.natAbs<=a.natAbs
 lb:y.natAbs<=b.natAbs
 lc:z.natAbs<=c.natAbs
theorem rV{a b c:Int}(h:¬(a=0 /\ b=0)):IsLn a b c (a.fdiv (aB (aB a b) c:Int)) (b.fdiv (aB (aB a b) c:Int)) (c.fdiv (aB (aB a b) c:Int)) /\ (aB (aB a b) c:Int)≠0:=by
 have hne:aB (aB a b) c≠0:=by
  intro z;have z1:=(dH.mp z).1
  have z2:aB a b=0:=by omega
  exact h (dH.mp z2)
 have d0:(aB (aB a b) c:Int)∣(aB a b:Int):=eQ _ _
 have da:(aB (aB a b) c:Int)∣a:=dq d0 (eQ _ _)
 have db:(aB (aB a b) c:Int)∣b:=dq d0 (d8 _ _)
 have dc:(aB (aB a b) c:Int)∣c:=d8 _ _
 have la:=jC a _ da
 have lb:=jC b _ db
 have lc:=jC c _ dc
 refine⟨?_,by omega⟩;rw[j4 da,j4 db,j4 dc];generalize hG:(aB (aB a b) c:Int)=G at*;have gp:0<G:=by omega
 have hG':aB (aB a b) c=G.natAbs:=by omega
 have ea:a=G*(a /G):=(e8 da).symm
 have eb:b=G*(b /G):=(e8 db).symm
 have ec:c=G*(c /G):=(e8 dc).symm
 refine⟨⟨G,gp,ea,eb,ec,hG.symm⟩,?_,la,lb,lc⟩;generalize a /G=x at*;generalize b /G=y at*;generalize c /G=z at*;subst ea eb ec;rw[gW] at hG';have e2:((G.natAbs*aB x y:Nat):Int).gcd (G*z)=G.natAbs*aB (aB x y) z:=by
  rw[bD,fA];simp only[fu];rw[gX,bD (aB x y:Int) z];simp
 rw[e2] at hG';have:G.natAbs*aB (aB x y) z=G.natAbs*1:=by omega
 exact fB (by omega) this
end MA
namespace MC
open MA
noncomputable abbrev V3:=Int×Int×Int
noncomputable def dt(a b c:V3):Int:=a.1*(b.2.1*c.2.2-b.2.2*c.2.1)-a.2.1*(b.1*c.2.2-b.2.2*c.1)+a.2.2*(b.1*c.2.1-b.2.1*c.1)
noncomputable def ex(m p:V3):Int:=m.1*p.1+m.2.1*p.2.1-m.2.2*p.2.2
noncomputable def cb(s:Int)(a:V3)(t:Int)(b:V3):V3:=(s*a.1+t*b.1,s*a.2.1+t*b.2.1,s*a.2.2+t*b.2.2)
theorem oK(a b c:V3):dt b c a=dt a b c:=by unfold dt;grind
theorem vU(a b c:V3):dt b a c= -dt a b c:=by unfold dt;grind
theorem nX(a b:V3):dt a b a=0:=by unfold dt;grind
theorem l8(a b:V3):dt a b b=0:=by unfold dt;grind
theorem vV(a b:V3):dt a a b=0:=by unfold dt;grind
theorem Ac(a b:V3)(s:Int)(c:V3)(t:Int)(d:V3):dt a b (cb s c t d)=s*dt a b c+t*dt a b d:=by unfold dt cb;grind
theorem xO(m:V3)(s:Int)(c:V3)(t:Int)(d:V3):ex m (cb s c t d)=s*ex m c+t*ex m d:=by unfold ex cb;grind
theorem mC(m a b c d:V3):dt a b c*ex m d=dt d b c*ex m a+dt a d c*ex m b+dt a b d*ex m c:=by unfold dt ex;grind
noncomputable def Sim(q v:V3):Prop:=∃s t:Int,0<s /\ 0<t /\ q.1*s=v.1*t /\ q.2.1*s=v.2.1*t /\ q.2.2*s=v.2.2*t
theorem Sim.dt{q v:V3}(h:Sim q v)(a b:V3):∃s t:Int,0<s /\ 0<t /\ dt a b q*s=dt a b v*t:=by
 obtain⟨s,t,hs,ht,e1,e2,e3⟩:=h
 refine⟨s,t,hs,ht,?_⟩;unfold MC.dt
 grind
theorem Sim.ex{q v:V3}(h:Sim q v)(m:V3):∃s t:Int,0<s /\ 0<t /\ ex m q*s=ex m v*t:=by
 obtain⟨s,t,hs,ht,e1,e2,e3⟩:=h
 refine⟨s,t,hs,ht,?_⟩;unfold MC.ex
 grind
theorem lh{x y s t:Int}(hs:0<s)(ht:0<t)(e:x*s=y*t):(0<x↔0<y) /\ (x=0↔y=0) /\ (x<0↔y<0):=by
 rcases dr x 0 with h|h|h
 ·have:=cq h hs
  have hy:y<0:=by
   rcases dr y 0 with q|q|q
   ·exact q
   ·subst q;omega
   ·have:=bL q ht;omega
  omega
 ·subst h;have hy:y=0:=by
   rcases dr y 0 with q|q|q
   ·have:=cq q ht;omega
   ·exact q
   ·have:=bL q ht;omega
  omega
 ·have:=bL h hs
  have hy:0<y:=by
   rcases dr y 0 with q|q|q
   ·have:=cq q ht;omega
   ·subst q;omega
   ·exact q
  omega
theorem Sim.dtp{q v:V3}(h:Sim q v)(a b:V3):(0<MC.dt a b q↔0<MC.dt a b v):=by
 obtain⟨s,t,hs,ht,e⟩:=h.dt a b
 exact(lh hs ht e).1
theorem Sim.exz{q v:V3}(h:Sim q v)(m:V3):(MC.ex m q=0↔MC.ex m v=0):=by
 obtain⟨s,t,hs,ht,e⟩:=h.ex m
 exact(lh hs ht e).2.1
theorem Sim.exn{q v:V3}(h:Sim q v)(m:V3):(MC.ex m q<0↔MC.ex m v<0):=by
 obtain⟨s,t,hs,ht,e⟩:=h.ex m
 exact(lh hs ht e).2.2
theorem AX{x y w a b c:Int}(h:IsPt x y w a b c)(hw:0<w):Sim (a,b,c) (x,y,w):=⟨w,c,hw,h.pos,h.ex,h.ey,by dsimp only;rw[f7]⟩
theorem y6{x y w a b c:Int}(h:IsPt x y w a b c)(hw:w<0):Sim (a,b,c) (-x,-y,-w):=by
 refine⟨-w,c,by omega,h.pos,?_,?_,?_⟩
 ·have:=h.ex;dsimp only;grind
 ·have:=h.ey;dsimp only;grind
 ·dsimp only;grind
noncomputable abbrev Vx:=V3×V3×Int
noncomputable def rot{α:Type}(l:List α):List α:=l.drop 1++l.take 1
noncomputable def edges(l:List Vx):List (Vx×Vx):=l.zip (rot l)
structure Edge(l:List Vx)(a b:Vx):Prop where
 ne:a.1≠b.1
 on1:ex a.2.1 a.1=0
 on2:ex a.2.1 b.1=0
 left:∀c∈l,c.1=a.1∨c.1=b.1∨0<dt a.1 b.1 c.1
 back:∀c∈l,c.1=a.1∨c.1=b.1∨ex a.2.1 c.1<0
structure Poly(l:List Vx):Prop where
 three:3<=l.length
 pos:∀v∈l,0<v.1.2.2
 low:∀v∈l,aB (aB v.1.1 v.1.2.1) v.1.2.2=1
 nd:(l.map (·.1)).Nodup
 edge:∀e∈edges l,Edge l e.1 e.2
theorem oJ:∀l:List Vx,edges (rot l)=rot (edges l)
 |[]=>rfl
 |[x]=>rfl
 |x::y::t=>by
  show((y::t)++[x]).zip ((t++[x])++[y])=((y::t).zip (t++[x]))++[(x,y)]
  rw[List.zip_append (by simp)];rfl
theorem j8{α:Type}(l:List α)(a:α):a∈rot l↔a∈l:=by
 unfold rot;cases l with
 |nil=>simp
 |cons x r=>simp[or_comm]
noncomputable def rotk{α:Type}(k:Nat)(l:List α):List α:=l.drop k++l.take k
theorem nF{α:Type}(k:Nat)(l:List α)(h:k<l.length):rotk (k+1) l=rot (rotk k l):=by
 have e:=bT h
 show l.drop (k+1)++l.take (k+1)=rot (l.drop k++l.take k)
 rw[e];show l.drop (k+1)++l.take (k+1)=(l.drop (k+1)++l.take k)++[l[k]]
 rw[bU,ag h,bI];rfl
theorem wZ{α:Type}(P:List α ->Prop)(l:List α)(h0:P l)(hs:∀m,P m ->P (rot m)):∀k,k<=l.length ->P (rotk k l):=by
 intro k
 induction k with
 |zero=>intro _;unfold rotk;simpa using h0
 |succ k ih=>
  intro hk;rw[nF k l (by omega)];exact hs _ (ih (by omega))
theorem rot_length{α:Type}(l:List α):(rot l).length=l.length:=by
 unfold rot;cases l with
 |nil=>rfl
 |cons x r=>simp
theorem uZ{α β:Type}(f:α ->β)(l:List α):rot (l.map f)=(rot l).map f:=by
 unfold rot;rw[ay,du,cO]
theorem uY{α:Type}(l:List α)(h:l.Nodup):(rot l).Nodup:=by
 unfold rot;cases l with
 |nil=>exact gy
 |cons x r=>
  have:=bf.mp h
  show(r++[x]).Nodup
  rw[aX];refine⟨this.2,by simp,fun a ha b hb e=> ?_⟩;simp only[aw,az,or_false] at hb;subst hb;subst e;exact this.1 ha
theorem Edge.mem{l m:List Vx}{a b:Vx}(h:Edge l a b)(hm:∀c∈m,c∈l):Edge m a b:=⟨h.ne,h.on1,h.on2,fun c hc=>h.left c (hm c hc),fun c hc=>h.back c (hm c hc)⟩
theorem Poly.rot{l:List Vx}(h:Poly l):Poly (rot l) where
 three:=by rw[rot_length];exact h.three
 pos:=fun v hv=>h.pos v ((j8 l v).mp hv)
 low:=fun v hv=>h.low v ((j8 l v).mp hv)
 nd:=by rw[<-uZ];exact uY _ h.nd
 edge:=fun e he=>by
  rw[oJ,j8] at he;exact(h.edge e he).mem fun c hc=>(j8 l c).mp hc
theorem Poly.rotk{l:List Vx}(h:Poly l){k:Nat}(hk:k<=l.length):Poly (rotk k l):=wZ Poly l h (fun _ q=>q.rot) k hk
theorem kS{p s:List Vx}{a b:Vx}:(a,b)∈edges (p++a::b::s):=by
 cases p with
 |nil=>
  show(a,b)∈(a::b::s).zip ((b::s)++[a])
  simp
 |cons x p=>
  show(a,b)∈(x::(p++a::b::s)).zip ((p++a::b::s)++[x])
  rw[di];refine⟨p.length+1,?_⟩;rw[bG];constructor
  ·simp
  ·rw[bI,aH (by omega)];simp
theorem kE{m:List Vx}{a b:Vx}:(a,b)∈edges (b::(m++[a])):=by
 show(a,b)∈(b::(m++[a])).zip ((m++[a])++[b])
 rw[di];refine⟨m.length+1,?_⟩;rw[bG];constructor
 ·simp
 ·rw[aH (by simp)];simp
theorem sf{l:List Vx}{a b:Vx}(h:(a,b)∈edges l)(h2:2<=l.length):(∃p s,l=p++a::b::s)∨∃m,l=b::(m++[a]):=by
 cases l with
 |nil=>simp at h2
 |cons x r=>
  rw[di] at h;obtain⟨i,hi⟩:=h
  have hi':((x::r).zip (r++[x]))[i]? =some (a,b):=hi
  rw[bG] at hi';obtain⟨h1,h3⟩:=hi'
  dsimp only at h1 h3
  by_cases hr:i<r.length
  ·left
   rw[aN hr] at h3;refine⟨(x::r).take i,r.drop (i+1),?_⟩;have e1:=bT (l:=x::r) (i:=i) (by simp;omega)
   have e2:=bT (l:=r) (i:=i) hr
   obtain⟨_,q1⟩:=aa.mp h1
   obtain⟨_,q3⟩:=aa.mp h3
   rw[q1] at e1;rw[q3] at e2;have:(x::r).drop (i+1)=r.drop i:=rfl
   rw[this,e2] at e1;rw[<-e1,cF]
  ·right
   have li:=(aa.mp h1).1
   have ei:i=r.length:=by simp at li;omega
   subst ei;rw[aH (by omega),gQ] at h3;cases h3;cases r with
   |nil=>simp at h2
   |cons y t=>
    obtain⟨_,q1⟩:=aa.mp h1
    refine⟨(y::t).take t.length,?_⟩
    congr 1
    have e1:=bT (l:=y::t) (i:=t.length) (by simp)
    have e3:(y::t)[t.length]'(by simp)=a:=by
     have:(b::y::t)[(y::t).length]'(by simp)=(y::t)[t.length]'(by simp):=rfl
     rw[<-this];exact q1
    rw[e3] at e1;have e4:(y::t).drop (t.length+1)=[]:=fT (by simp)
    rw[e4] at e1;rw[<-e1,cF]
theorem zG{α:Type}(f:α ->Int):∀t:List α,(∀p x y s,t=p++x::y::s -> ¬(f x<=0 /\ 0<f y)) -> ∃D C,t=D++C /\ (∀d∈D,0<f d) /\ ∀c∈C,f c<=0
 |[],_=>⟨[],[],rfl,by simp,by simp⟩
 |x::r,h=>by
  obtain⟨D,C,e,hD,hC⟩:=zG f r fun p a b s q=>h (x::p) a b s (by rw[q];rfl)
  by_cases hx:0<f x
  ·exact⟨x::D,C,by rw[e];rfl,fun d hd=>by
    rcases aw.mp hd with rfl|hd
    ·exact hx
    ·exact hD d hd,hC⟩
  ·cases D with
   |nil=>
    refine⟨[],x::C,by rw[e];rfl,by simp,fun c hc=> ?_⟩;rcases aw.mp hc with rfl|hc
    ·omega
    ·exact hC c hc
   |cons d D=>
    exact absurd ⟨by omega,hD d (by simp)⟩ (h [] x d (D++C) (by rw[e];rfl))
end MC
namespace MC
open MA
theorem Edge.left_ge{l:List Vx}{a b c:Vx}(E:Edge l a b)(hc:c∈l):0<=dt a.1 b.1 c.1:=by
 rcases E.left c hc with e|e|e
 ·rw[e,nX];exact cP _
 ·rw[e,l8];exact cP _
 ·omega
theorem Edge.back_le{l:List Vx}{a b c:Vx}(E:Edge l a b)(hc:c∈l):ex a.2.1 c.1<=0:=by
 rcases E.back c hc with e|e|e
 ·rw[e,E.on1];exact cP _
 ·rw[e,E.on2];exact cP _
 ·omega
theorem Edge.left_of{l:List Vx}{a b c:Vx}(E:Edge l a b)(hc:c∈l)(h1:c.1≠a.1)(h2:c.1≠b.1):0<dt a.1 b.1 c.1:=(E.left c hc).elim (fun q=>absurd q h1) fun q=>q.elim (fun q=>absurd q h2) id
theorem Edge.back_of{l:List Vx}{a b c:Vx}(E:Edge l a b)(hc:c∈l)(h1:c.1≠a.1)(h2:c.1≠b.1):ex a.2.1 c.1<0:=(E.back c hc).elim (fun q=>absurd q h1) fun q=>q.elim (fun q=>absurd q h2) id
theorem lG{a b:Int}(h1:0<=a)(h2:0<=b):0<=a*b:=eo h1 h2
theorem sT{a b:Int}(h1:0<=a)(h2:b<=0):a*b<=0:=Int.mul_nonpos_of_nonneg_of_nonpos h1 h2
theorem AD{l:List Vx}{a b c d:Vx}(E:Edge l a b)(hc:c∈l)(hd:d∈l){s t:Int}(hs:0<=s)(ht:0<=t)
  (hh:(0<s /\ c.1≠a.1 /\ c.1≠b.1)∨(0<t /\ d.1≠a.1 /\ d.1≠b.1)):0<dt a.1 b.1 (cb s c.1 t d.1) /\ ex a.2.1 (cb s c.1 t d.1)<0:=by
 rw[Ac,xO];have c1:=lG hs (E.left_ge hc)
 have d1:=lG ht (E.left_ge hd)
 have c2:=sT hs (E.back_le hc)
 have d2:=sT ht (E.back_le hd)
 rcases hh with⟨h,n1,n2⟩|⟨h,n1,n2⟩
 ·have q1:=bL h (E.left_of hc n1 n2)
  have q2:=bQ h (E.back_of hc n1 n2)
  omega
 ·have q1:=bL h (E.left_of hd n1 n2)
  have q2:=bQ h (E.back_of hd n1 n2)
  omega
theorem yG(s:Int)(a:V3)(t:Int)(b x:V3):dt (cb s a t b) x b= -(s*dt a b x):=by unfold dt cb;grind
theorem BN(s:Int)(a:V3)(t:Int)(b x:V3):dt x (cb s a t b) b=s*dt a b x:=by unfold dt cb;grind
theorem m5(m a b:V3):ex m (cb (ex m b) a (-(ex m a)) b)=0:=by rw[xO];grind
theorem ux{l:List Vx}(hP:Poly l){m:V3}{a b a' b':Vx}(e1:(a,b)∈edges l)(e2:(a',b')∈edges l)(m1:a∈l)(m2:b∈l)(m3:a'∈l)(m4:b'∈l)
  (h1:ex m a.1<=0) (h2:0<ex m b.1) (h3:ex m a'.1<=0) (h4:0<ex m b'.1):a.1=a'.1:=by
 refine Classical.byContradiction fun ne=> ?_
 have E1:=hP.edge _ e1
 have E2:=hP.edge _ e2
 dsimp only at E1 E2;have nb:a'.1≠b.1:=fun q=>by rw[q] at h3;omega
 have nb':a.1≠b'.1:=fun q=>by rw[q] at h1;omega
 have D1:=(AD E1 m3 m4 (s:=ex m b'.1) (t:= -(ex m a'.1)) (by omega) (by omega) (.inl ⟨h4,Ne.symm ne,nb⟩)).1
 have D2:=(AD E2 m1 m2 (s:=ex m b.1) (t:= -(ex m a.1)) (by omega) (by omega) (.inl ⟨h2,ne,nb'⟩)).1
 have P:=mC m (cb (ex m b.1) a.1 (-(ex m a.1)) b.1) (cb (ex m b'.1) a'.1 (-(ex m a'.1)) b'.1) b.1 b'.1
 rw[m5,m5,ci,ci,bR,bR,yG,BN] at P;have q1:=bL (bL h2 D1) h4
 have q2:=bL (bL h4 D2) h2
 rw[Int.neg_mul] at P;omega
noncomputable def pe{α:Type}:List α ->List (α×α)
 |[]=>[]
 |[_]=>[]
 |x::y::r=>(x,y)::pe (y::r)
theorem pe_app{α:Type}(a:α)(q:List α):∀p:List α,pe (p++a::q)=pe (p++[a])++pe (a::q)
 |[]=>by simp[pe]
 |[x]=>by simp[pe]
 |x::y::p=>by
  have:=pe_app a q (y::p)
  simp only[ar,pe] at this⊢;rw[this]
theorem yh{α:Type}:∀(r:List α) (x z:α),(x::r).zip (r++[z])=pe (x::r++[z])
 |[],x,z=>rfl
 |y::r,x,z=>by
  have:=yh r y z
  simp only[ar,cZ,pe] at this⊢;rw[this]
theorem kR(x:Vx)(r:List Vx):edges (x::r)=pe (x::r++[x]):=yh r x x
theorem wY{α:Type}(u v:List α):rotk u.length (u++v)=v++u:=by
 unfold rotk;rw[List.drop_left,List.take_left]
theorem lm(l:List Vx):(edges l).length=l.length:=by
 unfold edges;rw[fi,rot_length,Nat.min_self]
theorem ul(l:List Vx):∀k,k<=l.length ->edges (rotk k l)=rotk k (edges l):=by
 intro k
 induction k with
 |zero=>intro _;unfold rotk;simp
 |succ k ih=>
  intro hk;rw[nF k l (by omega),oJ,ih (by omega),nF k (edges l) (by rw[lm];omega)]
noncomputable def Rot{α:Type}(l m:List α):Prop:=∃u v,l=u++v /\ m=v++u
theorem Rot.refl{α:Type}(l:List α):Rot l l:=⟨[],l,rfl,by simp⟩
theorem Rot.symm{α:Type}{l m:List α}(h:Rot l m):Rot m l:=by
 obtain⟨u,v,e1,e2⟩:=h
 exact⟨v,u,e2,e1⟩
theorem Rot.trans{α:Type}{l m n:List α}(h1:Rot l m)(h2:Rot m n):Rot l n:=by
 obtain⟨u,v,rfl,rfl⟩:=h1
 obtain⟨p,q,e,rfl⟩:=h2
 rcases List.append_eq_append_iff.mp e with⟨w,e1,e2⟩|⟨w,e1,e2⟩
 ·exact⟨w,q++v,by rw[e2];simp,by rw[e1];simp⟩
 ·exact⟨u++p,w,by rw[e1];simp,by rw[e2];simp⟩
theorem Rot.of{α:Type}(k:Nat)(l:List α):Rot l (rotk k l):=⟨l.take k,l.drop k,(cF k l).symm,rfl⟩
theorem Rot.at{α:Type}{l m:List α}(h:Rot l m):∃k,k<=l.length /\ m=rotk k l:=by
 obtain⟨u,v,rfl,rfl⟩:=h
 exact⟨u.length,by simp,(wY u v).symm⟩
theorem Rot.poly{l m:List Vx}(h:Rot l m)(hP:Poly l):Poly m:=by
 obtain⟨k,hk,rfl⟩:=h.at
 exact hP.rotk hk
theorem Rot.mem{α:Type}{l m:List α}(h:Rot l m)(a:α):a∈m↔a∈l:=by
 obtain⟨u,v,rfl,rfl⟩:=h
 rw[aT,aT,or_comm]
theorem Rot.edges{l m:List Vx}(h:Rot l m):Rot (edges l) (edges m):=by
 obtain⟨k,hk,rfl⟩:=h.at
 rw[ul l k hk];exact .of k _
theorem Rot.flat{α β:Type}{l m:List α}(h:Rot l m)(f:α ->List β):Rot (l.flatMap f) (m.flatMap f):=by
 obtain⟨u,v,rfl,rfl⟩:=h
 exact⟨u.flatMap f,v.flatMap f,by rw[cu],by rw[cu]⟩
theorem j9{l:List Vx}{a b:Vx}(h:(a,b)∈edges l):a∈l /\ b∈l:=by
 have:=bZ h
 exact⟨this.1,(j8 l b).mp this.2⟩
theorem canon{l:List Vx}(hP:Poly l)(m:V3)(hp:∃v∈l,0<ex m v.1)(hn:∃v∈l,ex m v.1<=0):
  ∃C D,Rot l (C++D) /\ C≠[] /\ D≠[] /\ (∀c∈C,ex m c.1<=0) /\ ∀d∈D,0<ex m d.1:=by
 have up:∃a b,(a,b)∈edges l /\ ex m a.1<=0 /\ 0<ex m b.1:=by
  refine Classical.byContradiction fun no=> ?_
  obtain⟨D,C,e,hD,hC⟩:=zG (fun v:Vx=>ex m v.1) l fun p x y s q hxy=>no ⟨x,y,by rw[q];exact kS,hxy⟩
  obtain⟨v,hv,hv0⟩:=hp
  obtain⟨w,hw,hw0⟩:=hn
  cases D with
  |nil=>
   rw[e] at hv;have:=hC v (by simpa using hv)
   omega
  |cons d D=>
   cases hC':C.reverse with
   |nil=>
    have:C=[]:=by simpa using hC'
    subst this;rw[e] at hw;have:=hD w (by simpa using hw)
    omega
   |cons c R=>
    have eC:C=R.reverse++[c]:=by
     have:=congrArg f9 hC'
     simpa using this
    refine no ⟨c,d,?_,hC c (by rw[eC];simp),hD d (by simp)⟩;rw[e,eC];have:=kE (m:=D++R.reverse) (a:=c) (b:=d)
    simpa using this
 obtain⟨a,b,hab,ha,hb⟩:=up
 have h2:2<=l.length:=by have:=hP.three;omega
 obtain⟨r,hr⟩:∃r,Rot l (b::(r++[a])):=by
  rcases sf hab h2 with⟨p,s,e⟩|⟨r,e⟩
  ·exact⟨s++p,p++[a],b::s,by rw[e];simp,by simp⟩
  ·exact⟨r,by rw[<-e];exact .refl l⟩
 have hPt:=hr.poly hP
 have memt:=hr.mem
 obtain⟨D,C,e,hD,hC⟩:=zG (fun v:Vx=>ex m v.1) (b::(r++[a])) fun p x y s q hxy=>by
  have exy:(x,y)∈edges (b::(r++[a])):=by rw[q];exact kS
  have eab:(a,b)∈edges (b::(r++[a])):=kE
  have u:=ux hPt (m:=m) eab exy (j9 eab).1 (j9 eab).2 (j9 exy).1 (j9 exy).2 ha hb hxy.1 hxy.2
  have nd:=hPt.nd
  rw[q,ay,aM,aX] at nd;have hx:=(bf.mp nd.2.1).1
  apply hx;have hlast:a∈y::s:=by
   have e1:(p++x::y::s).getLast?=some a:=by
    rw[<-q,show b::(r++[a])=(b::r)++[a] from rfl];exact List.getLast?_concat
   rw[List.getLast?_append] at e1;have e2:(x::y::s).getLast?=(y::s).getLast?:=rfl
   rw[e2] at e1;cases e3:(y::s).getLast? with
   |none=>simp at e3
   |some z=>
    rw[e3] at e1;have:z=a:=by simpa using e1
    subst this;exact List.mem_of_getLast? e3
  rw[<-u];exact aC.mpr ⟨a,hlast,rfl⟩
 have hRt:Rot (b::(r++[a])) (C++D):=⟨D,C,e,rfl⟩
 refine⟨C,D,hr.trans hRt,fun q=> ?_,fun q=> ?_,hC,hD⟩
 ·subst q;have:a∈D:=by
   have:a∈b::(r++[a]):=by simp
   rw[e] at this
   simpa using this
  have:=hD a this
  omega
 ·subst q;have:b∈C:=by
   have:b∈b::(r++[a]):=by simp
   rw[e] at this
   simpa using this
  have:=hC b this
  omega
end MC
namespace MC
open MA
noncomputable def je(a b:V3)(h t:Int):V3:=
 ((a.1*t-b.1*h).fdiv (com (a.1*t-b.1*h) (a.2.1*t-b.2.1*h) (a.2.2*t-b.2.2*h)),
  (a.2.1*t-b.2.1*h).fdiv (com (a.1*t-b.1*h) (a.2.1*t-b.2.1*h) (a.2.2*t-b.2.2*h)),
  (a.2.2*t-b.2.2*h).fdiv (com (a.1*t-b.1*h) (a.2.1*t-b.2.1*h) (a.2.2*t-b.2.2*h)))
theorem tO{a b:V3}{h t:Int}(ha:0<a.2.2)(hb:0<b.2.2)(h1:h<0)(h2:0<t):IsPt (a.1*t-b.1*h) (a.2.1*t-b.2.1*h) (a.2.2*t-b.2.2*h) (je a b h t).1 (je a b h t).2.1 (je a b h t).2.2 /\ Sim (je a b h t) (cb t a (-h) b):=by
 have hw:0<a.2.2*t-b.2.2*h:=by
  have q1:=bL ha h2
  have q2:=bQ hb h1
  omega
 have k:=nS (x:=a.1*t-b.1*h) (y:=a.2.1*t-b.2.1*h) (w:=a.2.2*t-b.2.2*h) (by omega)
 refine⟨k,?_⟩;have:=AX k hw
 rw[show cb t a (-h) b=(a.1*t-b.1*h,a.2.1*t-b.2.1*h,a.2.2*t-b.2.2*h) by unfold cb;refine b9 ?_ (b9 ?_ ?_)<;>(dsimp only;grind)]
 exact this
theorem oN{a b:V3}{h t:Int}(ha:0<a.2.2)(hb:0<b.2.2)(h1:0<h)(h2:t<0):IsPt (a.1*t-b.1*h) (a.2.1*t-b.2.1*h) (a.2.2*t-b.2.2*h) (je a b h t).1 (je a b h t).2.1 (je a b h t).2.2 /\ Sim (je a b h t) (cb h b (-t) a):=by
 have hw:a.2.2*t-b.2.2*h<0:=by
  have q1:=bQ ha h2
  have q2:=bL hb h1
  omega
 have k:=nS (x:=a.1*t-b.1*h) (y:=a.2.1*t-b.2.1*h) (w:=a.2.2*t-b.2.2*h) (by omega)
 refine⟨k,?_⟩;have:=y6 k hw
 rw[show cb h b (-t) a=(-(a.1*t-b.1*h),-(a.2.1*t-b.2.1*h),-(a.2.2*t-b.2.2*h)) by unfold cb;refine b9 ?_ (b9 ?_ ?_)<;>(dsimp only;grind)]
 exact this
noncomputable def emit(m:V3)(num:Int)(e:Vx×Vx):List Vx:=
 (if ex m e.1.1<0∨(ex m e.1.1=0 /\ ex m e.2.1<=0) then[e.1] else if ex m e.1.1=0 then[(e.1.1,m,num)] else[])++
 (if ex m e.1.1<0 /\ 0<ex m e.2.1 then[(je e.1.1 e.2.1 (ex m e.1.1) (ex m e.2.1),m,num)] else if 0<ex m e.1.1 /\ ex m e.2.1<0 then[(je e.1.1 e.2.1 (ex m e.1.1) (ex m e.2.1),e.1.2)] else[])
noncomputable def ju(m:V3)(num:Int)(l:List Vx):List Vx:=(edges l).flatMap (emit m num)
theorem p9(m:V3)(num:Int)(a:Vx):∀p:List Vx,(∀c∈p++[a],ex m c.1<=0) ->(pe (p++[a])).flatMap (emit m num)=p
 |[],_=>rfl
 |[x],h=>by
  have h1:=h x (by simp)
  have h2:=h a (by simp)
  simp only[ar,aS,pe,bB,dG,aL,emit];rw[if_pos (by omega),if_neg (by omega),if_neg (by omega)];rfl
 |x::y::p,h=>by
  have h1:=h x (by simp)
  have h2:=h y (by simp)
  have ih:=p9 m num a (y::p) fun c hc=>h c (by simp at hc⊢;right;exact hc)
  simp only[ar,pe,bB] at ih⊢;rw[ih];simp only[emit];rw[if_pos (by omega),if_neg (by omega),if_neg (by omega)];rfl
theorem tE(m:V3)(num:Int):∀p:List Vx,(∀c∈p,0<ex m c.1) ->(pe p).flatMap (emit m num)=[]
 |[],_=>rfl
 |[x],h=>rfl
 |x::y::p,h=>by
  have h1:=h x (by simp)
  have h2:=h y (by simp)
  have ih:=tE m num (y::p) fun c hc=>h c (by simp at hc⊢;right;exact hc)
  simp only[pe,bB] at ih⊢;rw[ih];simp only[emit];rw[if_neg (by omega),if_neg (by omega),if_neg (by omega),if_neg (by omega)];rfl
noncomputable def kr(m:V3)(num:Int)(k d:Vx):List Vx:=if ex m k.1<0 then[k,(je k.1 d.1 (ex m k.1) (ex m d.1),m,num)] else[(k.1,m,num)]
noncomputable def kU(m:V3)(z c:Vx):List Vx:=if ex m c.1<0 then[(je z.1 c.1 (ex m z.1) (ex m c.1),z.2)] else[]
theorem oD{m:V3}{num:Int}{C1 D2:List Vx}{C2 D1:List Vx}{k d c z:Vx}(eC:C1++[k]=c::C2)(eD:D2++[z]=d::D1)
  (hC:∀x∈C1++[k],ex m x.1<=0) (hD:∀x∈d::D1,0<ex m x.1):ju m num ((C1++[k])++(d::D1))=C1++(kr m num k d++kU m z c):=by
 have hk:=hC k (by simp)
 have hd:=hD d (by simp)
 have hc:=hC c (by rw[eC];simp)
 have hz:=hD z (by rw[<-eD];simp)
 have e1:edges ((C1++[k])++(d::D1))=pe (C1++[k])++((k,d)::(pe (d::D1)++[(z,c)])):=by
  rw[eC,ar,kR];have e2:c::(C2++d::D1)++[c]=C1++k::(d::D1++[c]):=by
   rw[<-ar, <-eC];simp
  rw[e2,pe_app, <-eC]
  congr 1
  show(k,d)::pe (d::(D1++[c]))=_
  congr 1
  rw[<-ar, <-eD,bI];show pe (D2++z::[c])=_
  rw[pe_app,eD];rfl
 unfold ju;rw[e1,cu,bB,cu,p9 m num k C1 hC,tE m num (d::D1) hD]
 congr 1
 simp only[bB,dG,aL,aS]
 congr 1
 ·unfold emit kr;dsimp only
  by_cases q:ex m k.1<0
  ·rw[if_pos (.inl q),if_pos ⟨q,hd⟩,if_pos q];rfl
  ·rw[if_neg (by omega),if_pos (by omega),if_neg (by omega),if_neg (by omega),if_neg q];rfl
 ·unfold emit kU;dsimp only;rw[if_neg (by omega),if_neg (by omega),if_neg (by omega)]
  by_cases q:ex m c.1<0
  ·rw[if_pos ⟨hz,q⟩,if_pos q];rfl
  ·rw[if_neg (by omega),if_neg q];rfl
end MC
namespace MC
open MA
theorem Edge.congr{l:List Vx}{a b b':Vx}(h:Edge l a b)(e:b.1=b'.1):Edge l a b':=by
 obtain⟨h1,h2,h3,h4,h5⟩:=h
 rw[e] at h1 h3 h4 h5;exact⟨h1,h2,h3,h4,h5⟩
noncomputable def Ao(a b:Vx)(p:V3):Prop:=p=a.1∨p=b.1∨(0<dt a.1 b.1 p /\ ex a.2.1 p<0)
theorem Aa{l:List Vx}{a b:Vx}(h1:a.1≠b.1)(h2:ex a.2.1 a.1=0)(h3:ex a.2.1 b.1=0)(h:∀c∈l,Ao a b c.1):Edge l a b:=
 ⟨h1,h2,h3,fun c hc=>(h c hc).imp id (fun q=>q.imp id (·.1)),fun c hc=>(h c hc).imp id (fun q=>q.imp id (·.2))⟩
theorem Edge.ok{l:List Vx}{a b c:Vx}(h:Edge l a b)(hc:c∈l):Ao a b c.1:=by
 rcases h.left c hc with e|e|e
 ·exact .inl e
 ·exact .inr (.inl e)
 ·rcases h.back c hc with e'|e'|e'
  ·exact .inl e'
  ·exact .inr (.inl e')
  ·exact .inr (.inr ⟨e,e'⟩)
theorem u7{k k':Vx}(hk:k'.1=k.1):∀(p:List Vx) (a b:Vx),(a,b)∈pe (p++[k']) -> ∃b',(a,b')∈pe (p++[k]) /\ b'.1=b.1
 |[],a,b,h=>by simp[pe] at h
 |[x],a,b,h=>by
  simp only[ar,aS,pe,aw,az,or_false,dI.injEq] at h⊢;obtain⟨rfl,rfl⟩:=h
  exact⟨k,⟨rfl,rfl⟩,hk.symm⟩
 |x::y::p,a,b,h=>by
  simp only[ar,pe,aw,dI.injEq] at h⊢;rcases h with⟨rfl,rfl⟩|h
  ·exact⟨b,.inl ⟨rfl,rfl⟩,rfl⟩
  ·obtain⟨b',h1,h2⟩:=u7 hk (y::p) a b h
   exact⟨b',.inr h1,h2⟩
theorem oF{α:Type}:∀(p:List α) (a b:α),(a,b)∈pe p ->a∈p /\ b∈p
 |[],a,b,h=>by simp[pe] at h
 |[x],a,b,h=>by simp[pe] at h
 |x::y::p,a,b,h=>by
  simp only[pe,aw,dI.injEq] at h;rcases h with⟨rfl,rfl⟩|h
  ·simp
  ·have:=oF (y::p) a b h
   exact⟨aP _ this.1,aP _ this.2⟩
theorem nJ{α:Type}{p q:List α}{a b:α}(h:(a,b)∈pe p):(a,b)∈pe (p++q):=by
 cases hp:p.reverse with
 |nil=>
  have:p=[]:=by simpa using hp
  subst this;simp[pe] at h
 |cons x r=>
  have e:p=r.reverse++[x]:=by
   have:=congrArg f9 hp
   simpa using this
  rw[e,bI,gf,pe_app, <-e];exact bK _ h
theorem vn{C:List Vx}{c0 k c:Vx}{C1 C2:List Vx}(e1:C=C1++[k])(e2:C=c0::C2)(hc:c∈C)(n1:c≠c0)(n2:c≠k):∃p a b s,C=p++a::c::b::s:=by
 obtain⟨p,s,e⟩:=gG hc
 cases hp:p.reverse with
 |nil=>
  have:p=[]:=by simpa using hp
  subst this;rw[e] at e2;simp at e2;exact absurd e2.1 n1
 |cons a r=>
  have ep:p=r.reverse++[a]:=by
   have:=congrArg f9 hp
   simpa using this
  cases s with
  |nil=>
   rw[e] at e1;have:=congrArg f9 e1
   simp at this;exact absurd this.1 n2
  |cons b s=>exact⟨r.reverse,a,b,s,by rw[e,ep];simp⟩
structure Cfg(m:V3)(C1 C2 D1 D2:List Vx)(k c d z:Vx):Prop where
 hP:Poly ((C1++[k])++(d::D1))
 eC:C1++[k]=c::C2
 eD:D2++[z]=d::D1
 hC:∀x∈C1++[k],ex m x.1<=0
 hD:∀x∈d::D1,0<ex m x.1
 neg:∃x∈C1++[k],ex m x.1<0
section
variable {m:V3} {num:Int} {C1 C2 D1 D2:List Vx} {k c d z:Vx}
noncomputable def Xp(m:V3)(k d:Vx):V3:=if ex m k.1<0 then je k.1 d.1 (ex m k.1) (ex m d.1) else k.1
noncomputable def Yp(m:V3)(z c:Vx):V3:=if ex m c.1<0 then je z.1 c.1 (ex m z.1) (ex m c.1) else c.1
namespace Cfg
theorem inC(h:Cfg m C1 C2 D1 D2 k c d z){x:Vx}(hx:x∈C1++[k]):x∈(C1++[k])++(d::D1):=bK _ hx
theorem inD(h:Cfg m C1 C2 D1 D2 k c d z){x:Vx}(hx:x∈d::D1):x∈(C1++[k])++(d::D1):=bE _ hx
theorem kC(h:Cfg m C1 C2 D1 D2 k c d z):k∈C1++[k]:=by simp
theorem cC(h:Cfg m C1 C2 D1 D2 k c d z):c∈C1++[k]:=by rw[h.eC];simp
theorem zD(h:Cfg m C1 C2 D1 D2 k c d z):z∈d::D1:=by rw[<-h.eD];simp
theorem dD(h:Cfg m C1 C2 D1 D2 k c d z):d∈d::D1:=by simp
theorem ekd(h:Cfg m C1 C2 D1 D2 k c d z):Edge ((C1++[k])++(d::D1)) k d:=by
 have:(k,d)∈edges ((C1++[k])++(d::D1)):=by
  have:=kS (p:=C1) (s:=D1) (a:=k) (b:=d)
  simpa using this
 exact h.hP.edge _ this
theorem ezc(h:Cfg m C1 C2 D1 D2 k c d z):Edge ((C1++[k])++(d::D1)) z c:=by
 have:(z,c)∈edges ((C1++[k])++(d::D1)):=by
  rw[h.eC, <-h.eD];have:=kE (m:=C2++D2) (a:=z) (b:=c)
  simpa using this
 exact h.hP.edge _ this
theorem cd(h:Cfg m C1 C2 D1 D2 k c d z){x y:Vx}(hx:x∈C1++[k])(hy:y∈d::D1):x.1≠y.1:=fun q=>by
 have h1:=h.hC x hx
 have h2:=h.hD y hy
 rw[q] at h1;omega
theorem inj(h:Cfg m C1 C2 D1 D2 k c d z){x y:Vx}(hx:x∈C1++[k])(hy:y∈C1++[k])(e:x.1=y.1):x=y:=by
 have nd:=h.hP.nd
 rw[ay,aX] at nd;have nd:=nd.1
 generalize C1++[k]=C at hx hy nd
 induction C with
 |nil=>simp at hx
 |cons w C ih=>
  rw[aM,bf] at nd;rcases aw.mp hx with rfl|hx'<;>rcases aw.mp hy with rfl|hy'
  ·rfl
  ·exact absurd (aC.mpr ⟨y,hy',e.symm⟩) nd.1
  ·exact absurd (aC.mpr ⟨x,hx',e⟩) nd.1
  ·exact ih hx' hy' nd.2
theorem two(h:Cfg m C1 C2 D1 D2 k c d z)(e:c.1=k.1):z.1≠d.1:=by
 have ek:c=k:=h.inj h.cC h.kC e
 have len:=h.hP.three
 have e1:C1=[]:=by
  cases C1 with
  |nil=>rfl
  |cons w C1'=>
   have hc:=h.eC
   rw[ar] at hc;have hw:w=c:=(cA.inj hc).1
   have nd:=h.hP.nd
   rw[ay,aX,ar,aM,bf] at nd;refine absurd ?_ nd.1.1;rw[hw,e];exact aC.mpr ⟨k,by simp,rfl⟩
 subst e1;intro q;have hD2:=h.eD
 cases D1 with
 |nil=>simp at len
 |cons y D1'=>
  cases D2 with
  |nil=>simp at hD2
  |cons w D2'=>
   rw[ar] at hD2;obtain⟨rfl,e3⟩:=cA.inj hD2
   have nd:=h.hP.nd
   rw[ay,aX,aM,bf] at nd;refine absurd ?_ nd.2.1.1;rw[<-e3, <-q];exact aC.mpr ⟨z,by simp,rfl⟩
theorem wk(h:Cfg m C1 C2 D1 D2 k c d z){x:Vx}(hx:x∈(C1++[k])++(d::D1)):0<x.1.2.2:=h.hP.pos x hx
theorem simX(h:Cfg m C1 C2 D1 D2 k c d z):Sim (Xp m k d) (cb (ex m d.1) k.1 (-(ex m k.1)) d.1):=by
 unfold Xp;have hk:=h.hC k h.kC
 have hd:=h.hD d h.dD
 split
 ·rename_i q
  exact(tO (h.wk (h.inC h.kC)) (h.wk (h.inD h.dD)) q hd).2
 ·have e:ex m k.1=0:=by omega
  rw[e];refine⟨ex m d.1,1,hd,by decide,?_,?_,?_⟩<;>(unfold cb;dsimp only;grind)
theorem simY(h:Cfg m C1 C2 D1 D2 k c d z):Sim (Yp m z c) (cb (ex m z.1) c.1 (-(ex m c.1)) z.1):=by
 unfold Yp;have hc:=h.hC c h.cC
 have hz:=h.hD z h.zD
 split
 ·rename_i q
  exact(oN (h.wk (h.inD h.zD)) (h.wk (h.inC h.cC)) hz q).2
 ·have e:ex m c.1=0:=by omega
  rw[e];refine⟨ex m z.1,1,hz,by decide,?_,?_,?_⟩<;>(unfold cb;dsimp only;grind)
theorem exX(h:Cfg m C1 C2 D1 D2 k c d z):ex m (Xp m k d)=0:=(h.simX.exz m).mpr (m5 m k.1 d.1)
theorem exY(h:Cfg m C1 C2 D1 D2 k c d z):ex m (Yp m z c)=0:=(h.simY.exz m).mpr (m5 m c.1 z.1)
theorem okX(h:Cfg m C1 C2 D1 D2 k c d z){a b:Vx}(ha:a∈C1++[k])(hb:b∈C1++[k])(E:Edge ((C1++[k])++(d::D1)) a b):Ao a b (Xp m k d):=by
 have hk:=h.hC k h.kC
 have hd:=h.hD d h.dD
 by_cases q:ex m k.1<0
 ·have:=AD E (h.inC h.kC) (h.inD h.dD) (s:=ex m d.1) (t:= -(ex m k.1)) (by omega) (by omega) (.inr ⟨by omega,(h.cd ha h.dD).symm,(h.cd hb h.dD).symm⟩)
  exact .inr (.inr ⟨(h.simX.dtp a.1 b.1).mpr this.1,(h.simX.exn a.2.1).mpr this.2⟩)
 ·rw[show Xp m k d=k.1 from if_neg q];exact E.ok (h.inC h.kC)
theorem okY(h:Cfg m C1 C2 D1 D2 k c d z){a b:Vx}(ha:a∈C1++[k])(hb:b∈C1++[k])(E:Edge ((C1++[k])++(d::D1)) a b):Ao a b (Yp m z c):=by
 have hc:=h.hC c h.cC
 have hz:=h.hD z h.zD
 by_cases q:ex m c.1<0
 ·have:=AD E (h.inC h.cC) (h.inD h.zD) (s:=ex m z.1) (t:= -(ex m c.1)) (by omega) (by omega) (.inr ⟨by omega,(h.cd ha h.zD).symm,(h.cd hb h.zD).symm⟩)
  exact .inr (.inr ⟨(h.simY.dtp a.1 b.1).mpr this.1,(h.simY.exn a.2.1).mpr this.2⟩)
 ·rw[show Yp m z c=c.1 from if_neg q];exact E.ok (h.inC h.cC)
theorem kdY(h:Cfg m C1 C2 D1 D2 k c d z)(q:ex m k.1<0∨c.1≠k.1):0<dt k.1 d.1 (Yp m z c) /\ ex k.2.1 (Yp m z c)<0:=by
 have hc:=h.hC c h.cC
 have hz:=h.hD z h.zD
 have cases:(0<ex m z.1 /\ c.1≠k.1 /\ c.1≠d.1)∨(0< -(ex m c.1) /\ z.1≠k.1 /\ z.1≠d.1):=by
  by_cases e:c.1=k.1
  ·right
   refine⟨?_,(h.cd h.kC h.zD).symm,h.two e⟩;rcases q with q|q
   ·rw[e];omega
   ·exact absurd e q
  ·exact .inl ⟨hz,e,h.cd h.cC h.dD⟩
 have:=AD h.ekd (h.inC h.cC) (h.inD h.zD) (s:=ex m z.1) (t:= -(ex m c.1)) (by omega) (by omega) cases
 exact⟨(h.simY.dtp k.1 d.1).mpr this.1,(h.simY.exn k.2.1).mpr this.2⟩
theorem zcX(h:Cfg m C1 C2 D1 D2 k c d z)(q:ex m c.1<0∨c.1≠k.1):0<dt z.1 c.1 (Xp m k d) /\ ex z.2.1 (Xp m k d)<0:=by
 have hk:=h.hC k h.kC
 have hd:=h.hD d h.dD
 have cases:(0<ex m d.1 /\ k.1≠z.1 /\ k.1≠c.1)∨(0< -(ex m k.1) /\ d.1≠z.1 /\ d.1≠c.1):=by
  by_cases e:c.1=k.1
  ·right
   refine⟨?_,(h.two e).symm,(h.cd h.cC h.dD).symm⟩;rcases q with q|q
   ·rw[<-e];omega
   ·exact absurd e q
  ·exact .inl ⟨hd,h.cd h.kC h.zD,Ne.symm e⟩
 have:=AD h.ezc (h.inC h.kC) (h.inD h.dD) (s:=ex m d.1) (t:= -(ex m k.1)) (by omega) (by omega) cases
 exact⟨(h.simX.dtp z.1 c.1).mpr this.1,(h.simX.exn z.2.1).mpr this.2⟩
theorem ends(h:Cfg m C1 C2 D1 D2 k c d z):ex m k.1<0∨c.1≠k.1:=by
 by_cases e:c.1=k.1
 ·left
  have ek:c=k:=h.inj h.cC h.kC e
  have e1:C1=[]:=by
   cases C1 with
   |nil=>rfl
   |cons w C1'=>
    have hc:=h.eC
    rw[ar] at hc;have hw:w=c:=(cA.inj hc).1
    have nd:=h.hP.nd
    rw[ay,aX,ar,aM,bf] at nd;refine absurd ?_ nd.1.1;rw[hw,e];exact aC.mpr ⟨k,by simp,rfl⟩
  obtain⟨x,hx,hx0⟩:=h.neg
  subst e1;obtain rfl:x=k:=by simpa using hx
  exact hx0
 ·exact .inr e
theorem ends'(h:Cfg m C1 C2 D1 D2 k c d z):ex m c.1<0∨c.1≠k.1:=by
 rcases h.ends with q|q
 ·by_cases e:c.1=k.1
  ·exact .inl (by rw[e];exact q)
  ·exact .inr e
 ·exact .inr q
theorem xd(h:Cfg m C1 C2 D1 D2 k c d z):dt (Xp m k d) (Yp m z c) d.1<0:=by
 have hd:=h.hD d h.dD
 have q:=(h.kdY h.ends).1
 --X is a sum of k and d
 obtain⟨s,t,hs,ht,e1,e2,e3⟩:=h.simX
 have e:dt (Xp m k d) (Yp m z c) d.1*s= -(ex m d.1*dt k.1 d.1 (Yp m z c))*t:=by
  rw[<-yG (ex m d.1) k.1 (-(ex m k.1)) d.1 (Yp m z c)];generalize cb (ex m d.1) k.1 (-(ex m k.1)) d.1=v at e1 e2 e3;generalize Xp m k d=w at e1 e2 e3;unfold dt
  grind
 have q2:=bL hd q
 exact(lh hs ht e).2.2.mpr (by omega)
theorem xy(h:Cfg m C1 C2 D1 D2 k c d z):Xp m k d≠Yp m z c:=fun e=>by
 have:=h.xd
 rw[e,vV] at this;omega
theorem newLeft(h:Cfg m C1 C2 D1 D2 k c d z){p:V3}(hp:ex m p<0):0<dt (Xp m k d) (Yp m z c) p:=by
 have hd:=h.hD d h.dD
 have P:=mC m (Xp m k d) (Yp m z c) p d.1
 rw[h.exX,h.exY,ci,ci,bR,bR] at P;have q:=Int.mul_pos_of_neg_of_neg h.xd hp
 rw[<-P] at q;rcases dr (dt (Xp m k d) (Yp m z c) p) 0 with r|r|r
 ·have:=cq r hd
  omega
 ·rw[r,eG] at q;omega
 ·exact r
theorem zero(h:Cfg m C1 C2 D1 D2 k c d z){x:Vx}(hx:x∈C1++[k])(h0:ex m x.1=0):x=c∨x=k:=by
 refine Classical.byContradiction fun no=> ?_
 have n1:x≠c:=fun q=>no (.inl q)
 have n2:x≠k:=fun q=>no (.inr q)
 obtain⟨p,a,b,s,e⟩:=vn (C:=C1++[k]) rfl h.eC hx n1 n2
 have l1:(a,x)∈edges ((C1++[k])++(d::D1)):=by
  rw[e];have:=kS (p:=p) (s:=b::s++(d::D1)) (a:=a) (b:=x)
  simpa using this
 have l2:(x,b)∈edges ((C1++[k])++(d::D1)):=by
  rw[e];have:=kS (p:=p++[a]) (s:=s++(d::D1)) (a:=x) (b:=b)
  simpa using this
 have E1:=h.hP.edge _ l1
 have E2:=h.hP.edge _ l2
 dsimp only at E1 E2;have ma:a∈C1++[k]:=by rw[e];simp
 have mb:b∈C1++[k]:=by rw[e];simp
 have nd:=h.hP.nd
 rw[ay,aX,e,ay,aM,aM,aM,aX,bf,bf] at nd;have nab:b.1≠a.1:=fun q=>nd.1.2.1.1 (by rw[<-q];simp)
 have nxb:b.1≠x.1:=fun q=>nd.1.2.1.2.1 (by rw[<-q];simp)
 have A1:=E1.left_of (h.inC mb) nab nxb
 have A2:=E1.left_of (h.inD h.dD) (h.cd ma h.dD).symm (h.cd hx h.dD).symm
 have A3:=E2.left_of (h.inD h.dD) (h.cd hx h.dD).symm (h.cd mb h.dD).symm
 have P:=mC m a.1 x.1 b.1 d.1
 rw[h0,ci,gg, <-oK d.1 x.1 b.1] at P;have hd:=h.hD d h.dD
 have q1:=bL A1 hd
 have q2:=sT (eI A3) (h.hC a ma)
 have q3:=sT (eI A2) (h.hC b mb)
 omega
end Cfg
end
end MC
namespace MC
open MA
namespace Cfg
variable {m:V3} {num:Int} {C1 C2 D1 D2:List Vx} {k c d z:Vx}
theorem pts(h:Cfg m C1 C2 D1 D2 k c d z){v:Vx}(hv:v∈C1++(kr m num k d++kU m z c)):(∃x∈C1++[k],v.1=x.1)∨v.1=Xp m k d∨v.1=Yp m z c:=by
 rcases aT.mp hv with q|q
 ·exact .inl ⟨v,bK _ q,rfl⟩
 ·rcases aT.mp q with q|q
  ·unfold kr at q
   by_cases e:ex m k.1<0
   ·rw[if_pos e] at q;simp only[aw,az,or_false] at q;rcases q with rfl|rfl
    ·exact .inl ⟨v,by simp,rfl⟩
    ·exact .inr (.inl (by unfold Xp;rw[if_pos e]))
   ·rw[if_neg e] at q;obtain rfl:v=(k.1,m,num):=by simpa using q
    exact .inl ⟨k,by simp,rfl⟩
  ·unfold kU at q
   by_cases e:ex m c.1<0
   ·rw[if_pos e] at q;obtain rfl:v=(je z.1 c.1 (ex m z.1) (ex m c.1),z.2):=by simpa using q
    exact .inr (.inr (by unfold Yp;rw[if_pos e]))
   ·rw[if_neg e] at q;simp at q
theorem edge_of3(h:Cfg m C1 C2 D1 D2 k c d z){a b:Vx}(h1:a.1≠b.1)(h2:ex a.2.1 a.1=0)(h3:ex a.2.1 b.1=0)(hC:∀x∈C1++[k],Ao a b x.1)(hX:Ao a b (Xp m k d))(hY:Ao a b (Yp m z c)):
  Edge (C1++(kr m num k d++kU m z c)) a b:=Aa h1 h2 h3 fun v hv=>by
 rcases h.pts hv with⟨x,hx,e⟩|e|e
 ·rw[e];exact hC x hx
 ·rw[e];exact hX
 ·rw[e];exact hY
theorem eOld(h:Cfg m C1 C2 D1 D2 k c d z){a b:Vx}(ha:a∈C1++[k])(hb:b∈C1++[k])(E:Edge ((C1++[k])++(d::D1)) a b):Edge (C1++(kr m num k d++kU m z c)) a b:=
 h.edge_of3 E.ne E.on1 E.on2 (fun x hx=>E.ok (h.inC hx)) (h.okX ha hb E) (h.okY ha hb E)
theorem Xne(h:Cfg m C1 C2 D1 D2 k c d z)(q:ex m k.1<0){x:Vx}(hx:x∈C1++[k]):x.1≠Xp m k d:=fun e=>by
 have h0:ex m x.1=0:=by rw[e];exact h.exX
 rcases h.zero hx h0 with rfl|rfl
 ·have:Yp m z x=x.1:=if_neg (by omega)
  exact h.xy (by rw[this,e])
 ·omega
theorem Yne(h:Cfg m C1 C2 D1 D2 k c d z)(q:ex m c.1<0){x:Vx}(hx:x∈C1++[k]):x.1≠Yp m z c:=fun e=>by
 have h0:ex m x.1=0:=by rw[e];exact h.exY
 rcases h.zero hx h0 with rfl|rfl
 ·omega
 ·have:Xp m x d=x.1:=if_neg (by omega)
  exact h.xy (by rw[this,e])
theorem eKX(h:Cfg m C1 C2 D1 D2 k c d z)(q:ex m k.1<0)(b:Vx)(hb:b.1=Xp m k d):Edge (C1++(kr m num k d++kU m z c)) k b:=by
 have hd:=h.hD d h.dD
 have E:=h.ekd
 obtain⟨s,t,hs,ht,e1,e2,e3⟩:=h.simX
 have key:∀p:V3,0<dt k.1 d.1 p ->0<dt k.1 (Xp m k d) p:=by
  intro p hp;have e:dt k.1 (Xp m k d) p*s= -(ex m k.1)*dt k.1 d.1 p*t:=by
   generalize Xp m k d=w at e1 e2 e3;unfold cb at e1 e2 e3;dsimp only at e1 e2 e3;unfold dt
   grind
  have:0< -(ex m k.1)*dt k.1 d.1 p:=bL (by omega) hp
  exact(lh hs ht e).1.mpr this
 have on:ex k.2.1 (Xp m k d)=0:=(h.simX.exz k.2.1).mpr (by rw[xO,E.on1,E.on2];simp)
 refine Edge.congr (b:=(Xp m k d,m,num)) ?_ hb.symm;refine h.edge_of3 (h.Xne q h.kC) E.on1 on (fun x hx=> ?_) (.inr (.inl rfl)) ?_
 ·by_cases e:x.1=k.1
  ·exact .inl e
  ·exact .inr (.inr ⟨key _ (E.left_of (h.inC hx) e (h.cd hx h.dD)),E.back_of (h.inC hx) e (h.cd hx h.dD)⟩)
 ·exact .inr (.inr ⟨key _ (h.kdY h.ends).1,(h.kdY h.ends).2⟩)
theorem eXY(h:Cfg m C1 C2 D1 D2 k c d z)(a b:Vx)(ha:a.1=Xp m k d)(ha':a.2.1=m)(hb:b.1=Yp m z c):Edge (C1++(kr m num k d++kU m z c)) a b:=by
 refine h.edge_of3 (by rw[ha,hb];exact h.xy) (by rw[ha,ha'];exact h.exX) (by rw[hb,ha'];exact h.exY) (fun x hx=> ?_) (.inl ha.symm) (.inr (.inl hb.symm))
 by_cases q:ex m x.1<0
 ·exact .inr (.inr ⟨by rw[ha,hb];exact h.newLeft q,by rw[ha'];exact q⟩)
 ·have h0:ex m x.1=0:=by have:=h.hC x hx;omega
  rcases h.zero hx h0 with rfl|rfl
  ·exact .inr (.inl (by rw[hb];unfold Yp;rw[if_neg q]))
  ·exact .inl (by rw[ha];unfold Xp;rw[if_neg q])
theorem eYC(h:Cfg m C1 C2 D1 D2 k c d z)(q:ex m c.1<0)(a b:Vx)(ha:a.1=Yp m z c)(ha':a.2.1=z.2.1)(hb:b.1=c.1):Edge (C1++(kr m num k d++kU m z c)) a b:=by
 have hz:=h.hD z h.zD
 have E:=h.ezc
 obtain⟨s,t,hs,ht,e1,e2,e3⟩:=h.simY
 have key:∀p:V3,0<dt z.1 c.1 p ->0<dt (Yp m z c) c.1 p:=by
  intro p hp;have e:dt (Yp m z c) c.1 p*s= -(ex m c.1)*dt z.1 c.1 p*t:=by
   generalize Yp m z c=w at e1 e2 e3;unfold cb at e1 e2 e3;dsimp only at e1 e2 e3;unfold dt
   grind
  have:0< -(ex m c.1)*dt z.1 c.1 p:=bL (by omega) hp
  exact(lh hs ht e).1.mpr this
 have on:ex z.2.1 (Yp m z c)=0:=(h.simY.exz z.2.1).mpr (by rw[xO,E.on1,E.on2];simp)
 refine h.edge_of3 (by rw[ha,hb];exact(h.Yne q h.cC).symm) (by rw[ha,ha'];exact on) (by rw[hb,ha'];exact E.on2) (fun x hx=> ?_) ?_ (.inl ha.symm)
 ·by_cases e:x.1=c.1
  ·exact .inr (.inl (by rw[e,hb]))
  ·exact .inr (.inr ⟨by rw[ha,hb];exact key _ (E.left_of (h.inC hx) (h.cd hx h.zD) e),by rw[ha'];exact E.back_of (h.inC hx) (h.cd hx h.zD) e⟩)
 ·exact .inr (.inr ⟨by rw[ha,hb];exact key _ (h.zcX h.ends').1,by rw[ha'];exact(h.zcX h.ends').2⟩)
theorem len(h:Cfg m C1 C2 D1 D2 k c d z):3<=(C1++(kr m num k d++kU m z c)).length:=by
 have hk:=h.hC k h.kC
 have hc:=h.hC c h.cC
 rw[aq,aq];unfold kr kU;cases C1 with
 |nil=>
  have e:k=c:=by have:=h.eC;simp at this;exact this.1
  obtain⟨x,hx,hx0⟩:=h.neg
  obtain rfl:x=k:=by simpa using hx
  rw[if_pos hx0, <-e,if_pos hx0];simp
 |cons w C1'=>
  cases C1' with
  |nil=>
   have e:w=c:=by have:=h.eC;simp at this;exact this.1
   obtain⟨x,hx,hx0⟩:=h.neg
   simp only[ar,aS,aw,az,or_false] at hx;rcases hx with rfl|rfl
   ·rw[<-e,if_pos hx0];split<;>simp
   ·rw[if_pos hx0];split<;>simp
  |cons w' C1''=>
   simp only[aV];split<;>simp<;>omega
theorem nodup_snoc{α:Type}{l:List α}{a:α}(h:l.Nodup)(n:a∉l):(l++[a]).Nodup:=by
 rw[aX];refine⟨h,by simp,fun x hx y hy e=> ?_⟩;obtain rfl:y=a:=by simpa using hy
 exact n (e▸hx)
theorem ndAll(h:Cfg m C1 C2 D1 D2 k c d z):((C1++(kr m num k d++kU m z c)).map (·.1)).Nodup:=by
 have nd:=h.hP.nd
 rw[ay,aX] at nd;have n0:=nd.1
 have e1:(C1++(kr m num k d++kU m z c)).map (·.1)=((C1++[k]).map (·.1)++(if ex m k.1<0 then[Xp m k d] else[]))++(if ex m c.1<0 then[Yp m z c] else[]):=by
  unfold kr kU Xp Yp
  by_cases q1:ex m k.1<0<;>by_cases q2:ex m c.1<0<;>simp[q1,q2]
 rw[e1];have n1:((C1++[k]).map (·.1)++(if ex m k.1<0 then[Xp m k d] else[])).Nodup:=by
  by_cases q:ex m k.1<0
  ·rw[if_pos q];refine nodup_snoc n0 fun hm=> ?_
   obtain⟨x,hx,e⟩:=aC.mp hm
   exact h.Xne q hx e
  ·rw[if_neg q,aL];exact n0
 by_cases q:ex m c.1<0
 ·rw[if_pos q];refine nodup_snoc n1 fun hm=> ?_
  rcases aT.mp hm with hm|hm
  ·obtain⟨x,hx,e⟩:=aC.mp hm
   exact h.Yne q hx e
  ·by_cases q':ex m k.1<0
   ·rw[if_pos q'] at hm;have e:Yp m z c=Xp m k d:=by simpa using hm
    exact h.xy e.symm
   ·rw[if_neg q'] at hm;simp at hm
 ·rw[if_neg q,aL];exact n1
theorem lowX(h:Cfg m C1 C2 D1 D2 k c d z)(q:ex m k.1<0):0<(Xp m k d).2.2 /\ aB (aB (Xp m k d).1 (Xp m k d).2.1) (Xp m k d).2.2=1:=by
 have:=(tO (h.wk (h.inC h.kC)) (h.wk (h.inD h.dD)) q (h.hD d h.dD)).1
 unfold Xp;rw[if_pos q];exact⟨this.pos,this.low⟩
theorem lowY(h:Cfg m C1 C2 D1 D2 k c d z)(q:ex m c.1<0):0<(Yp m z c).2.2 /\ aB (aB (Yp m z c).1 (Yp m z c).2.1) (Yp m z c).2.2=1:=by
 have:=(oN (h.wk (h.inD h.zD)) (h.wk (h.inC h.cC)) (h.hD z h.zD) q).1
 unfold Yp;rw[if_pos q];exact⟨this.pos,this.low⟩
theorem low3(h:Cfg m C1 C2 D1 D2 k c d z){v:Vx}(hv:v∈C1++(kr m num k d++kU m z c)):0<v.1.2.2 /\ aB (aB v.1.1 v.1.2.1) v.1.2.2=1:=by
 rcases h.pts hv with⟨x,hx,e⟩|e|e
 ·rw[e];exact⟨h.hP.pos x (h.inC hx),h.hP.low x (h.inC hx)⟩
 ·rw[e]
  by_cases q:ex m k.1<0
  ·exact h.lowX q
  ·rw[show Xp m k d=k.1 from if_neg q];exact⟨h.hP.pos k (h.inC h.kC),h.hP.low k (h.inC h.kC)⟩
 ·rw[e]
  by_cases q:ex m c.1<0
  ·exact h.lowY q
  ·rw[show Yp m z c=c.1 from if_neg q];exact⟨h.hP.pos c (h.inC h.cC),h.hP.low c (h.inC h.cC)⟩
theorem poly(h:Cfg m C1 C2 D1 D2 k c d z):Poly (C1++(kr m num k d++kU m z c)) where
 three:=h.len
 pos:=fun v hv=>(h.low3 hv).1
 low:=fun v hv=>(h.low3 hv).2
 nd:=h.ndAll
 edge:=fun e he=>by
  obtain⟨a,b⟩:=e
  --the head of the list has the point of c
  obtain⟨t0,T,eT,ht0⟩:∃t0 T,kr m num k d++kU m z c=t0::T /\ t0.1=k.1:=by
   unfold kr;split
   ·exact⟨_,_,rfl,rfl⟩
   ·exact⟨_,_,rfl,rfl⟩
  obtain⟨hd0,R,eR,hhd⟩:∃hd0 R,C1++(t0::T)=hd0::R /\ hd0.1=c.1:=by
   cases C1 with
   |nil=>
    refine⟨t0,T,rfl,?_⟩;have:k=c:=by have:=h.eC;simp at this;exact this.1
    rw[ht0,this]
   |cons w C1'=>
    refine⟨w,C1'++(t0::T),rfl,?_⟩;have:=h.eC
    rw[ar] at this;rw[(cA.inj this).1]
  rw[eT,eR,kR, <-eR] at he;have he:(a,b)∈pe (C1++t0::(T++[hd0])):=by simpa using he
  rw[pe_app] at he;rcases aT.mp he with q|q
  ·obtain⟨b',hb',eb⟩:=u7 ht0 C1 a b q
   have m2:=oF _ _ _ hb'
   have E:Edge ((C1++[k])++(d::D1)) a b':=by
    have:(a,b')∈edges ((C1++[k])++(d::D1)):=by
     rw[h.eC,ar,kR, <-ar, <-h.eC,bI];exact nJ hb'
    exact h.hP.edge _ this
   exact(h.eOld m2.1 m2.2 E).congr eb
  ·unfold kr kU at eT
   by_cases q1:ex m k.1<0<;>by_cases q2:ex m c.1<0
   ·rw[if_pos q1,if_pos q2] at eT;simp only[ar,aS,aL,cA.injEq] at eT;obtain⟨rfl,rfl⟩:=eT
    simp only[ar,aS,pe,aw,az,or_false,dI.injEq] at q;rcases q with⟨rfl,rfl⟩|⟨rfl,rfl⟩|⟨rfl,rfl⟩
    ·exact h.eKX q1 _ (by unfold Xp;rw[if_pos q1])
    ·exact h.eXY _ _ (by unfold Xp;rw[if_pos q1]) rfl (by unfold Yp;rw[if_pos q2])
    ·exact h.eYC q2 _ _ (by unfold Yp;rw[if_pos q2]) rfl hhd
   ·rw[if_pos q1,if_neg q2] at eT;simp only[ar,aS,aL,cA.injEq] at eT;obtain⟨rfl,rfl⟩:=eT
    simp only[ar,aS,aL,pe,aw,az,or_false,dI.injEq] at q;rcases q with⟨rfl,rfl⟩|⟨rfl,rfl⟩
    ·exact h.eKX q1 _ (by unfold Xp;rw[if_pos q1])
    ·exact h.eXY _ _ (by unfold Xp;rw[if_pos q1]) rfl (by unfold Yp;rw[if_neg q2];exact hhd)
   ·rw[if_neg q1,if_pos q2] at eT;simp only[ar,aS,aL,cA.injEq] at eT;obtain⟨rfl,rfl⟩:=eT
    simp only[ar,aS,pe,aw,az,or_false,dI.injEq] at q;rcases q with⟨rfl,rfl⟩|⟨rfl,rfl⟩
    ·exact h.eXY _ _ (by unfold Xp;rw[if_neg q1]) rfl (by unfold Yp;rw[if_pos q2])
    ·exact h.eYC q2 _ _ (by unfold Yp;rw[if_pos q2]) rfl hhd
   ·rw[if_neg q1,if_neg q2] at eT;simp only[ar,aS,aL,cA.injEq] at eT;obtain⟨rfl,rfl⟩:=eT
    simp only[ar,aS,aL,pe,aw,az,or_false,dI.injEq] at q;obtain⟨rfl,rfl⟩:=q
    exact h.eXY _ _ (by unfold Xp;rw[if_neg q1]) rfl (by unfold Yp;rw[if_neg q2];exact hhd)
end Cfg
theorem md{l:List Vx}(hP:Poly l)(m:V3)(num:Int)(hp:∃v∈l,0<ex m v.1)(hn:∃v∈l,ex m v.1<0):Poly (ju m num l):=by
 obtain⟨C,D,hR,nC,nD,hC,hD⟩:=canon hP m hp (by obtain⟨v,hv,q⟩:=hn;exact⟨v,hv,by omega⟩)
 obtain⟨c,C2,eC⟩:∃c C2,C=c::C2:=by cases C with|nil=>exact absurd rfl nC|cons c C2=>exact⟨c,C2,rfl⟩
 obtain⟨d,D1,eD⟩:∃d D1,D=d::D1:=by cases D with|nil=>exact absurd rfl nD|cons c C2=>exact⟨c,C2,rfl⟩
 obtain⟨C1,k,eC'⟩:∃C1 k,C=C1++[k]:=⟨C.dropLast,C.getLast nC,(cx nC).symm⟩
 obtain⟨D2,z,eD'⟩:∃D2 z,D=D2++[z]:=⟨D.dropLast,D.getLast nD,(cx nD).symm⟩
 have cfg:Cfg m C1 C2 D1 D2 k c d z:=by
  refine⟨by rw[<-eC', <-eD];exact hR.poly hP,by rw[<-eC',eC],by rw[<-eD',eD],by rw[<-eC'];exact hC,by rw[<-eD];exact hD,?_⟩;obtain⟨v,hv,q⟩:=hn
  have:=(hR.mem v).mpr hv
  rcases aT.mp this with w|w
  ·exact⟨v,by rw[<-eC'];exact w,q⟩
  ·have:=hD v w
   omega
 have e:=oD (num:=num) cfg.eC cfg.eD cfg.hC cfg.hD
 have hRr:Rot (ju m num l) (ju m num (C++D)):=hR.edges.flat (emit m num)
 rw[eC',eD,e] at hRr;exact hRr.symm.poly cfg.poly
end MC
namespace MC
open MA
namespace Cfg
variable {m:V3} {num:Int} {C1 C2 D1 D2:List Vx} {k c d z:Vx}
theorem edgesN(h:Cfg m C1 C2 D1 D2 k c d z){a b:Vx}(he:(a,b)∈edges (C1++(kr m num k d++kU m z c))):
  (∃b',(a,b')∈edges ((C1++[k])++(d::D1)) /\ a∈C1++[k] /\ b'∈C1++[k] /\ b'.1=b.1)∨(ex m k.1<0 /\ a=k /\ b.1=Xp m k d)∨(a=(Xp m k d,m,num) /\ b.1=Yp m z c)∨(ex m c.1<0 /\ a=(Yp m z c,z.2) /\ b.1=c.1):=by
 obtain⟨t0,T,eT,ht0⟩:∃t0 T,kr m num k d++kU m z c=t0::T /\ t0.1=k.1:=by
  unfold kr;split
  ·exact⟨_,_,rfl,rfl⟩
  ·exact⟨_,_,rfl,rfl⟩
 obtain⟨hd0,R,eR,hhd⟩:∃hd0 R,C1++(t0::T)=hd0::R /\ hd0.1=c.1:=by
  cases C1 with
  |nil=>
   refine⟨t0,T,rfl,?_⟩;have:k=c:=by have:=h.eC;simp at this;exact this.1
   rw[ht0,this]
  |cons w C1'=>
   refine⟨w,C1'++(t0::T),rfl,?_⟩;have:=h.eC
   rw[ar] at this;rw[(cA.inj this).1]
 rw[eT,eR,kR, <-eR] at he;have he:(a,b)∈pe (C1++t0::(T++[hd0])):=by simpa using he
 rw[pe_app] at he;rcases aT.mp he with q|q
 ·obtain⟨b',hb',eb⟩:=u7 ht0 C1 a b q
  have m2:=oF _ _ _ hb'
  refine .inl ⟨b',?_,m2.1,m2.2,eb⟩;rw[h.eC,ar,kR, <-ar, <-h.eC,bI];exact nJ hb'
 ·unfold kr kU at eT
  by_cases q1:ex m k.1<0<;>by_cases q2:ex m c.1<0
  ·rw[if_pos q1,if_pos q2] at eT;simp only[ar,aS,aL,cA.injEq] at eT;obtain⟨rfl,rfl⟩:=eT
   simp only[ar,aS,pe,aw,az,or_false,dI.injEq] at q;rcases q with⟨rfl,rfl⟩|⟨rfl,rfl⟩|⟨rfl,rfl⟩
   ·exact .inr (.inl ⟨q1,rfl,by unfold Xp;rw[if_pos q1]⟩)
   ·exact .inr (.inr (.inl ⟨by unfold Xp;rw[if_pos q1],by unfold Yp;rw[if_pos q2]⟩))
   ·exact .inr (.inr (.inr ⟨q2,by unfold Yp;rw[if_pos q2],hhd⟩))
  ·rw[if_pos q1,if_neg q2] at eT;simp only[ar,aS,aL,cA.injEq] at eT;obtain⟨rfl,rfl⟩:=eT
   simp only[ar,aS,aL,pe,aw,az,or_false,dI.injEq] at q;rcases q with⟨rfl,rfl⟩|⟨rfl,rfl⟩
   ·exact .inr (.inl ⟨q1,rfl,by unfold Xp;rw[if_pos q1]⟩)
   ·exact .inr (.inr (.inl ⟨by unfold Xp;rw[if_pos q1],by unfold Yp;rw[if_neg q2];exact hhd⟩))
  ·rw[if_neg q1,if_pos q2] at eT;simp only[ar,aS,aL,cA.injEq] at eT;obtain⟨rfl,rfl⟩:=eT
   simp only[ar,aS,pe,aw,az,or_false,dI.injEq] at q;rcases q with⟨rfl,rfl⟩|⟨rfl,rfl⟩
   ·exact .inr (.inr (.inl ⟨by unfold Xp;rw[if_neg q1],by unfold Yp;rw[if_pos q2]⟩))
   ·exact .inr (.inr (.inr ⟨q2,by unfold Yp;rw[if_pos q2],hhd⟩))
  ·rw[if_neg q1,if_neg q2] at eT;simp only[ar,aS,aL,cA.injEq] at eT;obtain⟨rfl,rfl⟩:=eT
   simp only[ar,aS,aL,pe,aw,az,or_false,dI.injEq] at q;obtain⟨rfl,rfl⟩:=q
   exact .inr (.inr (.inl ⟨by unfold Xp;rw[if_neg q1],by unfold Yp;rw[if_neg q2];exact hhd⟩))
theorem newIn(h:Cfg m C1 C2 D1 D2 k c d z):∃b,((Xp m k d,m,num),b)∈edges (C1++(kr m num k d++kU m z c)) /\ b.1=Yp m z c:=by
 have hX:(Xp m k d,m,num)∈kr m num k d:=by
  unfold kr Xp;split<;>simp
 have hX2:(Xp m k d,m,num)∈C1++(kr m num k d++kU m z c):=by simp[hX]
 --each corner begins an edge
 have:∃b,((Xp m k d,m,num),b)∈edges (C1++(kr m num k d++kU m z c)):=by
  generalize C1++(kr m num k d++kU m z c)=N at hX2;obtain⟨i,hi⟩:=bg hX2
  have li:=(aa.mp hi).1
  have lr:i<(rot N).length:=by rw[rot_length];exact li
  refine⟨(rot N)[i],?_⟩;unfold edges;rw[di];exact⟨i,by rw[bG];exact⟨hi,ag lr⟩⟩
 obtain⟨b,hb⟩:=this
 refine⟨b,hb,?_⟩;rcases h.edgesN hb with⟨b',h1,h2,h3,h4⟩|⟨q,e,h2⟩|⟨e,h2⟩|⟨q,e,h2⟩
 ·exfalso
  have hk:ex m k.1<0∨¬ex m k.1<0:=Classical.em _
  rcases hk with q|q
  ·exact h.Xne q h2 rfl
  ·have e:Xp m k d=k.1:=if_neg q
   have ek:((Xp m k d,m,num):Vx)=k:=h.inj h2 h.kC e
   rw[ek] at h1;have E:=h.hP.edge _ h1
   dsimp only at E;have eL:k.2.1=m:=by rw[<-ek]
   rcases E.back d (h.inD h.dD) with w|w|w
   ·exact h.cd h.kC h.dD w.symm
   ·exact h.cd h3 h.dD w.symm
   ·rw[eL] at w;have:=h.hD d h.dD
    omega
 ·exfalso
  have:(Xp m k d)=k.1:=congrArg iC e
  exact h.Xne q h.kC this.symm
 ·exact h2
 ·exfalso
  exact h.xy (congrArg iC e)
theorem dtXY(h:Cfg m C1 C2 D1 D2 k c d z)(p:V3):0<=dt (Xp m k d) (Yp m z c) p↔ex m p<=0:=by
 have hd:=h.hD d h.dD
 have hx:=h.xd
 have P:=mC m (Xp m k d) (Yp m z c) p d.1
 rw[h.exX,h.exY,ci,ci,bR,bR] at P;constructor
 ·intro q;have:=lG q (eI hd)
  rw[P] at this;refine Classical.byContradiction fun no=> ?_
  have:=cq hx (show 0<ex m p by omega)
  omega
 ·intro q;have:0<=dt (Xp m k d) (Yp m z c) d.1*ex m p:=dP (eI hx) q
  rw[<-P] at this;refine Classical.byContradiction fun no=> ?_
  have:=cq (show dt (Xp m k d) (Yp m z c) p<0 by omega) hd
  omega
theorem ptsN(h:Cfg m C1 C2 D1 D2 k c d z){p:V3}(hp:∀e∈edges ((C1++[k])++(d::D1)),0<=dt e.1.1 e.2.1 p):
  (∀e∈edges (C1++(kr m num k d++kU m z c)),0<=dt e.1.1 e.2.1 p)↔ex m p<=0:=by
 have kd:(k,d)∈edges ((C1++[k])++(d::D1)):=by
  have:=kS (p:=C1) (s:=D1) (a:=k) (b:=d)
  simpa using this
 have zc:(z,c)∈edges ((C1++[k])++(d::D1)):=by
  rw[h.eC, <-h.eD];have:=kE (m:=C2++D2) (a:=z) (b:=c)
  simpa using this
 constructor
 ·intro q;obtain⟨b,hb,e⟩:=h.newIn (num:=num)
  have:=q _ hb
  dsimp only at this;rw[e] at this;exact(h.dtXY p).mp this
 ·rintro q ⟨a,b⟩ he;dsimp only;rcases h.edgesN he with⟨b',h1,h2,h3,h4⟩|⟨q1,rfl,h2⟩|⟨rfl,h2⟩|⟨q1,rfl,h2⟩
  ·rw[<-h4];exact hp _ h1
  ·rw[h2];obtain⟨s,t,hs,ht,e1,e2,e3⟩:=h.simX
   have e:dt a.1 (Xp m a d) p*s= -(ex m a.1)*dt a.1 d.1 p*t:=by
    generalize Xp m a d=w at e1 e2 e3;unfold cb at e1 e2 e3;dsimp only at e1 e2 e3;unfold dt
    grind
   have hkd:0<=dt a.1 d.1 p:=hp _ kd
   have:=lG (show 0<= -(ex m a.1) by omega) hkd
   have w:=lh hs ht e
   omega
  ·rw[h2];exact(h.dtXY p).mpr q
  ·rw[h2];dsimp only;obtain⟨s,t,hs,ht,e1,e2,e3⟩:=h.simY
   have e:dt (Yp m z c) c.1 p*s= -(ex m c.1)*dt z.1 c.1 p*t:=by
    generalize Yp m z c=w at e1 e2 e3;unfold cb at e1 e2 e3;dsimp only at e1 e2 e3;unfold dt
    grind
   have hzc:0<=dt z.1 c.1 p:=hp _ zc
   have:=lG (show 0<= -(ex m c.1) by omega) hzc
   have w:=lh hs ht e
   omega
end Cfg
theorem qT{l:List Vx}(hP:Poly l)(m:V3)(hp:∃v∈l,0<ex m v.1)(hn:∃v∈l,ex m v.1<0):
  ∃C1 C2 D1 D2 k c d z,Cfg m C1 C2 D1 D2 k c d z /\ Rot l ((C1++[k])++(d::D1)) /\ ∀num,Rot (ju m num l) (C1++(kr m num k d++kU m z c)):=by
 obtain⟨C,D,hR,nC,nD,hC,hD⟩:=canon hP m hp (by obtain⟨v,hv,q⟩:=hn;exact⟨v,hv,by omega⟩)
 obtain⟨c,C2,eC⟩:∃c C2,C=c::C2:=by cases C with|nil=>exact absurd rfl nC|cons c C2=>exact⟨c,C2,rfl⟩
 obtain⟨d,D1,eD⟩:∃d D1,D=d::D1:=by cases D with|nil=>exact absurd rfl nD|cons c C2=>exact⟨c,C2,rfl⟩
 obtain⟨C1,k,eC'⟩:∃C1 k,C=C1++[k]:=⟨C.dropLast,C.getLast nC,(cx nC).symm⟩
 obtain⟨D2,z,eD'⟩:∃D2 z,D=D2++[z]:=⟨D.dropLast,D.getLast nD,(cx nD).symm⟩
 have cfg:Cfg m C1 C2 D1 D2 k c d z:=by
  refine⟨by rw[<-eC', <-eD];exact hR.poly hP,by rw[<-eC',eC],by rw[<-eD',eD],by rw[<-eC'];exact hC,by rw[<-eD];exact hD,?_⟩;obtain⟨v,hv,q⟩:=hn
  have:=(hR.mem v).mpr hv
  rcases aT.mp this with w|w
  ·exact⟨v,by rw[<-eC'];exact w,q⟩
  ·have:=hD v w
   omega
 refine⟨C1,C2,D1,D2,k,c,d,z,cfg,by rw[<-eC', <-eD];exact hR,fun num=> ?_⟩;have e:=oD (num:=num) cfg.eC cfg.eD cfg.hC cfg.hD
 have hRr:Rot (ju m num l) (ju m num (C++D)):=hR.edges.flat (emit m num)
 rw[eC',eD,e] at hRr;exact hRr
theorem uo{l:List Vx}(hP:Poly l)(m:V3)(num:Int)(hp:∃v∈l,0<ex m v.1)(hn:∃v∈l,ex m v.1<0){p:V3}(hin:∀e∈edges l,0<=dt e.1.1 e.2.1 p):
  (∀e∈edges (ju m num l),0<=dt e.1.1 e.2.1 p)↔ex m p<=0:=by
 obtain⟨C1,C2,D1,D2,k,c,d,z,cfg,h1,h2⟩:=qT hP m hp hn
 rw[<-cfg.ptsN (num:=num) (fun e he=>hin e ((h1.edges.mem e).mp he))];exact⟨fun q e he=>q e (((h2 num).edges.mem e).mp he),fun q e he=>q e (((h2 num).edges.mem e).mpr he)⟩
end MC
namespace MC
open MA L2
theorem zN{L M X:V3}(h1:ex L X=0)(h2:ex M X=0)(hW:0<X.2.2)(hg:aB (aB X.1 X.2.1) X.2.2=1)(hn:L.1*M.2.1-L.2.1*M.1≠0):
  X.1.natAbs<=(L.2.2*M.2.1-L.2.1*M.2.2).natAbs /\ X.2.1.natAbs<=(L.1*M.2.2-L.2.2*M.1).natAbs /\ X.2.2.natAbs<=(L.1*M.2.1-L.2.1*M.1).natAbs:=by
 have k1:=nS (x:=L.2.2*M.2.1-L.2.1*M.2.2) (y:=L.1*M.2.2-L.2.2*M.1) hn
 have k2:IsPt X.1 X.2.1 X.2.2 X.1 X.2.1 X.2.2:=⟨hW,rfl,rfl,hg,ax _,ax _,ax _⟩
 unfold ex at h1 h2;obtain⟨e1,e2,e3⟩:=isPt_same k1 k2 hn (by omega) (by grind) (by grind)
 have a:=k1.la
 have b:=k1.lb
 have c:=k1.lc
 rw[e1] at a;rw[e2] at b;rw[e3] at c;exact⟨a,b,c⟩
theorem zF{L U v w c:V3}(h1:ex L v=0)(h2:ex L w=0)(h3:ex U v=0)(h4:ex U w≠0)(hv:0<v.2.2)(hc:ex L c≠0):U.1*L.2.1-U.2.1*L.1≠0:=by
 intro D;have e:ex U w*v.2.2=U.1*(w.1*v.2.2-v.1*w.2.2)+U.2.1*(w.2.1*v.2.2-v.2.1*w.2.2):=by unfold ex at h3⊢;grind
 have z:L.1*(w.1*v.2.2-v.1*w.2.2)+L.2.1*(w.2.1*v.2.2-v.2.1*w.2.2)=0:=by unfold ex at h1 h2;grind
 have n:ex U w*v.2.2≠0:=gh h4 (by omega)
 have q1:L.1*(ex U w*v.2.2)=0:=by rw[e];grind
 have q2:L.2.1*(ex U w*v.2.2)=0:=by rw[e];grind
 have l1:L.1=0:=(bp.mp q1).elim id fun q=>absurd q n
 have l2:L.2.1=0:=(bp.mp q2).elim id fun q=>absurd q n
 unfold ex at h1 hc;rw[l1,l2,eG,eG,bR] at h1 hc;have l3:L.2.2=0:=by
  have:L.2.2*v.2.2=0:=by omega
  exact(bp.mp this).elim id fun q=>by omega
 rw[l3,eG] at hc;omega
noncomputable def LnB(n:Nat)(l:List Vx):Prop:=∀v∈l,Bd n v.2.1.1 /\ Bd n v.2.1.2.1 /\ Bd n v.2.1.2.2
theorem we{n:Nat}{a b c d:Int}(h1:Bd n a)(h2:Bd n b)(h3:Bd n c)(h4:Bd n d):Bd (2*n+1) (a*b-c*d):=by
 have p:=h1.mul h2
 have q:=h3.mul h4
 unfold Bd at*;rw[Nat.pow_succ,Nat.two_mul];omega
theorem mf{l:List Vx}(hP:Poly l){n:Nat}(hB:LnB n l){v:Vx}(hv:v∈l):Bd (2*n+1) v.1.1 /\ Bd (2*n+1) v.1.2.1 /\ Bd (2*n+1) v.1.2.2:=by
 --the list turned so that v is the second
 obtain⟨p,s,e⟩:=gG hv
 have hR:Rot l (v::(s++p)):=⟨p,v::s,e,by simp⟩
 have hPt:=hR.poly hP
 have len:=hPt.three
 obtain⟨w,r,u,er⟩:∃w r u,s++p=w::(r++[u]):=by
  generalize s++p=t at len
  match t,len with
  |w::y::t',_=>
   refine⟨w,(y::t').dropLast,(y::t').getLast (by simp),?_⟩;rw[cx]
 rw[er] at hPt hR;have e1:(v,w)∈edges (v::(w::(r++[u]))):=by
  have:=kS (p:=[]) (s:=r++[u]) (a:=v) (b:=w)
  simpa using this
 have e2:(u,v)∈edges (v::(w::(r++[u]))):=by
  have:=kE (m:=w::r) (a:=u) (b:=v)
  simpa using this
 have E1:=hPt.edge _ e1
 have E2:=hPt.edge _ e2
 dsimp only at E1 E2;have nd:=hPt.nd
 simp only[aM,ay,bO,bf,aw,aT,az,or_false,not_or] at nd;have nwu:w.1≠u.1:=nd.2.1.2
 have nwv:w.1≠v.1:=fun q=>nd.1.1 q.symm
 have nuv:u.1≠v.1:=fun q=>nd.1.2.2 q.symm
 have B:=E2.back_of (c:=w) (by simp) nwu nwv
 have B':=E1.back_of (c:=u) (by simp) nuv (Ne.symm nwu)
 have np:=zF (L:=v.2.1) (U:=u.2.1) (v:=v.1) (w:=w.1) (c:=u.1) E1.on1 E1.on2 E2.on2 (by omega) (hP.pos v hv) (by omega)
 have mu:u∈l:=(hR.mem u).mp (by simp)
 obtain⟨a1,a2,a3⟩:=hB v hv
 obtain⟨b1,b2,b3⟩:=hB u mu
 obtain⟨q1,q2,q3⟩:=zN (L:=u.2.1) (M:=v.2.1) E2.on2 E1.on1 (hP.pos v hv) (hP.low v hv) np
 exact⟨bP q1 (we b3 a2 b2 a3),bP q2 (we b1 a3 b3 a1),bP q3 (we b1 a2 b2 a1)⟩
theorem oC{m:V3}{num:Int}{l:List Vx}{v:Vx}(hv:v∈ju m num l):v.2=(m,num)∨∃u∈l,v.2=u.2:=by
 unfold ju at hv;obtain⟨e,he,hv⟩:=eU.mp hv
 have me:=(j9 (l:=l) (a:=e.1) (b:=e.2) he).1
 unfold emit at hv;rcases aT.mp hv with q|q
 ·split at q
  ·obtain rfl:v=e.1:=by simpa using q
   exact .inr ⟨e.1,me,rfl⟩
  ·split at q
   ·obtain rfl:v=(e.1.1,m,num):=by simpa using q
    exact .inl rfl
   ·simp at q
 ·split at q
  ·obtain rfl:v=_:=by simpa using q
   exact .inl rfl
  ·split at q
   ·obtain rfl:v=_:=by simpa using q
    exact .inr ⟨e.1,me,rfl⟩
   ·simp at q
theorem sM{m:V3}{num:Int}{l:List Vx}{n:Nat}(hB:LnB n l)(hm:Bd n m.1 /\ Bd n m.2.1 /\ Bd n m.2.2):LnB n (ju m num l):=by
 intro v hv;rcases oC hv with e|⟨u,hu,e⟩
 ·rw[e];exact hm
 ·rw[e];exact hB u hu
theorem v6{l:List Vx}(hP:Poly l)(m:V3)(num:Int)(hp:∃v∈l,0<ex m v.1)(hn:∃v∈l,ex m v.1<0):(ju m num l).length<=l.length+1:=by
 obtain⟨C1,C2,D1,D2,k,c,d,z,cfg,h1,h2⟩:=qT hP m hp hn
 obtain⟨u,v,e1,e2⟩:=h1
 obtain⟨u',v',e3,e4⟩:=h2 num
 have l1:l.length=((C1++[k])++(d::D1)).length:=by rw[e2,e1,aq,aq];omega
 have l2:(ju m num l).length=(C1++(kr m num k d++kU m z c)).length:=by rw[e4,e3,aq,aq];omega
 rw[l1,l2];unfold kr kU;simp only[aq,aV,bu];split<;>split<;>simp<;>omega
end MC
namespace MC
theorem nV{x y v:Int}(hv:0<v)(h:x*v<y*v):x<y:=by
 rcases Int.lt_or_le x y with q|q
 ·exact q
 ·have:=cG q (eI hv)
  omega
theorem BI{a w b v c u:Int}(hw:0<w)(hv:0<v)(hu:0<u)(h1:a*v<b*w)(h2:b*u<c*v):a*u<c*w:=by
 refine nV hv ?_;have q1:=cB h1 hu
 have q2:=cB h2 hw
 have e1:a*v*u=a*u*v:=by grind
 have e2:b*w*u=b*u*w:=by grind
 have e3:c*v*w=c*w*v:=by grind
 omega
theorem Ca{a w b v c u:Int}(hw:0<w)(hv:0<v)(hu:0<u)(h1:a*v<b*w)(h2:b*u=c*v):a*u<c*w:=by
 refine nV hv ?_;have q1:=cB h1 hu
 have e1:a*v*u=a*u*v:=by grind
 have e2:b*w*u=b*u*w:=by grind
 have e3:c*v*w=c*w*v:=by grind
 rw[h2] at e2;omega
theorem Cb{a w b v c u:Int}(hw:0<w)(hv:0<v)(hu:0<u)(h1:a*v=b*w)(h2:b*u<c*v):a*u<c*w:=by
 refine nV hv ?_;have q2:=cB h2 hw
 have e1:a*v*u=a*u*v:=by grind
 have e2:b*w*u=b*u*w:=by grind
 have e3:c*v*w=c*w*v:=by grind
 rw[h1] at e1;omega
theorem Cc{a w b v c u:Int}(hv:0<v)(h1:a*v=b*w)(h2:b*u=c*v):a*u=c*w:=by
 have:a*u*v=c*w*v:=by grind
 exact bC (by omega) this
noncomputable def Ahd(a b:V3):Prop:=a.1*b.2.2<b.1*a.2.2∨(a.1*b.2.2=b.1*a.2.2 /\ a.2.1*b.2.2<b.2.1*a.2.2)
noncomputable instance(a b:V3):Decidable (Ahd a b):=by unfold Ahd;exact inferInstance
theorem Ahd.trans{a b c:V3}(ha:0<a.2.2)(hb:0<b.2.2)(hc:0<c.2.2)(h1:Ahd a b)(h2:Ahd b c):Ahd a c:=by
 rcases h1 with h1|⟨h1,k1⟩
 ·rcases h2 with h2|⟨h2,k2⟩
  ·exact .inl (BI ha hb hc h1 h2)
  ·exact .inl (Ca ha hb hc h1 h2)
 ·rcases h2 with h2|⟨h2,k2⟩
  ·exact .inl (Cb ha hb hc h1 h2)
  ·exact .inr ⟨Cc hb h1 h2,BI ha hb hc k1 k2⟩
theorem Ahd.irr(a:V3):¬Ahd a a:=by
 rintro(h|⟨_,h⟩)<;>exact Int.lt_irrefl _ h
theorem Ahd.total{a b:V3}(ha:0<a.2.2)(hb:0<b.2.2)(ga:aB (aB a.1 a.2.1) a.2.2=1)(gb:aB (aB b.1 b.2.1) b.2.2=1)(h1:¬Ahd a b)(h2:¬Ahd b a):a=b:=by
 unfold Ahd at h1 h2;have e1:a.1*b.2.2=b.1*a.2.2:=by omega
 have e2:a.2.1*b.2.2=b.2.1*a.2.2:=by omega
 have k1:MA.IsPt a.1 a.2.1 a.2.2 a.1 a.2.1 a.2.2:=⟨ha,rfl,rfl,ga,ax _,ax _,ax _⟩
 have k2:MA.IsPt b.1 b.2.1 b.2.2 b.1 b.2.1 b.2.2:=⟨hb,rfl,rfl,gb,ax _,ax _,ax _⟩
 obtain⟨q1,q2,q3⟩:=MA.isPt_same k1 k2 (by omega) (by omega) e1 e2
 obtain⟨a1,a2,a3⟩:=a
 obtain⟨b1,b2,b3⟩:=b
 dsimp only at q1 q2 q3;rw[q1,q2,q3]
end MC
namespace MC
open MA L2
noncomputable def lH(x y u v:Int):List Vx:=[((x,y,1),(0,-1,-y),-1),((u,y,1),(1,0,u),-2),((u,v,1),(0,1,v),-3),((x,v,1),(-1,0,-x),-4)]
theorem tR{x y u v:Int}(h1:x<u)(h2:y<v):Poly (lH x y u v) where
 three:=by show 3<=4;decide
 pos:=by
  intro w hw;simp only[lH,aw,az,or_false] at hw;rcases hw with rfl|rfl|rfl|rfl<;>exact fH
 low:=by
  intro w hw;simp only[lH,aw,az,or_false] at hw;rcases hw with rfl|rfl|rfl|rfl<;>exact Int.gcd_one_right _
 nd:=by
  simp only[lH,aM,bO,bf,aw,az,or_false,dI.injEq,not_or,gy,and_true,not_false_eq_true];omega
 edge:=by
  intro e he;have he':e∈[(((x,y,1),(0,-1,-y),-1),((u,y,1),(1,0,u),-2)),(((u,y,1),(1,0,u),-2),((u,v,1),(0,1,v),-3)),(((u,v,1),(0,1,v),-3),((x,v,1),(-1,0,-x),-4)),(((x,v,1),(-1,0,-x),-4),((x,y,1),(0,-1,-y),-1))]:=he
  have pp:0<(u-x)*(v-y):=bL (by omega) (by omega)
  simp only[aw,az,or_false] at he';rcases he' with rfl|rfl|rfl|rfl
  all_goals
   refine⟨?_,?_,?_,?_,?_⟩
   ·simp only[ne_eq,dI.injEq];omega
   ·simp only[ex];omega
   ·simp only[ex];omega
   ·intro c hc;simp only[lH,aw,az,or_false] at hc;rcases hc with rfl|rfl|rfl|rfl
    all_goals first|exact .inl rfl|exact .inr (.inl rfl)|(refine .inr (.inr ?_);simp only[dt];grind)
   ·intro c hc;simp only[lH,aw,az,or_false] at hc;rcases hc with rfl|rfl|rfl|rfl
    all_goals first|exact .inl rfl|exact .inr (.inl rfl)|(refine .inr (.inr ?_);simp only[ex];omega)
noncomputable def dot(h p:V3):Int:=h.1*p.1+h.2.1*p.2.1+h.2.2*p.2.2
noncomputable def yI(a b:V3):V3:=(a.2.1*b.2.2-a.2.2*b.2.1,a.2.2*b.1-a.1*b.2.2,a.1*b.2.1-a.2.1*b.1)
theorem tJ(a b p:V3):dt a b p=dot (yI a b) p:=by unfold dt dot yI;grind
theorem yE(m p:V3):ex m p=dot (m.1,m.2.1,-m.2.2) p:=by unfold ex dot;grind
noncomputable def Hull(cs:List V3)(p:V3):Prop:=∀h:V3,(∀v∈cs,0<=dot h v) ->0<=dot h p
noncomputable def jt(l:List Vx)(p:V3):Prop:=∀e∈edges l,0<=dt e.1.1 e.2.1 p
noncomputable instance(l:List Vx)(p:V3):Decidable (jt l p):=by unfold jt;exact inferInstance
theorem Hull.self{cs:List V3}{p:V3}(h:p∈cs):Hull cs p:=fun _ q=>q p h
theorem Edge.left0{l:List Vx}{a b c:Vx}(E:Edge l a b)(hc:c∈l):0<=dt a.1 b.1 c.1:=by
 rcases E.left c hc with q|q|q
 ·rw[q,nX];exact cP 0
 ·rw[q,l8];exact cP 0
 ·exact eI q
theorem Hull.inside{l:List Vx}(hP:Poly l){p:V3}(h:Hull (l.map (·.1)) p):jt l p:=by
 intro e he;rw[tJ];refine h _ fun v hv=> ?_
 obtain⟨c,hc,rfl⟩:=aC.mp hv
 rw[<-tJ];exact(hP.edge e he).left0 hc
theorem Hull.ex{cs:List V3}{p m:V3}(h:Hull cs p)(q:∀v∈cs,0<=ex m v):0<=ex m p:=by
 rw[yE];exact h _ fun v hv=>by rw[<-yE];exact q v hv
theorem Rot.inside{l l':List Vx}(h:Rot l l')(p:V3):jt l' p↔jt l p:=by
 unfold jt;exact⟨fun q e he=>q e ((h.edges.mem e).mpr he),fun q e he=>q e ((h.edges.mem e).mp he)⟩
theorem Hull.exn{cs:List V3}{p m:V3}(h:Hull cs p)(q:∀v∈cs,MC.ex m v<=0):MC.ex m p<=0:=by
 have e:∀p,dot (-m.1,-m.2.1,m.2.2) p= -MC.ex m p:=fun p=>by unfold dot MC.ex;grind
 have:=h (-m.1,-m.2.1,m.2.2) fun v hv=>by
  rw[e];have:=q v hv
  omega
 rw[e] at this;omega
theorem LnB.rot{n:Nat}{l l':List Vx}(h:LnB n l)(r:Rot l l'):LnB n l':=fun v hv=>h v ((r.mem v).mp hv)
theorem Rot.len{α:Type}{l m:List α}(h:Rot l m):m.length=l.length:=by
 obtain⟨u,v,rfl,rfl⟩:=h
 rw[aq,aq,gR]
end MC
namespace MC
open MA L2
noncomputable def kg:List V3 ->Int
 |[]=>1
 |v::r=>v.2.2*kg r
theorem qD:∀{l:List V3},(∀v∈l,0<v.2.2) ->0<kg l
 |[],_=>fH
 |v::r,h=>bL (h v (by simp)) (qD fun x hx=>h x (by simp[hx]))
theorem qE:∀{l:List V3} {v:V3},v∈l ->v.2.2∣kg l
 |x::r,v,h=>by
  rcases aw.mp h with e|h
  ·rw[e];exact⟨kg r,rfl⟩
  ·obtain⟨k,hk⟩:=qE h
   exact⟨x.2.2*k,by rw[kg,hk];grind⟩
end MC
namespace MC
open MA L2
noncomputable abbrev U2:=Int×Int
noncomputable def crs(a b:U2):Int:=a.1*b.2-b.1*a.2
noncomputable def path:List U2 ->Int
 |[]=>0
 |[_]=>0
 |a::b::r=>crs a b+path (b::r)
noncomputable def cyc:List U2 ->Int
 |[]=>0
 |a::r=>path (a::r++[a])
theorem m7(a:U2):crs a a=0:=by unfold crs;grind
theorem sr(a b:U2):crs b a= -crs a b:=by unfold crs;grind
theorem lX(x:U2)(r:List U2):∀l:List U2,path (l++x::r)=path (l++[x])+path (x::r)
 |[]=>by simp[path]
 |[a]=>by simp[path]
 |a::b::l=>by
  have:=lX x r (b::l)
  simp only[ar,path] at this⊢;omega
theorem xW(a:U2)(r:List U2):cyc (r++[a])=cyc (a::r):=by
 cases r with
 |nil=>rfl
 |cons b r=>
  show path (b::(r++[a])++[b])=crs a b+path (b::r++[a])
  have:=lX a [b] (b::r)
  rw[show b::(r++[a])++[b]=b::r++a::[b] by simp,this];simp only[path];omega
theorem v5:∀(u v:List U2),cyc (v++u)=cyc (u++v)
 |[],v=>by simp
 |a::u,v=>by
  have h1:=v5 u (v++[a])
  have h2:=xW a (u++v)
  rw[bI,gf] at h1;rw[h1, <-bI,h2];rfl
theorem qd{α:Type}(f:α ->U2){l m:List α}(h:Rot l m):cyc (m.map f)=cyc (l.map f):=by
 obtain⟨u,v,rfl,rfl⟩:=h
 rw[ay,ay,v5]
noncomputable def sc(S:Int)(z:V3):U2:=(z.1*(S /z.2.2),z.2.1*(S /z.2.2))
theorem B6{S:Int}{a b c:V3}(ha:a.2.2∣S)(hb:b.2.2∣S)(hc:c.2.2∣S):
  S*(crs (sc S a) (sc S b)+crs (sc S b) (sc S c)+crs (sc S c) (sc S a))=(S /a.2.2)*((S /b.2.2)*((S /c.2.2)*dt a b c)):=by
 have e1:=fj ha
 have e2:=fj hb
 have e3:=fj hc
 unfold sc crs dt;dsimp only;generalize S /a.2.2=A at e1⊢;generalize S /b.2.2=B at e2⊢;generalize S /c.2.2=C at e3⊢
 grind
theorem sE{S:Int}(hS:0<S){a b c:V3}(ha:a.2.2∣S)(hb:b.2.2∣S)(hc:c.2.2∣S)(h:dt a b c=0):
  crs (sc S a) (sc S b)+crs (sc S b) (sc S c)+crs (sc S c) (sc S a)=0:=by
 have e:=B6 ha hb hc
 rw[h,ci,ci,ci] at e;rcases bp.mp e with q|q
 ·omega
 ·exact q
theorem yw{α β:Type}(f:α ->β):∀l:List α,pe (l.map f)=(pe l).map fun e=>(f e.1,f e.2)
 |[]=>rfl
 |[_]=>rfl
 |x::y::r=>by
  have:=yw f (y::r)
  simp only[aM,pe] at this⊢;rw[this]
end MC
namespace MC
open MA L2
noncomputable def ng(m:V3):V3:=(-m.1,-m.2.1,-m.2.2)
theorem nW(m p:V3):ex (ng m) p= -ex m p:=by unfold ex ng;grind
theorem Ag(x y w:Int):com (-x) (-y) (-w)= -com x y w:=by
 unfold com;have e:sgn (-w)= -sgn w:=by
  unfold sgn;split<;>split<;>(try split)<;>(try split)<;>omega
 rw[e];simp only[Int.gcd_neg,Int.neg_gcd,Int.mul_neg]
theorem oO(a b:V3)(h t:Int):je a b (-h) (-t)=je a b h t:=by
 unfold je;have e:∀x y:Int,x* -t-y* -h= -(x*t-y*h):=fun x y=>by grind
 rw[e,e,e,Ag,fO,fO,fO]
theorem v0{a kk:U2}{r r':List U2}(e:a::r=r'++[kk])(t:List U2):cyc (a::(r++t))=path (a::r)+path (kk::(t++[a])):=by
 show path (a::(r++t)++[a])=_
 have:a::(r++t)++[a]=r'++kk::(t++[a]):=by
  rw[<-ar,e];simp
 rw[this,lX, <-e]
section
variable {m:V3} {num:Int} {C1 C2 D1 D2:List Vx} {k c d z:Vx}
namespace Cfg
theorem behind(h:Cfg m C1 C2 D1 D2 k c d z)(f:V3 ->U2):cyc ((C1++(kr m num k d++kU m z c)).map fun v=>f v.1)=path ((C1++[k]).map fun v=>f v.1)+crs (f k.1) (f (Xp m k d))+crs (f (Xp m k d)) (f (Yp m z c))+crs (f (Yp m z c)) (f c.1):=by
 have eC:f c.1::C2.map (fun v=>f v.1)=C1.map (fun v=>f v.1)++[f k.1]:=by
  have:=congrArg (iD fun v:Vx=>f v.1) h.eC
  simpa using this.symm
 have tail:∀t:List U2,(C1++(kr m num k d++kU m z c)).map (fun v=>f v.1)=(C1.map (fun v=>f v.1)++[f k.1])++t ->cyc ((C1++(kr m num k d++kU m z c)).map fun v=>f v.1)=path ((C1++[k]).map fun v=>f v.1)+path (f k.1::(t++[f c.1])):=by
  intro t e;rw[e, <-eC,ar,v0 eC t,eC];simp
 unfold kr kU Xp Yp at*
 by_cases hk:ex m k.1<0
 ·by_cases hc:ex m c.1<0
  ·simp only[if_pos hk,if_pos hc] at tail⊢;rw[tail [f (je k.1 d.1 (ex m k.1) (ex m d.1)),f (je z.1 c.1 (ex m z.1) (ex m c.1))] (by simp)];simp only[ar,aS,path];omega
  ·simp only[if_pos hk,if_neg hc] at tail⊢;rw[tail [f (je k.1 d.1 (ex m k.1) (ex m d.1))] (by simp)];have:=m7 (f c.1)
   simp only[ar,aS,path];omega
 ·by_cases hc:ex m c.1<0
  ·simp only[if_neg hk,if_pos hc] at tail⊢;rw[tail [f (je z.1 c.1 (ex m z.1) (ex m c.1))] (by simp)];have:=m7 (f k.1)
   simp only[ar,aS,path];omega
  ·simp only[if_neg hk,if_neg hc] at tail⊢;rw[tail [] (by simp)];have:=m7 (f k.1)
   have:=m7 (f c.1)
   simp only[ar,aS,path];omega
theorem tF{m':V3}:∀p:List Vx,(∀e∈pe p,0<ex m' e.1.1 /\ 0<=ex m' e.2.1) ->(pe p).flatMap (emit m' num)=[]:=by
 intro p h;rw[List.flatMap_eq_nil_iff];intro e he;obtain⟨h1,h2⟩:=h e he
 unfold emit;rw[if_neg (by omega),if_neg (by omega),if_neg (by omega),if_neg (by omega)];rfl
theorem edgesCD(h:Cfg m C1 C2 D1 D2 k c d z):edges ((C1++[k])++(d::D1))=pe (C1++[k])++((k,d)::(pe (d::D1)++[(z,c)])):=by
 rw[h.eC,ar,kR];have e2:c::(C2++d::D1)++[c]=C1++k::(d::D1++[c]):=by
  rw[<-ar, <-h.eC];simp
 rw[e2,pe_app, <-h.eC]
 congr 1
 show(k,d)::pe (d::(D1++[c]))=_
 congr 1
 rw[<-ar, <-h.eD,bI];show pe (D2++z::[c])=_
 rw[pe_app,h.eD];rfl
theorem partA(h:Cfg m C1 C2 D1 D2 k c d z):((pe (C1++[k])).flatMap (emit (ng m) num)).map (·.1)=if ex m c.1<0 then[] else[Yp m z c]:=by
 have hc:=h.hC c h.cC
 have nd:=h.hP.nd
 rw[ay,aX] at nd;have nd:=nd.1
 have src:∀e∈pe (C1++[k]),e.1∈C1:=by
  intro e he;have:∀(p:List Vx) (x:Vx) (e:Vx×Vx),e∈pe (p++[x]) ->e.1∈p:=by
   intro p
   induction p with
   |nil=>intro x e he;simp[pe] at he
   |cons a p ih=>
    intro x e he;cases p with
    |nil=>
     simp only[ar,aS,pe,bA] at he;rw[he];simp
    |cons b p=>
     simp only[ar,pe,aw] at he;rcases he with he|he
     ·rw[he];simp
     ·exact aP _ (ih x e (by simpa using he))
  exact this C1 k e he
 have notk:∀x∈C1,x≠k:=by
  intro x hx e;rw[e] at hx;rw[ay,aX] at nd;exact nd.2.2 k.1 (aC.mpr ⟨k,hx,rfl⟩) k.1 (by simp) rfl
 have tgt:∀e∈pe (C1++[k]),e.2∈C1++[k]:=fun e he=>(oF _ _ _ he).2
 have neg:∀x∈C1,x≠c ->ex m x.1<0:=by
  intro x hx nc;have hx':=h.hC x (bK _ hx)
  rcases Int.lt_or_eq_of_le hx' with q|q
  ·exact q
  ·rcases h.zero (bK _ hx) q with e|e
   ·exact absurd e nc
   ·exact absurd e (notk x hx)
 by_cases q:ex m c.1<0
 ·rw[if_pos q,tF]
  ·rfl
  ·intro e he;have h1:=src e he
   have h2:=h.hC _ (tgt e he)
   rw[nW,nW]
   by_cases ec:e.1=c
   ·rw[ec];omega
   ·have:=neg _ h1 ec
    omega
 ·rw[if_neg q];have c0:ex m c.1=0:=by omega
  have ey:Yp m z c=c.1:=if_neg q
  --the list has two or more
  obtain⟨b,C3,e3⟩:∃b C3,C2=b::C3:=by
   cases hC2:C2 with
   |nil=>
    have e:=h.eC
    rw[hC2] at e;have l1:C1=[]:=by
     have:=congrArg gA e
     simp at this;exact this
    rw[l1] at e;simp at e;have:=h.ends
    rw[e] at this;rcases this with w|w
    ·omega
    ·exact absurd rfl w
   |cons b C3=>exact⟨b,C3,rfl⟩
  have eC:=h.eC
  rw[e3] at eC;rw[eC,pe,bB,ay,tF,bO,aL]
  ·have hb:=h.hC b (by rw[eC];simp)
   unfold emit;rw[nW,nW,c0];dsimp only
   by_cases w:ex m b.1=0
   ·rw[w,if_pos (by omega),if_neg (by omega),if_neg (by omega),ey];rfl
   ·rw[if_neg (by omega),if_pos (by omega),if_neg (by omega),if_neg (by omega),ey];rfl
  ·intro e he;have he':e∈pe (C1++[k]):=by
    rw[eC,pe];exact aP _ he
   have h1:=src e he'
   have h2:=h.hC _ (tgt e he')
   have h3:e.1≠c:=by
    intro ec;have mm:=(oF _ _ _ he).1
    rw[ec] at mm;rw[eC,aM,bf] at nd;exact nd.1 (aC.mpr ⟨c,mm,rfl⟩)
   have:=neg _ h1 h3
   rw[nW,nW];omega
theorem beyond(h:Cfg m C1 C2 D1 D2 k c d z):Rot (Xp m k d::((d::D1).map (·.1)++[Yp m z c])) ((ju (ng m) num ((C1++[k])++(d::D1))).map (·.1)):=by
 have hk:=h.hC k h.kC
 have hd:=h.hD d h.dD
 have hc:=h.hC c h.cC
 have hz:=h.hD z h.zD
 have pB:(emit (ng m) num (k,d)).map (·.1)=[Xp m k d]:=by
  unfold emit Xp;rw[nW,nW];dsimp only
  by_cases q:ex m k.1<0
  ·rw[if_neg (by omega),if_neg (by omega),if_neg (by omega),if_pos (by omega),if_pos q,oO];rfl
  ·rw[if_pos (by omega),if_neg (by omega),if_neg (by omega),if_neg q];rfl
 have pC:(pe (d::D1)).flatMap (emit (ng m) num)=D2:=by
  rw[<-h.eD];refine p9 _ _ _ _ fun x hx=> ?_
  rw[h.eD] at hx;have:=h.hD x hx
  rw[nW];omega
 have pD:(emit (ng m) num (z,c)).map (·.1)=z.1::(if ex m c.1<0 then[Yp m z c] else[]):=by
  unfold emit Yp;rw[nW,nW];dsimp only
  by_cases q:ex m c.1<0
  ·rw[if_pos (by omega),if_pos (by omega),if_pos q,if_pos q,oO];rfl
  ·rw[if_pos (by omega),if_neg (by omega),if_neg (by omega),if_neg q];rfl
 have eD:D2.map (·.1)++[z.1]=(d::D1).map (·.1):=by
  rw[<-h.eD];simp
 unfold ju;rw[h.edgesCD,cu,bB,cu,ay,ay,ay,h.partA,pB,pC,bB,dG,aL,pD, <-eD]
 by_cases q:ex m c.1<0
 ·rw[if_pos q,if_pos q];have:([]:List V3)++([Xp m k d]++(D2.map (·.1)++z.1::[Yp m z c]))=Xp m k d::(D2.map (·.1)++[z.1]++[Yp m z c]):=by simp
  rw[this];exact .refl _
 ·rw[if_neg q,if_neg q];exact⟨Xp m k d::(D2.map (·.1)++[z.1]),[Yp m z c],by simp,by simp⟩
end Cfg
end
end MC
namespace MC
open MA L2
section
variable {m:V3} {num:Int} {C1 C2 D1 D2:List Vx} {k c d z:Vx}
namespace Cfg
theorem colX(h:Cfg m C1 C2 D1 D2 k c d z):dt k.1 (Xp m k d) d.1=0:=by
 rw[oK];obtain⟨s,t,hs,ht,e⟩:=h.simX.dt d.1 k.1
 rw[Ac,l8,nX] at e;have:dt d.1 k.1 (Xp m k d)*s=0:=by rw[e];simp
 rcases bp.mp this with q|q
 ·exact q
 ·omega
theorem colY(h:Cfg m C1 C2 D1 D2 k c d z):dt z.1 (Yp m z c) c.1=0:=by
 rw[oK];obtain⟨s,t,hs,ht,e⟩:=h.simY.dt c.1 z.1
 rw[Ac,l8,nX] at e;have:dt c.1 z.1 (Yp m z c)*s=0:=by rw[e];simp
 rcases bp.mp this with q|q
 ·exact q
 ·omega
theorem sums(h:Cfg m C1 C2 D1 D2 k c d z){S:Int}(hS:0<S)(hd:∀v∈(C1++[k])++(d::D1),v.1.2.2∣S)(hX:(Xp m k d).2.2∣S)(hY:(Yp m z c).2.2∣S)(num':Int):
  cyc ((C1++(kr m num k d++kU m z c)).map fun v=>sc S v.1)+cyc ((ju (ng m) num' ((C1++[k])++(d::D1))).map fun v=>sc S v.1)=cyc (((C1++[k])++(d::D1)).map fun v=>sc S v.1):=by
 rw[h.behind (sc S)];have eB:cyc ((ju (ng m) num' ((C1++[k])++(d::D1))).map fun v=>sc S v.1)=cyc ((Xp m k d::((d::D1).map (·.1)++[Yp m z c])).map (sc S)):=by
  rw[<-qd (sc S) (h.beyond (num:=num')),dj];rfl
 have eD:((d::D1).map (·.1)).map (sc S)=(D2.map fun v=>sc S v.1)++[sc S z.1]:=by
  rw[<-h.eD];simp
 have eB2:cyc ((Xp m k d::((d::D1).map (·.1)++[Yp m z c])).map (sc S))=crs (sc S (Xp m k d)) (sc S d.1)+path ((d::D1).map fun v=>sc S v.1)+crs (sc S z.1) (sc S (Yp m z c))+crs (sc S (Yp m z c)) (sc S (Xp m k d)):=by
  rw[aM,ay,eD];show path (sc S (Xp m k d)::((D2.map fun v=>sc S v.1)++[sc S z.1]++[sc S (Yp m z c)])++[sc S (Xp m k d)])=_
  have e1:sc S (Xp m k d)::((D2.map fun v=>sc S v.1)++[sc S z.1]++[sc S (Yp m z c)])++[sc S (Xp m k d)]=(sc S (Xp m k d)::(D2.map fun v=>sc S v.1))++sc S z.1::[sc S (Yp m z c),sc S (Xp m k d)]:=by simp
  rw[e1,lX];have e2:(sc S (Xp m k d)::(D2.map fun v=>sc S v.1))++[sc S z.1]=sc S (Xp m k d)::((d::D1).map fun v=>sc S v.1):=by
   rw[<-h.eD];simp
  rw[e2];simp only[aM,path];omega
 have eL:cyc (((C1++[k])++(d::D1)).map fun v=>sc S v.1)=path ((C1++[k]).map fun v=>sc S v.1)+crs (sc S k.1) (sc S d.1)+path ((d::D1).map fun v=>sc S v.1)+crs (sc S z.1) (sc S c.1):=by
  have eC:sc S c.1::C2.map (fun v=>sc S v.1)=C1.map (fun v=>sc S v.1)++[sc S k.1]:=by
   have:=congrArg (iD fun v:Vx=>sc S v.1) h.eC
   simpa using this.symm
  have e0:((C1++[k])++(d::D1)).map (fun v=>sc S v.1)=sc S c.1::(C2.map (fun v=>sc S v.1)++(d::D1).map fun v=>sc S v.1):=by
   rw[ay, <-ar,eC];simp
  rw[e0,v0 eC,eC];have e1:(C1++[k]).map (fun v=>sc S v.1)=C1.map (fun v=>sc S v.1)++[sc S k.1]:=by simp
  rw[e1];have e2:sc S k.1::((d::D1).map (fun v=>sc S v.1)++[sc S c.1])=(sc S k.1::D2.map (fun v=>sc S v.1))++sc S z.1::[sc S c.1]:=by
   rw[<-h.eD];simp
  have e4:=lX (sc S z.1) [sc S c.1] (sc S k.1::D2.map (fun v=>sc S v.1))
  rw[e2,e4];have e3:(sc S k.1::D2.map (fun v=>sc S v.1))++[sc S z.1]=sc S k.1::((d::D1).map fun v=>sc S v.1):=by
   rw[<-h.eD];simp
  rw[e3];simp only[aM,path];omega
 rw[eB,eB2,eL];have t1:=sE hS (hd k (h.inC h.kC)) hX (hd d (h.inD h.dD)) h.colX
 have t2:=sE hS (hd z (h.inD h.zD)) hY (hd c (h.inC h.cC)) h.colY
 have n1:=sr (sc S k.1) (sc S d.1)
 have n2:=sr (sc S z.1) (sc S c.1)
 have n3:=sr (sc S (Xp m k d)) (sc S (Yp m z c))
 omega
theorem inX(h:Cfg m C1 C2 D1 D2 k c d z):∃v∈C1++(kr m num k d++kU m z c),v.1=Xp m k d:=by
 unfold kr Xp;split
 ·exact⟨(je k.1 d.1 (ex m k.1) (ex m d.1),m,num),by simp,rfl⟩
 ·exact⟨(k.1,m,num),by simp,rfl⟩
theorem inY(h:Cfg m C1 C2 D1 D2 k c d z):(∃v∈C1++(kr m num k d++kU m z c),v.1=Yp m z c)∨Yp m z c=c.1:=by
 unfold kU Yp;split
 ·exact .inl ⟨(je z.1 c.1 (ex m z.1) (ex m c.1),z.2),by simp,rfl⟩
 ·exact .inr rfl
end Cfg
end
theorem v7{l:List Vx}(hP:Poly l)(m:V3)(n1 n2:Int)(hp:∃v∈l,0<ex m v.1)(hn:∃v∈l,ex m v.1<0){S:Int}(hS:0<S)(h0:∀v∈l,v.1.2.2∣S)(h1:∀v∈ju m n1 l,v.1.2.2∣S):
  cyc ((ju m n1 l).map fun v=>sc S v.1)+cyc ((ju (ng m) n2 l).map fun v=>sc S v.1)=cyc (l.map fun v=>sc S v.1):=by
 obtain⟨C1,C2,D1,D2,k,c,d,z,cfg,r1,r2⟩:=qT hP m hp hn
 have r3:Rot (ju (ng m) n2 l) (ju (ng m) n2 ((C1++[k])++(d::D1))):=r1.edges.flat (emit (ng m) n2)
 have hX:(Xp m k d).2.2∣S:=by
  obtain⟨v,hv,e⟩:=cfg.inX (num:=n1)
  rw[<-e];exact h1 v (((r2 n1).mem v).mp hv)
 have hY:(Yp m z c).2.2∣S:=by
  rcases cfg.inY (num:=n1) with⟨v,hv,e⟩|e
  ·rw[<-e];exact h1 v (((r2 n1).mem v).mp hv)
  ·rw[e];exact h0 c ((r1.mem c).mp (cfg.inC cfg.cC))
 rw[<-qd (fun v:Vx=>sc S v.1) (r2 n1), <-qd (fun v:Vx=>sc S v.1) r3, <-qd (fun v:Vx=>sc S v.1) r1];exact cfg.sums hS (fun v hv=>h0 v ((r1.mem v).mp hv)) hX hY n2
theorem Sim.dot{q v:V3}(h:Sim q v)(g:V3):∃s t:Int,0<s /\ 0<t /\ dot g q*s=dot g v*t:=by
 obtain⟨s,t,hs,ht,e1,e2,e3⟩:=h
 refine⟨s,t,hs,ht,?_⟩;unfold MC.dot
 grind
theorem BO(g:V3)(s:Int)(c:V3)(t:Int)(d:V3):dot g (cb s c t d)=s*dot g c+t*dot g d:=by unfold dot cb;grind
theorem xX{l:List Vx}(hP:Poly l)(m:V3)(num:Int)(hp:∃v∈l,0<ex m v.1)(hn:∃v∈l,ex m v.1<0){v:Vx}(hv:v∈ju m num l):Hull (l.map (·.1)) v.1:=by
 obtain⟨C1,C2,D1,D2,k,c,d,z,cfg,h1,h2⟩:=qT hP m hp hn
 have hv':=((h2 num).mem v).mpr hv
 have ml:∀{x:Vx},x∈(C1++[k])++(d::D1) ->x.1∈l.map (·.1):=fun hx=>aC.mpr ⟨_,(h1.mem _).mp hx,rfl⟩
 have hk:=cfg.hC k cfg.kC
 have hd:=cfg.hD d cfg.dD
 have hc:=cfg.hC c cfg.cC
 have hz:=cfg.hD z cfg.zD
 have two:∀{q x y:V3} {s t:Int},0<=s ->0<=t ->x∈l.map (·.1) ->y∈l.map (·.1) ->Sim q (cb s x t y) ->Hull (l.map (·.1)) q:=by
  intro q x y s t hs ht hx hy hq g hg;obtain⟨s',t',hs',ht',e⟩:=hq.dot g
  have w:=lh hs' ht' e
  rw[BO] at w;have q1:=lG hs (hg x hx)
  have q2:=lG ht (hg y hy)
  omega
 rcases cfg.pts hv' with⟨x,hx,e⟩|e|e
 ·rw[e];exact .self (ml (cfg.inC hx))
 ·rw[e];exact two (by omega) (by omega) (ml (cfg.inC cfg.kC)) (ml (cfg.inD cfg.dD)) cfg.simX
 ·rw[e];exact two (by omega) (by omega) (ml (cfg.inC cfg.cC)) (ml (cfg.inD cfg.zD)) cfg.simY
end MC
namespace MC
open MA L2
noncomputable def mL(p:Int×Int)(z:V3×V3):Int×Int:=(p.1*(z.1.2.2*z.2.2.2)+(z.1.1*z.2.2.1-z.2.1*z.1.2.1)*p.2,p.2*(z.1.2.2*z.2.2.2))
noncomputable def Am(l:List (V3×V3)):Int×Int:=l.foldl mL (0,1)
noncomputable def prs:List (U2×U2) ->Int
 |[]=>0
 |z::r=>crs z.1 z.2+prs r
theorem xf:∀(r:List U2) (a b:U2),prs ((a::r).zip (r++[b]))=path (a::r++[b]):=by
 intro r
 induction r with
 |nil=>intro a b;simp[prs,path]
 |cons c r ih=>
  intro a b;have:=ih c b
  simp only[ar,cZ,prs,path] at this⊢;rw[this]
theorem zg(l:List U2):prs (l.zip (rot l))=cyc l:=by
 cases l with
 |nil=>rfl
 |cons a r=>exact xf r a a
theorem BS(w:Int)(u:V3 ->U2):∀L:List (V3×V3),(∀z∈L,(0<z.1.2.2 /\ z.1.1*w=(u z.1).1*z.1.2.2 /\ z.1.2.1*w=(u z.1).2*z.1.2.2) /\ (0<z.2.2.2 /\ z.2.1*w=(u z.2).1*z.2.2.2 /\ z.2.2.1*w=(u z.2).2*z.2.2.2)) ->
  ∀p:Int×Int,∀S:Int,p.2≠0 ->p.1*(w*w)=p.2*S ->(L.foldl mL p).2≠0 /\ (L.foldl mL p).1*(w*w)=(L.foldl mL p).2*(S+prs (L.map fun z=>(u z.1,u z.2))):=by
 intro L
 induction L with
 |nil=>
  intro _ p S h0 h;exact⟨h0,by simpa[prs] using h⟩
 |cons z L ih=>
  intro hz p S h0 h;obtain⟨⟨k1,k2,k3⟩,⟨k4,k5,k6⟩⟩:=hz z (by simp)
  have:=ih (fun z hz'=>hz z (by simp[hz'])) (mL p z) (S+crs (u z.1) (u z.2)) ?_ ?_
  ·simp only[ic,aM,prs];rw[<-Int.add_assoc];exact this
  ·unfold mL;have:z.1.2.2*z.2.2.2≠0:=gh (by omega) (by omega)
   exact gh h0 this
  ·unfold mL crs;dsimp only
   grind
theorem za{S:Int}{z:V3}(h:z.2.2∣S)(hz:0<z.2.2):0<z.2.2 /\ z.1*S=(sc S z).1*z.2.2 /\ z.2.1*S=(sc S z).2*z.2.2:=by
 obtain⟨k,rfl⟩:=h
 have e:z.2.2*k /z.2.2=k:=bX k (by omega)
 refine⟨hz,?_,?_⟩
 all_goals
  unfold sc;dsimp only;rw[e]
  grind
end MC
namespace MC
open MA L2
theorem nI(h a b c d:V3):dt a b c*dot h d=dt d b c*dot h a+dt a d c*dot h b+dt a b d*dot h c:=by unfold dt dot;grind
theorem tG{h a p:V3}(ha:0<=dot h a):∀(s:List V3) (x:V3),0<=dt a x p ->(∀z∈(x::s).getLast?,dt a z p<=0) ->s≠[] ->(∀e∈pe (x::s),0<=dt e.1 e.2 p /\ 0<dt a e.1 e.2) ->(∀v∈x::s,0<=dot h v) ->0<=dot h p
 |[],x,_,_,hn,_,_=>absurd rfl hn
 |y::s,x,h1,h2,_,h3,h4=>by
  have e:=h3 (x,y) (by simp[pe])
  dsimp only at e
  by_cases q:dt a y p<=0
  ·have pl:=nI h a x y p
   have r1:dt p x y=dt x y p:=(oK p x y).symm
   have r2:dt a p y= -dt a y p:=by unfold dt;grind
   rw[r1,r2] at pl;have m1:=lG e.1 ha
   have m2:=lG (a:= -dt a y p) (by omega) (h4 x (by simp))
   have m3:=lG h1 (h4 y (by simp))
   refine Classical.byContradiction fun z=> ?_
   have:=bQ e.2 (show dot h p<0 by omega)
   omega
  ·refine tG ha s y (by omega) (fun z hz=>h2 z (by rw[List.getLast?_cons_cons];exact hz)) ?_ (fun e he=>h3 e (by simp only[pe,aw];exact .inr he)) (fun v hv=>h4 v (aP _ hv));intro z;subst z;exact q (h2 y (by simp))
theorem p8{l:List Vx}(hP:Poly l){p:V3}(hin:jt l p):Hull (l.map (·.1)) p:=by
 intro h hh;have h3:=hP.three
 match l,h3,hP,hin,hh with
 |a::b::c::r,_,hP,hin,hh=>
  have nd:=hP.nd
  rw[aM,bf] at nd;have ee:edges (a::b::c::r)=pe (a::(b::c::r)++[a]):=kR a (b::c::r)
  refine tG (a:=a.1) (hh _ (by simp)) ((c::r).map (·.1)) b.1 ?_ ?_ (by simp) ?_ fun v hv=>hh v (by rw[aM];exact aP _ hv)
  ·exact hin (a,b) (kS (p:=[]))
  ·intro z hz;rw[<-aM (f:=fun v:Vx=>v.1),List.getLast?_map] at hz;obtain⟨z',hz',e⟩:=cY.mp hz
   subst e;obtain⟨m,hm⟩:∃m,b::c::r=m++[z']:=List.getLast?_eq_some_iff.mp hz'
   have el:(z',a)∈edges (a::b::c::r):=by
    rw[hm];exact kE
   have:=hin _ el
   dsimp only at this;rw[vU] at this;omega
  ·intro e he;rw[<-aM (f:=fun v:Vx=>v.1),yw] at he;obtain⟨e',he',rfl⟩:=aC.mp he
   have hl:e'∈edges (a::b::c::r):=by
    rw[ee];have:(e'.1,e'.2)∈pe (b::c::r++[a]):=nJ he'
    simp only[ar,pe,aw] at this⊢;exact .inr this
   have E:=hP.edge e' hl
   obtain⟨m1,m2⟩:=oF _ _ _ he'
   have n1:a.1≠e'.1.1:=fun z=>nd.1 (aC.mpr ⟨e'.1,m1,z.symm⟩)
   have n2:a.1≠e'.2.1:=fun z=>nd.1 (aC.mpr ⟨e'.2,m2,z.symm⟩)
   refine⟨hin e' hl,?_⟩;have:=E.left_of (c:=a) (by simp) n1 n2
   rw[oK] at this;exact this
theorem Hull.trans{cs ds:List V3}{p:V3}(h1:Hull ds p)(h2:∀d∈ds,Hull cs d):Hull cs p:=fun g hg=>h1 g fun d hd=>h2 d hd g hg
theorem sk{l l':List Vx}{m:V3}{num:Int}(hP:Poly l)(hp:∃v∈l,0<ex m v.1)(hn:∃v∈l,ex m v.1<0)(r:Rot (ju m num l) l')(p:V3):jt l' p↔jt l p /\ ex m p<=0:=by
 have P':=r.poly (md hP m num hp hn)
 have key:jt l p ->(jt l' p↔ex m p<=0):=fun q=>(r.inside p).trans (uo hP m num hp hn q)
 constructor
 ·intro q;have i1:jt l p:=Hull.inside hP (Hull.trans (p8 P' q) fun d hd=>by
   obtain⟨v,hv,rfl⟩:=aC.mp hd
   exact xX hP m num hp hn ((r.mem v).mp hv))
  exact⟨i1,(key i1).mp q⟩
 ·rintro⟨i1,q⟩;exact(key i1).mpr q
theorem same_iff{l:List Vx}{m:V3}(hP:Poly l)(h:∀v∈l,ex m v.1<=0)(p:V3):jt l p↔jt l p /\ ex m p<=0:=
 ⟨fun q=>⟨q,(p8 hP q).exn fun v hv=>by
  obtain⟨u,hu,rfl⟩:=aC.mp hv
  exact h u hu⟩,fun q=>q.1⟩
theorem ro{l:List Vx}{m p:V3}(hP:Poly l)(hin:jt l p)(h:ex m p<0):∃v∈l,ex m v.1<0:=by
 refine Classical.byContradiction fun z=> ?_
 have:=(p8 hP hin).ex (m:=m) fun v hv=>by
  obtain⟨u,hu,rfl⟩:=aC.mp hv
  exact Int.not_lt.mp fun q=>z ⟨u,hu,q⟩
 omega
theorem oR{x y u v:Int}(h1:x<u)(h2:y<v)(p:V3):jt (lH x y u v) p↔(x*p.2.2<=p.1 /\ p.1<=u*p.2.2) /\ (y*p.2.2<=p.2.1 /\ p.2.1<=v*p.2.2):=by
 have e1:dt (x,y,1) (u,y,1) p=(u-x)*(p.2.1-y*p.2.2):=by unfold dt;grind
 have e2:dt (u,y,1) (u,v,1) p=(v-y)*(u*p.2.2-p.1):=by unfold dt;grind
 have e3:dt (u,v,1) (x,v,1) p=(u-x)*(v*p.2.2-p.2.1):=by unfold dt;grind
 have e4:dt (x,v,1) (x,y,1) p=(v-y)*(p.1-x*p.2.2):=by unfold dt;grind
 have nn:∀{a b:Int},0<a ->(0<=a*b↔0<=b):=fun {a b} ha=>⟨fun q=>Classical.byContradiction fun z=>by
  have:=bQ ha (show b<0 by omega)
  omega,fun q=>eo (by omega) q⟩
 have key:jt (lH x y u v) p↔0<=dt (x,y,1) (u,y,1) p /\ 0<=dt (u,y,1) (u,v,1) p /\ 0<=dt (u,v,1) (x,v,1) p /\ 0<=dt (x,v,1) (x,y,1) p:=by
  unfold jt lH edges rot;simp
 rw[key,e1,e2,e3,e4,nn (by omega),nn (by omega),nn (by omega),nn (by omega)];omega
noncomputable def sq2(z:V3)(r:U2):Int:=(z.1-r.1*z.2.2)^2+(z.2.1-r.2*z.2.2)^2
noncomputable def lnB(r s:U2):V3:=
 let a:=2*(s.1-r.1);let b:=2*(s.2-r.2);let c:=s.1*s.1+s.2*s.2-r.1*r.1-r.2*r.2
 (a /(aB (aB a b) c:Int),b /(aB (aB a b) c:Int),c /(aB (aB a b) c:Int))
theorem rW{a b c x y z:Int}(h:IsLn a b c x y z):x=a /(aB (aB a b) c:Int) /\ y=b /(aB (aB a b) c:Int) /\ z=c /(aB (aB a b) c:Int):=by
 obtain⟨g,hg,e1,e2,e3,e4⟩:=h.ex
 rw[<-e4];refine⟨?_,?_,?_⟩
 ·rw[e1,bX _ (by omega)]
 ·rw[e2,bX _ (by omega)]
 ·rw[e3,bX _ (by omega)]
theorem Bs{r s:U2}(h:r≠s):∃g:Int,0<g /\ ∀p:V3,g*ex (lnB r s) p*p.2.2=sq2 p r-sq2 p s:=by
 have hab:¬(2*(s.1-r.1)=0 /\ 2*(s.2-r.2)=0):=fun q=>h (b9 (by omega) (by omega))
 have L:=(rV (c:=s.1*s.1+s.2*s.2-r.1*r.1-r.2*r.2) hab).1
 have E:=rW L
 obtain⟨g,hg,e1,e2,e3,e4⟩:=L.ex
 rw[E.1] at e1;rw[E.2.1] at e2;rw[E.2.2] at e3;refine⟨g,hg,fun p=> ?_⟩;have e:g*ex (lnB r s) p=2*(s.1-r.1)*p.1+2*(s.2-r.2)*p.2.1-(s.1*s.1+s.2*s.2-r.1*r.1-r.2*r.2)*p.2.2:=by
  unfold ex lnB;dsimp only;generalize(2*(s.1-r.1)) /_=A at e1⊢;generalize(2*(s.2-r.2)) /_=B at e2⊢;generalize(s.1*s.1+s.2*s.2-r.1*r.1-r.2*r.2) /_=D at e3⊢;rw[e1,e2,e3]
  grind
 rw[e];unfold sq2
 grind
theorem jR{r s:U2}(h:r≠s){p:V3}(hp:0<p.2.2):(ex (lnB r s) p<=0↔sq2 p r<=sq2 p s) /\ (ex (lnB r s) p<0↔sq2 p r<sq2 p s) /\ (ex (lnB r s) p=0↔sq2 p r=sq2 p s):=by
 obtain⟨g,hg,e⟩:=Bs h
 have e:=e p
 have q:=lh (x:=ex (lnB r s) p) (y:=sq2 p r-sq2 p s) (s:=g*p.2.2) (t:=1) (bL hg hp) (by decide) (by rw[df, <-e];grind)
 omega
theorem rP{n:Nat}{a b c d:Int}(h1:Bd n a)(h2:Bd n b)(h3:Bd n c)(h4:Bd n d):Bd (2*n+4) (2*(c-a)) /\ Bd (2*n+4) (c*c+d*d-a*a-b*b):=by
 have p1:(2:Nat)^(2*n+4)=2^(2*n)*16:=by rw[Nat.pow_add]
 have p2:(2:Nat)^n<=2^(2*n):=dA (by decide) (by omega)
 have sqb:∀{i:Int},Bd n i ->(i*i).natAbs<2^(2*n):=fun {i} hi=>by
  have:=hi.mul hi
  unfold Bd at this;rw[show 2*n=n+n by omega];exact this
 have q1:=sqb h1
 have q2:=sqb h2
 have q3:=sqb h3
 have q4:=sqb h4
 unfold Bd at h1 h2 h3 h4⊢;generalize(2:Nat)^(2*n+4)=T at p1⊢;generalize(2:Nat)^(2*n)=T1 at p1 p2 q1 q2 q3 q4;generalize(2:Nat)^n=T2 at p2 h1 h2 h3 h4;generalize a*a=A at*;generalize b*b=B at*;generalize c*c=C at*;generalize d*d=D at*;constructor
 ·omega
 ·omega
theorem Bt{r s:U2}{n:Nat}(h1:Bd n r.1)(h2:Bd n r.2)(h3:Bd n s.1)(h4:Bd n s.2)(h:r≠s):Bd (2*n+4) (lnB r s).1 /\ Bd (2*n+4) (lnB r s).2.1 /\ Bd (2*n+4) (lnB r s).2.2:=by
 have hab:¬(2*(s.1-r.1)=0 /\ 2*(s.2-r.2)=0):=fun q=>h (b9 (by omega) (by omega))
 have L:=(rV (c:=s.1*s.1+s.2*s.2-r.1*r.1-r.2*r.2) hab).1
 have E:=rW L
 have la:=L.la
 have lb:=L.lb
 have lc:=L.lc
 rw[E.1] at la;rw[E.2.1] at lb;rw[E.2.2] at lc;have b1:=(rP h1 h2 h3 h4).1
 have b2:=(rP h2 h1 h4 h3).1
 have b3:=(rP h1 h2 h3 h4).2
 exact⟨bP la b1,bP lb b2,bP lc b3⟩
end MC
namespace MC
open MA L2
theorem kQ(a:Int):0<=a*a:=by
 rcases Int.le_total 0 a with h|h
 ·exact eo h h
 ·exact dP h h
noncomputable def nms(l:List Vx):List Int:=l.map fun v=>v.2.2
theorem Rot.nodup{α β:Type}(f:α ->β){l m:List α}(h:Rot l m)(hn:(l.map f).Nodup):(m.map f).Nodup:=by
 obtain⟨u,v,rfl,rfl⟩:=h
 rw[ay,aX] at hn⊢;exact⟨hn.2.1,hn.1,fun a ha b hb e=>hn.2.2 b hb a ha e.symm⟩
theorem t6{l:List Vx}(hP:Poly l)(m:V3)(num:Int)(hp:∃v∈l,0<ex m v.1)(hn:∃v∈l,ex m v.1<0)(nd:(nms l).Nodup)(nn:num∉nms l):(nms (ju m num l)).Nodup:=by
 obtain⟨C1,C2,D1,D2,k,c,d,z,cfg,h1,h2⟩:=qT hP m hp hn
 refine(h2 num).symm.nodup (fun v:Vx=>v.2.2) ?_;have N:=h1.nodup (fun v:Vx=>v.2.2) nd
 have nn':∀v∈(C1++[k])++(d::D1),v.2.2≠num:=fun v hv e=>nn (aC.mpr ⟨v,(h1.mem v).mp hv,e⟩)
 rw[ay,aX] at N;obtain⟨N1,N2,N3⟩:=N
 have zD:=cfg.zD
 have zz:∀v∈C1++[k],v.2.2≠z.2.2:=fun v hv=>N3 _ (aC.mpr ⟨v,hv,rfl⟩) _ (aC.mpr ⟨z,zD,rfl⟩)
 have nz:=nn' z (cfg.inD zD)
 have hk:k.2.2∉C1.map (fun v=>v.2.2) /\ (C1.map fun v=>v.2.2).Nodup:=by
  rw[ay,aX] at N1;refine⟨fun q=>N1.2.2 _ q k.2.2 (by simp) rfl,N1.1⟩
 have nC:∀v∈C1,v.2.2≠num:=fun v hv=>nn' v (cfg.inC (by simp[hv]))
 have nk:=nn' k (cfg.inC cfg.kC)
 have zC:∀v∈C1,v.2.2≠z.2.2:=fun v hv=>zz v (by simp[hv])
 have zk:=zz k cfg.kC
 have nC':num∉C1.map (fun v=>v.2.2):=fun q=>by
  obtain⟨v,hv,e⟩:=aC.mp q
  exact nC v hv e
 have zC':z.2.2∉C1.map (fun v=>v.2.2):=fun q=>by
  obtain⟨v,hv,e⟩:=aC.mp q
  exact zC v hv e
 have app:∀(A B:List Int),A.Nodup ->B.Nodup ->(∀b∈B,b∉A) ->(A++B).Nodup:=fun A B a b c=>aX.mpr ⟨a,b,fun x hx y hy e=>c y hy (e▸hx)⟩
 rw[ay];refine app _ _ hk.2 ?_ ?_
 ·unfold kr kU;split<;>split<;>simp<;>(try omega)
 ·intro b hb;unfold kr kU at hb;rw[ay,aT] at hb;rcases hb with hb|hb
  ·split at hb
   ·simp only[aM,bO,aw,az,or_false] at hb;rcases hb with rfl|rfl
    ·exact hk.1
    ·exact nC'
   ·simp only[aM,bO,aw,az,or_false] at hb;rw[hb];exact nC'
  ·split at hb
   ·simp only[aM,bO,aw,az,or_false] at hb;rw[hb];exact zC'
   ·simp at hb
structure LandOk(x y u v:Int)(rs:List U2)(r:U2)(js:List Nat)(l:List Vx):Prop where
 poly:Poly l
 lnb:LnB 300 l
 len:l.length<=4+js.length
 pts:∀p,jt l p↔jt (lH x y u v) p /\ ∀j∈js,∀s,rs[j]? =some s ->ex (lnB r s) p<=0
 lead:∀w∈l,∀h∈l.head?,¬Ahd w.1 h.1
 nm:∀w∈l,(∃b∈lH x y u v,w.2=b.2)∨∃j∈js,∃s,rs[j]? =some s /\ w.2=(lnB r s,(j:Int))
 nd:(nms l).Nodup
theorem xA{x y u v:Int}(rs:List U2)(r:U2)(h1:x<u)(h2:y<v)(b:Bd 300 x /\ Bd 300 y /\ Bd 300 u /\ Bd 300 v):LandOk x y u v rs r [] (lH x y u v) where
 poly:=tR h1 h2
 lnb:=by
  intro w hw;simp only[lH,aw,az,or_false] at hw;have l0:Bd 300 0:=Bd.mono (m:=10) (Bd.of_le 0 (by decide) (by decide) (by decide)) (by decide)
  have l1:Bd 300 1:=Bd.mono (m:=10) (Bd.of_le 1 (by decide) (by decide) (by decide)) (by decide)
  have l2:Bd 300 (-1):=Bd.mono (m:=10) (Bd.of_le 1 (by decide) (by decide) (by decide)) (by decide)
  obtain⟨b1,b2,b3,b4⟩:=b
  rcases hw with rfl|rfl|rfl|rfl
  ·exact⟨l0,l2,b2.neg⟩
  ·exact⟨l1,l0,b3⟩
  ·exact⟨l0,l1,b4⟩
  ·exact⟨l2,l0,b1.neg⟩
 len:=ax 4
 pts:=fun p=>⟨fun q=>⟨q,fun j hj=>absurd hj az⟩,fun q=>q.1⟩
 lead:=by
  intro w hw h hh;simp only[lH,List.head?_cons,Option.mem_def,ba.injEq] at hh;subst hh;simp only[lH,aw,az,or_false] at hw;unfold Ahd;rcases hw with rfl|rfl|rfl|rfl<;>dsimp only<;>omega
 nm:=fun w hw=> .inl ⟨w,hw,rfl⟩
 nd:=by
  show([-1,-2,-3,-4]:List Int).Nodup
  decide
theorem vE{x y u v:Int}{rs:List U2}{r s:U2}{js:List Nat}{l:List Vx}(h:LandOk x y u v rs r js l){j:Nat}(hj:rs[j]? =some s)(q:∀w∈l,ex (lnB r s) w.1<=0):LandOk x y u v rs r (js++[j]) l where
 poly:=h.poly
 lnb:=h.lnb
 len:=by
  have:=h.len
  rw[aq];omega
 pts:=fun p=>by
  constructor
  ·intro i;have i2:=(same_iff h.poly q p).mp i
   refine⟨((h.pts p).mp i).1,fun j' hj' s' hs'=> ?_⟩;rcases aT.mp hj' with z|z
   ·exact((h.pts p).mp i).2 j' z s' hs'
   ·rw[bA] at z;subst z;rw[hj] at hs';cases hs';exact i2.2
  ·rintro⟨a,b⟩;exact(h.pts p).mpr ⟨a,fun j' hj'=>b j' (bK _ hj')⟩
 lead:=h.lead
 nm:=fun w hw=>by
  rcases h.nm w hw with z|⟨j',hj',z⟩
  ·exact .inl z
  ·exact .inr ⟨j',bK _ hj',z⟩
 nd:=h.nd
theorem xw{x y u v:Int}{rs:List U2}{r s:U2}{js:List Nat}{l l':List Vx}(h:LandOk x y u v rs r js l){j:Nat}(hj:rs[j]? =some s)(hn:j∉js)(bm:Bd 300 (lnB r s).1 /\ Bd 300 (lnB r s).2.1 /\ Bd 300 (lnB r s).2.2)
  (q1:∃w∈l,0<ex (lnB r s) w.1) (q2:∃w∈l,ex (lnB r s) w.1<0) (rt:Rot (ju (lnB r s) (j:Int) l) l') (ld:∀w∈ju (lnB r s) (j:Int) l,∀h∈l'.head?,¬Ahd w.1 h.1):LandOk x y u v rs r (js++[j]) l' where
 poly:=rt.poly (md h.poly _ _ q1 q2)
 lnb:=(sM h.lnb bm).rot rt
 len:=by
  have:=h.len
  have c:=v6 h.poly (lnB r s) (j:Int) q1 q2
  rw[rt.len,aq];show _<=4+(js.length+1)
  omega
 pts:=fun p=>by
  rw[sk h.poly q1 q2 rt p,h.pts p];constructor
  ·rintro⟨⟨a,b⟩,c⟩;refine⟨a,fun j' hj' s' hs'=> ?_⟩;rcases aT.mp hj' with z|z
   ·exact b j' z s' hs'
   ·rw[bA] at z;subst z;rw[hj] at hs';cases hs';exact c
  ·rintro⟨a,b⟩;exact⟨⟨a,fun j' hj'=>b j' (bK _ hj')⟩,b j (by simp) s hj⟩
 lead:=fun w hw=>ld w ((rt.mem w).mp hw)
 nm:=fun w hw=>by
  rcases oC ((rt.mem w).mp hw) with z|⟨w',hw',z⟩
  ·exact .inr ⟨j,by simp,s,hj,z⟩
  ·rw[z];rcases h.nm w' hw' with z|⟨j',hj',z⟩
   ·exact .inl z
   ·exact .inr ⟨j',bK _ hj',z⟩
 nd:=by
  refine rt.nodup (fun v:Vx=>v.2.2) (t6 h.poly _ _ q1 q2 h.nd ?_);intro hm;obtain⟨w,hw,e⟩:=aC.mp hm
  rcases h.nm w hw with⟨b,hb,z⟩|⟨j',hj',s',hs',z⟩
  ·rw[z] at e;simp only[lH,aw,az,or_false] at hb;rcases hb with rfl|rfl|rfl|rfl<;>dsimp only at e<;>omega
  ·rw[z] at e;dsimp only at e;have:j'=j:=by omega
   subst this;exact hn hj'
theorem xv{x y u v:Int}{rs:List U2}{r:U2}{js:List Nat}{l:List Vx}(h:LandOk x y u v rs r js l)(h1:x<u)(h2:y<v)(hr:x<=r.1 /\ r.1<=u /\ y<=r.2 /\ r.2<=v)(nd:∀j∈js,rs[j]? ≠some r):jt l (r.1,r.2,1):=by
 refine(h.pts _).mpr ⟨(oR h1 h2 _).mpr (by dsimp only;omega),fun j hj s hs=> ?_⟩;have ne:r≠s:=fun z=>nd j hj (by rw[hs,z])
 refine(jR ne (show(0:Int)<1 by decide)).1.mpr ?_;unfold sq2;dsimp only;have e:(r.1-r.1*1)^2+(r.2-r.2*1)^2=0:=by grind
 rw[e];have p1:0<=(r.1-s.1*1)^2:=by rw[fv,fv,Int.pow_zero,ij];exact kQ _
 have p2:0<=(r.2-s.2*1)^2:=by rw[fv,fv,Int.pow_zero,ij];exact kQ _
 omega
end MC
namespace MC
open MA L2
theorem vc{r s:U2}(ne:r≠s):ex (lnB r s) (r.1,r.2,1)<0:=by
 refine(jR ne (show(0:Int)<1 by decide)).2.1.mpr ?_;unfold sq2;dsimp only;have e:(r.1-r.1*1)^2+(r.2-r.2*1)^2=0:=by grind
 rw[e];have e1:(r.1-s.1*1)^2=(r.1-s.1)*(r.1-s.1):=by grind
 have e2:(r.2-s.2*1)^2=(r.2-s.2)*(r.2-s.2):=by grind
 rw[e1,e2];have p1:=kQ (r.1-s.1)
 have p2:=kQ (r.2-s.2)
 refine Classical.byContradiction fun z=>ne ?_
 have z1:(r.1-s.1)*(r.1-s.1)=0:=by omega
 have z2:(r.2-s.2)*(r.2-s.2)=0:=by omega
 rcases bp.mp z1 with a|a<;>rcases bp.mp z2 with b|b<;>exact b9 (by omega) (by omega)
noncomputable def jo(n i:Nat):List Nat:=(bH n).filter fun j=>decide (j≠i)
theorem qH(n i:Nat):jo (n+1) i=if n≠i then jo n i++[n] else jo n i:=by
 unfold jo;rw[List.range_succ,List.filter_append]
 by_cases h:n=i
 ·subst h;simp
 ·simp[h]
theorem mem_othersL{n i j:Nat}:j∈jo n i↔j<n /\ j≠i:=by
 unfold jo;simp
theorem pP(n i:Nat):(jo n i).Nodup:=fP.filter _
theorem kO(n i:Nat):(jo n i).length<=n:=by
 unfold jo;exact cv (List.length_filter_le _ _) (by rw[cK];exact ax _)
end MC
namespace MC
open MA L2
theorem zl{l:List Vx}(hP:Poly l){i j:Nat}{a b:Vx}(hi:l[i]? =some a)(hj:l[j]? =some b)(h:i≠j):a.1≠b.1:=fun e=>by
 have n:=hP.nd
 have h1:(l.map (·.1))[i]? =some a.1:=by rw[au,hi];rfl
 have h2:(l.map (·.1))[j]? =some b.1:=by rw[au,hj];rfl
 have a1:=aa.mp h1
 have a2:=aa.mp h2
 exact h ((b7 (h₀:=a1.1) (h₁:=a2.1) n).mp (a1.2.trans (e.trans a2.2.symm)))
end MC
namespace MC
open MA L2
theorem rL{l:List Vx}{v:Vx}(hv:v∈l):∃w∈l,(v,w)∈edges l:=by
 obtain⟨i,hi,e⟩:=eZ.mp hv
 have h2:i<(rot l).length:=by rw[rot_length];exact hi
 refine⟨(rot l)[i],(j8 _ _).mp (cI h2),?_⟩;have hz:i<(l.zip (rot l)).length:=by rw[fi];omega
 have:=cI hz
 rw[gY,e] at this;exact this
theorem zh{l:List Vx}{v:Vx}(hv:v∈l):∃u∈l,(u,v)∈edges l:=by
 obtain⟨i,hi,e⟩:=eZ.mp ((j8 l v).mpr hv)
 have h2:i<l.length:=by rw[<-rot_length l];exact hi
 refine⟨l[i],cI h2,?_⟩;have hz:i<(l.zip (rot l)).length:=by rw[fi];omega
 have:=cI hz
 rw[gY,e] at this;exact this
theorem yi:∀l:List Vx,∃N:Int,0<=N /\ ∀c∈l,c.1.2.2<=N
 |[]=>⟨0,by decide,fun _ h=>nomatch h⟩
 |v::r=>by
  obtain⟨N,h1,h2⟩:=yi r
  refine⟨N+v.1.2.2.natAbs,by omega,fun c hc=> ?_⟩;rcases aw.mp hc with e|hc
  ·rw[e];omega
  ·have:=h2 c hc;omega
theorem nB{l:List Vx}(hP:Poly l){v:Vx}(hv:v∈l):jt l v.1:=Hull.inside hP (.self (aC.mpr ⟨v,hv,rfl⟩))
theorem wF{l:List Vx}(hP:Poly l)(a b:V3):∃c∈l,c.1≠a /\ c.1≠b:=by
 have h3:=hP.three
 have nd:=hP.nd
 match l,h3,nd with
 |x::y::z::r,_,nd=>
  simp only[aM,bf,aw,not_or] at nd
  by_cases h1:x.1=a∨x.1=b
  ·by_cases h2:y.1=a∨y.1=b
   ·refine⟨z,by simp,?_,?_⟩
    ·intro q;have n1:=nd.1.2.1
     have n2:=nd.2.1.1
     have n3:=nd.1.1
     rcases h1 with h1|h1<;>rcases h2 with h2|h2
     ·exact n3 (h1.trans h2.symm)
     ·exact n1 (h1.trans q.symm)
     ·exact n2 (h2.trans q.symm)
     ·exact n3 (h1.trans h2.symm)
    ·intro q;have n1:=nd.1.2.1
     have n2:=nd.2.1.1
     have n3:=nd.1.1
     rcases h1 with h1|h1<;>rcases h2 with h2|h2
     ·exact n3 (h1.trans h2.symm)
     ·exact n2 (h2.trans q.symm)
     ·exact n1 (h1.trans q.symm)
     ·exact n3 (h1.trans h2.symm)
   ·exact⟨y,by simp,fun q=>h2 (.inl q),fun q=>h2 (.inr q)⟩
  ·exact⟨x,by simp,fun q=>h1 (.inl q),fun q=>h1 (.inr q)⟩
theorem xo{c v:V3}{D t:Int}(hD:0<D)(hc:0<c.2.2)(hv:0<v.2.2)(gc:aB (aB c.1 c.2.1) c.2.2=1)(gv:aB (aB v.1 v.2.1) v.2.2=1)
  (e1:D*c.1=t*v.1) (e2:D*c.2.1=t*v.2.1) (e3:D*c.2.2=t*v.2.2):c=v:=by
 have k1:c.1*v.2.2=v.1*c.2.2:=fC (eJ hD) (by
  have:D*(c.1*v.2.2)=(D*c.1)*v.2.2:=by grind
  rw[this,e1];have:D*(v.1*c.2.2)=v.1*(D*c.2.2):=by grind
  rw[this,e3]
  grind)
 have k2:c.2.1*v.2.2=v.2.1*c.2.2:=fC (eJ hD) (by
  have:D*(c.2.1*v.2.2)=(D*c.2.1)*v.2.2:=by grind
  rw[this,e2];have:D*(v.2.1*c.2.2)=v.2.1*(D*c.2.2):=by grind
  rw[this,e3]
  grind)
 refine Ahd.total hc hv gc gv (fun q=> ?_) fun q=> ?_
 ·unfold Ahd at q;omega
 ·unfold Ahd at q;omega
noncomputable abbrev yN(l l':List Vx):Prop:=∀p:V3,0<p.2.2 ->(jt l p↔jt l' p)
theorem lp{l l':List Vx}(hP:Poly l)(hP':Poly l')(h:yN l l'){v:Vx}(hv:v∈l):∃v'∈l',v'.1=v.1:=by
 obtain⟨u,hu,eu⟩:=zh hv
 obtain⟨w,hw,ew⟩:=rL hv
 have E1:=hP.edge _ eu
 have E2:=hP.edge _ ew
 dsimp only at E1 E2;have wu:w.1≠u.1:=fun q=>by
  obtain⟨c,hc,n1,n2⟩:=wF hP u.1 v.1
  have a1:=(E1.left c hc).resolve_left n1|>.resolve_left n2
  have a2:=(E2.left c hc).resolve_left n2|>.resolve_left (q▸n1)
  rw[q,vU] at a2;omega
 have D0:=(E1.left w hw).resolve_left wu|>.resolve_left (Ne.symm E2.ne)
 have vin:jt l' v.1:=(h _ (hP.pos v hv)).mp (nB hP hv)
 have hull:=p8 hP' vin
 have gn:∀c∈l',0<=dt u.1 v.1 c.1 /\ 0<=dt v.1 w.1 c.1:=fun c hc=>by
  have q:=(h _ (hP'.pos c hc)).mpr (nB hP' hc)
  exact⟨q _ eu,q _ ew⟩
 obtain⟨N,N0,hN⟩:=yi l'
 have gd:∀p:V3,dot (N*((yI u.1 v.1).1+(yI v.1 w.1).1),N*((yI u.1 v.1).2.1+(yI v.1 w.1).2.1),N*((yI u.1 v.1).2.2+(yI v.1 w.1).2.2)-1) p=N*(dt u.1 v.1 p+dt v.1 w.1 p)-p.2.2:=fun p=>by
  rw[tJ,tJ];unfold dot
  grind
 have ex0:∃c∈l',dt u.1 v.1 c.1+dt v.1 w.1 c.1=0:=by
  refine Classical.byContradiction fun z=> ?_
  have q:=hull _ (fun x hx=>by
   obtain⟨c,hc,rfl⟩:=aC.mp hx
   rw[gd];have a:=gn c hc
   have b:=hN c hc
   have d:1<=dt u.1 v.1 c.1+dt v.1 w.1 c.1:=by
    have:¬(dt u.1 v.1 c.1+dt v.1 w.1 c.1=0):=fun y=>z ⟨c,hc,y⟩
    omega
   have m:=Int.mul_le_mul_of_nonneg_left d N0
   rw[df] at m;omega)
  rw[gd,l8,nX] at q;have:=hP.pos v hv
  simp at q;omega
 obtain⟨c,hc,e0⟩:=ex0
 obtain⟨a1,a2⟩:=gn c hc
 have z1:dt u.1 v.1 c.1=0:=by omega
 have z2:dt v.1 w.1 c.1=0:=by omega
 refine⟨c,hc,?_⟩;have pl:∀g:V3,dt u.1 v.1 w.1*dot g c.1=dt u.1 c.1 w.1*dot g v.1:=fun g=>by
  have q:=nI g u.1 v.1 w.1 c.1
  have r1:dt c.1 v.1 w.1=dt v.1 w.1 c.1:=(oK c.1 v.1 w.1).symm
  rw[r1,z1,z2] at q
  simpa using q
 have p1:=pl (1,0,0)
 have p2:=pl (0,1,0)
 have p3:=pl (0,0,1)
 simp only[dot,ij,eG,bR,gg] at p1 p2 p3;exact xo D0 (hP'.pos c hc) (hP.pos v hv) (hP'.low c hc) (hP.low v hv) p1 p2 p3
noncomputable def pes(l:List Vx):List (V3×V3):=(edges l).map fun e=>(e.1.1,e.2.1)
theorem zq{l l':List Vx}(hP:Poly l)(hP':Poly l')(h:yN l l'):∀e∈pes l,e∈pes l':=by
 intro e he;obtain⟨⟨v,w⟩,hvw,rfl⟩:=aC.mp he
 dsimp only;have hv:v∈l:=(bZ hvw).1
 have hw:w∈l:=(j8 _ _).mp (bZ hvw).2
 obtain⟨v',hv',ev⟩:=lp hP hP' h hv
 obtain⟨w3,hw3,e3⟩:=lp hP hP' h hw
 obtain⟨w',hw',ew⟩:=rL hv'
 obtain⟨w2,hw2,e2⟩:=lp hP' hP (fun p hp=>(h p hp).symm) hw'
 have E:=hP.edge _ hvw
 have E':=hP'.edge _ ew
 dsimp only at E E';have key:w'.1=w.1:=by
  rcases E.left w2 hw2 with q|q|q
  ·exact absurd (ev.trans (q.symm.trans e2)) E'.ne
  ·rw[<-e2,q]
  ·rcases E'.left w3 hw3 with q'|q'|q'
   ·exact absurd (ev.symm.trans (q'.symm.trans e3)) E.ne
   ·rw[<-q',e3]
   ·rw[e2] at q;rw[e3,ev] at q';have:dt v.1 w'.1 w.1= -dt v.1 w.1 w'.1:=by unfold dt;grind
    omega
 exact aC.mpr ⟨(v',w'),ew,by dsimp only;rw[ev,key]⟩
end MC
namespace MC
open MA L2
noncomputable def tw(l:List Vx):Rat:=((Am ((l.map (·.1)).zip (rot (l.map (·.1))))).1:Rat) /((Am ((l.map (·.1)).zip (rot (l.map (·.1))))).2:Rat)
theorem yp{x:Int}(h:x≠0):(x:Rat)≠0:=fun q=>h (by exact_mod_cast q)
theorem yR{l:List Vx}(hP:Poly l){S:Int}(hS:0<S)(hd:∀v∈l,v.1.2.2∣S):tw l*((S*S:Int):Rat)=((cyc (l.map fun v=>sc S v.1):Int):Rat):=by
 have ok:∀z∈l.map (·.1),0<z.2.2 /\ z.1*S=(sc S z).1*z.2.2 /\ z.2.1*S=(sc S z).2*z.2.2:=fun z hz=>by
  obtain⟨v,hv,rfl⟩:=aC.mp hz
  exact za (hd v hv) (hP.pos v hv)
 have q:=BS S (sc S) ((l.map (·.1)).zip (rot (l.map (·.1)))) (fun z hz=>⟨ok _ (bZ hz).1,ok _ ((j8 _ _).mp (bZ hz).2)⟩) (0,1) 0 (by decide) (by simp)
 have e:((l.map (·.1)).zip (rot (l.map (·.1)))).map (fun z=>(sc S z.1,sc S z.2))=((l.map fun v=>sc S v.1)).zip (rot (l.map fun v=>sc S v.1)):=by
  have e2:(l.map fun v=>sc S v.1)=(l.map (·.1)).map (sc S):=by rw[dj];rfl
  rw[e2];generalize l.map (·.1)=cs;rw[uZ,List.zip_map];rfl
 rw[e,zg,bR] at q;obtain⟨q1,q2⟩:=q
 unfold tw Am;generalize List.foldl mL (0,1) _=A at q1 q2;have n:=yp q1
 have k:((A.1*(S*S):Int):Rat)=((A.2*cyc (l.map fun v=>sc S v.1):Int):Rat):=by rw[q2]
 rw[Rat.intCast_mul,Rat.intCast_mul] at k
 grind
theorem si(l:List Vx)(h:∀v∈l,0<v.1.2.2):0<kg (l.map (·.1)) /\ ∀v∈l,v.1.2.2∣kg (l.map (·.1)):=
 ⟨qD fun v hv=>by obtain⟨c,hc,rfl⟩:=aC.mp hv;exact h c hc,fun v hv=>qE (aC.mpr ⟨v,hv,rfl⟩)⟩
theorem B5{S:Int}(h:0<S):((S*S:Int):Rat)≠0:=yp (eJ (bL h h))
noncomputable def Cv(X:V3 ->Prop):Prop:=∀l,Poly l -> ¬∀p:V3,0<p.2.2 ->jt l p ->X p
noncomputable def Ar(X:V3 ->Prop)(q:Rat):Prop:=(∃l,Poly l /\ (∀p:V3,0<p.2.2 ->(jt l p↔X p)) /\ tw l=q)∨(Cv X /\ q=0)
theorem Ar.congr{X Y:V3 ->Prop}{q:Rat}(a:Ar X q)(h:∀p:V3,0<p.2.2 ->(X p↔Y p)):Ar Y q:=by
 rcases a with⟨l,h1,h2,e⟩|⟨h1,e⟩
 ·exact .inl ⟨l,h1,fun p hp=>(h2 p hp).trans (h p hp),e⟩
 ·exact .inr ⟨fun l hl z=>h1 l hl fun p hp hi=>(h p hp).mpr (z p hp hi),e⟩
theorem z7{l:List Vx}(hP:Poly l){m:V3}(hm:∃d,ex m d≠0)(h:∀v∈l,ex m v.1=0):False:=by
 obtain⟨d,hd⟩:=hm
 have h3:=hP.three
 match l,h3,hP,h with
 |a::b::c::r,_,hP,h=>
  have e:(a,b)∈edges (a::b::c::r):=kS (p:=[])
  have E:=hP.edge _ e
  have nd:=hP.nd
  simp only[aM,bf,aw,not_or] at nd;have L:=(E.left c (by simp)).resolve_left (fun q=>nd.1.2.1 q.symm)|>.resolve_left fun q=>nd.2.1.1 q.symm
  have pl:=mC m a.1 b.1 c.1 d
  rw[h a (by simp),h b (by simp),h c (by simp)] at pl;dsimp only at L;rw[ci,ci,ci,gg,gg] at pl;rcases bp.mp pl with z|z
  ·omega
  ·exact hd z
theorem rK(m p:V3):ex (ng m) p= -ex m p:=by unfold ex ng;grind
theorem Ar.split{X:V3 ->Prop}{q:Rat}(a:Ar X q){m:V3}(hm:∃d,ex m d≠0):∃q1 q2,Ar (fun p=>X p /\ ex m p<=0) q1 /\ Ar (fun p=>X p /\ 0<=ex m p) q2 /\ q1+q2=q:=by
 rcases a with⟨l,hP,h2,e⟩|⟨h1,e⟩
 ·have gen:∀m:V3,(∃d,ex m d≠0) ->(∀v∈l,ex m v.1<=0) ->Cv fun p=>X p /\ 0<=ex m p:=fun m hm hp l2 hl2 z=>by
   refine z7 hl2 hm fun v hv=> ?_
   obtain⟨x1,x2⟩:=z v.1 (hl2.pos v hv) (nB hl2 hv)
   have:=((same_iff hP hp v.1).mp ((h2 _ (hl2.pos v hv)).mpr x1)).2
   omega
  by_cases hp:∃v∈l,0<ex m v.1
  ·by_cases hn:∃v∈l,ex m v.1<0
   ·have hp':∃v∈l,0<ex (ng m) v.1:=by obtain⟨v,hv,q⟩:=hn;exact⟨v,hv,by rw[rK];omega⟩
    have hn':∃v∈l,ex (ng m) v.1<0:=by obtain⟨v,hv,q⟩:=hp;exact⟨v,hv,by rw[rK];omega⟩
    have P1:=md hP m 0 hp hn
    have P2:=md hP (ng m) 0 hp' hn'
    refine⟨_,_,.inl ⟨_,P1,fun p hp0=>(sk hP hp hn (.refl _) p).trans (and_congr (h2 p hp0) Iff.rfl),rfl⟩,.inl ⟨_,P2,fun p hp0=>(sk hP hp' hn' (.refl _) p).trans (and_congr (h2 p hp0) (by rw[rK];omega)),rfl⟩,?_⟩;obtain⟨a1,a2⟩:=si l hP.pos
    obtain⟨b1,b2⟩:=si _ P1.pos
    obtain⟨c1,c2⟩:=si _ P2.pos
    have hS:=bL (bL a1 b1) c1
    have d0:∀v∈l,v.1.2.2∣kg (l.map (·.1))*kg ((ju m 0 l).map (·.1))*kg ((ju (ng m) 0 l).map (·.1)):=fun v hv=>dq (a2 v hv) ⟨kg ((ju m 0 l).map (·.1))*kg ((ju (ng m) 0 l).map (·.1)),by rw[gH]⟩
    have d1:∀v∈ju m 0 l,v.1.2.2∣kg (l.map (·.1))*kg ((ju m 0 l).map (·.1))*kg ((ju (ng m) 0 l).map (·.1)):=fun v hv=>dq (b2 v hv) ⟨kg (l.map (·.1))*kg ((ju (ng m) 0 l).map (·.1)),by grind⟩
    have d2:∀v∈ju (ng m) 0 l,v.1.2.2∣kg (l.map (·.1))*kg ((ju m 0 l).map (·.1))*kg ((ju (ng m) 0 l).map (·.1)):=fun v hv=>dq (c2 v hv) ⟨kg (l.map (·.1))*kg ((ju m 0 l).map (·.1)),by grind⟩
    have s:=v7 hP m 0 0 hp hn hS d0 d1
    have e0:=yR hP hS d0
    have e1:=yR P1 hS d1
    have e2:=yR P2 hS d2
    rw[<-s,Rat.intCast_add, <-e1, <-e2] at e0;have n:=B5 hS
    rw[<-e]
    grind
   ·have hn1:∀v∈l,ex (ng m) v.1<=0:=fun v hv=>by
     rw[rK];have:¬ex m v.1<0:=fun y=>hn ⟨v,hv,y⟩
     omega
    refine⟨0,q,.inr ⟨?_,rfl⟩,.inl ⟨l,hP,fun p hp0=> ?_,e⟩,by grind⟩
    ·have g:=gen (ng m) (by obtain⟨d,hd⟩:=hm;exact⟨d,by rw[rK];omega⟩) hn1
     intro l2 hl2 z;exact g l2 hl2 fun p hp0 hi=>⟨(z p hp0 hi).1,by rw[rK];have:=(z p hp0 hi).2;omega⟩
    ·refine(same_iff hP hn1 p).trans (and_congr (h2 p hp0) (by rw[rK];omega))
  ·have hp1:∀v∈l,ex m v.1<=0:=fun v hv=>Int.not_lt.mp fun y=>hp ⟨v,hv,y⟩
   exact⟨q,0,.inl ⟨l,hP,fun p hp0=>(same_iff hP hp1 p).trans (and_congr (h2 p hp0) Iff.rfl),e⟩,.inr ⟨gen m hm hp1,rfl⟩,by grind⟩
 ·refine⟨0,0,.inr ⟨fun l hl z=>h1 l hl fun p hp hi=>(z p hp hi).1,rfl⟩,.inr ⟨fun l hl z=>h1 l hl fun p hp hi=>(z p hp hi).1,rfl⟩,by rw[e];grind⟩
theorem pw2(a:Int):a^2=a*a:=by grind
theorem nn2(a:Int):0<=a*a:=by
 rcases Int.le_total 0 a with h|h
 ·exact eo h h
 ·have:=eo (show 0<= -a by omega) (show 0<= -a by omega)
  rwa [Int.neg_mul_neg] at this
theorem Br{r s:U2}(h:r≠s):∃d,ex (lnB r s) d≠0:=by
 refine⟨(r.1,r.2,1),fun q=> ?_⟩;have z:=((jR h (p:=(r.1,r.2,1)) fH).2.2).mp q
 unfold sq2 at z;dsimp only at z;have e1:(r.1-r.1*1)^2+(r.2-r.2*1)^2=(0:Int):=by grind
 rw[e1] at z;have a:r.1-s.1*1=0 /\ r.2-s.2*1=0:=by
  generalize r.1-s.1*1=a at z;generalize r.2-s.2*1=b at z;have h1:0<=a^2:=by rw[pw2];exact nn2 a
  have h2:0<=b^2:=by rw[pw2];exact nn2 b
  have z1:a^2=0:=by omega
  have z2:b^2=0:=by omega
  rw[pw2] at z1 z2;exact⟨(bp.mp z1).elim id id,(bp.mp z2).elim id id⟩
 exact h (b9 (by omega) (by omega))
theorem Ar.by{r:Nat ->U2}{X:V3 ->Prop}{q:Rat}(a:Ar X q)(n:Nat):∀k,(∀j,j<k ->r n≠r j) -> ∃g,Ar (fun p=>X p /\ ∀j,j<k ->sq2 p (r n)<=sq2 p (r j)) g
 |0,_=>⟨q,a.congr fun p _=>⟨fun h=>⟨h,fun _ z=>absurd z (ig _)⟩,fun h=>h.1⟩⟩
 |k+1,h=>by
  obtain⟨g,hg⟩:=Ar.by a n k fun j hj=>h j (by omega)
  obtain⟨g1,_,h1,_,_⟩:=hg.split (Br (h k (by omega)))
  refine⟨g1,h1.congr fun p hp=> ?_⟩;rw[(jR (h k (by omega)) hp).1];constructor
  ·rintro⟨⟨x,y⟩,z⟩;refine⟨x,fun j hj=> ?_⟩;rcases ft (Nat.le_of_lt_succ hj) with q|q
   ·exact y j q
   ·subst q;exact z
  ·rintro⟨x,y⟩;exact⟨⟨x,fun j hj=>y j (by omega)⟩,y k (by omega)⟩
end MC
namespace MC
open MA L2
theorem oX{a b:Int}(h:a*a+b*b=0):a=0 /\ b=0:=by
 have h1:=nn2 a
 have h2:=nn2 b
 have z:∀{c:Int},c*c=0 ->c=0:=fun {c} e=>(bp.mp e).elim id id
 exact⟨z (by omega),z (by omega)⟩
theorem sA{X Y W p1 p2 r1 r2:Int}(hw:W≠0)(h:(X-p1*W)^2+(Y-p2*W)^2=(X-r1*W)^2+(Y-r2*W)^2):2*((r1-p1)*(X-p1*W)+(r2-p2)*(Y-p2*W))=((r1-p1)*(r1-p1)+(r2-p2)*(r2-p2))*W:=by
 apply bC hw;have e:2*((r1-p1)*(X-p1*W)+(r2-p2)*(Y-p2*W))*W-((r1-p1)*(r1-p1)+(r2-p2)*(r2-p2))*W*W=((X-p1*W)^2+(Y-p2*W)^2)-((X-r1*W)^2+(Y-r2*W)^2):=by
  clear h hw
  grind
 omega
theorem wB{a1 a2 W d1 d2 e1 e2 t1 t2:Int}(hd:¬(d1=0 /\ d2=0))(he:¬(e1=0 /\ e2=0))(ht:¬(t1=0 /\ t2=0))(o1:d1*t1+d2*t2=0)(o2:e1*t1+e2*t2=0)(A:2*(d1*a1+d2*a2)=(d1*d1+d2*d2)*W)(B:2*(e1*a1+e2*a2)=(e1*e1+e2*e2)*W)(hW:W≠0):d1=e1 /\ d2=e2:=by
 have cr:d1*e2-d2*e1=0:=by
  have c1:(d1*e2-d2*e1)*t1=0:=by
   have:(d1*e2-d2*e1)*t1=e2*(d1*t1+d2*t2)-d2*(e1*t1+e2*t2):=by clear o1 o2 A B hd he ht hW;grind
   rw[this,o1,o2];omega
  have c2:(d1*e2-d2*e1)*t2=0:=by
   have:(d1*e2-d2*e1)*t2=d1*(e1*t1+e2*t2)-e1*(d1*t1+d2*t2):=by clear o1 o2 A B hd he ht hW c1;grind
   rw[this,o1,o2];omega
  rcases bp.mp c1 with q|q
  ·exact q
  ·rcases bp.mp c2 with q2|q2
   ·exact q2
   ·exact(ht ⟨q,q2⟩).elim
 have f1:(e1*e1+e2*e2)*d1=(d1*d1+d2*d2)*e1:=by
  apply bC hW;have:(e1*e1+e2*e2)*d1*W-(d1*d1+d2*d2)*e1*W=2*a2*(d1*e2-d2*e1):=by
   have k1:(e1*e1+e2*e2)*d1*W=2*(e1*a1+e2*a2)*d1:=by rw[B];clear o1 o2 A B hd he ht hW cr;grind
   have k2:(d1*d1+d2*d2)*e1*W=2*(d1*a1+d2*a2)*e1:=by rw[A];clear o1 o2 A B hd he ht hW cr k1;grind
   rw[k1,k2];clear o1 o2 A B hd he ht hW cr k1 k2
   grind
  rw[cr] at this;omega
 have f2:(e1*e1+e2*e2)*d2=(d1*d1+d2*d2)*e2:=by
  apply bC hW;have:(e1*e1+e2*e2)*d2*W-(d1*d1+d2*d2)*e2*W= -(2*a1)*(d1*e2-d2*e1):=by
   have k1:(e1*e1+e2*e2)*d2*W=2*(e1*a1+e2*a2)*d2:=by rw[B];clear o1 o2 A B hd he ht hW cr f1;grind
   have k2:(d1*d1+d2*d2)*e2*W=2*(d1*a1+d2*a2)*e2:=by rw[A];clear o1 o2 A B hd he ht hW cr k1 f1;grind
   rw[k1,k2];clear o1 o2 A B hd he ht hW cr k1 k2 f1
   grind
  rw[cr] at this;omega
 have g1:e1*e1+e2*e2=e1*d1+e2*d2:=by
  apply bC (a:=d1*d1+d2*d2) (fun q=>hd (oX q));have:(e1*e1+e2*e2)*(d1*d1+d2*d2)=((e1*e1+e2*e2)*d1)*d1+((e1*e1+e2*e2)*d2)*d2:=by clear o1 o2 A B hd he ht hW cr f1 f2;grind
  rw[this,f1,f2];clear o1 o2 A B hd he ht hW cr f1 f2 this
  grind
 have g2:d1*d1+d2*d2=e1*d1+e2*d2:=by
  apply bC (a:=e1*e1+e2*e2) (fun q=>he (oX q));have:(d1*d1+d2*d2)*(e1*e1+e2*e2)=((d1*d1+d2*d2)*e1)*e1+((d1*d1+d2*d2)*e2)*e2:=by clear o1 o2 A B hd he ht hW cr f1 f2 g1;grind
  rw[this, <-f1, <-f2];clear o1 o2 A B hd he ht hW cr f1 f2 this g1
  grind
 have:=oX (a:=d1-e1) (b:=d2-e2) (by
  have:(d1-e1)*(d1-e1)+(d2-e2)*(d2-e2)=(d1*d1+d2*d2)-2*(e1*d1+e2*d2)+(e1*e1+e2*e2):=by clear o1 o2 A B hd he ht hW cr f1 f2 g1 g2;grind
  omega)
 omega
theorem mirror{w z:V3}(hw:0<w.2.2)(hz:0<z.2.2){p r s:U2}(pr:p≠r)(ps:p≠s)(h1:sq2 w p=sq2 w r)(h2:sq2 w p=sq2 w s)(k1:sq2 z p=sq2 z r)(k2:sq2 z p=sq2 z s)
  (t:¬(w.1*z.2.2=z.1*w.2.2 /\ w.2.1*z.2.2=z.2.1*w.2.2)):r=s:=by
 unfold sq2 at h1 h2 k1 k2;have nw:=eJ hw
 have nz:=eJ hz
 have a1:=sA nw h1
 have a2:=sA nw h2
 have b1:=sA nz k1
 have b2:=sA nz k2
 have op:∀{d1 d2 D:Int},2*(d1*(w.1-p.1*w.2.2)+d2*(w.2.1-p.2*w.2.2))=D*w.2.2 ->2*(d1*(z.1-p.1*z.2.2)+d2*(z.2.1-p.2*z.2.2))=D*z.2.2 ->d1*(w.1*z.2.2-z.1*w.2.2)+d2*(w.2.1*z.2.2-z.2.1*w.2.2)=0:=fun {d1 d2 D} e1 e2=>by
  have:2*(d1*(w.1*z.2.2-z.1*w.2.2)+d2*(w.2.1*z.2.2-z.2.1*w.2.2))=(2*(d1*(w.1-p.1*w.2.2)+d2*(w.2.1-p.2*w.2.2)))*z.2.2-(2*(d1*(z.1-p.1*z.2.2)+d2*(z.2.1-p.2*z.2.2)))*w.2.2:=by
   clear a1 a2 b1 b2 h1 h2 k1 k2 t e1 e2 nw nz hw hz pr ps
   grind
  rw[e1,e2] at this;have c:D*w.2.2*z.2.2=D*z.2.2*w.2.2:=by rw[gH,f7 w.2.2, <-gH]
  omega
 have:=wB (fun q=>pr (b9 (by omega) (by omega))) (fun q=>ps (b9 (by omega) (by omega))) (fun q=>t ⟨by omega,by omega⟩) (op a1 b1) (op a2 b2) a1 a2 nw
 exact b9 (by omega) (by omega)
theorem ya{x y u v:Int}(h1:x<u)(h2:y<v){b:Vx}(hb:b∈lH x y u v):(∃d,ex b.2.1 d≠0) /\ ∀p,jt (lH x y u v) p ->ex b.2.1 p<=0:=by
 have hP:=tR h1 h2
 obtain⟨b2,hb2,he⟩:=rL hb
 have E:=hP.edge _ he
 obtain⟨c,hc,n1,n2⟩:=wF hP b.1 b2.1
 exact⟨⟨c.1,Int.ne_of_lt (E.back_of hc n1 n2)⟩,fun p hp=>((same_iff hP (fun v hv=>E.back_le hv) p).mp hp).2⟩
end MC
namespace MC
open MA L2
theorem AY{D E T X:Int}(hD:0<D)(hX:X<0)(e:D*E=T*X):(0<E↔T<0) /\ (E=0↔T=0) /\ (E<0↔0<T):=by
 have q:=lh (x:=E) (y:= -T) (s:=D) (t:= -X) hD (by omega) (by grind)
 omega
theorem qc{l:List Vx}(hP:Poly l){a b:Vx}(he:(a,b)∈edges l)(d:V3):(0<ex a.2.1 d↔dt a.1 b.1 d<0) /\ (ex a.2.1 d=0↔dt a.1 b.1 d=0) /\ (ex a.2.1 d<0↔0<dt a.1 b.1 d):=by
 have E:=hP.edge _ he
 dsimp only at E;obtain⟨c,hc,n1,n2⟩:=wF hP a.1 b.1
 have h1:=(E.left c hc).resolve_left n1|>.resolve_left n2
 have h2:=(E.back c hc).resolve_left n1|>.resolve_left n2
 have p:=mC a.2.1 a.1 b.1 c.1 d
 rw[E.on1,E.on2,ci,ci,bR,bR] at p;exact AY h1 h2 p
theorem l7{l:List Vx}{i:Nat}(hi:i<l.length):∃a b,l[i]? =some a /\ l[(i+1)%l.length]? =some b /\ (a,b)∈edges l:=by
 have hj:(i+1)%l.length<l.length:=iz _ (by omega)
 refine⟨l[i],l[(i+1)%l.length],ag hi,ag hj,?_⟩;have hr:(rot l)[i]? =some l[(i+1)%l.length]:=by
  unfold rot
  by_cases h:i+1<l.length
  ·rw[aN (by rw[aI];omega),cf];rw[ag (by omega)]
   congr 1
   have:(i+1)%l.length=1+i:=by rw[cX h];omega
   simp only[this]
  ·have e:i+1=l.length:=by omega
   rw[aH (by rw[aI];omega),aI];have z:(i+1)%l.length=0:=by rw[e,gi]
   have z2:i-(l.length-1)=0:=by omega
   rw[z2,aY (by omega),ag (by omega)];simp only[z]
 refine av (i:=i) ?_;unfold edges;rw[bG];exact⟨ag hi,hr⟩
noncomputable abbrev yO(l:List Vx):Prop:=∀w∈l,∀h∈l.head?,¬Ahd w.1 h.1
theorem oI{l l':List Vx}(hP:Poly l)(hP':Poly l')(h:yN l l')(d:yO l)(d':yO l'){a a':Vx}(ha:l[0]? =some a)(ha':l'[0]? =some a'):a.1=a'.1:=by
 have m:=av ha
 have m':=av ha'
 obtain⟨b,hb,e⟩:=lp hP hP' h m
 obtain⟨b',hb',e'⟩:=lp hP' hP (fun p hp=>(h p hp).symm) m'
 refine Ahd.total (hP.pos a m) (hP'.pos a' m') (hP.low a m) (hP'.low a' m') (fun q=> ?_) fun q=> ?_
 ·rw[<-e] at q;exact d' b hb a' (by rw[fV];exact ha') q
 ·rw[<-e'] at q;exact d b' hb' a (by rw[fV];exact ha) q
theorem mF{l:List Vx}(hP:Poly l){i j:Nat}{a b:Vx}(ha:l[i]? =some a)(hb:l[j]? =some b)(e:a.1=b.1):i=j:=Classical.byContradiction fun z=>zl hP ha hb z e
theorem step_same{l l':List Vx}(hP:Poly l)(hP':Poly l')(h:yN l l'){i:Nat}{a b a' b':Vx}(ha:l[i]? =some a)(hb:l[(i+1)%l.length]? =some b)(he:(a,b)∈edges l)(ha':l'[i]? =some a')(hb':l'[(i+1)%l'.length]? =some b')(he':(a',b')∈edges l')(e:a.1=a'.1):b.1=b'.1:=by
 have q:=zq hP hP' h (a.1,b.1) (aC.mpr ⟨(a,b),he,rfl⟩)
 obtain⟨⟨c,d⟩,hcd,e2⟩:=aC.mp q
 simp only[dI.injEq] at e2;obtain⟨i2,hi2⟩:=bg hcd
 have e3:=bG.mp hi2
 have ei:=mF hP' e3.1 ha' (e2.1.trans e)
 subst ei;have hi:=(aa.mp ha').1
 obtain⟨a2,b2,g1,g2,g3⟩:=l7 hi
 obtain⟨k,hk⟩:=bg g3
 have e4:=bG.mp hk
 rw[g1] at ha';cases ha';have ek:=mF hP' e4.1 g1 rfl
 subst ek;have:some b2=some d:=e4.2.symm.trans e3.2
 cases this;rw[g2] at hb';cases hb';exact e2.2.symm
theorem le_same{l l':List Vx}(hP:Poly l)(hP':Poly l')(h:yN l l')(d:yO l)(d':yO l'):∀(i:Nat) (a:Vx),l[i]? =some a -> ∃a':Vx,l'[i]? =some a' /\ a.1=a'.1
 |0,a,ha=>by
  have t:=hP'.three
  exact⟨l'[0],ag (by omega),oI hP hP' h d d' ha (ag (by omega))⟩
 |i+1,b,hb=>by
  have hi:=(aa.mp hb).1
  obtain⟨a,b2,g1,g2,g3⟩:=l7 (l:=l) (i:=i) (by omega)
  rw[cX hi] at g2;rw[hb] at g2;cases g2;obtain⟨a',ha',e⟩:=le_same hP hP' h d d' i a g1
  have hi':=(aa.mp ha').1
  obtain⟨a2,b',k1,k2,k3⟩:=l7 hi'
  rw[ha'] at k1;cases k1;have eb:=step_same hP hP' h g1 (by rw[cX hi];exact hb) g3 ha' k2 k3 e
  by_cases hl:i+1<l'.length
  ·rw[cX hl] at k2;exact⟨b',k2,eb⟩
  ·have:(i+1)%l'.length=0:=by rw[show i+1=l'.length by omega,gi]
   rw[this] at k2;have h0:l[0]? =some l[0]:=ag (by omega)
   have e0:=oI hP hP' h d d' h0 k2
   have:=mF hP h0 hb (e0.trans eb.symm)
   omega
theorem yB{l l':List Vx}(hP:Poly l)(hP':Poly l')(h:yN l l')(d:yO l)(d':yO l'):l.length<=l'.length:=by
 have t:=hP.three
 obtain⟨a',ha',_⟩:=le_same hP hP' h d d' (l.length-1) _ (ag (by omega))
 have:=(aa.mp ha').1
 omega
theorem qS{l l':List Vx}(hP:Poly l)(hP':Poly l')(h:yN l l')(d:yO l)(d':yO l'):l.map (·.1)=l'.map (·.1):=by
 have h1:=yB hP hP' h d d'
 have h2:=yB hP' hP (fun p hp=>(h p hp).symm) d' d
 apply d7;intro i;rw[au,au]
 by_cases hi:i<l.length
 ·have ha:l[i]? =some l[i]:=ag hi
  obtain⟨a',ha',e⟩:=le_same hP hP' h d d' i _ ha
  rw[ha,ha',cD,cD,e]
 ·rw[bF (by omega),bF (by omega)]
theorem vt{l l':List Vx}(hP:Poly l)(hP':Poly l')(e:l.map (·.1)=l'.map (·.1)){i:Nat}{v v':Vx}(hv:l[i]? =some v)(hv':l'[i]? =some v')(d:V3):(0<ex v.2.1 d↔0<ex v'.2.1 d) /\ (ex v.2.1 d=0↔ex v'.2.1 d=0) /\ (ex v.2.1 d<0↔ex v'.2.1 d<0):=by
 have hl:l.length=l'.length:=by have:=congrArg gA e;rwa [ah,ah] at this
 obtain⟨a,b,g1,g2,g3⟩:=l7 (aa.mp hv).1
 obtain⟨a',b',k1,k2,k3⟩:=l7 (aa.mp hv').1
 rw[hv] at g1;cases g1;rw[hv'] at k1;cases k1;have at':∀{j:Nat} {w w':Vx},l[j]? =some w ->l'[j]? =some w' ->w.1=w'.1:=fun {j w w'} h1 h2=>by
  have q:(l.map (·.1))[j]? =(l'.map (·.1))[j]? :=by rw[e]
  rw[au,au,h1,h2] at q;exact ba.inj q
 have ea:=at' hv hv'
 rw[<-hl] at k2;have eb:=at' g2 k2
 have s1:=qc hP g3 d
 have s2:=qc hP' k3 d
 rw[<-ea, <-eb] at s2;omega
theorem zP{r s t:U2}(rs:r≠s)(rt:r≠t)(h:∀d:V3,ex (lnB r s) d=0↔ex (lnB r t) d=0):s=t:=by
 have up:∀{q:U2},r≠q -> ∀k:Int,ex (lnB r q) (r.1+q.1+2*k*(q.2-r.2),r.2+q.2-2*k*(q.1-r.1),2)=0:=fun {q} n k=>by
  refine(jR n (show(0:Int)<2 by decide)).2.2.mpr ?_;unfold sq2;dsimp only
  grind
 have c:∀k:Int,sq2 (r.1+s.1+2*k*(s.2-r.2),r.2+s.2-2*k*(s.1-r.1),2) r=sq2 (r.1+s.1+2*k*(s.2-r.2),r.2+s.2-2*k*(s.1-r.1),2) t:=fun k=>(jR rt (show(0:Int)<2 by decide)).2.2.mp ((h _).mp (up rs k))
 have c':∀k:Int,sq2 (r.1+s.1+2*k*(s.2-r.2),r.2+s.2-2*k*(s.1-r.1),2) r=sq2 (r.1+s.1+2*k*(s.2-r.2),r.2+s.2-2*k*(s.1-r.1),2) s:=fun k=>(jR rs (show(0:Int)<2 by decide)).2.2.mp (up rs k)
 refine mirror (w:=(r.1+s.1+2*0*(s.2-r.2),r.2+s.2-2*0*(s.1-r.1),2)) (z:=(r.1+s.1+2*1*(s.2-r.2),r.2+s.2-2*1*(s.1-r.1),2)) (by dsimp only;decide) (by dsimp only;decide) rs rt (c' 0) (c 0) (c' 1) (c 1) fun q=> ?_
 dsimp only at q;exact rs (b9 (by omega) (by omega))
theorem wK{x y u v:Int}(h1:x<u)(h2:y<v){b:Vx}(hb:b∈lH x y u v):∃d:V3,0<ex b.2.1 d /\ ∀c∈lH x y u v,c.2≠b.2 ->ex c.2.1 d<0:=by
 simp only[lH,aw,az,or_false] at hb;rcases hb with rfl|rfl|rfl|rfl
 ·refine⟨(x+u,2*y-1,2),by simp only[ex];omega,fun c hc n=> ?_⟩;simp only[lH,aw,az,or_false] at hc;rcases hc with rfl|rfl|rfl|rfl<;>first|exact absurd rfl n|(simp only[ex];omega)
 ·refine⟨(2*u+1,y+v,2),by simp only[ex];omega,fun c hc n=> ?_⟩;simp only[lH,aw,az,or_false] at hc;rcases hc with rfl|rfl|rfl|rfl<;>first|exact absurd rfl n|(simp only[ex];omega)
 ·refine⟨(x+u,2*v+1,2),by simp only[ex];omega,fun c hc n=> ?_⟩;simp only[lH,aw,az,or_false] at hc;rcases hc with rfl|rfl|rfl|rfl<;>first|exact absurd rfl n|(simp only[ex];omega)
 ·refine⟨(2*x-1,y+v,2),by simp only[ex];omega,fun c hc n=> ?_⟩;simp only[lH,aw,az,or_false] at hc;rcases hc with rfl|rfl|rfl|rfl<;>first|exact absurd rfl n|(simp only[ex];omega)
theorem vD{x y u v:Int}{rs:List U2}{r:U2}{js js':List Nat}{l l':List Vx}(xu:x<u)(yv:y<v)(h:LandOk x y u v rs r js l)(h':LandOk x y u v rs r js' l')(hj:∀j,j∈js↔j∈js')(nd:rs.Nodup)(ne:∀j∈js,∀s,rs[j]? =some s ->r≠s)(ins:∀s∈rs,x<=s.1 /\ s.1<=u /\ y<=s.2 /\ s.2<=v):
  l.map (·.1)=l'.map (·.1) /\ l.map (·.2.2)=l'.map (·.2.2):=by
 have same:yN l l':=fun p _=>by
  rw[h.pts p,h'.pts p];refine and_congr Iff.rfl ⟨fun q j m=>q j ((hj j).mpr m),fun q j m=>q j ((hj j).mp m)⟩
 have ec:=qS h.poly h'.poly same h.lead h'.lead
 refine⟨ec,?_⟩;have hl:l.length=l'.length:=by have:=congrArg gA ec;rwa [ah,ah] at this
 apply d7;intro i;rw[au,au]
 by_cases hi:i<l.length
 ·have hv:l[i]? =some l[i]:=ag hi
  have hv':l'[i]? =some l'[i]:=ag (by omega)
  generalize l[i]=w at hv;generalize l'[i]=w' at hv';rw[hv,hv',cD,cD];have ln:=vt h.poly h'.poly ec hv hv'
  have cross:∀{b:Vx} {j:Nat} {s:U2} {m m':V3},b∈lH x y u v ->s∈rs ->r≠s ->m=b.2.1 ->m'=lnB r s -> ¬(∀d,(0<ex m' d↔0<ex m d)):=fun {b j s m m'} hb hs n e1 e2 q=>by
   subst e1;subst e2;have a:=ins s hs
   have p1:0<ex (lnB r s) (s.1,s.2,1):=by
    have o:=jR n (p:=(s.1,s.2,1)) fH
    have z:¬sq2 (s.1,s.2,1) r<=sq2 (s.1,s.2,1) s:=fun g=>by
     have o1:=vc n.symm
     have o2:=(jR n.symm (p:=(s.1,s.2,1)) fH).2.1.mp o1
     omega
    have:=o.1
    omega
   have p2:=(q _).mp p1
   have:=(ya xu yv hb).2 (s.1,s.2,1) ((oR xu yv _).mpr (by dsimp only;omega))
   omega
  rcases h.nm w (av hv) with⟨b,hb,e⟩|⟨j,mj,s,hs,e⟩
  ·rcases h'.nm w' (av hv') with⟨b',hb',e'⟩|⟨j',mj',s',hs',e'⟩
   ·rw[e,e'] at ln
    by_cases eb:b'.2=b.2
    ·rw[e,e',eb]
    ·obtain⟨d,d1,d2⟩:=wK xu yv hb
     have:=d2 b' hb' eb
     have:=ln d
     omega
   ·exact absurd (fun d=>by have:=(ln d).1;rw[e,e'] at this;exact this.symm) (cross (j:=j') hb (av hs') (ne j' ((hj j').mpr mj') s' hs') rfl rfl)
  ·rcases h'.nm w' (av hv') with⟨b',hb',e'⟩|⟨j',mj',s',hs',e'⟩
   ·exact absurd (fun d=>by have:=(ln d).1;rw[e,e'] at this;exact this) (cross (j:=j) hb' (av hs) (ne j mj s hs) rfl rfl)
   ·have ess:s=s':=zP (ne j mj s hs) (ne j' ((hj j').mpr mj') s' hs') fun d=>by have:=(ln d).2.1;rw[e,e'] at this;exact this
    subst ess;have a1:=aa.mp hs
    have a2:=aa.mp hs'
    have:=(b7 (h₀:=a1.1) (h₁:=a2.1) nd).mp (a1.2.trans a2.2.symm)
    rw[e,e',this]
 ·rw[bF (by omega),bF (by omega)]
end MC
namespace MC
open MA L2
structure CutsOk(x y u v:Int)(cs:List Vx)(l:List Vx):Prop where
 poly:Poly l
 lnb:LnB 300 l
 len:l.length<=4+cs.length
 pts:∀p,jt l p↔jt (lH x y u v) p /\ ∀c∈cs,ex c.1 p<=0
 lead:∀w∈l,∀h∈l.head?,¬Ahd w.1 h.1
 nm:∀w∈l,(∃b∈lH x y u v,w.2=b.2)∨∃c∈cs,w.2=(c.1,c.2.2)
theorem nodup_ne{α:Type}{rs:List α}(nd:rs.Nodup){i j:Nat}{r s:α}(hi:rs[i]? =some r)(hj:rs[j]? =some s)(ne:j≠i):r≠s:=fun z=>by
 subst z;have h1:=aa.mp hi
 have h2:=aa.mp hj
 exact ne ((b7 (h₀:=h2.1) (h₁:=h1.1) nd).mp (h2.2.trans h1.2.symm))
end MC
namespace MC
open MA L2
noncomputable def Ck(rs:List U2)(r:U2)(j:Nat):Vx:=(lnB r (rs.getD j (0,0)),lnB r (rs.getD j (0,0)),(j:Int))
theorem wn{rs:List U2}{r s:U2}{j:Nat}(h:rs[j]? =some s):Ck rs r j=(lnB r s,lnB r s,(j:Int)):=by
 unfold Ck;rw[aZ,h];rfl
noncomputable def BZ(rs:List U2)(r:U2)(i:Nat):List Vx:=(jo rs.length i).map (Ck rs r)
theorem ne_mem{rs:List U2}{r:U2}{i:Nat}{c:Vx}:c∈BZ rs r i↔∃(k:Nat) (t:U2),rs[k]? =some t /\ k≠i /\ c=(lnB r t,lnB r t,(k:Int)):=by
 constructor
 ·intro h;obtain⟨k,hk,rfl⟩:=aC.mp h
  obtain⟨kl,ki⟩:=mem_othersL.mp hk
  exact⟨k,rs[k],ag kl,ki,wn (ag kl)⟩
 ·rintro⟨k,t,hk,ki,rfl⟩;exact aC.mpr ⟨k,mem_othersL.mpr ⟨(aa.mp hk).1,ki⟩,wn hk⟩
theorem yy{x y u v:Int}{rs:List U2}{L:List Vx}{r:U2}{i:Nat}(nd:rs.Nodup)(hi:rs[i]? =some r)(hL:CutsOk x y u v (BZ rs r i) L){z:V3}(hz:0<z.2.2):jt L z↔jt (lH x y u v) z /\ ∀s∈rs,sq2 z r<=sq2 z s:=by
 rw[hL.pts z];refine and_congr Iff.rfl ⟨fun q s hs=> ?_,fun q c hc=> ?_⟩
 ·obtain⟨j,hj⟩:=bg hs
  by_cases e:j=i
  ·subst e;rw[hi] at hj;cases hj;exact cP _
  ·exact(jR (nodup_ne nd hi hj e) hz).1.mp (q _ (ne_mem.mpr ⟨j,s,hj,e,rfl⟩))
 ·obtain⟨k,t,hk,ki,rfl⟩:=ne_mem.mp hc
  exact(jR (nodup_ne nd hi hk ki) hz).1.mpr (q t (av hk))
theorem zJ{x y u v:Int}{rs:List U2}{L:List Vx}{r:U2}{i:Nat}(h:LandOk x y u v rs r (jo rs.length i) L):CutsOk x y u v (BZ rs r i) L where
 poly:=h.poly
 lnb:=h.lnb
 len:=by
  have:=h.len
  unfold BZ;rw[ah];exact this
 pts:=fun p=>by
  rw[h.pts p];refine and_congr Iff.rfl ⟨fun q c hc=> ?_,fun q j hj s hs=> ?_⟩
  ·obtain⟨k,t,hk,ki,rfl⟩:=ne_mem.mp hc
   exact q k (mem_othersL.mpr ⟨(aa.mp hk).1,ki⟩) t hk
  ·exact q _ (ne_mem.mpr ⟨j,s,hs,(mem_othersL.mp hj).2,rfl⟩)
 lead:=h.lead
 nm:=fun w hw=>(h.nm w hw).imp id fun⟨j,hj,s,hs,e⟩=>⟨_,ne_mem.mpr ⟨j,s,hs,(mem_othersL.mp hj).2,rfl⟩,e⟩
end MC
namespace MC
open MA L2
noncomputable abbrev Rw:=V3×V3×Int×Int
noncomputable def Ci(lot:List Nat)(c:Int):Prop:=0<=c /\ ∀j∈lot,c≠(j:Int)
noncomputable instance(lot:List Nat)(c:Int):Decidable (Ci lot c):=by unfold Ci;infer_instance
noncomputable def qg(lot:List Nat)(n:Nat)(t:V3×V3×Int):Option Rw:=if Ci lot t.2.2 then some (t.1,t.2.1,(n:Int),t.2.2) else none
noncomputable def qp(L:List Vx):List (V3×V3×Int):=(edges L).map fun e=>(e.1.1,e.2.1,e.1.2.2)
noncomputable def rowsOf(lot:List Nat)(n:Nat)(L:List Vx):List Rw:=(qp L).filterMap (qg lot n)
theorem uC(L:List Vx):qp L=List.zipWith (fun(a:V3×Int) (b:V3)=>(a.1,b,a.2)) ((L.map (·.1)).zip (L.map (·.2.2))) ((L.map (·.1)).drop 1++(L.map (·.1)).take 1):=by
 have e1:(L.map (·.1)).zip (L.map (·.2.2))=L.map fun v=>(v.1,v.2.2):=by
  rw[List.zip_map']
 have e2:(L.map (·.1)).drop 1++(L.map (·.1)).take 1=(rot L).map (·.1):=by
  unfold rot;cases L with
  |nil=>rfl
  |cons a L=>simp
 rw[e1,e2];unfold qp edges;rw[List.zipWith_map,List.zip_eq_zipWith,List.map_zipWith]
theorem uU{lot:List Nat}{n:Nat}{L L':List Vx}(h1:L.map (·.1)=L'.map (·.1))(h2:L.map (·.2.2)=L'.map (·.2.2)):rowsOf lot n L=rowsOf lot n L':=by
 unfold rowsOf;rw[uC,uC,h1,h2]
noncomputable def jW(lot:List Nat)(Lf:Nat ->List Vx)(k:List Nat):List Rw:=k.flatMap fun n=>rowsOf lot n (Lf n)
noncomputable def ko(x y u v:Int)(rs:List U2)(Lf:Nat ->List Vx)(k:List Nat):Prop:=∀n∈k,∃r,rs[n]? =some r /\ LandOk x y u v rs r (jo rs.length n) (Lf n)
section
variable {x y u v:Int} {rs:List U2} (xu:x<u) (yv:y<v) (nd:rs.Nodup) (ins:∀s∈rs,x<=s.1 /\ s.1<=u /\ y<=s.2 /\ s.2<=v)
include xu yv nd ins
theorem ug{n:Nat}{r r':U2}{L L':List Vx}(hr:rs[n]? =some r)(hr':rs[n]? =some r')(h:LandOk x y u v rs r (jo rs.length n) L)(h':LandOk x y u v rs r' (jo rs.length n) L'):L.map (·.1)=L'.map (·.1) /\ L.map (·.2.2)=L'.map (·.2.2):=by
 rw[hr] at hr';cases hr';exact vD xu yv h h' (fun _=>Iff.rfl) nd (fun j hj s hs e=>(mem_othersL.mp hj).2 (by
  rw[<-e] at hs;obtain⟨l1,f1⟩:=aa.mp hs
  obtain⟨l2,f2⟩:=aa.mp hr
  exact(b7 nd).mp (f1.trans f2.symm))) ins
theorem uO{lot k:List Nat}{Lf Lf':Nat ->List Vx}(h:ko x y u v rs Lf k)(h':ko x y u v rs Lf' k):jW lot Lf k=jW lot Lf' k:=by
 unfold jW
 induction k with
 |nil=>rfl
 |cons n k ih=>
  rw[bB,bB,ih (fun m hm=>h m (aP _ hm)) (fun m hm=>h' m (aP _ hm))];obtain⟨r,hr,l1⟩:=h n bJ
  obtain⟨r',hr',l2⟩:=h' n bJ
  obtain⟨e1,e2⟩:=ug xu yv nd ins hr hr' l1 l2
  rw[uU e1 e2]
structure RowF(rs:List U2)(lot:List Nat)(z:Rw)(n m:Nat)(r s:U2):Prop where
 en:z.2.2.1=(n:Int)
 em:z.2.2.2=(m:Int)
 hn:rs[n]? =some r
 hm:rs[m]? =some s
 inl:n∈lot
 out:m∉lot
 p1:0<z.1.2.2
 p2:0<z.2.1.2.2
 g1:aB (aB z.1.1 z.1.2.1) z.1.2.2=1
 g2:aB (aB z.2.1.1 z.2.1.2.1) z.2.1.2.2=1
 n1:∀t∈rs,sq2 z.1 r<=sq2 z.1 t
 n2:∀t∈rs,sq2 z.2.1 r<=sq2 z.2.1 t
 q1:sq2 z.1 s=sq2 z.1 r
 q2:sq2 z.2.1 s=sq2 z.2.1 r
 ne:z.1≠z.2.1
 lf:0<dt z.1 z.2.1 (r.1,r.2,1)
theorem k8{lot:List Nat}{n:Nat}{r:U2}{L:List Vx}(hl:n∈lot)(hr:rs[n]? =some r)(h:LandOk x y u v rs r (jo rs.length n) L){z:Rw}(hz:z∈rowsOf lot n L):∃(m:Nat) (s:U2) (a b:Vx),RowF rs lot z n m r s /\ (a,b)∈edges L /\ z=(a.1,b.1,(n:Int),a.2.2) /\ a.2.2=(m:Int):=by
 unfold rowsOf at hz;obtain⟨t,ht,e⟩:=fo.mp hz
 obtain⟨⟨a,b⟩,he,rfl⟩:=aC.mp ht
 unfold qg at e;dsimp only at e;split at e
 rotate_left
 ·cases e
 rename_i o
 cases e;have ma:a∈L:=(bZ he).1
 have mb:b∈L:=(j8 _ _).mp (bZ he).2
 obtain⟨m,s,hm,mn,ha,hl'⟩:∃(m:Nat) (s:U2),rs[m]? =some s /\ m≠n /\ a.2.2=(m:Int) /\ a.2.1=lnB r s:=by
  rcases h.nm a ma with⟨b,hb,e⟩|⟨j,hj,s,hs,e⟩
  ·exfalso
   simp only[lH,aw,az,or_false] at hb;have o1:=o.1
   rw[e] at o1;rcases hb with rfl|rfl|rfl|rfl<;>(dsimp only at o1;omega)
  ·exact⟨j,s,hs,(mem_othersL.mp hj).2,by rw[e],by rw[e]⟩
 have rne:r≠s:=nodup_ne nd hr hm mn
 have pa:=h.poly.pos a ma
 have pb:=h.poly.pos b mb
 have E:=h.poly.edge _ he
 have o1:=E.on1
 have o2:=E.on2
 dsimp only at o1 o2;rw[hl'] at o1 o2;have C:=zJ h
 refine⟨m,s,a,b,⟨rfl,ha,hr,hm,hl,fun g=>o.2 m g ha,pa,pb,h.poly.low a ma,h.poly.low b mb,((yy nd hr C pa).mp (nB h.poly ma)).2,((yy nd hr C pb).mp (nB h.poly mb)).2,((jR rne pa).2.2.mp o1).symm,((jR rne pb).2.2.mp o2).symm,fun e=> ?_,?_⟩,he,rfl,ha⟩
 ·dsimp only at e;obtain⟨c,hc,n1,n2⟩:=wF h.poly a.1 b.1
  have d:=E.left_of hc n1 n2
  dsimp only at d;rw[e] at d;have:dt b.1 b.1 c.1=0:=by unfold dt;grind
  omega
 ·have q:=(qc h.poly he (r.1,r.2,1)).2.2
  rw[hl'] at q;exact q.mp (vc rne)
theorem wV{lot:List Nat}{z z':Rw}{n m n' m':Nat}{r s r' s':U2}(h:RowF rs lot z n m r s)(h':RowF rs lot z' n' m' r' s')(e1:z.1=z'.1)(e2:z.2.1=z'.2.1):z=z' /\ n=n':=by
 have idx:∀{i j:Nat} {a:U2},rs[i]? =some a ->rs[j]? =some a ->i=j:=fun {i j a} h1 h2=>by
  obtain⟨l1,f1⟩:=aa.mp h1
  obtain⟨l2,f2⟩:=aa.mp h2
  exact(b7 nd).mp (f1.trans f2.symm)
 have off:¬(z.1.1*z.2.1.2.2=z.2.1.1*z.1.2.2 /\ z.1.2.1*z.2.1.2.2=z.2.1.2.1*z.1.2.2):=fun g=>h.ne (Ahd.total h.p1 h.p2 h.g1 h.g2 (by unfold Ahd;omega) (by unfold Ahd;omega))
 have mr:=av h.hn
 have mr':=av h'.hn
 have rs_ne:r≠s:=fun e=>by
  have:=h.hm
  rw[<-e] at this;exact h.out (by rw[<-idx h.hn this];exact h.inl)
 have rs_ne':r'≠s':=fun e=>by
  have:=h'.hm
  rw[<-e] at this;exact h'.out (by rw[<-idx h'.hn this];exact h'.inl)
 have a1:=h.n1 r' mr'
 have a2:=h'.n1 r mr
 have b1:=h.n2 r' mr'
 have b2:=h'.n2 r mr
 have c1:=h'.q1
 have c2:=h'.q2
 rw[<-e1] at a2 c1;rw[<-e2] at b2 c2;have nn:n=n':=Classical.byContradiction fun c=>by
  have rr:r≠r':=fun e=>c (idx h.hn (by rw[e];exact h'.hn))
  have:=mirror h.p1 h.p2 rr rs_ne (by omega) h.q1.symm (by omega) h.q2.symm off
  have q:=h.hm
  rw[<-this] at q;exact h.out (by rw[<-idx h'.hn q];exact h'.inl)
 subst nn;have rr:r=r':=by have:=h.hn;rw[h'.hn] at this;exact(ba.inj this).symm
 subst rr;have ss:s=s':=mirror h.p1 h.p2 rs_ne rs_ne' h.q1.symm c1.symm h.q2.symm c2.symm off
 have mm:m=m':=idx h.hm (by rw[ss];exact h'.hm)
 refine⟨?_,rfl⟩;refine b9 e1 (b9 e2 (b9 (h.en.trans h'.en.symm) ?_));rw[h.em,h'.em,mm]
theorem zb{lot:List Nat}{n:Nat}{L:List Vx}(h:Poly L):(rowsOf lot n L).Pairwise fun z z'=>¬z.1=z'.1:=by
 have hn:=h.nd
 have e:(qp L).map (·.1)=L.map (·.1):=by
  unfold qp edges;rw[dj];show(L.zip (rot L)).map (fun e=>e.1.1)=_
  have:(L.zip (rot L)).map (fun e=>e.1.1)=((L.zip (rot L)).map iC).map (·.1):=by rw[dj];rfl
  rw[this,gZ];unfold rot;rw[aq,aI,aF];omega
 rw[<-e,bS,cS] at hn;unfold rowsOf;rw[fJ];refine hn.imp fun {a b} hab z hz z' hz'=> ?_
 unfold qg at hz hz';split at hz<;>split at hz'<;>first|(cases hz;done)|(cases hz';done)|(cases hz;cases hz';exact hab)
theorem uP{lot:List Nat}{Lf:Nat ->List Vx}:∀{k:List Nat},k.Nodup ->(∀n∈k,n∈lot) ->ko x y u v rs Lf k ->(jW lot Lf k).Pairwise fun z z'=>¬(z.1=z'.1 /\ z.2.1=z'.2.1)
 |[],_,_,_=>fE
 |n::k,dk,sub,hL=>by
  obtain⟨d1,d2⟩:=bf.mp dk
  obtain⟨r,hr,lo⟩:=hL n bJ
  have ih:=uP d2 (fun m hm=>sub m (aP _ hm)) (fun m hm=>hL m (aP _ hm))
  unfold jW at ih⊢;rw[bB,dB];refine⟨(zb xu yv nd ins lo.poly).imp fun hz q=>hz q.1,ih,fun z hz z' hz' q=> ?_⟩;obtain⟨n',hn',hz2⟩:=eU.mp hz'
  obtain⟨r',hr',lo'⟩:=hL n' (aP _ hn')
  obtain⟨m,s,_,_,f,_⟩:=k8 xu yv nd ins (sub n bJ) hr lo hz
  obtain⟨m',s',_,_,f',_⟩:=k8 xu yv nd ins (sub n' (aP _ hn')) hr' lo' hz2
  have:=(wV xu yv nd ins f f' q.1 q.2).2
  rw[this] at d1;exact d1 hn'
theorem wL{lot:List Nat}{Lf:Nat ->List Vx}{k:List Nat}(sub:∀n∈k,n∈lot)(hL:ko x y u v rs Lf k){z:Rw}(hz:z∈jW lot Lf k):∃n m r s,RowF rs lot z n m r s /\ n∈k:=by
 unfold jW at hz;obtain⟨n,hn,h⟩:=eU.mp hz
 obtain⟨r,hr,lo⟩:=hL n hn
 obtain⟨m,s,_,_,f,_⟩:=k8 xu yv nd ins (sub n hn) hr lo h
 exact⟨n,m,r,s,f,hn⟩
end
noncomputable def EB(z z':Rw):Prop:=if z.1=z'.1 then Ahd z.2.1 z'.2.1 else Ahd z.1 z'.1
noncomputable instance(z z':Rw):Decidable (EB z z'):=by unfold EB;infer_instance
noncomputable def BV(p:V3):Prop:=0<p.2.2 /\ aB (aB p.1 p.2.1) p.2.2=1
noncomputable def tT(z:Rw):Prop:=BV z.1 /\ BV z.2.1
theorem Ahd.as{a b:V3}(ha:BV a)(hb:BV b)(h:Ahd a b):¬Ahd b a:=fun g=>Ahd.irr a (Ahd.trans ha.1 hb.1 ha.1 h g)
theorem EB.as{a b:Rw}(ha:tT a)(hb:tT b)(h:EB a b):¬EB b a:=by
 unfold EB at*
 by_cases c:a.1=b.1
 ·rw[if_pos c] at h;rw[if_pos c.symm];exact h.as ha.2 hb.2
 ·rw[if_neg c] at h;rw[if_neg (Ne.symm c)];exact h.as ha.1 hb.1
theorem EB.tr{a b c:Rw}(ha:tT a)(hb:tT b)(hc:tT c)(h:EB a b)(g:EB b c):EB a c:=by
 unfold EB at*
 by_cases e1:a.1=b.1
 ·rw[if_pos e1] at h
  by_cases e2:b.1=c.1
  ·rw[if_pos e2] at g;rw[if_pos (e1.trans e2)];exact Ahd.trans ha.2.1 hb.2.1 hc.2.1 h g
  ·rw[if_neg e2] at g;rw[if_neg (by rw[e1];exact e2),e1];exact g
 ·rw[if_neg e1] at h
  by_cases e2:b.1=c.1
  ·rw[if_neg (by rw[<-e2];exact e1), <-e2];exact h
  ·rw[if_neg e2] at g;have t:=Ahd.trans ha.1.1 hb.1.1 hc.1.1 h g
   rw[if_neg (fun e=>by rw[e] at t;exact Ahd.irr _ t)];exact t
theorem EB.tot{a b:Rw}(ha:tT a)(hb:tT b)(h:¬EB a b)(g:¬EB b a):a.1=b.1 /\ a.2.1=b.2.1:=by
 unfold EB at*
 by_cases e:a.1=b.1
 ·rw[if_pos e] at h;rw[if_pos e.symm] at g;exact⟨e,Ahd.total ha.2.1 hb.2.1 ha.2.2 hb.2.2 h g⟩
 ·rw[if_neg e] at h;rw[if_neg (Ne.symm e)] at g;exact absurd (Ahd.total ha.1.1 hb.1.1 ha.1.2 hb.1.2 h g) e
theorem EB.ntr{a b c:Rw}(ha:tT a)(hb:tT b)(hc:tT c)(h:¬EB b a)(g:¬EB c b):¬EB c a:=fun q=>by
 by_cases e:EB a b
 ·exact g (q.tr hc ha hb e)
 ·obtain⟨e1,e2⟩:=EB.tot ha hb e h
  refine g ?_;unfold EB at q⊢;rw[e1,e2] at q;exact q
end MC
section
open PySem L2 MA PyProof.Rows MC
local macro_rules| `(tactic|walk_at "RD")=> `(tactic|simp only[As,dJ,uH,AS,tOp,tUn,rI,rI0,rU,Aq,tC,yU,rZ,AK,uI,tY,tX,AN,tCB,AJ,AQ,ixF,AL,AM,AU,tOr,tB,uG,uK,aL,cU,cV,dU,dW,ba.injEq,V.int.injEq,V.bl.injEq,V.ref.injEq,exists_eq_left',exists_eq_left,exists_eq_right,exists_and_left,exists_and_right,and_true,true_and,and_assoc,cA.injEq,iR,kJ,jV,AH,AR,tML,Au,An,Ah,AE,ue,Ay,slF,tSl,uF,nr,tyN,Az,tz,tx,tu,tf,sZ,sY,sX,jA,lN,lO,de,fK,fL,L2.stLC,frV,aM,bO,cM,cW,ar,aS,dM,dF,eV,rd,ye,yd,yc,if_true,if_false,cc,dX,reduceIte,reduceCtorEq,decide_eq_true_eq,d9,decide_eq_false_iff_not,eq_self,aV,bu,fw,Nat.reduceAdd,Nat.reduceLT,iN,dY,Int.reduceToNat,Int.reducePow,Int.reduceLE,Int.reduceLT,Int.reduceSub,Int.reduceAdd,Int.reduceMul,Int.reduceNeg,B1,B0,bd2,bd3,bd4,pY,pX,pW,p0,pZ,pV,pU,pT,pS,ne_eq,Int.reduceEq,not_false_eq_true,not_true_eq_false,false_or,or_false,false_and,and_false,exists_false,exists_const,AB,fI,fI0,fU,uj,uk,AC,tDg,tDp,tK,uJ,nj,nH,zX,zd,qq])
local macro_rules| `(tactic|o_head ⟨$a0⟩)=> `(tactic|simp only[As,dJ,uH,AS,tOp,tUn,rI,rI0,rU,Aq,tC,yU,rZ,AK,uI,tY,tX,AN,tCB,AJ,AQ,ixF,AL,AM,AU,tOr,tB,uG,uK,aL,cU,cV,dU,dW,ba.injEq,V.int.injEq,V.bl.injEq,V.ref.injEq,exists_eq_left',exists_eq_left,exists_eq_right,exists_and_left,exists_and_right,and_true,true_and,and_assoc,cA.injEq,iR,kJ,jV,AH,AR,tML,Au,An,Ah,AE,ue,Ay,slF,tSl,uF,nr,tyN,Az,tz,tx,tu,tf,sZ,sY,sX,jA,lN,lO,de,fK,fL,L2.stLC,frV,aM,bO,cM,cW,ar,aS,dM,dF,eV,rd,ye,yd,yc,if_true,if_false,cc,dX,reduceIte,reduceCtorEq,decide_eq_true_eq,d9,decide_eq_false_iff_not,eq_self,aV,bu,fw,Nat.reduceAdd,Nat.reduceLT,iN,dY,Int.reduceToNat,Int.reducePow,Int.reduceLE,Int.reduceLT,Int.reduceSub,Int.reduceAdd,Int.reduceMul,Int.reduceNeg,B1,B0,bd2,bd3,bd4,pY,pX,pW,p0,pZ,pV,pU,pT,pS,ne_eq,Int.reduceEq,not_false_eq_true,not_true_eq_false,false_or,or_false,false_and,and_false,exists_false,exists_const,AB,fI,fI0,fU,uj,uk,AC,tDg,tDp,tK,uJ,nj,nH,zX,zd,qq, $a0:term])
local macro_rules| `(tactic|o_head ⟨$a0, $a1, $a2, $a3⟩)=> `(tactic|simp only[As,dJ,uH,AS,tOp,tUn,rI,rI0,rU,Aq,tC,yU,rZ,AK,uI,tY,tX,AN,tCB,AJ,AQ,ixF,AL,AM,AU,tOr,tB,uG,uK,aL,cU,cV,dU,dW,ba.injEq,V.int.injEq,V.bl.injEq,V.ref.injEq,exists_eq_left',exists_eq_left,exists_eq_right,exists_and_left,exists_and_right,and_true,true_and,and_assoc,cA.injEq,iR,kJ,jV,AH,AR,tML,Au,An,Ah,AE,ue,Ay,slF,tSl,uF,nr,tyN,Az,tz,tx,tu,tf,sZ,sY,sX,jA,lN,lO,de,fK,fL,L2.stLC,frV,aM,bO,cM,cW,ar,aS,dM,dF,eV,rd,ye,yd,yc,if_true,if_false,cc,dX,reduceIte,reduceCtorEq,decide_eq_true_eq,d9,decide_eq_false_iff_not,eq_self,aV,bu,fw,Nat.reduceAdd,Nat.reduceLT,iN,dY,Int.reduceToNat,Int.reducePow,Int.reduceLE,Int.reduceLT,Int.reduceSub,Int.reduceAdd,Int.reduceMul,Int.reduceNeg,B1,B0,bd2,bd3,bd4,pY,pX,pW,p0,pZ,pV,pU,pT,pS,ne_eq,Int.reduceEq,not_false_eq_true,not_true_eq_false,false_or,or_false,false_and,and_false,exists_false,exists_const,AB,fI,fI0,fU,uj,uk,AC,tDg,tDp,tK,uJ,nj,nH,zX,zd,qq, $a0:term, $a1:term, $a2:term, $a3:term])
local macro_rules| `(tactic|o_head ⟨$a0, $a1, $a2, $a3, $a4, $a5, $a6, $a7, $a8, $a9, $a10, $a11⟩)=> `(tactic|simp only[As,dJ,uH,AS,tOp,tUn,rI,rI0,rU,Aq,tC,yU,rZ,AK,uI,tY,tX,AN,tCB,AJ,AQ,ixF,AL,AM,AU,tOr,tB,uG,uK,aL,cU,cV,dU,dW,ba.injEq,V.int.injEq,V.bl.injEq,V.ref.injEq,exists_eq_left',exists_eq_left,exists_eq_right,exists_and_left,exists_and_right,and_true,true_and,and_assoc,cA.injEq,iR,kJ,jV,AH,AR,tML,Au,An,Ah,AE,ue,Ay,slF,tSl,uF,nr,tyN,Az,tz,tx,tu,tf,sZ,sY,sX,jA,lN,lO,de,fK,fL,L2.stLC,frV,aM,bO,cM,cW,ar,aS,dM,dF,eV,rd,ye,yd,yc,if_true,if_false,cc,dX,reduceIte,reduceCtorEq,decide_eq_true_eq,d9,decide_eq_false_iff_not,eq_self,aV,bu,fw,Nat.reduceAdd,Nat.reduceLT,iN,dY,Int.reduceToNat,Int.reducePow,Int.reduceLE,Int.reduceLT,Int.reduceSub,Int.reduceAdd,Int.reduceMul,Int.reduceNeg,B1,B0,bd2,bd3,bd4,pY,pX,pW,p0,pZ,pV,pU,pT,pS,ne_eq,Int.reduceEq,not_false_eq_true,not_true_eq_false,false_or,or_false,false_and,and_false,exists_false,exists_const,AB,fI,fI0,fU,uj,uk,AC,tDg,tDp,tK,uJ,nj,nH,zX,zd,qq, $a0:term, $a1:term, $a2:term, $a3:term, $a4:term, $a5:term, $a6:term, $a7:term, $a8:term, $a9:term, $a10:term, $a11:term])
local macro_rules| `(tactic|walk_at "ST")=> `(tactic|simp only[L2.start,aM,bO,aV,bu,Nat.reduceAdd,Nat.reduceSub,cM,cW,ar,aS,aL])
local macro_rules| `(tactic|walk_at "CM")=> `(tactic|(first|exact CMulA.left (by decide) (by decide)|exact CMulA.right (by decide) (by decide)|(apply CMulA.of;(repeat(first|assumption|apply Bd.mul|apply Bd.sub|apply Bd.add|apply Bd.neg|apply Bd.sq));all_goals decide)))
set_option maxHeartbeats 0
namespace LW
open PySem L2 MA PyProof.Rows
theorem Cs{A:Around}{k:Nat}(hr:Room k A):A.units+65<cLine:=by have:=hr.un;omega
theorem AA{A:Around}{k:Nat}(hr:Room k A):A.units+64<cLine:=hr.units
structure Cz where
 edge_before:Addr
structure Txt(K:ao)(mg:Str ->Option Value)(C:Cz):Prop where
 b_abs:mg "abs"=none
 b_all:mg "all"=none
 b_bool:mg "bool"=none
 b_enumerate:mg "enumerate"=none
 b_int:mg "int"=none
 b_isinstance:mg "isinstance"=none
 b_len:mg "len"=none
 b_list:mg "list"=none
 b_max:mg "max"=none
 b_min:mg "min"=none
 b_range:mg "range"=none
 b_set:mg "set"=none
 b_sorted:mg "sorted"=none
 b_tuple:mg "tuple"=none
 b_zip:mg "zip"=none
 g_edge_before:mg "edge_before"=some (.ref C.edge_before)
 n_MOST_SPOTS:∃t,mg "MOST_SPOTS"=some (.int 12 t)
end LW
namespace LW
open PySem L2 MA PyProof.Rows MC
noncomputable def j3:Sp:=fun vs H Q _=>∃a b:Int,vs=[.int a,.int b] /\ Q (.int (aB a b:Int)) H
noncomputable def oZ:Sp:=fun vs H Q _=>∃n:Int,vs=[.int n] /\ Q (.int (sgn n)) H
noncomputable abbrev P3:=Int×Int×Int
noncomputable def CsAt(H:Hp)(qs:List Addr)(cs:List P3):Prop:=qs.length=cs.length /\ ∀(i:Nat) (q:Addr) (z:P3),qs[i]? =some q ->cs[i]? =some z ->H q=some (.tup [.int z.1,.int z.2.1,.int z.2.2])
theorem CsAt.ext{H H':Hp}{qs:List Addr}{rs:List P3}(h:CsAt H qs rs)(x:Ext H H'):CsAt H' qs rs:=⟨h.1,fun i q z a b=>x _ _ (h.2 i q z a b)⟩
theorem CsAt.snoc{H:Hp}{qs:List Addr}{R:List P3}(h:CsAt H qs R){q:Addr}{v:P3}(h2:H q=some (.tup [.int v.1,.int v.2.1,.int v.2.2])):CsAt H (qs++[q]) (R++[v]):=by
 refine⟨by rw[aq,aq,h.1];rfl,fun i t' v' a b=> ?_⟩
 by_cases hi:i<qs.length
 ·rw[aN hi] at a;rw[aN (by rw[<-h.1];exact hi)] at b;exact h.2 i t' v' a b
 ·rw[aH (by omega)] at a;rw[aH (by rw[<-h.1];omega), <-h.1] at b;have:i-qs.length=0:=by
   have:=(aa.mp a).1
   simp only[aV,bu] at this;omega
  rw[this] at a b;cases a;cases b;exact h2
theorem CsAt.setL{H:Hp}{qs:List Addr}{R:List P3}{L:Addr}{xs ys:List V}(h:CsAt H qs R)(hL:H L=some (.lst xs)):CsAt (upd H L (.lst ys)) qs R:=⟨h.1,fun i t v a b=>by
 have h1:=h.2 i t v a b
 exact(i6 (lI h1 hL (by intro z;cases z))).trans h1⟩
structure NewF(H:Hp)(f c e:Addr):Prop where
 nf:H f=none
 nc:H c=none
 ne:H e=none
 ce:c≠e
theorem jw{qs:List Addr}{i:Nat}{v:V}(h:(qs.map V.ref)[i]? =some v):∃q,qs[i]? =some q /\ v= .ref q:=by
 rw[au] at h;cases e:qs[i]? with
 |none=>rw[e] at h;cases h
 |some q=>rw[e] at h;exact⟨q,rfl,(ba.inj h).symm⟩
structure FldAt(H:Hp)(f c e:Addr)(qs:List Addr)(l:List Vx):Prop where
 at_:H f=some (.tup [.ref c,.ref e])
 cs:H c=some (.lst (qs.map V.ref))
 pt:CsAt H qs (l.map (·.1))
 es:H e=some (.lst ((l.map (·.2.2)).map V.int))
theorem FldAt.ext{H H':Hp}{f c e:Addr}{qs:List Addr}{l:List Vx}(h:FldAt H f c e qs l)(x:Ext H H'):FldAt H' f c e qs l:=⟨x _ _ h.at_,x _ _ h.cs,h.pt.ext x,x _ _ h.es⟩
noncomputable def RwAt(H:Hp)(ts:List Addr)(R:List Vx):Prop:=ts.length=R.length /\ ∀(i:Nat) (t:Addr) (v:Vx),ts[i]? =some t ->R[i]? =some v -> ∃q,H t=some (.tup [.ref q,.int v.2.2]) /\ H q=some (.tup [.int v.1.1,.int v.1.2.1,.int v.1.2.2])
theorem RwAt.ext{H H':Hp}{ts:List Addr}{R:List Vx}(h:RwAt H ts R)(x:Ext H H'):RwAt H' ts R:=⟨h.1,fun i t v a b=>by
 obtain⟨q,h1,h2⟩:=h.2 i t v a b
 exact⟨q,x _ _ h1,x _ _ h2⟩⟩
theorem RwAt.snoc{H:Hp}{ts:List Addr}{R:List Vx}(h:RwAt H ts R){t q:Addr}{v:Vx}(h1:H t=some (.tup [.ref q,.int v.2.2]))(h2:H q=some (.tup [.int v.1.1,.int v.1.2.1,.int v.1.2.2])):RwAt H (ts++[t]) (R++[v]):=by
 refine⟨by rw[aq,aq,h.1];rfl,fun i t' v' a b=> ?_⟩
 by_cases hi:i<ts.length
 ·rw[aN hi] at a;rw[aN (by rw[<-h.1];exact hi)] at b;exact h.2 i t' v' a b
 ·rw[aH (by omega)] at a;rw[aH (by rw[<-h.1];omega), <-h.1] at b;have:i-ts.length=0:=by
   have:=(aa.mp a).1
   simp only[aV,bu] at this;omega
  rw[this] at a b;cases a;cases b;exact⟨q,h1,h2⟩
theorem qe(xs:List V)(k:Nat):tN xs (some (k:Int)) none=xs.drop k:=by
 unfold tN;rw[HT.sIx_nat,HT.sIx_none,cN (by rw[aI];omega)]
 by_cases h:k<=xs.length
 ·rw[ik h]
 ·rw[hJ (by omega),hU,fT (by omega)]
theorem qR(xs:List V)(k:Nat):tN xs none (some (k:Int))=xs.take k:=by
 unfold tN;rw[HT.sIx_nat,HT.sIx_none,dF,Nat.sub_zero]
 by_cases h:k<=xs.length
 ·rw[ik h]
 ·rw[hJ (by omega),bo,cN (by omega)]
theorem getElem?_rot{α:Type}{l:List α}{k i:Nat}(hk:k<=l.length):(l.drop k++l.take k)[i]? =if i<l.length-k then l[k+i]? else if i<l.length then l[i-(l.length-k)]? else none:=by
 by_cases h:i<l.length-k
 ·rw[if_pos h,aN (by rw[aI];exact h),cf]
 ·rw[if_neg h,aH (by rw[aI];omega),aI]
  by_cases h2:i<l.length
  ·rw[if_pos h2,aY (by omega)]
  ·rw[if_neg h2,bF (by rw[aF];omega)]
theorem RwAt.rotk{H:Hp}{qs:List Addr}{rs:List Vx}(h:RwAt H qs rs){k:Nat}(hk:k<=qs.length):RwAt H (MC.rotk k qs) (MC.rotk k rs):=by
 unfold MC.rotk;refine⟨by simp only[aq,aI,aF,h.1],fun i q z h1 h2=> ?_⟩;rw[getElem?_rot hk] at h1;rw[getElem?_rot (by rw[<-h.1];exact hk), <-h.1] at h2;split at h1
 ·rename_i hi
  rw[if_pos hi] at h2;exact h.2 _ q z h1 h2
 ·rename_i hi
  rw[if_neg hi] at h2;split at h1
  ·rename_i hi2
   rw[if_pos hi2] at h2;exact h.2 _ q z h1 h2
  ·cases h1
theorem wW{α β:Type}(f:α ->β)(k:Nat)(l:List α):(rotk k l).map f=rotk k (l.map f):=by
 unfold MC.rotk;rw[ay,du,cO]
theorem wX{α:Type}(k:Nat)(l:List α):(rotk k l).length=l.length:=by
 unfold MC.rotk;rw[aq,aI,aF];omega
theorem uX{α:Type}{k:Nat}{l:List α}(h:k<l.length):(rotk k l).head?=l[k]? :=by
 unfold MC.rotk;rw[bT h,ag h];rfl
noncomputable abbrev P2:=Int×Int
noncomputable def R2At(H:Hp)(qs:List Addr)(rs:List P2):Prop:=qs.length=rs.length /\ ∀(i:Nat) (q:Addr) (z:P2),qs[i]? =some q ->rs[i]? =some z ->H q=some (.tup [.int z.1,.int z.2])
theorem R2At.ext{H H':Hp}{qs:List Addr}{rs:List P2}(h:R2At H qs rs)(x:Ext H H'):R2At H' qs rs:=⟨h.1,fun i q z a b=>x _ _ (h.2 i q z a b)⟩
theorem R2At.at{H:Hp}{qs:List Addr}{rs:List P2}(h:R2At H qs rs){i:Nat}{q:Addr}(hq:qs[i]? =some q):∃r,rs[i]? =some r /\ H q=some (.tup [.int r.1,.int r.2]):=by
 have li:=(aa.mp hq).1
 have e:=ag (l:=rs) (i:=i) (by rw[<-h.1];exact li)
 exact⟨_,e,h.2 i q _ hq e⟩
structure SpOk(H:Hp)(b l:Addr)(x y u v:Int)(qs:List Addr)(rs:List P2):Prop where
 bx:H b=some (.tup [.int x,.int y,.int u,.int v])
 sp:H l=some (.lst (qs.map V.ref))
 at_:R2At H qs rs
 xu:x<u
 yv:y<v
 ins:∀r∈rs,x<=r.1 /\ r.1<=u /\ y<=r.2 /\ r.2<=v
 nd:rs.Nodup
 n0:0<rs.length
 n12:rs.length<=12
 sz:(-(4*10^30)<=x /\ u<=4*10^30) /\ (-(4*10^30)<=y /\ v<=4*10^30)
theorem SpOk.ext{H H':Hp}{b l:Addr}{x y u v:Int}{qs:List Addr}{rs:List P2}(h:SpOk H b l x y u v qs rs)(e:Ext H H'):SpOk H' b l x y u v qs rs:=
 ⟨e _ _ h.bx,e _ _ h.sp,h.at_.ext e,h.xu,h.yv,h.ins,h.nd,h.n0,h.n12,h.sz⟩
theorem tS{n:Int}(h1: -(4*10^30)<=n)(h2:n<=4*10^30)(m:Nat)(hm:110<=m:=by decide):Bd m n:=Bd.mono (m:=110) (Bd.of_le (4*10^30) h1 h2 (by decide)) hm
theorem SpOk.b2{H:Hp}{b l:Addr}{x y u v:Int}{qs:List Addr}{rs:List P2}(h:SpOk H b l x y u v qs rs){r:P2}(hr:r∈rs):B2 200 r:=by
 have:=h.ins r hr
 have z:=h.sz
 exact⟨tS (by omega) (by omega) 200,tS (by omega) (by omega) 200⟩
noncomputable def t2d(r:P2):PyData:= .tuple [.int r.1,.int r.2]
theorem sN{K:ao}{H:Hp}:∀{qs:List Addr} {rs:List P2},R2At H qs rs ->RdyAll K H (qs.map V.ref) (rs.map t2d)
 |[],[],_=> .nil
 |[],_::_,h=>by simp[R2At] at h
 |_::_,[],h=>by simp[R2At] at h
 |p::ps,c::cs,h=> .cons (qC (h.2 0 p c rfl rfl)) (sN ⟨by simpa using h.1,fun i q z h1 h2=>h.2 (i+1) q z h1 h2⟩)
theorem R2At.take{H:Hp}{qs:List Addr}{rs:List P2}(h:R2At H qs rs)(k:Nat):R2At H (qs.take k) (rs.take k):=by
 refine⟨by rw[aF,aF,h.1],fun i q z h1 h2=> ?_⟩
 by_cases hi:i<k
 ·rw[aY hi] at h1 h2;exact h.2 i q z h1 h2
 ·rw[bF (by rw[aF];omega)] at h1;cases h1
theorem vC:∀rs:List P2,PyData.canLayAll0 (rs.map t2d)=true /\ PyData.depthAll (rs.map t2d)<=1
 |[]=>⟨rfl,by simp[PyData.depthAll]⟩
 |c::cs=>by
  obtain⟨a,b⟩:=vC cs
  constructor
  ·simp[t2d,PyData.canLayAll0,PyData.canLay0];exact a
  ·simp[t2d,PyData.depthAll,PyData.depth] at b⊢;omega
theorem qx(rs:List P2):SeqAt.shaped (.list (rs.map t2d))=true:=by
 obtain⟨a,b⟩:=vC rs
 unfold SeqAt.shaped;rw[b8,decide_eq_true_eq];exact⟨by simp[PyData.canLay0,a],by simp[PyData.depth];omega⟩
theorem qw(r:P2):SeqAt.shaped (t2d r)=true:=by
 simp[t2d,SeqAt.shaped,PyData.canLay0,PyData.canLayAll0,PyData.depth,PyData.depthAll]
theorem mY(a b:P2):SeqAt.noMix (t2d a) (t2d b)=true:=by
 simp[t2d,SeqAt.noMix,SeqAt.noMixAll]
theorem uc{rs:List P2}(hn:rs.Nodup){i:Nat}{r:P2}(hi:rs[i]? =some r):decide (Spec.countIn (t2d r) ((rs.take i).map t2d)≠0)=false:=by
 rw[<-any_eqv_countIn _ _ (fun y hy=>by obtain⟨z,_,rfl⟩:=aC.mp hy;exact mY z r)];rw[fF];intro y hy;obtain⟨z,hz,rfl⟩:=aC.mp hy
 show¬PyData.eqv (.tuple [.int z.1,.int z.2]) (.tuple [.int r.1,.int r.2])=true
 rw[tH,decide_eq_true_eq];rintro⟨e1,e2⟩;have ez:z=r:=b9 e1 e2
 subst ez;obtain⟨j,hj⟩:=bg hz
 have lj:=(aa.mp hj).1
 rw[aF] at lj;rw[aY (by omega)] at hj;obtain⟨h1,e1⟩:=aa.mp hi
 obtain⟨h2,e2⟩:=aa.mp hj
 have:=(b7 (h₀:=h1) (h₁:=h2) hn).mp (e1.trans e2.symm)
 omega
noncomputable def kF:Sp:=fun vs H Q _=>∃x y w:Int,vs=[.int x,.int y,.int w] /\ w≠0 /\ Bd 8000 w /\
 ∀p a b c,H p=none ->IsPt x y w a b c ->Q (.ref p) (upd H p (.tup [.int a,.int b,.int c]))
noncomputable def jY:Sp:=fun vs H Q _=>∃(p:Addr) (a b:Int),vs=[.ref p] /\ H p=some (.tup [.int a,.int b]) /\ ∀t,H t=none ->Q (.ref t) (upd H t (.tup [.int a,.int b,.int 1]))
noncomputable def mN(a b c d e f:Int):Bool:=if¬(a*f-d*c=0) then decide (a*f-d*c<0) else decide (b*f<e*c)
noncomputable def lC:Sp:=fun vs H Q _=>∃(p q:Addr),vs=[.ref p,.ref q] /\ kY (wC (H p)) fun x=>kY (wC (H q)) fun y=>B3 2000 x /\ B3 2000 y /\ Q (.bl (mN x.1 x.2.1 x.2.2 y.1 y.2.1 y.2.2)) H
noncomputable def lA:Sp:=fun vs H Q _=>∃a b c:Int,vs=[.int a,.int b,.int c] /\ ¬(a=0 /\ b=0) /\ (Bd 4000 a /\ Bd 4000 b /\ Bd 4000 c) /\
 ∀p x y z,H p=none ->IsLn a b c x y z ->Q (.ref p) (upd H p (.tup [.int x,.int y,.int z]))
noncomputable def BX(x y:Int×Int)(H:Hp)(Q:VK):Prop:=¬x=y /\ ∀t,H t=none ->Q (.ref t) (upd H t (.tup [.int (lnB x y).1,.int (lnB x y).2.1,.int (lnB x y).2.2]))
noncomputable def lB:Sp:=fun vs H Q _=>∃(p q:Addr),vs=[.ref p,.ref q] /\ kY (AG (H p)) fun x=>kY (AG (H q)) fun y=>B2 400 x /\ B2 400 y /\ BX x y H Q
noncomputable def CL(x y:Int×Int×Int):Int:=x.1*y.1+x.2.1*y.2.1-x.2.2*y.2.2
noncomputable def lV:Sp:=fun vs H Q _=>∃(p q:Addr),vs=[.ref p,.ref q] /\ kY (wC (H p)) fun x=>kY (wC (H q)) fun y=>B3 2000 x /\ B3 2000 y /\ Q (.int (CL x y)) H
noncomputable def jL:Sp:=fun vs H Q _=>∃(p:Addr) (x y u v:Int),vs=[.ref p] /\ H p=some (.tup [.int x,.int y,.int u,.int v]) /\ x<u /\ y<v /\ Q .non H
noncomputable def rX(x y u v:Int)(z:P3):Bool:=decide (x*z.2.2<=z.1 /\ z.1<=u*z.2.2 /\ y*z.2.2<=z.2.1 /\ z.2.1<=v*z.2.2)
noncomputable def k7:Sp:=fun vs H Q _=>∃(p q:Addr) (x y u v:Int) (z:P3),vs=[.ref p,.ref q] /\ H p=some (.tup [.int x,.int y,.int u,.int v]) /\ H q=some (.tup [.int z.1,.int z.2.1,.int z.2.2]) /\ (Bd 2000 x /\ Bd 2000 y /\ Bd 2000 u /\ Bd 2000 v) /\ Bd 2000 z.2.2 /\ Q (.bl (rX x y u v z)) H
noncomputable def lT:Sp:=fun vs H Q _=>∃(p q:Addr) (x y u v a b:Int),vs=[.ref p,.ref q] /\ H p=some (.tup [.int x,.int y,.int u,.int v]) /\ H q=some (.tup [.int a,.int b]) /\ (Bd 2000 x /\ Bd 2000 y /\ Bd 2000 u /\ Bd 2000 v) /\ (x<=a /\ a<=u /\ y<=b /\ b<=v) /\ ∀H',Ext H H' ->Q (.bl true) H'
noncomputable def jS:Sp:=fun vs H Q _=>∃(l:Addr) (xs:List V),vs=[.ref l] /\ H l=some (.lst xs) /\ 0<xs.length /\ xs.length<=12 /\ Q .non H
noncomputable def oz(K:ao):Sp:=fun vs H Q _=>∃(b l:Addr) (x y u v:Int) (qs:List Addr) (rs:List P2),vs=[.ref b,.ref l] /\ SpOk H b l x y u v qs rs /\ ∀H',Ext H H' ->Q .non H'
noncomputable def JsV(js:List Nat):List V:=js.map fun j:Nat=>V.int (j:Int)
theorem sy{js:List Nat}{k:Nat}{w:V}(hk:(JsV js)[k]? =some w):∃j:Nat,js[k]? =some j /\ w= .int (j:Int):=by
 unfold JsV at hk;rw[au] at hk;cases e:js[k]? with
 |none=>rw[e] at hk;cases hk
 |some q=>rw[e] at hk;exact⟨q,rfl,(ba.inj hk).symm⟩
noncomputable def ny:Sp:=fun vs H Q _=>∃(l:Addr) (i:Nat) (xs:List V),vs=[.ref l,.int (i:Int)] /\ H l=some (.lst xs) /\ xs.length<=1000 /\ ∀D H',Ext H H' ->H D=none ->H' D=some (.lst (JsV (jo xs.length i))) ->Q (.ref D) H'
noncomputable def del(H:Hp)(D:Addr):Hp:=fun b=>if b=D then none else H b
theorem mJ{H:Hp}{D a:Addr}(h:a≠D):del H D a=H a:=if_neg h
theorem kb(H:Hp)(D:Addr):Ext (del H D) H:=fun b o h=>by
 unfold del at h;split at h
 ·cases h
 ·exact h
theorem vX{H:Hp}{D a:Addr}{xs ys:List V}(h:H a=some (.tup xs))(hD:H D=some (.lst ys)):del H D a=some (.tup xs):=(mJ (lI h hD (by intro z;cases z))).trans h
theorem wo(js:List Nat):JsV js=(js.map fun j:Nat=>(j:Int)).map V.int:=by
 unfold JsV;rw[dj];rfl
theorem kz(js:List Nat):(JsV js).length=js.length:=by
 unfold JsV;rw[ah]
theorem xC{js:List Nat}(h:js.Nodup):(js.map fun j:Nat=>(j:Int)).Nodup:=List.Pairwise.map _ (fun a b n e=>n (by omega)) h
theorem SqL.js{K:ao}{H:Hp}{t:Addr}{js:List Nat}(h:H t=some (.lst (JsV js))):SqL K H t ((js.map fun j:Nat=>(j:Int)).map V.int):=by
 rw[<-wo];exact SqL.of h
noncomputable def nu(K:ao):Sp:=fun vs H Q _=>∃(l t:Addr) (xs:List V) (lot:List Nat),vs=[.ref l,.ref t] /\ H l=some (.lst xs) /\ H t=some (.lst (JsV lot)) /\ lot.Nodup /\ 0<lot.length /\ lot.length<=900 /\ (∀j∈lot,j<xs.length) /\ ∀H',Ext H H' ->Q (.bl true) H'
noncomputable def km:Sp:=fun vs H Q _=>∃(p:Addr) (x y u v:Int),vs=[.ref p] /\ H p=some (.tup [.int x,.int y,.int u,.int v]) /\ x<u /\ y<v /\ ∀f c e qs H',Ext H H' ->NewF H f c e ->FldAt H' f c e qs (lH x y u v) ->Q (.ref f) H'
noncomputable def kH:Sp:=fun vs H Q _=>∃(p q:Addr) (h t:Int) (a b:P3),vs=[.ref p,.ref q,.int h,.int t] /\ H p=some (.tup [.int a.1,.int a.2.1,.int a.2.2]) /\ H q=some (.tup [.int b.1,.int b.2.1,.int b.2.2]) /\ B3 601 a /\ B3 601 b /\ Bd 3000 h /\ Bd 3000 t /\ a.2.2*t-b.2.2*h≠0 /\ ∀r,H r=none ->Q (.ref r) (upd H r (.tup [.int (je a b h t).1,.int (je a b h t).2.1,.int (je a b h t).2.2]))
theorem vT{l:List Vx}{i:Nat}{a b:Vx}(ha:l[i]? =some a)(hb:l[(i+1)%l.length]? =some b):(edges l)[i]? =some (a,b):=by
 have li:=(aa.mp ha).1
 unfold edges;rw[bG];refine⟨ha,?_⟩;unfold MC.rot
 by_cases h:i+1<l.length
 ·rw[cX h] at hb;rw[aN (by rw[aI];omega),cf,gR];exact hb
 ·have e:i+1=l.length:=by omega
  rw[e,gi] at hb;rw[aH (by rw[aI];omega),aI,show i-(l.length-1)=0 by omega,aY (by decide)];exact hb
theorem BK{m v:P3}(h1:B3 300 m)(h2:B3 601 v):Bd 3000 (ex m v):=(((h1.1.mul h2.1).add (h1.2.1.mul h2.2.1)).sub (h1.2.2.mul h2.2.2)).mono (by decide)
theorem xT(m:P3)(num:Int)(e:Vx×Vx):(emit m num e).length<=2:=by
 unfold emit;rw[aq];have h1:(if ex m e.1.1<0∨(ex m e.1.1=0 /\ ex m e.2.1<=0) then[e.1] else if ex m e.1.1=0 then[(e.1.1,m,num)] else[]).length<=1:=by
  split
  ·simp
  ·split<;>simp
 have h2:(if ex m e.1.1<0 /\ 0<ex m e.2.1 then[(je e.1.1 e.2.1 (ex m e.1.1) (ex m e.2.1),m,num)] else if 0<ex m e.1.1 /\ ex m e.2.1<0 then[(je e.1.1 e.2.1 (ex m e.1.1) (ex m e.2.1),e.1.2)] else[]).length<=1:=by
  split
  ·simp
  ·split<;>simp
 omega
theorem tI(m:P3)(num:Int):∀es:List (Vx×Vx),(es.flatMap (emit m num)).length<=2*es.length
 |[]=>ax _
 |e::es=>by
  have h1:=xT m num e
  have h2:=tI m num es
  rw[bB,aq,aV];omega
theorem xU(m:P3)(num:Int)(l:List Vx)(i:Nat)(h:l.length<=30):(((edges l).take i).flatMap (emit m num)).length<=60:=by
 have h1:=tI m num ((edges l).take i)
 rw[aF,lm] at h1;omega
theorem RwAt.setL{H:Hp}{ts:List Addr}{R:List Vx}{L:Addr}{xs ys:List V}(h:RwAt H ts R)(hL:H L=some (.lst xs)):RwAt (upd H L (.lst ys)) ts R:=⟨h.1,fun i t v a b=>by
 obtain⟨q,h1,h2⟩:=h.2 i t v a b
 exact⟨q,(i6 (lI h1 hL (by intro z;cases z))).trans h1,(i6 (lI h2 hL (by intro z;cases z))).trans h2⟩⟩
theorem uV{H H5:Hp}{L p q:Addr}{ts:List Addr}{R:List Vx}{v:Vx}(hL:H L=none)(eL:H5 L=some (.lst (ts.map V.ref)))(x:Ext H H5)(r:RwAt H5 ts R)(hp:H5 p=none)(hq:H5 q=some (.tup [.int v.1.1,.int v.1.2.1,.int v.1.2.2])):
  upd H5 p (.tup [.ref q,.int v.2.2]) L=some (.lst (ts.map V.ref)) /\ RwAt (upd (upd H5 p (.tup [.ref q,.int v.2.2])) L (.lst (ts.map V.ref++[.ref p]))) (ts++[p]) (R++[v]) /\ Ext H (upd (upd H5 p (.tup [.ref q,.int v.2.2])) L (.lst (ts.map V.ref++[.ref p]))):=by
 have e:=jf (o:= .tup [.ref q,.int v.2.2]) hp eL
 refine⟨e,?_,(x.then hp).set hL⟩;exact((r.ext (Ext.upd hp)).snoc iN (jf hp hq)).setL e
theorem mZ(ts:List Addr)(p:Addr):ts.map V.ref++[.ref p]=(ts++[p]).map V.ref:=by simp
noncomputable def rn(K:ao):Sp:=fun vs H Q _=>∃(c e x:Addr) (num:Int) (qs:List Addr) (l:List Vx) (m:P3),vs=[.ref c,.ref e,.ref x,.int num] /\ H c=some (.lst (qs.map V.ref)) /\ CsAt H qs (l.map (·.1)) /\ H e=some (.lst ((l.map (·.2.2)).map V.int)) /\ H x=some (.lst ((l.map fun v=>ex m v.1).map V.int)) /\ (∀v∈l,0<v.1.2.2 /\ B3 601 v.1) /\ B3 300 m /\ 0<l.length /\ l.length<=30 /\ ∀t ts H',Ext H H' ->H t=none ->H' t=some (.lst (ts.map V.ref)) ->RwAt H' ts (ju m num l) ->Q (.ref t) H'
theorem wl(a b:P3):mN a.1 a.2.1 a.2.2 b.1 b.2.1 b.2.2=decide (Ahd a b):=by
 unfold mN Ahd;split
 ·rename_i h
  exact decide_eq_decide.mpr (by omega)
 ·rename_i h
  exact decide_eq_decide.mpr (by omega)
noncomputable def kG(K:ao):Sp:=fun vs H Q _=>∃(t:Addr) (ts:List Addr) (R:List Vx),vs=[.ref t] /\ H t=some (.lst (ts.map V.ref)) /\ RwAt H ts R /\ (∀v∈R,0<v.1.2.2 /\ B3 601 v.1) /\ 0<R.length /\ R.length<=60 /\ ∀f c e qs l' H',Ext H H' ->NewF H f c e ->FldAt H' f c e qs l' ->Rot R l' ->(∀v∈R,∀u∈l'.head?,¬Ahd v.1 u.1) ->Q (.ref f) H'
noncomputable def sJ(K:ao):Sp:=fun vs H Q _=>∃(f ln:Addr) (num:Int) (c e:Addr) (qs:List Addr) (l:List Vx) (m:P3),vs=[.ref f,.ref ln,.int num] /\ FldAt H f c e qs l /\ H ln=some (.tup [.int m.1,.int m.2.1,.int m.2.2]) /\ Poly l /\ LnB 300 l /\ B3 300 m /\ l.length<=30 /\
 (∀H',Ext H H' ->(∀v∈l,0<=ex m v.1) ->(∃v∈l,0<ex m v.1) ->Q .non H') /\
 (∀f' c' e' qs' H',Ext H H' ->NewF H f' c' e' ->FldAt H' f' c' e' qs' l ->(∀v∈l,ex m v.1<=0) ->Q (.ref f') H') /\
 (∀f' c' e' qs' l' H',Ext H H' ->NewF H f' c' e' ->FldAt H' f' c' e' qs' l' ->(∃v∈l,0<ex m v.1) ->(∃v∈l,ex m v.1<0) ->Rot (ju m num l) l' ->(∀v∈ju m num l,∀u∈l'.head?,¬Ahd v.1 u.1) ->Q (.ref f') H')
noncomputable def mB(K:ao):Sp:=fun vs H Q _=>∃(f o c e:Addr) (ps:List Addr) (L:List Vx) (ts:List Addr) (cs:List Vx) (P:Nat ->List Vx ->Prop) (NN:Prop),vs=[.ref f,.ref o] /\ FldAt H f c e ps L /\ H o=some (.lst (ts.map V.ref)) /\ RwAt H ts cs /\ P 0 L /\
 (∀k w L',cs[k]? =some w ->P k L' ->Poly L' /\ LnB 300 L' /\ B3 300 w.1 /\ L'.length<=30 /\ ((∀v∈L',ex w.1 v.1<=0) ->P (k+1) L') /\ (∀l',(∃v∈L',0<ex w.1 v.1) ->(∃v∈L',ex w.1 v.1<0) ->Rot (ju w.1 w.2.2 L') l' ->(∀v∈ju w.1 w.2.2 L',∀u∈l'.head?,¬Ahd v.1 u.1) ->P (k+1) l') /\ ((∀v∈L',0<=ex w.1 v.1) ->(∃v∈L',0<ex w.1 v.1) ->NN)) /\
 (NN -> ∀H',Ext H H' ->Q .non H') /\ ∀f' c' e' ps' L' H',Ext H H' ->(NewF H f' c' e'∨(cs.length=0 /\ f'=f /\ c'=c /\ e'=e)) ->FldAt H' f' c' e' ps' L' ->P cs.length L' ->Q (.ref f') H'
noncomputable def BW(rs:List P2)(r:P2)(j:Nat):Vx:=(lnB r (rs.getD j (0,0)),lnB r (rs.getD j (0,0)),(j:Int))
theorem sv{rs:List P2}{r s:P2}{j:Nat}(h:rs[j]? =some s):BW rs r j=(lnB r s,lnB r s,(j:Int)):=by
 unfold BW;rw[aZ,h];rfl
theorem nodup_ne{α:Type}{rs:List α}(nd:rs.Nodup){i j:Nat}{r s:α}(hi:rs[i]? =some r)(hj:rs[j]? =some s)(ne:j≠i):r≠s:=fun z=>by
 subst z;have h1:=aa.mp hi
 have h2:=aa.mp hj
 exact ne ((b7 (h₀:=h2.1) (h₁:=h1.1) nd).mp (h2.2.trans h1.2.symm))
theorem xj{js:List Nat}(nd:js.Nodup){k j:Nat}(hj:js[k]? =some j):j∉js.take k:=fun z=>by
 obtain⟨k',hk'⟩:=bg z
 have lk:=(aa.mp hk').1
 rw[aF] at lk;rw[aY (by omega)] at hk';have h1:=aa.mp hj
 have h2:=aa.mp hk'
 have:=(b7 (h₀:=h1.1) (h₁:=h2.1) nd).mp (h1.2.trans h2.2.symm)
 omega
noncomputable def nA(K:ao):Sp:=fun vs H Q _=>∃(f l:Addr) (i:Nat) (o b:Addr) (x y u v:Int) (qs:List Addr) (rs:List P2) (c e:Addr) (ps:List Addr) (L:List Vx) (r:P2) (j0 js:List Nat),vs=[.ref f,.ref l,.int (i:Int),.ref o] /\ SpOk H b l x y u v qs rs /\ FldAt H f c e ps L /\ LandOk x y u v rs r j0 L /\ rs[i]? =some r /\ H o=some (.lst (JsV js)) /\ js.Nodup /\ j0.length+js.length<=12 /\ (∀j∈js,j<rs.length /\ j≠i /\ j∉j0) /\ (∀j∈j0,j≠i) /\
 ∀f' c' e' ps' L' H',Ext H H' ->(NewF H f' c' e'∨(js.length=0 /\ f'=f /\ c'=c /\ e'=e)) ->FldAt H' f' c' e' ps' L' ->LandOk x y u v rs r (j0++js) L' ->Q (.ref f') H'
noncomputable def lS(K:ao):Sp:=fun vs H Q _=>∃(b l:Addr) (i:Nat) (x y u v:Int) (qs:List Addr) (rs:List P2) (r:P2),vs=[.ref b,.ref l,.int (i:Int)] /\ SpOk H b l x y u v qs rs /\ rs[i]? =some r /\
 ∀f c e ps L H',Ext H H' ->NewF H f c e ->FldAt H' f c e ps L ->LandOk x y u v rs r (jo rs.length i) L ->Q (.ref f) H'
noncomputable def sx(H0 H:Hp)(fs:List Addr)(x y u v:Int)(rs:List P2):Prop:=∀(i:Nat) (f:Addr),fs[i]? =some f -> ∃c e ps L r,rs[i]? =some r /\ FldAt H f c e ps L /\ LandOk x y u v rs r (jo rs.length i) L /\ NewF H0 f c e
theorem FldAt.setL{H:Hp}{f c e:Addr}{ps:List Addr}{L:List Vx}(h:FldAt H f c e ps L){D:Addr}{ys:List V}(h1:c≠D)(h2:e≠D){xs:List V}(hD:H D=some (.lst xs)):FldAt (upd H D (.lst ys)) f c e ps L:=
 ⟨(i6 (lI h.at_ hD (by intro z;cases z))).trans h.at_,(i6 h1).trans h.cs,h.pt.setL hD,(i6 h2).trans h.es⟩
noncomputable def pj(K:ao):Sp:=fun vs H Q _=>∃(b l:Addr) (x y u v:Int) (qs:List Addr) (rs:List P2),vs=[.ref b,.ref l] /\ SpOk H b l x y u v qs rs /\ ∀t fs H',Ext H H' ->H t=none ->H' t=some (.lst (fs.map V.ref)) ->fs.length=rs.length ->sx H H' fs x y u v rs ->Q (.ref t) H'
noncomputable def kI(K:ao):Sp:=fun vs H Q _=>∃(b l t:Addr) (x y u v:Int) (qs:List Addr) (rs:List P2) (lot:List Nat),vs=[.ref b,.ref l,.ref t] /\ SpOk H b l x y u v qs rs /\ H t=some (.lst (JsV lot)) /\ lot.Nodup /\ 0<lot.length /\ lot.length<rs.length /\ (∀j∈lot,j<rs.length) /\ ∀H',Ext H H' ->Q .non H'
noncomputable def RowIs(H:Hp)(p:Addr)(z:Rw):Prop:=∃s e:Addr,H p=some (.tup [.ref s,.ref e,.int z.2.2.1,.int z.2.2.2]) /\ H s=some (.tup [.int z.1.1,.int z.1.2.1,.int z.1.2.2]) /\ H e=some (.tup [.int z.2.1.1,.int z.2.1.2.1,.int z.2.1.2.2])
noncomputable def wm(z:Rw):Prop:=tT z /\ B3 2000 z.1 /\ B3 2000 z.2.1
theorem RowIs.ext{H H':Hp}{p:Addr}{z:Rw}(h:RowIs H p z)(x:Ext H H'):RowIs H' p z:=by
 obtain⟨s,e,h1,h2,h3⟩:=h
 exact⟨s,e,x _ _ h1,x _ _ h2,x _ _ h3⟩
noncomputable def p3d(z:P3):PyData:= .tuple [.int z.1,.int z.2.1,.int z.2.2]
theorem mG{K:ao}{H:Hp}{t:Addr}{z:P3}(h:H t=some (.tup [.int z.1,.int z.2.1,.int z.2.2])):Rdy K H (.ref t) (p3d z):= .tup (SqT.of h) (.cons (.int _) (.cons (.int _) (.cons (.int _) .nil)))
theorem kA(z:P3):SeqAt.shaped (p3d z)=true:=by simp only[p3d,SeqAt.shaped,PyData.canLay0,PyData.canLayAll0,PyData.depth,PyData.depthAll]<;>decide
theorem vR(z w:P3):PyData.eqv (p3d z) (p3d w)=decide (z=w):=by
 refine(BL _ _ _ _ _ _).trans (decide_eq_decide.mpr ⟨fun h=>b9 h.1 (b9 h.2.1 h.2.2),fun h=>by rw[h];exact⟨rfl,rfl,rfl⟩⟩)
theorem mv(z w:P3):mN z.1 z.2.1 z.2.2 w.1 w.2.1 w.2.2=decide (Ahd z w):=by
 have e:decide (Ahd z w)=decide (z.1*w.2.2<w.1*z.2.2∨(z.1*w.2.2=w.1*z.2.2 /\ z.2.1*w.2.2<w.2.1*z.2.2)):=decide_eq_decide.mpr Iff.rfl
 rw[e];unfold mN;split
 ·rw[decide_eq_decide];omega
 ·rw[decide_eq_decide];omega
noncomputable def yX(K:ao):Sp:=fun vs H Q _=>∃(p q:Addr) (z z2:Rw),vs=[.ref p,.ref q] /\ RowIs H p z /\ RowIs H q z2 /\ wm z /\ wm z2 /\ Q (.bl (decide (EB z z2))) H
noncomputable def RwsAt(H:Hp)(ts:List Addr)(zs:List Rw):Prop:=ts.length=zs.length /\ ∀(i:Nat) (t:Addr) (z:Rw),ts[i]? =some t ->zs[i]? =some z ->RowIs H t z
theorem RwsAt.ext{H H':Hp}{ts:List Addr}{zs:List Rw}(h:RwsAt H ts zs)(x:Ext H H'):RwsAt H' ts zs:=⟨h.1,fun i t z a b=>(h.2 i t z a b).ext x⟩
theorem RwsAt.at{H:Hp}{ts:List Addr}{zs:List Rw}(h:RwsAt H ts zs){i:Nat}{t:Addr}(ht:ts[i]? =some t):∃z,zs[i]? =some z /\ RowIs H t z:=by
 have l:=(aa.mp ht).1
 obtain⟨z,e⟩:∃z,zs[i]? =some z:=⟨_,ag (by rw[<-h.1];exact l)⟩
 exact⟨z,e,h.2 i t z ht e⟩
theorem RwsAt.app{H:Hp}{us vs:List Addr}{rs ss:List Rw}(h:RwsAt H us rs)(g:RwsAt H vs ss):RwsAt H (us++vs) (rs++ss):=by
 refine⟨by rw[aq,aq,h.1,g.1],fun k q w a b=> ?_⟩
 by_cases hk:k<us.length
 ·rw[aN hk] at a;rw[aN (by rw[<-h.1];exact hk)] at b;exact h.2 k q w a b
 ·rw[aH (by omega)] at a;rw[aH (by rw[<-h.1];omega), <-h.1] at b;exact g.2 _ q w a b
theorem RwsAt.one{H:Hp}{p:Addr}{z:Rw}(h:RowIs H p z):RwsAt H [p] [z]:=⟨rfl,fun i t w a b=>by
 cases i with
 |zero=>cases a;cases b;exact h
 |succ i=>simp at a⟩
theorem RwsAt.take{H:Hp}{ts:List Addr}{zs:List Rw}(h:RwsAt H ts zs)(k:Nat):RwsAt H (ts.take k) (zs.take k):=by
 refine⟨by rw[aF,aF,h.1],fun i t z a b=> ?_⟩
 by_cases c:i<k
 ·rw[aY c] at a b;exact h.2 i t z a b
 ·rw[bF (by rw[aF];omega)] at a;cases a
theorem RwsAt.drop{H:Hp}{ts:List Addr}{zs:List Rw}(h:RwsAt H ts zs)(k:Nat):RwsAt H (ts.drop k) (zs.drop k):=by
 refine⟨by rw[aI,aI,h.1],fun i t z a b=> ?_⟩;rw[cf] at a b;exact h.2 _ t z a b
noncomputable def yM(ws:List Rw):Prop:=ws.Pairwise fun a b=>¬EB b a
theorem yW{ws:List Rw}{z:Rw}{k:Nat}(hs:yM ws)(lz:tT z)(lw:∀w∈ws,tT w)(hk:k<=ws.length)(up:∀w∈ws.drop k,EB z w)(dn:k=0∨∃w,ws[k-1]? =some w /\ ¬EB z w):yM (ws.take k++[z]++ws.drop k):=by
 have hs':=hs
 unfold yM at hs⊢;rw[<-cF k ws,dB] at hs;obtain⟨h1,h2,h3⟩:=hs
 have tk:∀a∈ws.take k,¬EB z a:=fun a ha=>by
  rcases dn with rfl|⟨w,hw,nb⟩
  ·simp at ha
  ·obtain⟨i,hi⟩:=bg ha
   have li:=(aa.mp hi).1
   rw[aF] at li;rw[aY (by omega)] at hi
   by_cases e:i=k-1
   ·subst e;rw[hi] at hw;cases hw;exact nb
   ·have p:=cp.mp hs' i (k-1) (by omega) (by omega) (by omega)
    rw[(aa.mp hi).2,(aa.mp hw).2] at p;exact EB.ntr (lw a (av hi)) (lw w (av hw)) lz p nb
 rw[dB,dB];refine⟨⟨h1,List.pairwise_singleton _ _,fun a ha b hb=> ?_⟩,h2,fun a ha b hb=> ?_⟩
 ·rw[bA.mp hb];exact tk a ha
 ·rcases aT.mp ha with g|g
  ·exact h3 a g b hb
  ·rw[bA.mp g];exact(up b hb).as lz (lw b (gu hb))
noncomputable def ly(K:ao)(C:Cz):Sp:=fun vs H Q _=>∃(l:Addr) (ts:List Addr) (zs:List Rw),vs=[.ref l,.ref C.edge_before] /\ H l=some (.lst (ts.map V.ref)) /\ RwsAt H ts zs /\ (∀z∈zs,wm z) /\ ts.length<=900 /\ ∀(D:Addr) (us:List Addr) (ws:List Rw) (H':Hp),Ext H H' ->H D=none ->H' D=some (.lst (us.map V.ref)) ->RwsAt H' us ws ->ws.Perm zs ->yM ws ->Q (.ref D) H'
theorem vL{k:Nat}(js:List Nat):inV (V.int (k:Int)) (JsV js)=decide (k∈js):=by
 induction js with
 |nil=>simp[JsV,inV]
 |cons j js ih=>
  have e:JsV (j::js)=V.int (j:Int)::JsV js:=rfl
  rw[e];unfold inV at ih⊢;rw[dR,ih]
  by_cases h:k=j
  ·subst h;simp[eqV]
  ·simp[eqV,h];intro q;exact absurd (by omega) h
theorem xK(js:List Nat):(JsV js).all qa=true:=by
 unfold JsV;rw[List.all_map,eO];exact fun _ _=>rfl
theorem zH{H G:Hp}{a:Addr}{o:HO}(h:upd H a o=G)(k:H a=none):Ext H G:=h▸Ext.upd k
theorem zI{H G:Hp}{a:Addr}{o:HO}(h:upd H a o=G):G a=some o:=h▸iN
theorem um{H H':Hp}{D:Addr}(x:Ext H H'):Ext (del H D) (del H' D):=fun b o h=>by
 unfold del at h⊢;split at h
 ·cases h
 ·rename_i c
  rw[if_neg c];exact x _ _ h
theorem tL(H:Hp)(D:Addr)(o:HO):Ext (del H D) (del (upd H D o) D):=fun b w h=>by
 unfold del at h⊢;split at h
 ·cases h
 ·rename_i c
  rw[if_neg c,i6 c];exact h
theorem FldAt.delD{H:Hp}{f c e D:Addr}{ps:List Addr}{L:List Vx}{xs:List V}(h:FldAt H f c e ps L)(hD:H D=some (.lst xs))(nc:c≠D)(ne:e≠D):FldAt (del H D) f c e ps L:=
 ⟨vX h.at_ hD,(mJ nc).trans h.cs,⟨h.pt.1,fun i q z a b=>vX (h.pt.2 i q z a b) hD⟩,(mJ ne).trans h.es⟩
theorem zO{rs:List U2}{lot:List Nat}{z:Rw}{n m:Nat}{r s:U2}(h:RowF rs lot z n m r s):tT z:=⟨⟨h.p1,h.g1⟩,h.p2,h.g2⟩
theorem qy{lot:List Nat}{Lf:Nat ->List Vx}{k:List Nat}{n:Nat}{L:List Vx}(hn:n∉k):jW lot (fun m=>if m=n then L else Lf m) (k++[n])=jW lot Lf k++rowsOf lot n L:=by
 unfold jW;rw[cu,bB,dG,aL];dsimp only;rw[if_pos rfl]
 congr 1
 rw[hV,hV]
 congr 1
 refine gC fun m hm=> ?_
 rw[if_neg (fun e=>hn (by rw[<-e];exact hm))]
theorem nQ{x y u v:Int}{rs:List U2}{Lf:Nat ->List Vx}{k:List Nat}{n:Nat}{L:List Vx}{r:U2}(h:ko x y u v rs Lf k)(hn:n∉k)(hr:rs[n]? =some r)(lo:LandOk x y u v rs r (jo rs.length n) L):ko x y u v rs (fun m=>if m=n then L else Lf m) (k++[n]):=fun m hm=>by
 rcases aT.mp hm with g|g
 ·obtain⟨r',h1,h2⟩:=h m g
  exact⟨r',h1,by dsimp only;rw[if_neg (fun e=>hn (by rw[<-e];exact g))];exact h2⟩
 ·rw[bA.mp g];exact⟨r,hr,by dsimp only;rw[if_pos rfl];exact lo⟩
theorem uD{L:List Vx}{k:Nat}{w:Vx}(hw:L[k]? =some w):∃w2,(L.drop 1++L.take 1)[k]? =some w2 /\ (qp L)[k]? =some (w.1,w2.1,w.2.2):=by
 have kl:=(aa.mp hw).1
 have ll:(MC.rot L).length=L.length:=by unfold MC.rot;rw[aq,aI,aF];omega
 obtain⟨w2,h2⟩:∃w2,(MC.rot L)[k]? =some w2:=⟨_,ag (by omega)⟩
 refine⟨w2,h2,?_⟩;unfold qp edges;rw[au,(bG (z:=(w,w2))).mpr ⟨hw,h2⟩];rfl
theorem CsAt.rot1{H:Hp}{qs:List Addr}{cs:List P3}(h:CsAt H qs cs):CsAt H (qs.drop 1++qs.take 1) (cs.drop 1++cs.take 1):=by
 have l:=h.1
 refine⟨by simp only[aq,aI,aF];omega,fun i q z a b=> ?_⟩
 by_cases hk:i<(qs.drop 1).length
 ·rw[aN hk,cf] at a;rw[aN (by rw[aI] at hk⊢;omega),cf] at b;exact h.2 _ q z a b
 ·rw[aH (by omega)] at a;rw[aH (by rw[aI] at hk⊢;omega),aI, <-l, <-aI] at b;have hi:=(aa.mp a).1
  rw[aF] at hi;rw[aY (by omega)] at a b;exact h.2 _ q z a b
theorem sD(L:List Vx):(qp L).length=L.length:=by
 unfold qp edges MC.rot;rw[ah,fi,aq,aI,aF];omega
theorem wR{x y u v:Int}{rs:List U2}(xu:x<u)(yv:y<v)(nd:rs.Nodup)(ins:∀s∈rs,x<=s.1 /\ s.1<=u /\ y<=s.2 /\ s.2<=v){lot:List Nat}{n:Nat}{r:U2}{L:List Vx}(hl:n∈lot)(hr:rs[n]? =some r)(h:LandOk x y u v rs r (jo rs.length n) L):∀z∈rowsOf lot n L,wm z:=fun z hz=>by
 obtain⟨m,s,a,b,f,he,ez,_⟩:=k8 xu yv nd ins hl hr h hz
 have ma:a∈L:=(bZ he).1
 have mb:b∈L:=(j8 _ _).mp (bZ he).2
 have c1:=mf h.poly h.lnb ma
 have c2:=mf h.poly h.lnb mb
 refine⟨zO f,?_,?_⟩
 ·rw[ez];exact⟨c1.1.mono (by decide),c1.2.1.mono (by decide),c1.2.2.mono (by decide)⟩
 ·rw[ez];exact⟨c2.1.mono (by decide),c2.2.1.mono (by decide),c2.2.2.mono (by decide)⟩
noncomputable def pf(K:ao)(C:Cz):Sp:=fun vs H Q _=>∃(b l t:Addr) (x y u v:Int) (qs:List Addr) (rs:List P2) (lot:List Nat),vs=[.ref b,.ref l,.ref t] /\ SpOk H b l x y u v qs rs /\ H t=some (.lst (JsV lot)) /\ lot.Nodup /\ 0<lot.length /\ lot.length<rs.length /\ (∀j∈lot,j<rs.length) /\ ∀(D:Addr) (us:List Addr) (ws:List Rw) (Lf:Nat ->List Vx) (H':Hp),Ext H H' ->H D=none ->H' D=some (.lst (us.map V.ref)) ->RwsAt H' us ws ->ws.Perm (jW lot Lf lot) ->yM ws ->ko x y u v rs Lf lot ->(∀z∈ws,wm z) ->us.length<=900 ->Q (.ref D) H'
noncomputable abbrev fdL(c:Addr)(n l:Int):List (Key×V):=[(Sum.inr "cells",.ref c),(Sum.inr "at",.int n),(Sum.inr "left",.int l)]
theorem xN(c:Addr)(n l:Int):ri (fdL c n l) (Sum.inr "cells")=some (.ref c):=rfl
theorem Ce(c:Addr)(n l:Int):ri (fdL c n l) (Sum.inr "at")=some (.int n):=rfl
theorem z9(c:Addr)(n l:Int):ri (fdL c n l) (Sum.inr "left")=some (.int l):=rfl
theorem xM(c:Addr)(n l m:Int):putK (fdL c n l) (Sum.inr "at") (.int m)=fdL c m l:=rfl
theorem ui(c:Addr)(n l m:Int):putK (fdL c n l) (Sum.inr "left") (.int m)=fdL c n m:=rfl
noncomputable def FD(c:Addr)(b:Nat)(H:Hp)(p:Addr):Prop:=∃(ns:List Int) (n:Nat) (l:Int),H p=some (.dK (fdL c n l)) /\ H c=some (.lst (ns.map V.int)) /\ ns.length<=63 /\ n<=b
structure DX(c:Addr)(b:Nat)(p:Addr)(H H':Hp):Prop where
 feed:FD c b H' p
 keep:∀q o,q≠p ->H q=some o ->H' q=some o
theorem DX.trans{e:Addr}{a b:Nat}{p:Addr}{H H1 H2:Hp}(x:DX e a p H H1)(y:DX e b p H1 H2):DX e b p H H2:=⟨y.feed,fun c o hc h=>y.keep c o hc (x.keep c o hc h)⟩
theorem DX.refl{e:Addr}{b:Nat}{p:Addr}{H:Hp}(h:FD e b H p):DX e b p H H:=⟨h,fun _ _ _ h=>h⟩
theorem FD.ext{e:Addr}{b:Nat}{p:Addr}{H H':Hp}(h:FD e b H p)(x:Ext H H'):FD e b H' p:=by
 obtain⟨ns,n,l,h1,h2,h3,h4⟩:=h
 exact⟨ns,n,l,x _ _ h1,x _ _ h2,h3,h4⟩
theorem FD.upd{e:Addr}{b:Nat}{p q:Addr}{H:Hp}{o:HO}(h:FD e b H p)(hq:H q=none):FD e b (L2.upd H q o) p:=h.ext (Ext.upd hq)
theorem DX.ext{e:Addr}{b:Nat}{p:Addr}{H H1 H2:Hp}(d:DX e b p H H1)(x:Ext H1 H2):DX e b p H H2:=⟨d.feed.ext x,fun q o hq e=>x _ _ (d.keep q o hq e)⟩
theorem DX.upd{e:Addr}{b:Nat}{p q:Addr}{H H1:Hp}{o:HO}(a:DX e b p H H1)(h:H1 q=none):DX e b p H (L2.upd H1 q o):=a.ext (Ext.upd h)
theorem FD.mono{e:Addr}{a b:Nat}{p:Addr}{H:Hp}(h:FD e a H p)(hab:a<=b):FD e b H p:=by
 obtain⟨ns,n,l,h1,h2,h3,h4⟩:=h
 exact⟨ns,n,l,h1,h2,h3,by omega⟩
theorem DX.mono{e:Addr}{a b:Nat}{p:Addr}{H H':Hp}(h:DX e a p H H')(hab:a<=b):DX e b p H H':=⟨h.feed.mono hab,h.keep⟩
theorem FD.ne{e:Addr}{b:Nat}{p t:Addr}{H:Hp}(h:FD e b H p)(ht:H t=none):t≠p:=by
 obtain⟨ns,n,l,h1,_⟩:=h
 rintro rfl;rw[h1] at ht;cases ht
theorem FD.nc{e:Addr}{b:Nat}{p t:Addr}{H:Hp}(h:FD e b H p)(ht:H t=none):t≠e:=by
 obtain⟨ns,n,l,h1,h2,_⟩:=h
 rintro rfl;rw[h2] at ht;cases ht
theorem FD.tup{e:Addr}{b:Nat}{H:Hp}{p q:Addr}{xs:List V}(f:FD e b H p)(h:H q=some (.tup xs)):q≠p:=by
 obtain⟨ns,n,l,h1,_⟩:=f
 exact lI h h1 (by intro z;cases z)
theorem FD.lst{e:Addr}{b:Nat}{H:Hp}{p q:Addr}{xs:List V}(f:FD e b H p)(h:H q=some (.lst xs)):q≠p:=by
 obtain⟨ns,n,l,h1,_⟩:=f
 exact lI h h1 (by intro z;cases z)
theorem FD.set{e:Addr}{b:Nat}{p D:Addr}{H:Hp}{o:HO}(f:FD e b H p)(h1:D≠p)(h2:D≠e):FD e b (L2.upd H D o) p:=by
 obtain⟨ns,n,l,g1,g2,r⟩:=f
 exact⟨ns,n,l,(i6 h1.symm).trans g1,(i6 h2.symm).trans g2,r⟩
theorem DX.set{e:Addr}{b b0:Nat}{p D:Addr}{H H1:Hp}{o:HO}(d:DX e b p H H1)(hD:H D= .none)(f:FD e b0 H p):DX e b p H (L2.upd H1 D o):=⟨d.feed.set (f.ne hD) (f.nc hD),fun q u hq e=>by rw[i6 (iY e hD)];exact d.keep q u hq e⟩
theorem DX.none{e:Addr}{b:Nat}{p t:Addr}{H H':Hp}(x:DX e b p H H')(h:H' t=none):H t=none:=by
 by_cases c:t=p
 ·obtain⟨ns,n,l,h1,_⟩:=x.feed
  rw[c,h1] at h;cases h
 ·cases q:H t with
  |none=>rfl
  |some o=>
   rw[x.keep t o c q] at h;cases h
noncomputable def pq(K:ao):Sp:=fun vs H Q _=>∃(a:Addr) (ns:List Int),vs=[.ref a] /\ SqL K H a (ns.map V.int) /\ ns.length<=63 /\ ∀p c H',Ext H H' ->H p=none ->FD c 0 H' p ->Q (.ref p) H'
noncomputable def jj:Sp:=fun vs H Q _=>∃(p:Addr) (m:Int) (c:Addr) (b:Nat),vs=[.ref p,.int m] /\ FD c b H p /\ b<=1000000 /\ 0<m /\ m<=100000 /\ ∀r H',0<=r ->r<m ->DX c (b+1) p H H' ->Q (.int r) H'
noncomputable def mV:Sp:=fun vs H Q _=>∃(p:Addr) (k:Nat) (c:Addr) (b:Nat),vs=[.ref p,.int k] /\ FD c b H p /\ b<=100000 /\ k<=5 /\ ∀(r:Int) H',0<=r ->r<100000^k ->DX c (b+k) p H H' ->Q (.int r) H'
noncomputable def mU:Sp:=fun vs H Q _=>∃(p c:Addr) (b:Nat),vs=[.ref p] /\ FD c b H p /\ b<=10000 /\ ∀t m r u H',DX c (b+25) p H H' ->H' t=some (.tup [.int m,.int r,.int u]) ->(1<=m /\ m<=10^20) ->(-(10^25)<=r /\ r<=10^25) ->(-(10^25)<=u /\ u<=10^25) ->Q (.ref t) H'
theorem yL{xs:List Int}{r:Int}(h0:0<=r)(h1:r<xs.length):∃x,atI (xs.map V.int) r=some (.int x) /\ x∈xs:=by
 obtain⟨n,rfl⟩:=fM h0
 have hn:n<xs.length:=by omega
 exact⟨xs[n],jr (by rw[au,ag hn];rfl),cI hn⟩
theorem atI_get{xs:List Int}{n:Nat}(h1:n<xs.length):∃x,atI (xs.map V.int) (n:Int)=some (.int x) /\ some x=xs[n]? :=
 ⟨xs[n],jr (by rw[au,ag h1];rfl),(ag h1).symm⟩
noncomputable def oY:Sp:=fun vs H Q _=>∃(p:Addr) (st:Int) (c:Addr) (b:Nat),vs=[.ref p,.int st] /\ FD c b H p /\ b<=10000 /\ 0<=st /\ st<=5 /\ ∀t x y H',DX c (b+2) p H H' ->H' t=some (.tup [.int x,.int y]) ->(0<=x /\ x<=12) ->(0<=y /\ y<=12) ->Q (.ref t) H'
noncomputable def dzX:List Int:=[10,9,8,5,2,1,0,1,2,5,8,9]
noncomputable def dzY:List Int:=[5,8,9,10,9,8,5,2,1,0,1,2]
noncomputable def DzOk(way:Int)(k:Nat)(r:P2):Prop:=if way=0 then r=((k:Int)%4,(k:Int) /4) else if way=1 then some r.1=dzX[k]? /\ some r.2=dzY[k]? else r.1=k /\ 0<=r.2 /\ r.2<=10
theorem DzOk.inj{way:Int}{i j:Nat}{r:P2}(hi:i<12)(hj:j<12)(h1:DzOk way i r)(h2:DzOk way j r):i=j:=by
 unfold DzOk at h1 h2;split at h1
 ·rename_i c
  rw[if_pos c] at h2;have:=h1.symm.trans h2
  simp only[dI.injEq] at this;omega
 ·rename_i c
  rw[if_neg c] at h2;split at h1
  ·rename_i c2
   rw[if_pos c2] at h2;have e1:=h1.1.symm.trans h2.1
   have e2:=h1.2.symm.trans h2.2
   have key:∀i j:Fin 12,dzX[i.val]? =dzX[j.val]? ->dzY[i.val]? =dzY[j.val]? ->i=j:=by unfold dzX dzY;decide
   have:=key ⟨i,hi⟩ ⟨j,hj⟩ e1 e2
   exact congrArg Fin.val this
  ·rename_i c2
   rw[if_neg c2] at h2;omega
theorem DzOk.bd{way:Int}{i:Nat}{r:P2}(hi:i<12)(h:DzOk way i r):(0<=r.1 /\ r.1<=12) /\ (0<=r.2 /\ r.2<=12):=by
 unfold DzOk at h;split at h
 ·subst h;dsimp only;omega
 ·split at h
  ·have key:∀i:Fin 12,∀x,some x=dzX[i.val]? ->0<=x /\ x<=12:=by
    intro i x hx;have m:=av hx.symm
    have bx:∀x∈dzX,0<=x /\ x<=12:=by unfold dzX;decide
    exact bx x m
   have key2:∀i:Fin 12,∀x,some x=dzY[i.val]? ->0<=x /\ x<=12:=by
    intro i x hx;have m:=av hx.symm
    have bx:∀x∈dzY,0<=x /\ x<=12:=by unfold dzY;decide
    exact bx x m
   exact⟨key ⟨i,hi⟩ _ h.1,key2 ⟨i,hi⟩ _ h.2⟩
  ·omega
theorem R2At.drop{H:Hp}{qs:List Addr}{rs:List P2}(h:R2At H qs rs)(k:Nat):R2At H (qs.drop k) (rs.drop k):=by
 refine⟨by rw[aI,aI,h.1],fun i q z h1 h2=> ?_⟩;rw[cf] at h1 h2;exact h.2 _ q z h1 h2
theorem R2At.append{H:Hp}{qs qs':List Addr}{rs rs':List P2}(h:R2At H qs rs)(h':R2At H qs' rs'):R2At H (qs++qs') (rs++rs'):=by
 refine⟨by rw[aq,aq,h.1,h'.1],fun i q z h1 h2=> ?_⟩
 by_cases hi:i<qs.length
 ·rw[aN hi] at h1;rw[aN (by rw[<-h.1];exact hi)] at h2;exact h.2 i q z h1 h2
 ·rw[aH (by omega)] at h1;rw[aH (by rw[<-h.1];omega), <-h.1] at h2;exact h'.2 _ q z h1 h2
theorem R2At.one{H:Hp}{q:Addr}{r:P2}(h:H q=some (.tup [.int r.1,.int r.2])):R2At H [q] [r]:=⟨rfl,fun i q' z h1 h2=>by
 match i,h1,h2 with
 |0,h1,h2=>cases h1;cases h2;exact h⟩
theorem R2At.setL{H:Hp}{qs:List Addr}{R:List P2}{L:Addr}{xs ys:List V}(h:R2At H qs R)(hL:H L=some (.lst xs)):R2At (upd H L (.lst ys)) qs R:=⟨h.1,fun i t v a b=>by
 have h1:=h.2 i t v a b
 exact(i6 (lI h1 hL (by intro z;cases z))).trans h1⟩
theorem R2At.dx{e:Addr}{b:Nat}{p:Addr}{H H':Hp}{qs:List Addr}{R:List P2}(h:R2At H qs R){b0:Nat}(f:FD e b0 H p)(d:DX e b p H H'):R2At H' qs R:=⟨h.1,fun i t v a c=>d.keep _ _ (f.tup (h.2 i t v a c)) (h.2 i t v a c)⟩
theorem rJ{rs:List P2}{P:Nat ->P2 ->Prop}(h:∀i r,rs[i]? =some r ->P i r)(inj:∀i j r,i<rs.length ->j<rs.length ->P i r ->P j r ->i=j):rs.Nodup:=by
 rw[fk,cp];intro i j hi hj hij e;have e1:rs[i]? =some rs[i]:=ag hi
 have e2:rs[j]? =some rs[i]:=by rw[ag hj,e]
 have:=inj i j _ hi hj (h i _ e1) (h j _ e2)
 omega
theorem vh{α:Type}{l:List α}(h:l.Nodup)(k:Nat):(l.drop k++l.take k).Nodup:=by
 have:(l.drop k++l.take k).Perm l:=by
  have:=gj (l₁:=l.drop k) (l₂:=l.take k)
  rwa [cF] at this
 exact this.nodup_iff.mpr h
noncomputable def mW:Sp:=fun vs H Q _=>∃(p c:Addr) (b:Nat),vs=[.ref p] /\ FD c b H p /\ b<=1000 /\ ∀D qs rs H',DX c (b+20) p H H' ->H D=none ->H' D=some (.lst (qs.map V.ref)) ->R2At H' qs rs ->rs.Nodup ->10<=rs.length ->rs.length<=12 ->(∀r∈rs,(0<=r.1 /\ r.1<=12) /\ (0<=r.2 /\ r.2<=12)) ->Q (.ref D) H'
theorem BC(rs:List P2)(r:P2):decide (Spec.countIn (t2d r) (rs.map t2d)≠0)=decide (r∈rs):=by
 rw[<-any_eqv_countIn _ _ (fun y hy=>by obtain⟨z,_,rfl⟩:=aC.mp hy;exact mY z r)];rw[fh,List.any_eq_true,decide_eq_true_eq];constructor
 ·rintro⟨y,hy,e⟩;obtain⟨z,hz,rfl⟩:=aC.mp hy
  have e':PyData.eqv (.tuple [.int z.1,.int z.2]) (.tuple [.int r.1,.int r.2])=true:=e
  rw[tH,decide_eq_true_eq] at e';have:z=r:=b9 e'.1 e'.2
  rw[<-this];exact hz
 ·intro h;refine⟨t2d r,aC.mpr ⟨r,h,rfl⟩,?_⟩;show PyData.eqv (.tuple [.int r.1,.int r.2]) (.tuple [.int r.1,.int r.2])=true
  rw[tH,decide_eq_true_eq];exact⟨rfl,rfl⟩
noncomputable def WBd(n:Int)(rs:List P2):Prop:=∀r∈rs,(0<=r.1 /\ r.1<=n) /\ (0<=r.2 /\ r.2<=12)
theorem WBd.snoc{n:Int}{rs:List P2}(h:WBd n rs){r:P2}(hr:(0<=r.1 /\ r.1<=n) /\ (0<=r.2 /\ r.2<=12)):WBd n (rs++[r]):=fun z hz=>by
 rcases aT.mp hz with q|q
 ·exact h z q
 ·rw[bA] at q;rw[q];exact hr
theorem WBd.mono{m n:Int}{rs:List P2}(h:WBd m rs)(hmn:m<=n):WBd n rs:=fun z hz=>by
 have:=h z hz
 omega
theorem nodup_snoc{α:Type}{rs:List α}(h:rs.Nodup){r:α}(hr:r∉rs):(rs++[r]).Nodup:=aX.mpr ⟨h,by simp,fun x hx y hy e=>by
 rw[bA] at hy;subst hy;subst e;exact hr hx⟩
noncomputable def mT(K:ao):Sp:=fun vs H Q _=>∃(p:Addr) (n0 m0:Nat) (c:Addr) (b:Nat),vs=[.ref p,.int (n0:Int),.int (m0:Int)] /\ FD c b H p /\ b<=500 /\ 1<=n0 /\ n0<=6 /\ n0<=m0 /\ m0<=12 /\ ∀D qs rs H',DX c (b+60) p H H' ->H D=none ->H' D=some (.lst (qs.map V.ref)) ->R2At H' qs rs ->rs.Nodup ->n0<=rs.length ->rs.length<=12 ->WBd 24 rs ->Q (.ref D) H'
theorem vP{ys:List V}(l:ys.length=4)(hv:∀v∈ys,∃x:Int,v= .int x /\ 0<=x /\ x<=7):∃e0 e1 e2 e3:Int,ys=[.int e0,.int e1,.int e2,.int e3] /\ (0<=e0 /\ e0<=7) /\ (0<=e1 /\ e1<=7) /\ (0<=e2 /\ e2<=7) /\ (0<=e3 /\ e3<=7):=by
 match ys,l with
 |[v1,v2,v3,v4],_=>
  obtain⟨e0,rfl,f0⟩:=hv v1 (by simp)
  obtain⟨e1,rfl,f1⟩:=hv v2 (by simp)
  obtain⟨e2,rfl,f2⟩:=hv v3 (by simp)
  obtain⟨e3,rfl,f3⟩:=hv v4 (by simp)
  exact⟨e0,e1,e2,e3,rfl,f0,f1,f2,f3⟩
theorem wO{k m:Int}(h1: -10<=k)(h2:k<=50)(m1:1<=m)(m2:m<=10^20): -(10^21)<=k*m /\ k*m<=50*10^20:=by
 constructor
 ·have:=cG h1 (show 0<=m by omega)
  omega
 ·have:=cG h2 (show 0<=m by omega)
  omega
theorem wM{k l m r:Int}(h:k<=l)(m1:1<=m):k*m+r<=l*m+r:=by
 have:=cG h (show 0<=m by omega)
 omega
theorem AZ{k l m r:Int}(h:k<l)(m1:1<=m):k*m+r<l*m+r:=by
 have:=cB h (show 0<m by omega)
 omega
theorem ym{k l m r:Int}(m1:1<=m)(h:k*m+r=l*m+r):k=l:=by
 have:k*m=l*m:=by omega
 exact bC (by omega) this
theorem xl{rs:List P2}(h:rs.Nodup){m r u:Int}(m1:1<=m):(rs.map fun z=>(z.1*m+r,z.2*m+u)).Nodup:=by
 rw[fk] at h⊢;rw[cS];refine h.imp fun {a b} ne e=>ne ?_
 simp only[dI.injEq] at e;exact b9 (ym m1 e.1) (ym m1 e.2)
noncomputable def mS(K:ao):Sp:=fun vs H Q _=>∃(p:Addr) (n0 m0:Nat) (c:Addr) (b:Nat),vs=[.ref p,.int (n0:Int),.int (m0:Int)] /\ FD c b H p /\ b<=400 /\ 1<=n0 /\ n0<=6 /\ n0<=m0 /\ m0<=12 /\
 ∀t bx l x y u v qs rs H',DX c (b+90) p H H' ->H' t=some (.tup [.ref bx,.ref l]) ->SpOk H' bx l x y u v qs rs ->n0<=rs.length ->(-(10^26)<=x /\ u<=10^26) ->(-(10^26)<=y /\ v<=10^26) ->Q (.ref t) H'
theorem Bz{n i:Nat}(h:i<n):ixN n (i:Int)=some i:=by
 unfold ixN;rw[if_pos (by omega)];simp[h]
noncomputable def ve(n:Nat)(lot:List Nat):List Nat:=(bH n).filter fun j=>decide (j∉lot)
theorem outOf_mem{n j:Nat}{lot:List Nat}:j∈ve n lot↔j<n /\ j∉lot:=by
 unfold ve;simp
theorem rD(n:Nat)(lot:List Nat):(ve n lot).Nodup:=List.Pairwise.filter _ fP
theorem vd{n:Nat}{lot:List Nat}(nd:lot.Nodup)(hlt:∀j∈lot,j<n):(ve n lot).length+lot.length=n:=by
 have p:(bH n).Perm (ve n lot++lot):=(List.perm_ext_iff_of_nodup fP (aX.mpr ⟨rD n lot,nd,fun a ha b hb e=>(outOf_mem.mp ha).2 (e▸hb)⟩)).mpr fun j=>by
  rw[io,aT,outOf_mem];constructor
  ·intro q
   by_cases m:j∈lot
   ·exact .inr m
   ·exact .inl ⟨q,m⟩
  ·rintro(q|q)
   ·exact q.1
   ·exact hlt j q
 have:=p.length_eq
 rw[cK,aq] at this;omega
theorem vp{n:Nat}{lot:List Nat}(nd:lot.Nodup)(hlt:∀j∈lot,j<n):lot.length<=n:=by
 have:=vd nd hlt
 omega
noncomputable def sH(K:ao):Sp:=fun vs H Q _=>∃(p:Addr) (n:Nat) (c:Addr) (b:Nat),vs=[.ref p,.int (n:Int)] /\ FD c b H p /\ b<=1000 /\ 2<=n /\ n<=12 /\ ∀(t:Addr) (lot:List Nat) (H':Hp),DX c (b+20) p H H' ->H t=none ->H' t=some (.lst (JsV lot)) ->lot.Nodup ->0<lot.length ->lot.length<n ->(∀j∈lot,j<n) ->Q (.ref t) H'
noncomputable def jE:Sp:=fun vs H Q _=>∃i:Int,vs=[.int i] /\ Q (.bl true) H
noncomputable def jM:Sp:=fun vs H Q _=>∃a b:Int,vs=[.int a,.int b] /\ Q (.int (aB a b:Int)) H
noncomputable def pk(K:ao):Sp:=fun vs H Q _=>∃(p:Addr) (z:P3),vs=[.ref p] /\ H p=some (.tup [.int z.1,.int z.2.1,.int z.2.2]) /\ 0<z.2.2 /\ aB (aB z.1 z.2.1) z.2.2=1 /\ ∀H',Ext H H' ->Q (.bl true) H'
noncomputable def sF:Sp:=fun vs H Q _=>∃(p q:Addr) (z:P3) (r:P2),vs=[.ref p,.ref q] /\ H p=some (.tup [.int z.1,.int z.2.1,.int z.2.2]) /\ H q=some (.tup [.int r.1,.int r.2]) /\ B3 2000 z /\ B2 2000 r /\ Q (.int (sq2 z r)) H
noncomputable def pd:Sp:=fun vs H Q _=>∃(p q r:Addr) (A B D:P3),vs=[.ref p,.ref q,.ref r] /\ H p=some (.tup [.int A.1,.int A.2.1,.int A.2.2]) /\ H q=some (.tup [.int B.1,.int B.2.1,.int B.2.2]) /\ H r=some (.tup [.int D.1,.int D.2.1,.int D.2.2]) /\ B3 2000 A /\ B3 2000 B /\ B3 2000 D /\ Q (.int (dt A B D)) H
noncomputable def jZ:Sp:=fun vs H Q _=>∃(p q:Addr),vs=[.ref p,.ref q] /\ kY (wC (H p)) fun x=>kY (wC (H q)) fun y=>B3 2000 x /\ B3 2000 y /\ Q (.bl (mN x.1 x.2.1 x.2.2 y.1 y.2.1 y.2.2)) H
theorem A5(i:Nat):(dE i true).map V.bl++[.bl true]= .bl true::(dE i true).map V.bl:=by
 rw[List.map_replicate, <-List.replicate_succ',cM]
theorem BB(i:Nat)(js:List Nat):inV (V.int (i:Int)) (JsV js)=decide (i∈js):=vL js
noncomputable def lW(K:ao):Sp:=fun vs H Q _=>∃(b l t p:Addr) (x y u v:Int) (qs:List Addr) (rs:List P2) (lot:List Nat) (z:Rw) (n m:Nat) (r s:P2),vs=[.ref l,.ref t,.ref p] /\ SpOk H b l x y u v qs rs /\ H t=some (.lst (JsV lot)) /\ lot.length<=12 /\ RowIs H p z /\ wm z /\ RowF rs lot z n m r s /\ ∀H',Ext H H' ->Q (.bl true) H'
noncomputable def nv(K:ao):Sp:=fun vs H Q _=>∃(p q:Addr) (z z2:Rw),vs=[.ref p,.ref q] /\ RowIs H p z /\ RowIs H q z2 /\ wm z /\ wm z2 /\ Q (.bl (decide (EB z z2))) H
theorem w4{α:Type}{L:List α}{k:Nat}{w2:α}(hk:k<L.length)(h:(L.drop 1++L.take 1)[k]? =some w2):L[(k+1)%L.length]? =some w2:=by
 by_cases c:k+1<L.length
 ·rw[aN (by rw[aI];omega),cf] at h;rw[cX c,gR];exact h
 ·have e:k+1=L.length:=by omega
  rw[aH (by rw[aI];omega),aI,aY (by omega)] at h;rw[e,gi];rw[show k-(L.length-1)=0 by omega] at h;exact h
noncomputable def ph(K:ao):Sp:=fun vs H Q _=>∃(g t:Addr) (HE:Hp) (fs:List Addr) (x y u v:Int) (rs:List P2) (lot:List Nat),vs=[.ref g,.ref t] /\ H g=some (.lst (fs.map V.ref)) /\ fs.length=rs.length /\ rs.length<=12 /\ sx HE H fs x y u v rs /\ H t=some (.lst (JsV lot)) /\ lot.Nodup /\ lot.length<=12 /\ (∀j∈lot,j<rs.length) /\
 ∀(D:Addr) (us:List Addr) (Lf:Nat ->List Vx) (H':Hp),Ext H H' ->H D=none ->H' D=some (.lst (us.map V.ref)) ->RwsAt H' us (jW lot Lf lot) ->ko x y u v rs Lf lot ->Q (.ref D) H'
theorem yo{K:ao}{H:Hp}:∀es:List Int,RdyAll K H (es.map V.int) (es.map PyData.int)
 |[]=> .nil
 |e::es=> .cons (.int e) (yo es)
theorem yD:∀es:List Int,PyData.canLayAll0 (es.map PyData.int)=true /\ PyData.depthAll (es.map PyData.int)=0
 |[]=>⟨rfl,by simp[PyData.depthAll]⟩
 |c::cs=>by
  obtain⟨a,b⟩:=yD cs
  constructor
  ·simp[PyData.canLayAll0,PyData.canLay0,a]
  ·simp[PyData.depthAll,PyData.depth,b]
theorem SpOk.dx{c:Addr}{b0 b1:Nat}{p:Addr}{H H':Hp}{b l:Addr}{x y u v:Int}{qs:List Addr}{rs:List P2}(h:SpOk H b l x y u v qs rs)(f:FD c b0 H p)(d:DX c b1 p H H'):SpOk H' b l x y u v qs rs:=
 ⟨d.keep _ _ (f.tup h.bx) h.bx,d.keep _ _ (f.lst h.sp) h.sp,h.at_.dx f d,h.xu,h.yv,h.ins,h.nd,h.n0,h.n12,h.sz⟩
theorem A6{K:ao}{H:Hp}{D:Addr}{js:List Nat}(h:H D=some (.lst (JsV js))):Rdy K H (.ref D) (.list ((js.map fun j:Nat=>(j:Int)).map PyData.int)):= .lst (SqL.of h) (by rw[wo];exact yo _)
theorem xQ(es:List Int):jQ (es.map PyData.int)=true:=kN _ (fun z=>by simp[jI]) _
theorem wQ(rs:List P2):jQ (rs.map t2d)=true:=kN _ (fun z=>by simp[t2d,jI,jQ]) _
noncomputable def hd2(rs:List P2)(lot:List Nat):PyData:= .list [.list (rs.map t2d),.list ((lot.map fun j:Nat=>(j:Int)).map PyData.int)]
theorem vN(rs:List P2)(lot:List Nat):jI (hd2 rs lot)=true:=by
 unfold hd2;simp only[jI,jQ,wQ,xQ,gI]
theorem oH(rs:List P2)(lot:List Nat):SeqAt.shaped (hd2 rs lot)=true:=by
 obtain⟨a,b⟩:=vC rs
 obtain⟨a1,b1⟩:=yD (lot.map fun j:Nat=>(j:Int))
 unfold SeqAt.shaped hd2;rw[b8,decide_eq_true_eq];refine⟨by simp only[PyData.canLay0,PyData.canLayAll0,a,a1,gI],?_⟩;simp only[PyData.depth,PyData.depthAll];omega
theorem yn{K:ao}{H:Hp}{h l t:Addr}{qs:List Addr}{rs:List P2}{lot:List Nat}(e:H h=some (.lst [.ref l,.ref t]))(e1:H l=some (.lst (qs.map V.ref)))(r:R2At H qs rs)(e2:H t=some (.lst (JsV lot))):Rdy K H (.ref h) (hd2 rs lot):=
 .lst (SqL.of e) (.cons (.lst (SqL.of e1) (sN r)) (.cons (A6 e2) .nil))
noncomputable def pH(H:Hp)(p:Addr):P3:=match H p with
 |some (.tup [.int a,.int b,.int c])=>(a,b,c)
 |_=>(0,0,0)
noncomputable def BH(H:Hp)(v:V):Rw4:=match v with
 | .ref t=>(match H t with
  |some (.tup [.ref p,.ref q,.int m,.int n])=>(pH H p,pH H q,m,n)
  |_=>((0,0,0),(0,0,0),0,0))
 |_=>((0,0,0),(0,0,0),0,0)
theorem rY{H:Hp}{t:Addr}{z:Rw}(h:RowIs H t z):BH H (.ref t)=z:=by
 obtain⟨p,q,h1,h2,h3⟩:=h
 show(match H t with|some (.tup [.ref p,.ref q,.int m,.int n])=>(pH H p,pH H q,m,n)|_=>((0,0,0),(0,0,0),0,0))=z
 rw[h1];show(pH H p,pH H q,z.2.2.1,z.2.2.2)=z
 unfold pH;rw[h2,h3]
theorem uW{H:Hp}{t:Addr}{z:Rw}(h:RowIs H t z):Av (BH H) (.ref t) (.ref t) H:=by
 have e:=rY h
 obtain⟨p,q,h1,h2,h3⟩:=h
 refine⟨t,p,q,rfl,?_,?_,?_⟩
 ·rw[e];exact h1
 ·rw[e];exact h2
 ·rw[e];exact h3
theorem yA:∀a b:List Int,a.length=b.length ->HT.lexLt a b=false ->HT.lexLt b a=false ->a=b
 |[],[],_,_,_=>rfl
 |[],_::_,h,_,_=>by simp at h
 |_::_,[],h,_,_=>by simp at h
 |x::a,y::b,h,h1,h2=>by
  rw[HT.lexLt_cons] at h1 h2
  by_cases e:x=y
  ·rw[if_pos e] at h1;rw[if_pos e.symm] at h2;rw[e,yA a b (by simpa using h) h1 h2]
  ·rw[if_neg e] at h1;rw[if_neg (Ne.symm e)] at h2;simp only[decide_eq_false_iff_not] at h1 h2;omega
theorem z8{a b:Rw4}(h:flR a=flR b):a=b:=by
 unfold flR l3 at h;simp only[ar,aS,cA.injEq,and_true] at h;obtain⟨h1,h2,h3,h4,h5,h6,h7,h8⟩:=h
 exact b9 (b9 h1 (b9 h2 h3)) (b9 (b9 h4 (b9 h5 h6)) (b9 h7 h8))
noncomputable def B4(ws:List Rw):Prop:=ws.Pairwise fun a b=>HT.lexLt (flR b) (flR a)=false
theorem wG{a b:List Rw}(h:a.Perm b)(ha:B4 a)(hb:B4 b):a=b:=List.Perm.eq_of_pairwise (fun x y _ _ h1 h2=>z8 (yA _ _ rfl h2 h1)) ha hb h
theorem qt{H:Hp}{us:List Addr}{ws:List Rw}{q:List Nat}(h:RwsAt H us ws)(s:kW (ltT (fun v=>flR (BH H v)) (us.map V.ref)) (us.map V.ref).length q):∃us' ws',q.map (atV (us.map V.ref))=us'.map V.ref /\ RwsAt H us' ws' /\ ws'.Perm ws /\ B4 ws':=by
 obtain⟨pm,pw⟩:=s
 have lw:=h.1
 rw[ah] at pm;have lt:∀i∈q,i<us.length:=fun i hi=>by simpa using pm.mem_iff.mp hi
 let z0:Rw:=((0,0,0),(0,0,0),0,0)
 have at':∀i,i<us.length ->atV (us.map V.ref) i= .ref (us.getD i 0) /\ RowIs H (us.getD i 0) (ws.getD i z0):=fun i hi=>by
  have e1:us[i]? =some (us.getD i 0):=by rw[aZ,ag hi];rfl
  have e2:ws[i]? =some (ws.getD i z0):=by rw[aZ,ag (by omega)];rfl
  refine⟨?_,h.2 i _ _ e1 e2⟩;unfold atV;rw[aZ,au,e1];rfl
 refine⟨q.map fun i=>us.getD i 0,q.map fun i=>ws.getD i z0,?_,⟨by simp,fun k t z a b=> ?_⟩,?_,?_⟩
 ·rw[dj];exact gC fun i hi=>(at' i (lt i hi)).1
 ·rw[au] at a b;cases e:q[k]? with
  |none=>rw[e] at a;cases a
  |some i=>
   rw[e] at a b;cases a;cases b;exact(at' i (lt i (av e))).2
 ·refine(pm.map _).trans ?_;have:(bH us.length).map (fun i=>ws.getD i z0)=ws:=by
   refine d7 fun i=> ?_
   rw[au]
   by_cases c:i<us.length
   ·rw[gB c];show some (ws.getD i z0)=_
    rw[aZ,ag (show i<ws.length by omega)];rfl
   ·rw[bF (by rw[cK];omega),bF (by omega)];rfl
  rw[this]
 ·unfold B4;rw[cS];refine pw.imp_of_mem fun {a b} ha hb hs=> ?_
  unfold SR.sl ltT at hs;rw[(at' a (lt a ha)).1,(at' b (lt b hb)).1] at hs;dsimp only at hs;rw[rY (at' a (lt a ha)).2,rY (at' b (lt b hb)).2] at hs;rcases hs with g|⟨g,_⟩
  ·exact vw _ _ g
  ·exact g
noncomputable def rwD(z:Rw):PyData:= .tuple [p3d z.1,p3d z.2.1,.int z.2.2.1,.int z.2.2.2]
theorem rA{K:ao}{H:Hp}:∀{us:List Addr} {ws:List Rw},RwsAt H us ws ->RdyAll K H (us.map V.ref) (ws.map rwD)
 |[],[],_=> .nil
 |[],_::_,h=>by simp[RwsAt] at h
 |_::_,[],h=>by simp[RwsAt] at h
 |t::us,z::ws,h=>by
  obtain⟨p,q,h1,h2,h3⟩:=h.2 0 t z rfl rfl
  exact .cons (.tup (SqT.of h1) (.cons (mG h2) (.cons (mG h3) (.cons (.int _) (.cons (.int _) .nil))))) (rA ⟨by simpa using h.1,fun i t z a b=>h.2 (i+1) t z a b⟩)
theorem vB:∀ws:List Rw,PyData.canLayAll0 (ws.map rwD)=true /\ PyData.depthAll (ws.map rwD)<=2
 |[]=>⟨rfl,by simp[PyData.depthAll]⟩
 |c::cs=>by
  obtain⟨a,b⟩:=vB cs
  constructor
  ·simp[rwD,p3d,PyData.canLayAll0,PyData.canLay0];exact a
  ·simp[rwD,p3d,PyData.depthAll,PyData.depth] at b⊢;omega
theorem oB(ws:List Rw):SeqAt.shaped (.list (ws.map rwD))=true:=by
 obtain⟨a,b⟩:=vB ws
 unfold SeqAt.shaped;rw[b8,decide_eq_true_eq];exact⟨by simp[PyData.canLay0,a],by simp[PyData.depth];omega⟩
theorem uT(ws:List Rw):jI (.list (ws.map rwD))=true:=by
 simp only[jI];exact kN _ (fun z=>by simp[rwD,p3d,jI,jQ]) _
theorem wU{rs:List P2}{lot:List Nat}{n:Nat}{r:P2}{L:List Vx}{x y u v:Int}(xu:x<u)(yv:y<v)(nd:rs.Nodup)(ins:∀s∈rs,x<=s.1 /\ s.1<=u /\ y<=s.2 /\ s.2<=v)(ln:lot.Nodup)(hlt:∀j∈lot,j<rs.length)(hl:n∈lot)(hr:rs[n]? =some r)(h:LandOk x y u v rs r (jo rs.length n) L):(rowsOf lot n L).length+lot.length<=rs.length:=by
 have cn:∀z∈rowsOf lot n L,∃m:Nat,z.2.2.2=(m:Int) /\ m<rs.length /\ m∉lot:=fun z hz=>by
  obtain⟨m,s,a,b,f,_⟩:=k8 xu yv nd ins hl hr h hz
  exact⟨m,f.em,(aa.mp f.hm).1,f.out⟩
 have dn:((rowsOf lot n L).map fun z=>z.2.2.2).Nodup:=by
  have e:(qp L).map (·.2.2)=nms L:=by
   unfold qp edges nms;rw[dj];have:(L.zip (MC.rot L)).map (fun e=>e.1.2.2)=((L.zip (MC.rot L)).map iC).map fun v=>v.2.2:=by rw[dj];rfl
   show(L.zip (MC.rot L)).map (fun e=>e.1.2.2)=_
   rw[this,gZ];unfold MC.rot;rw[aq,aI,aF];omega
  have hn:=h.nd
  rw[<-e,bS,cS] at hn;rw[bS,cS];unfold rowsOf;rw[fJ];refine hn.imp fun {a b} hab z hz z' hz'=> ?_
  unfold qg at hz hz';split at hz<;>split at hz'<;>first|(cases hz;done)|(cases hz';done)|(cases hz;cases hz';exact hab)
 have key:=vp (n:=rs.length) (lot:=((rowsOf lot n L).map fun z=>z.2.2.2.toNat)++lot) (aX.mpr ⟨?_,ln,?_⟩) (fun j hj=> ?_)
 ·rw[aq,ah] at key;exact key
 ·rw[bS,cS] at dn⊢;refine dn.imp_of_mem fun {a b} ha hb hab e=> ?_
  obtain⟨m,e1,_⟩:=cn a ha
  obtain⟨m',e2,_⟩:=cn b hb
  exact hab (by omega)
 ·intro j hj k hk e;obtain⟨z,hz,rfl⟩:=aC.mp hj
  obtain⟨m,e1,_,e3⟩:=cn z hz
  exact e3 (by rw[show m=z.2.2.2.toNat by omega,e];exact hk)
 ·rcases aT.mp hj with g|g
  ·obtain⟨z,hz,rfl⟩:=aC.mp g
   obtain⟨m,e1,e2,_⟩:=cn z hz
   omega
  ·exact hlt j g
theorem sL{rs:List P2}{lot:List Nat}{Lf:Nat ->List Vx}{x y u v:Int}(xu:x<u)(yv:y<v)(nd:rs.Nodup)(ins:∀s∈rs,x<=s.1 /\ s.1<=u /\ y<=s.2 /\ s.2<=v)(ln:lot.Nodup)(hlt:∀j∈lot,j<rs.length):∀{k:List Nat},(∀n∈k,n∈lot) ->ko x y u v rs Lf k ->(jW lot Lf k).length<=k.length*(rs.length-lot.length)
 |[],_,_=>by simp[jW]
 |n::k,sub,hL=>by
  obtain⟨r,hr,lo⟩:=hL n bJ
  have ih:=sL xu yv nd ins ln hlt (k:=k) (fun m hm=>sub m (aP _ hm)) (fun m hm=>hL m (aP _ hm))
  have o:=wU xu yv nd ins ln hlt (sub n bJ) hr lo
  unfold jW at ih⊢;rw[bB,aq,aV,Nat.succ_mul];omega
theorem BJ:∀a:Nat,a<13 ->a*(12-a)<64:=by decide
theorem y8{rs:List P2}{lot:List Nat}{Lf:Nat ->List Vx}{x y u v:Int}(xu:x<u)(yv:y<v)(nd:rs.Nodup)(ins:∀s∈rs,x<=s.1 /\ s.1<=u /\ y<=s.2 /\ s.2<=v)(n12:rs.length<=12)(ln:lot.Nodup)(hlt:∀j∈lot,j<rs.length)(hL:ko x y u v rs Lf lot):(jW lot Lf lot).length<64:=by
 have h:=sL xu yv nd ins ln hlt (fun n hn=>hn) hL
 have l:=vp ln hlt
 have:=BJ lot.length (by omega)
 have:=Nat.mul_le_mul_left lot.length (show rs.length-lot.length<=12-lot.length by omega)
 omega
end LW
namespace LW
open PySem L2 MA PyProof.Rows MC
section
variable {P:Program} {w:World} {K:ao} {mg:Str ->Option Value} {base:Heap}
theorem sc_divisor:FnScope ["one","other"] ["one","other"] (iL s_divisor):=⟨rfl,rfl,rfl,by decide+kernel,rfl,by decide+kernel,by decide+kernel⟩
theorem ok_divisor{C:Cz}{f:Addr}{fd:FuncData}(F:Fun K "divisor" "divisor" s_divisor f fd)(T:Txt K mg C):FnOk P w K mg base (CXE P w) 1 f fd ["one","other"] j3:=by
 refine okN F (k:=0) sc_divisor (fun vs H Q E h=> ?_) (fun cdv A outer s H vs Q E hr h=> ?_)
 ·obtain⟨a,b,rfl,_⟩:=h
  rfl
 ·obtain⟨a,b,rfl,h⟩:=h
  refine'⟨_,?main,?rest⟩
  case main=>
   refine' iO ?c1 ?c2
   case' c1=>refine' jc (i:=0) sc_divisor.nd rfl (aQ rfl) ?c3
   case' c3=>refine' iU m8 (by rfl) T.b_abs boot_abs ?c4
   case' c4=>exact iI (pvF 0) iK
   case' c2=>refine' iO ?c5 ?c6
   case' c5=>refine' jc (i:=1) sc_divisor.nd rfl (aQ rfl) ?c7
   case' c7=>refine' iU m8 (by rfl) T.b_abs boot_abs ?c8
   case' c8=>exact iI (pvF 1) iK
   case' c6=>refine' iO ?c9 ?c10
   case' c9=>refine' mX PassesOwn.never ?c11 ?c12
   case' c11=>exact iT lZ (pvF 1) iJ (iZ _)
   case' c12=>refine' iM ?c13
   case' c13=>refine' yr (i:=0) (j:=1) rfl sc_divisor.nd rfl rfl (by decide) rfl rfl ?c14 rfl
   case' c14=>refine' iI (pvF 1) ?c15
   case' c15=>exact iI (iS (OpR.f kD) (pvF 0) (pvF 1)) iK
   case' c10=>exact iM (i4 (pvF 0))
  case rest=>
   walk_at "ST"
   walk_at "RD"
   refine⟨fun m σ H'=>∃x y:Int,σ=[some (.int x),some (.int y)] /\ H'=H /\ 0<=x /\ 0<=y /\ aB x y=aB a b /\ m=y.toNat,⟨_,_,_,rfl,rfl,?_,?_,?_,rfl⟩,?_⟩
   ·show 0<=ab a
    rw[rg];omega
   ·show 0<=ab b
    rw[rg];omega
   ·show aB (ab a) (ab b)=_
    rw[rg,rg,mI,l6]
   ·rintro m σ H' ⟨x,y,rfl,rfl,hx,hy,hg,rfl⟩;walk_at "RD"
    by_cases hy0:y=0
    ·subst hy0;rw[if_neg (by simp)];have e:=gcd_zero hx
     rw[hg] at e;rw[e] at h;exact h
    ·rw[if_pos (by simpa using hy0)];have hp:0<y:=by omega
     refine⟨fun σ' H1=>∃x y':Int,σ'=[some (.int x),some (.int y')] /\ H1=H' /\ 0<=x /\ 0<=y' /\ aB x y'=aB a b /\ y'<y,?_,?_⟩
     ·rintro σ' H1 ⟨x,y',rfl,rfl,h1,h2,h3,h4⟩;exact⟨y'.toNat,by omega,x,y',rfl,rfl,h1,h2,h3,rfl⟩
     ·walk_at "RD"
      exact⟨hp,hy,cE _ hy0,by rw[tD hp];exact hg,cg _ hp⟩
theorem y9:FnScope ["number"] ["number"] (iL s_sign):=⟨rfl,rfl,rfl,by decide+kernel,rfl,by decide+kernel,by decide+kernel⟩
theorem ok_sign{C:Cz}{f:Addr}{fd:FuncData}(F:Fun K "sign" "sign" s_sign f fd)(T:Txt K mg C):FnOk P w K mg base (CXE P w) 1 f fd ["number"] oZ:=by
 refine okN F (k:=0) y9 (fun vs H Q E h=> ?_) (fun cdv A outer s H vs Q E hr h=> ?_)
 ·obtain⟨n,rfl,_⟩:=h
  rfl
 ·obtain⟨n,rfl,h⟩:=h
  refine'⟨_,?main,?rest⟩
  case main=>
   refine' iO ?c1 ?c2
   case' c1=>refine' jm ?c3 ?c4 i8
   case' c3=>exact iT (OpR.f0 mD) (pvF 0) iJ (iZ _)
   case' c4=>refine' iM ?c5
   case' c5=>refine' i4 ?c6
   case' c6=>exact u6 (UnR.f qo) iJ
   case' c2=>refine' iO ?c7 ?c8
   case' c7=>refine' jm ?c9 ?c10 i8
   case' c9=>exact iT (OpR.f0 mR) (pvF 0) iJ (iZ _)
   case' c10=>refine' iM ?c11
   case' c11=>exact i4 iJ
   case' c8=>refine' iM ?c12
   case' c12=>exact i4 iJ
  case rest=>
   walk_at "ST"
   walk_at "RD"
   unfold sgn at h;split
   ·rename_i z
    rw[if_pos z] at h;exact h
   ·rename_i z
    rw[if_neg z] at h;split
    ·rename_i z
     rw[if_pos z] at h;exact h
    ·rename_i z
     rw[if_neg z] at h;exact h
theorem sc_point_of:FnScope ["x","y","w","common"] ["x","y","w"] (iL s_point_of):=⟨rfl,rfl,rfl,by decide+kernel,rfl,by decide+kernel,by decide+kernel⟩
theorem ok_point_of{C:Cz}{f:Addr}{fd:FuncData}(F:Fun K "point_of" "point_of" s_point_of f fd)(T:Txt K mg C)(F_divisor:FnB P w K mg base (CXE P w) 1 "divisor" ["one","other"] j3)(F_sign:FnB P w K mg base (CXE P w) 1 "sign" ["number"] oZ):FnOk P w K mg base (CXE P w) 2 f fd ["x","y","w"] kF:=by
 refine okN F (k:=1) sc_point_of (fun vs H Q E h=> ?_) (fun cdv A outer s H vs Q E hr h=> ?_)
 ·obtain⟨x,y,u,rfl,_⟩:=h
  rfl
 ·obtain⟨x,y,u,rfl,h⟩:=h
  refine'⟨_,?main,?rest⟩
  case main=>
   refine' iO ?c1 ?c2
   case' c1=>refine' jm ?c3 ?c4 i8
   case' c3=>exact iT jD (pvF 2) iJ (iZ _)
   case' c4=>exact iM kK
   case' c2=>refine' iO ?c5 ?c6
   case' c5=>refine' jc (i:=3) ?c7 ?c8 ?c9 ?c10
   case c7=>exact sc_point_of.nd
   case c8=>exact rfl
   case c9=>exact(aQ rfl)
   case' c10=>refine' iS ?c11 ?c12 ?c13
   case c11=>exact(OpR.f iX)
   case' c12=>refine' i9 F_divisor (hr.mono (by decide)) rfl iV ?c14
   case' c14=>refine' iI ?c15 ?c16
   case' c15=>refine' i9 F_divisor (hr.mono (by decide)) rfl iV ?c17
   case' c17=>refine' iI (pvF 2) ?c18
   case' c18=>exact iI (pvF 0) iK
   case' c16=>exact iI (pvF 1) iK
   case' c13=>refine' i9 F_sign (hr.mono (by decide)) rfl iV ?c19
   case' c19=>exact iI (pvF 2) iK
   case' c6=>refine' iM ?c20
   case' c20=>refine' i4 ?c21
   case' c21=>refine' jk ?c22
   case' c22=>refine' iI (iS (OpR.f jT) (pvF 0) (pvF 3)) ?c23
   case' c23=>refine' iI (iS (OpR.f jT) (pvF 1) (pvF 3)) ?c24
   case' c24=>exact iI (iS (OpR.f jT) (pvF 2) (pvF 3)) iK
  case rest=>
   obtain⟨hw,hb,h⟩:=h
   walk_at "ST"
   rw[As]
   o_head ⟨j3,oZ,hw,rI⟩
   have hc:com x y u=(aB (aB u x) y:Int)*sgn u:=rfl
   rw[<-hc];have h1:com x y u≠0:=yJ hw
   have h2:Bd 9000 (com x y u):=by
    refine Bd.mono (m:=8000) ?_ (by decide);have:=(v8 x y u hw).2.2
    exact bP (gJ (by omega) (eN.mpr this)) hb
   refine⟨.inl (.inr ?_),h1,h2,h1,h2,h1,h2,by decide,fun p hp=>h p _ _ _ hp (nS hw)⟩;rcases uN u with e|e|e<;>rw[e]<;>decide
theorem pI:FnScope ["spot"] ["spot"] (iL s_spot_point):=⟨rfl,rfl,rfl,by decide+kernel,rfl,by decide+kernel,by decide+kernel⟩
theorem ok_spot_point{C:Cz}{f:Addr}{fd:FuncData}(F:Fun K "spot_point" "spot_point" s_spot_point f fd)(T:Txt K mg C):FnOk P w K mg base (CXE P w) 1 f fd ["spot"] jY:=by
 refine okN F (k:=0) pI (fun vs H Q E h=> ?_) (fun cdv A outer s H vs Q E hr h=> ?_)
 ·obtain⟨p,a,b,rfl,_⟩:=h
  rfl
 ·obtain⟨p,a,b,rfl,h⟩:=h
  refine'⟨_,?main,?rest⟩
  case main=>
   refine' iM ?c1
   case' c1=>refine' i4 ?c2
   case' c2=>refine' jk ?c3
   case' c3=>refine' iI ?c4 ?c5
   case' c4=>exact iW jg (pvF 0) iJ (fun _ _=>rfl)
   case' c5=>refine' iI ?c6 ?c7
   case' c6=>exact iW jg (pvF 0) iJ (fun _ _=>rfl)
   case' c7=>exact iI iJ iK
  case rest=>
   obtain⟨hp,h⟩:=h
   walk_at "ST"
   o_head ⟨hp⟩
   exact⟨by decide,h⟩
theorem sc_ahead:FnScope ["one","other","across"] ["one","other"] (iL s_ahead):=⟨rfl,rfl,rfl,by decide+kernel,rfl,by decide+kernel,by decide+kernel⟩
theorem ok_ahead{C:Cz}{f:Addr}{fd:FuncData}(F:Fun K "ahead" "ahead" s_ahead f fd)(T:Txt K mg C):FnOk P w K mg base (CXE P w) 1 f fd ["one","other"] lC:=by
 refine okN F (k:=0) sc_ahead (fun vs H Q E h=> ?_) (fun cdv A outer s H vs Q E hr h=> ?_)
 ·obtain⟨p,q,rfl,_⟩:=h
  rfl
 ·obtain⟨p,q,rfl,h⟩:=h
  refine'⟨_,?main,?rest⟩
  case main=>
   refine' iO ?c1 ?c2
   case' c1=>refine' jc (i:=2) ?c3 ?c4 ?c5 ?c6
   case c3=>exact sc_ahead.nd
   case c4=>exact rfl
   case c5=>exact(aQ rfl)
   case' c6=>refine' iS ?c7 ?c8 ?c9
   case c7=>exact(OpR.f0 jy)
   case' c8=>refine' iS (OpR.f iX) ?c10 ?c11
   case' c10=>exact iW jg (pvF 0) iJ (fun _ _=>rfl)
   case' c11=>exact iW jg (pvF 1) iJ (fun _ _=>rfl)
   case' c9=>refine' iS (OpR.f iX) ?c12 ?c13
   case' c12=>exact iW jg (pvF 1) iJ (fun _ _=>rfl)
   case' c13=>exact iW jg (pvF 0) iJ (fun _ _=>rfl)
   case' c2=>refine' iO ?c14 ?c15
   case' c14=>refine' jm ?c16 ?c17 i8
   case' c16=>exact iT lZ (pvF 2) iJ (iZ _)
   case' c17=>refine' iM ?c18
   case' c18=>refine' i4 ?c19
   case' c19=>exact j7 (OpR.f0 mD) (pvF 2) iJ (iZ _)
   case' c15=>refine' iM ?c20
   case' c20=>refine' i4 ?c21
   case' c21=>refine' j7 ?c22 ?c23 ?c24 ?c25
   case c22=>exact(OpR.f0 mD)
   case' c23=>refine' iS (OpR.f iX) ?c26 ?c27
   case' c26=>exact iW jg (pvF 0) iJ (fun _ _=>rfl)
   case' c27=>exact iW jg (pvF 1) iJ (fun _ _=>rfl)
   case' c24=>refine' iS (OpR.f iX) ?c28 ?c29
   case' c28=>exact iW jg (pvF 1) iJ (fun _ _=>rfl)
   case' c29=>exact iW jg (pvF 0) iJ (fun _ _=>rfl)
   case c25=>exact(iZ _)
  case rest=>
   obtain⟨⟨a,b,c⟩,hp,h⟩:=ja h
   obtain⟨⟨d,e,f⟩,hq,⟨b1,b2,b3⟩,⟨b4,b5,b6⟩,h⟩:=ja h
   replace hp:=mz hp
   replace hq:=mz hq
   dsimp only at hp hq b1 b2 b3 b4 b5 b6 h;walk_at "ST"
   o_head ⟨hp,hq,rI,rI⟩
   refine⟨(by walk_at "CM"),(by walk_at "CM"),?_⟩;unfold mN at h
   by_cases z:a*f-d*c=0
   ·rw[if_neg (by simpa using z)] at h;rw[if_neg (by simpa using z)];exact⟨(by walk_at "CM"),(by walk_at "CM"),h⟩
   ·rw[if_pos (by simpa using z)] at h;rw[if_pos (by simpa using z)];exact h
theorem sc_line_of:FnScope ["a","b","c","common"] ["a","b","c"] (iL s_line_of):=⟨rfl,rfl,rfl,by decide+kernel,rfl,by decide+kernel,by decide+kernel⟩
theorem ok_line_of{C:Cz}{f:Addr}{fd:FuncData}(F:Fun K "line_of" "line_of" s_line_of f fd)(T:Txt K mg C)(F_divisor:FnB P w K mg base (CXE P w) 1 "divisor" ["one","other"] j3):FnOk P w K mg base (CXE P w) 2 f fd ["a","b","c"] lA:=by
 refine okN F (k:=1) sc_line_of (fun vs H Q E h=> ?_) (fun cdv A outer s H vs Q E hr h=> ?_)
 ·obtain⟨a,b,c,rfl,_⟩:=h
  rfl
 ·obtain⟨a,b,c,rfl,h⟩:=h
  refine'⟨_,?main,?rest⟩
  case main=>
   refine' i7 ?c1 ?c2
   case' c1=>refine' jm ?c3 ?c4 ?c5
   case' c3=>refine' PW.pt ?c6
   case' c6=>refine' lF ?c7 ?c8
   case' c7=>exact iT jD (pvF 0) iJ (iZ _)
   case' c8=>refine' kx ?c9
   case' c9=>exact iT jD (pvF 1) iJ (iZ _)
   case' c4=>exact iM kK
   case c5=>exact i8
   case' c2=>refine' iO ?c10 ?c11
   case' c10=>refine' jc (i:=3) sc_line_of.nd rfl (aQ rfl) ?c12
   case' c12=>refine' i9 F_divisor (hr.mono (by decide)) rfl iV ?c13
   case' c13=>refine' iI ?c14 ?c15
   case' c14=>refine' i9 F_divisor (hr.mono (by decide)) rfl iV ?c16
   case' c16=>refine' iI (pvF 0) ?c17
   case' c17=>exact iI (pvF 1) iK
   case' c15=>exact iI (pvF 2) iK
   case' c11=>refine' iM ?c18
   case' c18=>refine' i4 ?c19
   case' c19=>refine' jk ?c20
   case' c20=>refine' iI (iS (OpR.f jT) (pvF 0) (pvF 3)) ?c21
   case' c21=>refine' iI (iS (OpR.f jT) (pvF 1) (pvF 3)) ?c22
   case' c22=>exact iI (iS (OpR.f jT) (pvF 2) (pvF 3)) iK
  case rest=>
   obtain⟨hn,⟨b1,b2,b3⟩,h⟩:=h
   walk_at "ST"
   refine⟨fun σ H'=>σ=[some (.int a),some (.int b),some (.int c),none] /\ H'=H,?_,?_⟩
   ·walk_at "RD"
    split
    ·rename_i ea
     split
     ·rename_i eb
      exact absurd ⟨ea,eb⟩ hn
     ·trivial
    ·trivial
   ·rintro σ H' ⟨rfl,rfl⟩
    o_head ⟨j3⟩
    obtain⟨hl,hne⟩:=rV (c:=c) hn
    have hb:Bd 9000 (aB (aB a b) c:Int):=by
     refine Bd.mono (m:=4000) ?_ (by decide);obtain⟨g,hg,ea,eb,ec,eg⟩:=hl.ex
     rw[<-eg]
     by_cases z:a=0
     ·have:b≠0:=fun z'=>hn ⟨z,z'⟩
      exact bP (gJ (by omega) (eN.mpr ⟨_,eb⟩)) b2
     ·exact bP (gJ (by omega) (eN.mpr ⟨_,ea⟩)) b1
    exact⟨hne,hb,hne,hb,hne,hb,by decide,fun p hp=>h p _ _ _ hp hl⟩
theorem sc_between:FnScope ["one","other","x","y","u","v"] ["one","other"] (iL s_between):=⟨rfl,rfl,rfl,by decide+kernel,rfl,by decide+kernel,by decide+kernel⟩
theorem ok_between{C:Cz}{f:Addr}{fd:FuncData}(F:Fun K "between" "between" s_between f fd)(T:Txt K mg C)(F_line_of:FnB P w K mg base (CXE P w) 2 "line_of" ["a","b","c"] lA):FnOk P w K mg base (CXE P w) 3 f fd ["one","other"] lB:=by
 refine okN F (k:=2) sc_between (fun vs H Q E h=> ?_) (fun cdv A outer s H vs Q E hr h=> ?_)
 ·obtain⟨p,q,rfl,_⟩:=h
  rfl
 ·obtain⟨p,q,rfl,h⟩:=h
  refine'⟨_,?main,?rest⟩
  case main=>
   refine' i7 ?c1 ?c2
   case' c1=>refine' jm (iT (rG (K:=K) rfl (AA hr)) (pvF 0) (pvF 1) (iZ _)) ?c3 i8
   case' c3=>exact iM kK
   case' c2=>refine' iO ?c4 ?c5
   case' c4=>refine' kB (pvF 0) ?c6
   case' c6=>refine' n6 (n:=2) rfl ?c7
   case' c7=>refine' iP (iQ (i:=2) sc_between.nd rfl (aQ rfl)) ?c8
   case' c8=>exact iP (iQ (i:=3) sc_between.nd rfl (aQ rfl)) jh
   case' c5=>refine' iO ?c9 ?c10
   case' c9=>refine' kB (pvF 1) ?c11
   case' c11=>refine' n6 (n:=2) rfl ?c12
   case' c12=>refine' iP (iQ (i:=4) sc_between.nd rfl (aQ rfl)) ?c13
   case' c13=>exact iP (iQ (i:=5) sc_between.nd rfl (aQ rfl)) jh
   case' c10=>refine' iM ?c14
   case' c14=>refine' i4 ?c15
   case' c15=>refine' i9 ?c16 ?c17 ?c18 ?c19 ?c20
   case c16=>exact F_line_of
   case c17=>exact(hr.mono (by decide))
   case c18=>exact rfl
   case c19=>exact iV
   case' c20=>refine' iI ?c21 ?c22
   case' c21=>exact iS (OpR.f iX) iJ (iS (OpR.f0 jy) (pvF 4) (pvF 2))
   case' c22=>refine' iI ?c23 ?c24
   case' c23=>exact iS (OpR.f iX) iJ (iS (OpR.f0 jy) (pvF 5) (pvF 3))
   case' c24=>refine' iI ?c25 iK
   case' c25=>refine' iS (OpR.f0 jy) ?c26 (iS (OpR.f iX) (pvF 3) (pvF 3))
   case' c26=>refine' iS (OpR.f0 jy) ?c27 (iS (OpR.f iX) (pvF 2) (pvF 2))
   case' c27=>exact iS (OpR.f0 jv) (iS (OpR.f iX) (pvF 4) (pvF 4)) (iS (OpR.f iX) (pvF 5) (pvF 5))
  case rest=>
   obtain⟨⟨a,b⟩,hp,h⟩:=ja h
   obtain⟨⟨d,e⟩,hq,⟨b1,b2⟩,⟨b3,b4⟩,hne,h⟩:=ja h
   replace hp:=uB hp
   replace hq:=uB hq
   dsimp only at hp hq b1 b2 b3 b4;walk_at "ST"
   have hn:¬(a=d /\ b=e):=fun z=>hne (by rw[z.1,z.2])
   refine⟨fun σ H'=>σ=[some (.ref p),some (.ref q),none,none,none,none] /\ H'=H,?_,?_⟩
   ·walk_at "RD"
    refine⟨_,_,qC hp,qC hq,rfl,rfl,?_⟩;rw[tH,decide_eq_false hn]
    o_head ⟨id⟩
   ·rintro σ H' ⟨rfl,rfl⟩
    o_head ⟨kj,ky,ou,hp,hq,lA,rI,rI,rI,rI,rI,rI⟩
    refine⟨.left (by decide) (by decide),.left (by decide) (by decide),(by walk_at "CM"),(by walk_at "CM"),(by walk_at "CM"),(by walk_at "CM"),fun z=>hn ⟨by omega,by omega⟩,?_,?_,?_,fun t x y z ht hl=> ?_⟩
    ·exact((Bd.of_le (n:=2) 2 (by decide) (by decide) (by decide)).mul (b3.sub b1)).mono (by decide)
    ·exact((Bd.of_le (n:=2) 2 (by decide) (by decide) (by decide)).mul (b4.sub b2)).mono (by decide)
    ·exact((((b3.mul b3).add (b4.mul b4)).sub (b1.mul b1)).sub (b2.mul b2)).mono (by decide)
    ·obtain⟨e1,e2,e3⟩:=rW hl
     have q:=h t ht
     unfold lnB at q;dsimp only at q;rw[<-e1, <-e2, <-e3] at q;exact q
theorem uS:FnScope ["line","point"] ["line","point"] (iL s_excess):=⟨rfl,rfl,rfl,by decide+kernel,rfl,by decide+kernel,by decide+kernel⟩
theorem ok_excess{C:Cz}{f:Addr}{fd:FuncData}(F:Fun K "excess" "excess" s_excess f fd)(T:Txt K mg C):FnOk P w K mg base (CXE P w) 1 f fd ["line","point"] lV:=by
 refine okN F (k:=0) uS (fun vs H Q E h=> ?_) (fun cdv A outer s H vs Q E hr h=> ?_)
 ·obtain⟨p,q,rfl,_⟩:=h
  rfl
 ·obtain⟨p,q,rfl,h⟩:=h
  refine'⟨_,?main,?rest⟩
  case main=>
   refine' iM ?c1
   case' c1=>refine' i4 ?c2
   case' c2=>refine' iS ?c3 ?c4 ?c5
   case c3=>exact(OpR.f0 jy)
   case' c4=>refine' iS ?c6 ?c7 ?c8
   case c6=>exact(OpR.f0 jv)
   case' c7=>refine' iS (OpR.f iX) ?c9 ?c10
   case' c9=>exact iW jg (pvF 0) iJ (fun _ _=>rfl)
   case' c10=>exact iW jg (pvF 1) iJ (fun _ _=>rfl)
   case' c8=>refine' iS (OpR.f iX) ?c11 ?c12
   case' c11=>exact iW jg (pvF 0) iJ (fun _ _=>rfl)
   case' c12=>exact iW jg (pvF 1) iJ (fun _ _=>rfl)
   case' c5=>refine' iS (OpR.f iX) ?c13 ?c14
   case' c13=>exact iW jg (pvF 0) iJ (fun _ _=>rfl)
   case' c14=>exact iW jg (pvF 1) iJ (fun _ _=>rfl)
  case rest=>
   obtain⟨⟨a,b,c⟩,hp,h⟩:=ja h
   obtain⟨⟨d,e,f⟩,hq,⟨b1,b2,b3⟩,⟨b4,b5,b6⟩,h⟩:=ja h
   replace hp:=mz hp
   replace hq:=mz hq
   dsimp only at hp hq b1 b2 b3 b4 b5 b6 h;walk_at "ST"
   o_head ⟨hp,hq,rI,rI⟩
   exact⟨(by walk_at "CM"),(by walk_at "CM"),(by walk_at "CM"),h⟩
theorem sc_check_box:FnScope ["box","x","y","u","v"] ["box"] (iL s_check_box):=⟨rfl,rfl,rfl,by decide+kernel,rfl,by decide+kernel,by decide+kernel⟩
theorem ok_check_box{C:Cz}{f:Addr}{fd:FuncData}(F:Fun K "check_box" "check_box" s_check_box f fd)(T:Txt K mg C):FnOk P w K mg base (CXE P w) 1 f fd ["box"] jL:=by
 refine okN F (k:=0) sc_check_box (fun vs H Q E h=> ?_) (fun cdv A outer s H vs Q E hr h=> ?_)
 ·obtain⟨p,x,y,u,v,rfl,_⟩:=h
  rfl
 ·obtain⟨p,x,y,u,v,rfl,h⟩:=h
  refine'⟨_,?main,?rest⟩
  case main=>
   refine' iO ?c1 ?c2
   case' c1=>refine' kB ?c3 ?c4
   case c3=>exact(pvF 0)
   case' c4=>refine' n6 (n:=4) rfl ?c5
   case' c5=>refine' iP (iQ (i:=1) sc_check_box.nd rfl (aQ rfl)) ?c6
   case' c6=>refine' iP (iQ (i:=2) sc_check_box.nd rfl (aQ rfl)) ?c7
   case' c7=>refine' iP (iQ (i:=3) sc_check_box.nd rfl (aQ rfl)) ?c8
   case' c8=>exact iP (iQ (i:=4) sc_check_box.nd rfl (aQ rfl)) jh
   case' c2=>refine' iM ?c9
   case' c9=>refine' jm ?c10 ?c11 i8
   case' c10=>refine' PW.pt ?c12
   case' c12=>refine' k9 (iT (OpR.f0 qJ) (pvF 1) (pvF 3) (iZ _)) ?c13
   case' c13=>exact kX (iT (OpR.f0 qJ) (pvF 2) (pvF 4) (iZ _))
   case' c11=>exact iM kK
  case rest=>
   obtain⟨hp,h1,h2,h⟩:=h
   walk_at "ST"
   o_head ⟨kj,ky,ou,hp⟩
   rw[if_neg (by omega),if_neg (by omega)];exact h
theorem sc_has_point:FnScope ["box","point","x","y","u","v","across","up","w"] ["box","point"] (iL s_has_point):=⟨rfl,rfl,rfl,by decide+kernel,rfl,by decide+kernel,by decide+kernel⟩
theorem ok_has_point{C:Cz}{f:Addr}{fd:FuncData}(F:Fun K "has_point" "has_point" s_has_point f fd)(T:Txt K mg C):FnOk P w K mg base (CXE P w) 1 f fd ["box","point"] k7:=by
 refine okN F (k:=0) sc_has_point (fun vs H Q E h=> ?_) (fun cdv A outer s H vs Q E hr h=> ?_)
 ·obtain⟨p,q,x,y,u,v,z,rfl,_⟩:=h
  rfl
 ·obtain⟨p,q,x,y,u,v,z,rfl,h⟩:=h
  refine'⟨_,?main,?rest⟩
  case main=>
   refine' iO ?c1 ?c2
   case' c1=>refine' kB ?c3 ?c4
   case c3=>exact(pvF 0)
   case' c4=>refine' n6 (n:=4) rfl ?c5
   case' c5=>refine' iP (iQ (i:=2) sc_has_point.nd rfl (aQ rfl)) ?c6
   case' c6=>refine' iP (iQ (i:=3) sc_has_point.nd rfl (aQ rfl)) ?c7
   case' c7=>refine' iP (iQ (i:=4) sc_has_point.nd rfl (aQ rfl)) ?c8
   case' c8=>exact iP (iQ (i:=5) sc_has_point.nd rfl (aQ rfl)) jh
   case' c2=>refine' iO ?c9 ?c10
   case' c9=>refine' kB (pvF 1) ?c11
   case' c11=>refine' n6 (n:=3) rfl ?c12
   case' c12=>refine' iP (iQ (i:=6) sc_has_point.nd rfl (aQ rfl)) ?c13
   case' c13=>refine' iP (iQ (i:=7) sc_has_point.nd rfl (aQ rfl)) ?c14
   case' c14=>exact iP (iQ (i:=8) sc_has_point.nd rfl (aQ rfl)) jh
   case' c10=>refine' iM ?c15
   case' c15=>refine' i4 ?c16
   case' c16=>refine' sR ?c17 ?c18
   case' c17=>exact sQ (OpR.f0 ua) (OpR.f0 ua) (iS (OpR.f iX) (pvF 2) (pvF 8)) (pvF 6) (iS (OpR.f iX) (pvF 4) (pvF 8))
   case' c18=>refine' sP ?c19
   case' c19=>exact sQ (OpR.f0 ua) (OpR.f0 ua) (iS (OpR.f iX) (pvF 3) (pvF 8)) (pvF 7) (iS (OpR.f iX) (pvF 5) (pvF 8))
  case rest=>
   obtain⟨hp,hq,⟨b1,b2,b3,b4⟩,b5,h⟩:=h
   walk_at "ST"
   o_head ⟨kj,ky,ou,hp,hq,yl,rI,rI,rI,rI,rI,rI⟩
   refine⟨.of b1 b5 (by decide) (by decide),?_⟩
   by_cases c1:x*z.2.2<=z.1
   ·rw[if_pos c1];refine⟨.of b3 b5 (by decide) (by decide),?_⟩
    by_cases c2:z.1<=u*z.2.2
    ·rw[if_pos c2];refine⟨.of b2 b5 (by decide) (by decide),?_⟩
     by_cases c3:y*z.2.2<=z.2.1
     ·rw[if_pos c3];refine⟨.of b4 b5 (by decide) (by decide),?_⟩;have e:rX x y u v z=decide (z.2.1<=v*z.2.2):=by
       unfold rX
       by_cases c4:z.2.1<=v*z.2.2
       ·rw[decide_eq_true c4,decide_eq_true ⟨c1,c2,c3,c4⟩]
       ·rw[decide_eq_false c4,decide_eq_false (fun q=>c4 q.2.2.2)]
      rw[<-e];exact h
     ·rw[if_neg c3];rw[show rX x y u v z=false from decide_eq_false fun q=>c3 q.2.2.1] at h;exact h
    ·rw[if_neg c2];rw[show rX x y u v z=false from decide_eq_false fun q=>c2 q.2.1] at h;exact h
   ·rw[if_neg c1];rw[show rX x y u v z=false from decide_eq_false fun q=>c1 q.1] at h;exact h
theorem uR:FnScope ["box","spot"] ["box","spot"] (iL s_in_box):=⟨rfl,rfl,rfl,by decide+kernel,rfl,by decide+kernel,by decide+kernel⟩
theorem ok_in_box{C:Cz}{f:Addr}{fd:FuncData}(F:Fun K "in_box" "in_box" s_in_box f fd)(T:Txt K mg C)(F_spot_point:FnB P w K mg base (CXE P w) 1 "spot_point" ["spot"] jY)(F_has_point:FnB P w K mg base (CXE P w) 1 "has_point" ["box","point"] k7):FnOk P w K mg base (CXE P w) 2 f fd ["box","spot"] lT:=by
 refine okN F (k:=1) uR (fun vs H Q E h=> ?_) (fun cdv A outer s H vs Q E hr h=> ?_)
 ·obtain⟨p,q,x,y,u,v,a,b,rfl,_⟩:=h
  rfl
 ·obtain⟨p,q,x,y,u,v,a,b,rfl,h⟩:=h
  refine'⟨_,?main,?rest⟩
  case main=>
   refine' iM ?c1
   case' c1=>refine' i4 ?c2
   case' c2=>refine' i9 F_has_point (hr.mono (by decide)) rfl iV ?c3
   case' c3=>refine' iI (pvF 0) ?c4
   case' c4=>refine' iI ?c5 iK
   case' c5=>refine' i9 F_spot_point (hr.mono (by decide)) rfl iV ?c6
   case' c6=>exact iI (pvF 1) iK
  case rest=>
   obtain⟨hp,hq,hb,hi,h⟩:=h
   walk_at "ST"
   o_head ⟨jY,hq,rI,rI⟩
   refine⟨a,b,rfl,fun t ht=> ?_⟩;refine⟨p,t,x,y,u,v,(a,b,1),rfl,jf ht hp,iN,hb,(Bd.lit (i:=1) (by decide) (by decide)),?_⟩;rw[show rX x y u v (a,b,1)=true from decide_eq_true (by dsimp only;rw[df,df,df,df];exact hi)];exact h _ (.upd ht)
theorem oh:FnScope ["spots"] ["spots"] (iL s_check_count):=⟨rfl,rfl,rfl,by decide+kernel,rfl,by decide+kernel,by decide+kernel⟩
theorem ok_check_count{C:Cz}{f:Addr}{fd:FuncData}(F:Fun K "check_count" "check_count" s_check_count f fd)(T:Txt K mg C):FnOk P w K mg base (CXE P w) 1 f fd ["spots"] jS:=by
 refine okN F (k:=0) oh (fun vs H Q E h=> ?_) (fun cdv A outer s H vs Q E hr h=> ?_)
 ·obtain⟨l,xs,rfl,_⟩:=h
  rfl
 ·obtain⟨l,xs,rfl,h⟩:=h
  refine'⟨_,?main,?rest⟩
  case main=>
   refine' iM ?c1
   case' c1=>refine' jm ?c2 ?c3 ?c4
   case' c2=>refine' PW.pt ?c5
   case' c5=>refine' k9 ?c6 ?c7
   case' c6=>refine' iT jD ?c8 iJ (iZ _)
   case' c8=>refine' iU jb (by rfl) T.b_len aW ?c9
   case' c9=>exact iI (pvF 0) iK
   case' c7=>refine' kX ?c10
   case' c10=>refine' iT (OpR.f0 mR) ?c11 (xi rfl T.n_MOST_SPOTS) (iZ _)
   case' c11=>refine' iU jb (by rfl) T.b_len aW ?c12
   case' c12=>exact iI (pvF 0) iK
   case' c3=>exact iM kK
   case c4=>exact i8
  case rest=>
   obtain⟨hl,h0,h12,h⟩:=h
   walk_at "ST"
   o_head ⟨hl⟩
   rw[if_neg (by omega),if_neg (by omega)];exact h
theorem sc_check_box_and_spots:FnScope ["box","spots","number","spot"] ["box","spots"] (iL s_check_box_and_spots):=⟨rfl,rfl,rfl,by decide+kernel,rfl,by decide+kernel,by decide+kernel⟩
theorem ok_check_box_and_spots{C:Cz}{f:Addr}{fd:FuncData}(F:Fun K "check_box_and_spots" "check_box_and_spots" s_check_box_and_spots f fd)(T:Txt K mg C)(F_in_box:FnB P w K mg base (CXE P w) 2 "in_box" ["box","spot"] lT)(F_check_count:FnB P w K mg base (CXE P w) 1 "check_count" ["spots"] jS)(F_check_box:FnB P w K mg base (CXE P w) 1 "check_box" ["box"] jL):FnOk P w K mg base (CXE P w) 3 f fd ["box","spots"] (oz K):=by
 refine okN F (k:=2) sc_check_box_and_spots (fun vs H Q E h=> ?_) (fun cdv A outer s H vs Q E hr h=> ?_)
 ·obtain⟨b,l,x,y,u,v,qs,rs,rfl,_⟩:=h
  rfl
 ·obtain⟨b,l,x,y,u,v,qs,rs,rfl,h⟩:=h
  refine'⟨_,?main,?rest⟩
  case main=>
   refine' iO ?c1 ?c2
   case' c1=>refine' jx ?c3
   case' c3=>refine' i9 F_check_box (hr.mono (by decide)) rfl iV ?c4
   case' c4=>exact iI (pvF 0) iK
   case' c2=>refine' iO ?c5 ?c6
   case' c5=>refine' jx ?c7
   case' c7=>refine' i9 F_check_count (hr.mono (by decide)) rfl iV ?c8
   case' c8=>exact iI (pvF 1) iK
   case' c6=>refine' iM ?c9
   case' c9=>refine' j6 ?c10 ?c11 ?c12 ?c13 ?c14
   case c10=>exact PassesOwn.never
   case c11=>exact rfl
   case' c12=>refine' rC (K:=K) rfl rfl T.b_enumerate ?c15
   case' c15=>exact iI (pvF 1) iK
   case' c13=>refine' n6 (n:=2) rfl ?c16
   case' c16=>refine' iP (iQ (i:=2) sc_check_box_and_spots.nd rfl (aQ rfl)) ?c17
   case' c17=>exact iP (iQ (i:=3) sc_check_box_and_spots.nd rfl (aQ rfl)) jh
   case' c14=>refine' iM ?c18
   case' c18=>refine' jm ?c19 ?c20 ?c21
   case' c19=>refine' PW.pt ?c22
   case' c22=>refine' k9 ?c23 ?c24
   case' c23=>refine' lg ?c25
   case' c25=>refine' jP ?c26
   case' c26=>refine' i9 F_in_box (hr.mono (by decide)) rfl iV ?c27
   case' c27=>refine' iI (pvF 0) ?c28
   case' c28=>exact iI (pvF 3) iK
   case' c24=>refine' kX ?c29
   case' c29=>refine' iT (zB (K:=K) rfl (Cs hr)) (pvF 3) ?c30 (by with_unfolding_all rfl)
   case' c30=>exact j1 y4 (pvF 1) kM (kL (pvF 2))
   case' c20=>exact iM kK
   case c21=>exact i8
  case rest=>
   obtain⟨ok,h⟩:=h
   walk_at "ST"
   o_head ⟨jL,jS,rI,rI⟩
   have z:=ok.sz
   have xu:=ok.xu
   have yv:=ok.yv
   have b4:Bd 2000 x /\ Bd 2000 y /\ Bd 2000 u /\ Bd 2000 v:=⟨tS (by omega) (by omega) 2000,tS (by omega) (by omega) 2000,tS (by omega) (by omega) 2000,tS (by omega) (by omega) 2000⟩
   have lq:(qs.map V.ref).length=rs.length:=by rw[ah,ok.at_.1]
   refine⟨x,y,u,v,ok.bx,xu,yv,_,ok.sp,by rw[lq];exact ok.n0,by rw[lq];exact ok.n12,?_⟩;refine ni (fun a' H1=>a'=l /\ H1=H) ?_ ?_
   ·intro R hR;walk_at "RD"
    exact hR _ _ ⟨rfl,rfl⟩
   ·rintro _ _ ⟨rfl,rfl⟩;refine⟨qs.map V.ref,fun i σ H'=>∃o2 o3:Option V,σ=[some (.ref b),some (.ref _),o2,o3] /\ Ext _ H',⟨_,_,rfl,.refl _⟩,?_,?_,?_⟩
    ·rintro i σ H' _ ⟨o2,o3,rfl,x'⟩;exact SqL.of (x' _ _ ok.sp)
    ·rintro i w1 t σ H' hi ⟨o2,o3,rfl,x'⟩ ht;obtain⟨q,hq,rfl⟩:=jw hi
     obtain⟨r,hr1,hr2⟩:=ok.at_.at hq
     have xt:=x'.then (o:= .tup [.int (i:Int),.ref q]) ht
     have et:=iN (H:=H') (a:=t) (o:= .tup [.int (i:Int),.ref q])
     generalize upd H' t (.tup [.int (i:Int),.ref q])=H2 at xt et⊢;have ok2:=ok.ext xt
     have hin:=ok.ins r (av hr1)
     o_head ⟨kj,ky,ou,et,lT,rI,rI,rI,rI,rI,rI,rI⟩
     refine⟨_,_,_,_,ok2.bx,r.1,r.2,xt _ _ hr2,b4.1,b4.2.1,b4.2.2.1,b4.2.2.2,hin.1,hin.2.1,hin.2.2.1,hin.2.2.2,fun H3 x3=> ?_⟩;have ok3:=ok2.ext x3
     o_head ⟨ok3.sp⟩
     rw[qR];refine fun s1 h1=> ?_
     have ok4:=ok3.ext (Ext.upd (o:= .lst ((qs.map V.ref).take i)) h1)
     refine⟨t2d r,(rs.take i).map t2d,qC (jf h1 (x3 _ _ (xt _ _ hr2))),.lst (xs:=(qs.take i).map V.ref) (SqL.of ?_) (sN (ok4.at_.take i)),qw r,qx _,?_,?_⟩
     ·rw[iN,cO]
     ·intro y hy;obtain⟨z',_,rfl⟩:=aC.mp hy
      exact mY z' r
     ·rw[uc ok.nd hr1];walk_at "RD"
      exact xt.trans (x3.then h1)
    ·rintro σ H' ⟨o2,o3,rfl,x'⟩;exact h _ x'
theorem qz:FnScope ["spots","number"] ["spots","number"] (iL s_others_of):=⟨rfl,rfl,rfl,by decide+kernel,rfl,by decide+kernel,by decide+kernel⟩
theorem ok_others_of{C:Cz}{f:Addr}{fd:FuncData}(F:Fun K "others_of" "others_of" s_others_of f fd)(T:Txt K mg C):FnOk P w K mg base (CXE P w) 1 f fd ["spots","number"] ny:=by
 refine okN F (k:=0) qz (fun vs H Q E h=> ?_) (fun cdv A outer s H vs Q E hr h=> ?_)
 ·obtain⟨l,i,xs,rfl,_⟩:=h
  rfl
 ·obtain⟨l,i,xs,rfl,h⟩:=h
  refine'⟨_,?main,?rest⟩
  case main=>
   refine' iM ?c1
   case' c1=>refine' i4 ?c2
   case' c2=>refine' pO (CScope.of_ok (dsc:=iL s_others_of) (N0:=["spots","number"]) (N:=["other","number"]) (k:=1) (js:=[1]) rfl rfl (by decide+kernel)) rfl ?c3 ?c4 ?c5 (fun _ _ _ _ _ _=>(pvF 0))
   case' c3=>refine' jJ rfl T.b_range ?c6
   case' c6=>refine' iI ?c7 iK
   case' c7=>refine' iU jb (by rfl) T.b_len aW ?c8
   case' c8=>exact iI (pvF 0) iK
   case' c4=>intro _ _ _ _ _ _;exact(iQ (i:=0) (by show bS (["other","number"]:List Str);decide+kernel) rfl (aQ rfl))
   case' c5=>intro _ _ _ _ _ _;exact(sO (iT lZ (pvF 0) (pvF 1) (iZ _)))
  case rest=>
   obtain⟨hl,hn,h⟩:=h
   walk_at "ST"
   walk_at "RD"
   refine lP xs.length (fun R hR=>by o_head ⟨hl⟩;exact hR) (by omega) (fun D k ys H'=>ys=JsV (jo k i) /\ H' D=some (.lst ys) /\ Ext H H') ?_ ?_ ?_ ?_
   ·intro D hD;exact⟨rfl,iN,.upd hD⟩
   ·rintro D k ys H1 _ ⟨rfl,e1,x1⟩;refine⟨e1,?_⟩;unfold JsV;rw[ah];exact kO k i
   ·rintro D k ys H1 hD hk ⟨rfl,e1,x1⟩;walk_at "RD"
    rw[qH]
    by_cases c:k=i
    ·rw[if_neg (fun z=>z (by omega)),if_neg (by omega)];exact⟨rfl,e1,x1⟩
    ·rw[if_pos (by omega),if_pos (by omega)];refine⟨e1,?_,x1.set hD⟩;unfold JsV;rw[ay,bR];rfl
   ·rintro D ys H1 hD ⟨rfl,e1,x1⟩;exact h D H1 x1 hD e1
theorem pJ:FnScope ["spots","numbers"] ["spots","numbers"] (iL s_are_unlike):=⟨rfl,rfl,rfl,by decide+kernel,rfl,by decide+kernel,by decide+kernel⟩
theorem ok_are_unlike{C:Cz}{f:Addr}{fd:FuncData}(F:Fun K "are_unlike" "are_unlike" s_are_unlike f fd)(T:Txt K mg C):FnOk P w K mg base (CXE P w) 1 f fd ["spots","numbers"] (nu K):=by
 refine okN F (k:=0) pJ (fun vs H Q E h=> ?_) (fun cdv A outer s H vs Q E hr h=> ?_)
 ·obtain⟨l,t,xs,lot,rfl,_⟩:=h
  rfl
 ·obtain⟨l,t,xs,lot,rfl,h⟩:=h
  refine'⟨_,?main,?rest⟩
  case main=>
   refine' iO ?c1 ?c2
   case' c1=>refine' jm ?c3 ?c4 ?c5
   case' c3=>refine' PW.pt ?c6
   case' c6=>refine' k9 ?c7 ?c8
   case' c7=>refine' iT jD ?c9 iJ (iZ _)
   case' c9=>refine' iU jb (by rfl) T.b_len aW ?c10
   case' c10=>exact iI (pvF 1) iK
   case' c8=>refine' kX ?c11
   case' c11=>refine' iT lZ ?c12 ?c13 (iZ _)
   case' c12=>refine' iU wb (by rfl) T.b_len aW ?c14
   case' c14=>refine' iI ?c15 iK
   case' c15=>refine' jN (wa (K:=K) rfl rfl) (by rfl) T.b_set boot_set ?c16
   case' c16=>exact iI (pvF 1) iK
   case' c13=>refine' iU jb (by rfl) T.b_len aW ?c17
   case' c17=>exact iI (pvF 1) iK
   case' c4=>refine' iM ?c18
   case' c18=>exact i4 nL
   case c5=>exact i8
   case' c2=>refine' iM ?c19
   case' c19=>refine' i4 ?c20
   case' c20=>refine' sR ?c21 ?c22
   case' c21=>refine' j7 (OpR.f0 qJ) ?c23 iJ (iZ _)
   case' c23=>refine' iU (jU (K:=K) rfl rfl) (by rfl) T.b_min boot_min ?c24
   case' c24=>exact iI (pvF 1) iK
   case' c22=>refine' sP ?c25
   case' c25=>refine' j7 (OpR.f0 mD) ?c26 ?c27 (iZ _)
   case' c26=>refine' iU (kf (K:=K) rfl rfl) (by rfl) T.b_max boot_max ?c28
   case' c28=>exact iI (pvF 1) iK
   case' c27=>refine' iU jb (by rfl) T.b_len aW ?c29
   case' c29=>exact iI (pvF 0) iK
  case rest=>
   obtain⟨hl,ht,nd,l0,l9,hlt,h⟩:=h
   walk_at "ST"
   o_head ⟨ht,kz,rI,rI⟩
   rw[if_neg (by omega)];refine⟨t,_,rfl,SqL.js ht,by rw[ah];omega,fun p S hp=> ?_⟩;have fm:(firstMet (fun i=>(lot.map fun j:Nat=>(j:Int)).getD i 0) (lot.map fun j:Nat=>(j:Int)).length).length=lot.length:=(ow (xC nd)).trans (ah _)
   rw[fm];have x1:=Ext.upd (o:= .set S lot.length) hp
   refine⟨p,S,lot.length,rfl,iN,by omega,?_⟩
   o_head ⟨x1 _ _ ht,kz,rI,rI⟩
   refine⟨t,_,rfl,SqL.js (x1 _ _ ht),by rw[ah];exact l0,fun M mM _=> ?_⟩;obtain⟨j,_,rfl⟩:=aC.mp mM
   dsimp only;rw[if_pos (by omega)];refine⟨t,_,rfl,SqL.js (x1 _ _ ht),by rw[ah];exact l0,fun M2 mM2 _=> ?_⟩;obtain⟨j2,hj2,rfl⟩:=aC.mp mM2
   o_head ⟨x1 _ _ hl⟩
   rw[decide_eq_true (by have:=hlt j2 hj2;omega)];exact h _ x1
theorem sc_box_field:FnScope ["box","x","y","u","v"] ["box"] (iL s_box_field):=⟨rfl,rfl,rfl,by decide+kernel,rfl,by decide+kernel,by decide+kernel⟩
theorem ok_box_field{C:Cz}{f:Addr}{fd:FuncData}(F:Fun K "box_field" "box_field" s_box_field f fd)(T:Txt K mg C)(F_check_box:FnB P w K mg base (CXE P w) 1 "check_box" ["box"] jL):FnOk P w K mg base (CXE P w) 2 f fd ["box"] km:=by
 refine okN F (k:=1) sc_box_field (fun vs H Q E h=> ?_) (fun cdv A outer s H vs Q E hr h=> ?_)
 ·obtain⟨p,x,y,u,v,rfl,_⟩:=h
  rfl
 ·obtain⟨p,x,y,u,v,rfl,h⟩:=h
  refine'⟨_,?main,?rest⟩
  case main=>
   refine' iO ?c1 ?c2
   case' c1=>refine' jx ?c3
   case' c3=>refine' i9 F_check_box (hr.mono (by decide)) rfl iV ?c4
   case' c4=>exact iI (pvF 0) iK
   case' c2=>refine' iO ?c5 ?c6
   case' c5=>refine' kB ?c7 ?c8
   case c7=>exact(pvF 0)
   case' c8=>refine' n6 (n:=4) rfl ?c9
   case' c9=>refine' iP (iQ (i:=1) sc_box_field.nd rfl (aQ rfl)) ?c10
   case' c10=>refine' iP (iQ (i:=2) sc_box_field.nd rfl (aQ rfl)) ?c11
   case' c11=>refine' iP (iQ (i:=3) sc_box_field.nd rfl (aQ rfl)) ?c12
   case' c12=>exact iP (iQ (i:=4) sc_box_field.nd rfl (aQ rfl)) jh
   case' c6=>refine' iM ?c13
   case' c13=>refine' i4 ?c14
   case' c14=>refine' jk ?c15
   case' c15=>refine' iI ?c16 ?c17
   case' c16=>refine' jO ?c18
   case' c18=>refine' iI ?c19 ?c20
   case' c19=>refine' jk ?c21
   case' c21=>refine' iI (pvF 1) ?c22
   case' c22=>refine' iI (pvF 2) ?c23
   case' c23=>exact iI iJ iK
   case' c20=>refine' iI ?c24 ?c25
   case' c24=>refine' jk ?c26
   case' c26=>refine' iI (pvF 3) ?c27
   case' c27=>refine' iI (pvF 2) ?c28
   case' c28=>exact iI iJ iK
   case' c25=>refine' iI ?c29 ?c30
   case' c29=>refine' jk ?c31
   case' c31=>refine' iI (pvF 3) ?c32
   case' c32=>refine' iI (pvF 4) ?c33
   case' c33=>exact iI iJ iK
   case' c30=>refine' iI ?c34 iK
   case' c34=>refine' jk ?c35
   case' c35=>refine' iI (pvF 1) ?c36
   case' c36=>refine' iI (pvF 4) ?c37
   case' c37=>exact iI iJ iK
   case' c17=>refine' iI ?c38 ?c39
   case' c38=>refine' jO ?c40
   case' c40=>refine' iI ?c41 ?c42
   case' c41=>exact u6 (UnR.f qo) iJ
   case' c42=>refine' iI ?c43 ?c44
   case' c43=>exact u6 (UnR.f qo) iJ
   case' c44=>refine' iI ?c45 ?c46
   case' c45=>exact u6 (UnR.f qo) iJ
   case' c46=>refine' iI ?c47 iK
   case' c47=>exact u6 (UnR.f qo) iJ
   case c39=>exact iK
  case rest=>
   obtain⟨hp,h1,h2,h⟩:=h
   walk_at "ST"
   o_head ⟨jL⟩
   refine⟨_,_,_,_,hp,h1,h2,?_⟩
   o_head ⟨kj,ky,ou,hp⟩
   refine⟨by decide,fun q1 k1=>⟨by decide,fun q2 k2=>⟨by decide,fun q3 k3=>⟨by decide,fun q4 k4=>⟨by decide,fun c kc=>⟨by decide,fun e ke=>⟨by decide,fun t kt=> ?_⟩⟩⟩⟩⟩⟩⟩;have x4:=(((Ext.upd (o:= .tup [.int x,.int y,.int 1]) k1).then (o:= .tup [.int u,.int y,.int 1]) k2).then (o:= .tup [.int u,.int v,.int 1]) k3).then (o:= .tup [.int x,.int v,.int 1]) k4
   have x5:=x4.then (o:= .lst [.ref q1,.ref q2,.ref q3,.ref q4]) kc
   have x6:=x5.then (o:= .lst [.int (-1),.int (-2),.int (-3),.int (-4)]) ke
   refine h t c e [q1,q2,q3,q4] _ (x6.then kt) ⟨x6.none kt,x4.none kc,x5.none ke,iY iN ke⟩ ⟨iN,jf kt (jf ke iN),⟨rfl,fun i q z a b=> ?_⟩,jf kt iN⟩;have p1:=jf (o:= .tup [.ref c,.ref e]) kt (jf (o:= .lst [.int (-1),.int (-2),.int (-3),.int (-4)]) ke (jf (o:= .lst [.ref q1,.ref q2,.ref q3,.ref q4]) kc (jf (o:= .tup [.int x,.int v,.int 1]) k4 (jf (o:= .tup [.int u,.int v,.int 1]) k3 (jf (o:= .tup [.int u,.int y,.int 1]) k2 (iN (H:=H) (a:=q1) (o:= .tup [.int x,.int y,.int 1])))))))
   have p2:=jf (o:= .tup [.ref c,.ref e]) kt (jf (o:= .lst [.int (-1),.int (-2),.int (-3),.int (-4)]) ke (jf (o:= .lst [.ref q1,.ref q2,.ref q3,.ref q4]) kc (jf (o:= .tup [.int x,.int v,.int 1]) k4 (jf (o:= .tup [.int u,.int v,.int 1]) k3 (iN (a:=q2) (o:= .tup [.int u,.int y,.int 1]))))))
   have p3:=jf (o:= .tup [.ref c,.ref e]) kt (jf (o:= .lst [.int (-1),.int (-2),.int (-3),.int (-4)]) ke (jf (o:= .lst [.ref q1,.ref q2,.ref q3,.ref q4]) kc (jf (o:= .tup [.int x,.int v,.int 1]) k4 (iN (a:=q3) (o:= .tup [.int u,.int v,.int 1])))))
   have p4:=jf (o:= .tup [.ref c,.ref e]) kt (jf (o:= .lst [.int (-1),.int (-2),.int (-3),.int (-4)]) ke (jf (o:= .lst [.ref q1,.ref q2,.ref q3,.ref q4]) kc (iN (a:=q4) (o:= .tup [.int x,.int v,.int 1]))))
   match i,a,b with
   |0,a,b=>cases a;cases b;exact p1
   |1,a,b=>cases a;cases b;exact p2
   |2,a,b=>cases a;cases b;exact p3
   |3,a,b=>cases a;cases b;exact p4
   |i+4,a,b=>cases a
theorem rq:FnScope ["one","other","here","there"] ["one","other","here","there"] (iL s_crossing):=⟨rfl,rfl,rfl,by decide+kernel,rfl,by decide+kernel,by decide+kernel⟩
theorem ok_crossing{C:Cz}{f:Addr}{fd:FuncData}(F:Fun K "crossing" "crossing" s_crossing f fd)(T:Txt K mg C)(F_point_of:FnB P w K mg base (CXE P w) 2 "point_of" ["x","y","w"] kF):FnOk P w K mg base (CXE P w) 3 f fd ["one","other","here","there"] kH:=by
 refine okN F (k:=2) rq (fun vs H Q E h=> ?_) (fun cdv A outer s H vs Q E hr h=> ?_)
 ·obtain⟨p,q,hh,t,a,b,rfl,_⟩:=h
  rfl
 ·obtain⟨p,q,hh,t,a,b,rfl,h⟩:=h
  refine'⟨_,?main,?rest⟩
  case main=>
   refine' iM ?c1
   case' c1=>refine' i4 ?c2
   case' c2=>refine' i9 ?c3 ?c4 ?c5 ?c6 ?c7
   case c3=>exact F_point_of
   case c4=>exact(hr.mono (by decide))
   case c5=>exact rfl
   case c6=>exact iV
   case' c7=>refine' iI ?c8 ?c9
   case' c8=>refine' iS (OpR.f0 jy) ?c10 ?c11
   case' c10=>refine' iS (OpR.f iX) ?c12 (pvF 3)
   case' c12=>exact iW jg (pvF 0) iJ (fun _ _=>rfl)
   case' c11=>refine' iS (OpR.f iX) ?c13 (pvF 2)
   case' c13=>exact iW jg (pvF 1) iJ (fun _ _=>rfl)
   case' c9=>refine' iI ?c14 ?c15
   case' c14=>refine' iS (OpR.f0 jy) ?c16 ?c17
   case' c16=>refine' iS (OpR.f iX) ?c18 (pvF 3)
   case' c18=>exact iW jg (pvF 0) iJ (fun _ _=>rfl)
   case' c17=>refine' iS (OpR.f iX) ?c19 (pvF 2)
   case' c19=>exact iW jg (pvF 1) iJ (fun _ _=>rfl)
   case' c15=>refine' iI ?c20 iK
   case' c20=>refine' iS (OpR.f0 jy) ?c21 ?c22
   case' c21=>refine' iS (OpR.f iX) ?c23 (pvF 3)
   case' c23=>exact iW jg (pvF 0) iJ (fun _ _=>rfl)
   case' c22=>refine' iS (OpR.f iX) ?c24 (pvF 2)
   case' c24=>exact iW jg (pvF 1) iJ (fun _ _=>rfl)
  case rest=>
   obtain⟨hp,hq,⟨b1,b2,b3⟩,⟨b4,b5,b6⟩,bh,bt,hw,h⟩:=h
   walk_at "ST"
   o_head ⟨hp,hq,kF,rI⟩
   have bw:Bd 8000 (a.2.2*t-b.2.2*hh):=((b3.mul bt).sub (b6.mul bh)).mono (by decide)
   refine⟨.of b1 bt (by decide) (by decide),.of b4 bh (by decide) (by decide),.of b2 bt (by decide) (by decide),.of b5 bh (by decide) (by decide),.of b3 bt (by decide) (by decide),.of b6 bh (by decide) (by decide),hw,bw,fun r x1 y1 w1 hr' k1=> ?_⟩;have k2:=nS (x:=a.1*t-b.1*hh) (y:=a.2.1*t-b.2.1*hh) hw
   obtain⟨e1,e2,e3⟩:=isPt_same k1 k2 hw hw rfl rfl
   rw[e1,e2,e3];exact h r hr'
theorem sc_rest:FnScope ["corners","edges","excesses","number","left","at","corner","following","here","there"] ["corners","edges","excesses","number"] (iL s_rest):=⟨rfl,rfl,rfl,by decide+kernel,rfl,by decide+kernel,by decide+kernel⟩
theorem ok_rest{C:Cz}{f:Addr}{fd:FuncData}(F:Fun K "rest" "rest" s_rest f fd)(T:Txt K mg C)(F_crossing:FnB P w K mg base (CXE P w) 3 "crossing" ["one","other","here","there"] kH):FnOk P w K mg base (CXE P w) 4 f fd ["corners","edges","excesses","number"] (rn K):=by
 refine okN F (k:=3) sc_rest (fun vs H Q E h=> ?_) (fun cdv A outer s H vs Q E hr h=> ?_)
 ·obtain⟨c,e,x,num,qs,l,m,rfl,_⟩:=h
  rfl
 ·obtain⟨c,e,x,num,qs,l,m,rfl,h⟩:=h
  refine'⟨_,?main,?rest⟩
  case main=>
   refine' iO ?c1 ?c2
   case' c1=>refine' jc (i:=4) sc_rest.nd rfl (aQ rfl) ?c3
   case' c3=>exact jO iK
   case' c2=>refine' iO ?c4 ?c5
   case' c4=>refine' j6 ?c6 ?c7 ?c8 ?c9 ?c10
   case c6=>exact PassesOwn.never
   case c7=>exact rfl
   case' c8=>refine' rC (K:=K) rfl rfl T.b_enumerate ?c11
   case' c11=>exact iI (pvF 0) iK
   case' c9=>refine' n6 (n:=2) rfl ?c12
   case' c12=>refine' iP (iQ (i:=5) sc_rest.nd rfl (aQ rfl)) ?c13
   case' c13=>exact iP (iQ (i:=6) sc_rest.nd rfl (aQ rfl)) jh
   case' c10=>refine' i7 ?c14 ?c15
   case' c14=>refine' jc (i:=7) sc_rest.nd rfl (aQ rfl) ?c16
   case' c16=>refine' iS (OpR.f kD) ?c17 ?c18
   case' c17=>exact iS (OpR.f0 jv) (pvF 5) iJ
   case' c18=>refine' iU jb (by rfl) T.b_len aW ?c19
   case' c19=>exact iI (pvF 0) iK
   case' c15=>refine' i7 ?c20 ?c21
   case' c20=>exact jc (i:=8) sc_rest.nd rfl (aQ rfl) (iW jg (pvF 2) (pvF 5) (fun _ _=>rfl))
   case' c21=>refine' i7 ?c22 ?c23
   case' c22=>exact jc (i:=9) sc_rest.nd rfl (aQ rfl) (iW jg (pvF 2) (pvF 7) (fun _ _=>rfl))
   case' c23=>refine' i7 ?c24 ?c25
   case' c24=>refine' jm ?c26 ?c27 ?c28
   case' c26=>refine' PW.pt ?c29
   case' c29=>refine' k9 ?c30 ?c31
   case' c30=>exact iT (OpR.f0 mD) (pvF 8) iJ (iZ _)
   case' c31=>refine' kX ?c32
   case' c32=>refine' PW.pt ?c33
   case' c33=>refine' lF ?c34 ?c35
   case' c34=>exact iT jD (pvF 8) iJ (iZ _)
   case' c35=>refine' kx ?c36
   case' c36=>exact iT (OpR.f0 ua) (pvF 9) iJ (iZ _)
   case' c27=>refine' iM ?c37
   case' c37=>refine' jx ?c38
   case' c38=>refine' pe_app (pvF 4) ?c39
   case' c39=>refine' iI ?c40 iK
   case' c40=>refine' jk ?c41
   case' c41=>refine' iI (pvF 6) ?c42
   case' c42=>exact iI (iW jg (pvF 1) (pvF 5) (fun _ _=>rfl)) iK
   case' c28=>refine' iM ?c43
   case' c43=>refine' jm ?c44 ?c45 ?c46
   case' c44=>exact iT jD (pvF 8) iJ (iZ _)
   case' c45=>refine' iM ?c47
   case' c47=>refine' jx ?c48
   case' c48=>refine' pe_app (pvF 4) ?c49
   case' c49=>refine' iI ?c50 iK
   case' c50=>refine' jk ?c51
   case' c51=>refine' iI (pvF 6) ?c52
   case' c52=>exact iI (pvF 3) iK
   case c46=>exact i8
   case' c25=>refine' iM ?c53
   case' c53=>refine' jm ?c54 ?c55 ?c56
   case' c54=>refine' PW.pt ?c57
   case' c57=>refine' lF ?c58 ?c59
   case' c58=>exact iT (OpR.f0 mD) (pvF 8) iJ (iZ _)
   case' c59=>refine' kx ?c60
   case' c60=>exact iT (OpR.f0 mR) (pvF 9) iJ (iZ _)
   case' c55=>refine' iM ?c61
   case' c61=>refine' jx ?c62
   case' c62=>refine' pe_app ?c63 ?c64
   case c63=>exact(pvF 4)
   case' c64=>refine' iI ?c65 ?c66
   case' c65=>refine' jk ?c67
   case' c67=>refine' iI ?c68 ?c69
   case' c68=>refine' i9 F_crossing (hr.mono (by decide)) rfl iV ?c70
   case' c70=>refine' iI (pvF 6) ?c71
   case' c71=>refine' iI (iW jg (pvF 0) (pvF 7) (fun _ _=>rfl)) ?c72
   case' c72=>refine' iI (pvF 8) ?c73
   case' c73=>exact iI (pvF 9) iK
   case' c69=>exact iI (pvF 3) iK
   case c66=>exact iK
   case' c56=>refine' iM ?c74
   case' c74=>refine' jm ?c75 ?c76 ?c77
   case' c75=>refine' PW.pt ?c78
   case' c78=>refine' lF ?c79 ?c80
   case' c79=>exact iT (OpR.f0 mR) (pvF 8) iJ (iZ _)
   case' c80=>refine' kx ?c81
   case' c81=>exact iT (OpR.f0 mD) (pvF 9) iJ (iZ _)
   case' c76=>refine' iM ?c82
   case' c82=>refine' jx ?c83
   case' c83=>refine' pe_app ?c84 ?c85
   case c84=>exact(pvF 4)
   case' c85=>refine' iI ?c86 ?c87
   case' c86=>refine' jk ?c88
   case' c88=>refine' iI ?c89 ?c90
   case' c89=>refine' i9 F_crossing (hr.mono (by decide)) rfl iV ?c91
   case' c91=>refine' iI (pvF 6) ?c92
   case' c92=>refine' iI (iW jg (pvF 0) (pvF 7) (fun _ _=>rfl)) ?c93
   case' c93=>refine' iI (pvF 8) ?c94
   case' c94=>exact iI (pvF 9) iK
   case' c90=>exact iI (iW jg (pvF 1) (pvF 5) (fun _ _=>rfl)) iK
   case c87=>exact iK
   case c77=>exact i8
   case' c5=>exact iM (i4 (pvF 4))
  case rest=>
   obtain⟨hc,hq,he,hx,hl,bm,l0,l30,h⟩:=h
   walk_at "ST"
   walk_at "RD"
   refine⟨bb _,fun L hL=> ?_⟩;have lq:qs.length=l.length:=by rw[hq.1,ah]
   refine ni (fun a' H1=>a'=c /\ H1=upd H L (.lst [])) ?_ ?_
   ·intro R hR;walk_at "RD"
    exact hR _ _ ⟨rfl,rfl⟩
   ·rintro c' _ ⟨ec,rfl⟩;subst c';refine⟨qs.map V.ref,fun i σ H'=>∃(o5 o6 o7 o8 o9:Option V) (ts:List Addr),σ=[some (.ref c),some (.ref e),some (.ref x),some (.int num),some (.ref L),o5,o6,o7,o8,o9] /\ H' L=some (.lst (ts.map V.ref)) /\ RwAt H' ts (((edges l).take i).flatMap (emit m num)) /\ Ext H H',⟨_,_,_,_,_,[],rfl,iN,⟨rfl,fun i t v a=>by simp at a⟩,.upd hL⟩,?_,?_,?_⟩
    ·rintro i σ H' _ ⟨o5,o6,o7,o8,o9,ts,rfl,eL,rw',x'⟩;exact SqL.of (x' _ _ hc)
    ·rintro i w1 t σ H' hi ⟨o5,o6,o7,o8,o9,ts,rfl,eL,rw',x'⟩ ht;obtain⟨q,hqi,rfl⟩:=jw hi
     have li:i<l.length:=by rw[<-lq];exact(aa.mp hqi).1
     obtain⟨va,hva⟩:∃v,l[i]? =some v:=⟨_,ag li⟩
     have lj:(i+1)%l.length<l.length:=iz _ l0
     obtain⟨vb,hvb⟩:∃v,l[(i+1)%l.length]? =some v:=⟨_,ag lj⟩
     obtain⟨qb,hqb⟩:∃q,qs[(i+1)%l.length]? =some q:=⟨_,ag (by rw[lq];exact lj)⟩
     have hE:=vT hva hvb
     have ha:=hl va (av hva)
     have hb:=hl vb (av hvb)
     have eqa:=hq.2 i q va.1 hqi (by rw[au,hva];rfl)
     have eqb:=hq.2 _ qb vb.1 hqb (by rw[au,hvb];rfl)
     have bh:Bd 3000 (ex m va.1):=BK bm ha.2
     have bt:Bd 3000 (ex m vb.1):=BK bm hb.2
     have xt:=x'.then (o:= .tup [.int (i:Int),.ref q]) ht
     have et:=iN (H:=H') (a:=t) (o:= .tup [.int (i:Int),.ref q])
     have eLt:=jf (o:= .tup [.int (i:Int),.ref q]) ht eL
     have rwt:=rw'.ext (Ext.upd (o:= .tup [.int (i:Int),.ref q]) ht)
     generalize upd H' t (.tup [.int (i:Int),.ref q])=H2 at xt et eLt rwt⊢
     o_head ⟨kj,ky,ou,et⟩
     refine⟨fun σ H3=>σ=[some (.ref c),some (.ref e),some (.ref x),some (.int num),some (.ref L),some (.int (i:Int)),some (.ref q),some (.int (((i+1)%l.length:Nat):Int)),o8,o9] /\ H3=H2,?_,?_⟩
     ·o_head ⟨xt _ _ hc,ah,rI,rI⟩
      rw[lq];exact⟨by omega,by rw[hZ];rfl⟩
     ·rintro σ H3 ⟨rfl,rfl⟩;have ai:atI ((l.map fun v=>ex m v.1).map V.int) (i:Int)=some (.int (ex m va.1)):=jr (by rw[au,au,hva];rfl)
      have aj:atI ((l.map fun v=>ex m v.1).map V.int) (((i+1)%l.length:Nat):Int)=some (.int (ex m vb.1)):=jr (by rw[au,au,hvb];rfl)
      have an:atI ((l.map (·.2.2)).map V.int) (i:Int)=some (.int va.2.2):=jr (by rw[au,au,hva];rfl)
      have ac:atI (qs.map V.ref) (((i+1)%l.length:Nat):Int)=some (.ref qb):=jr (by rw[au,hqb];rfl)
      refine⟨fun σ H4=>σ=[some (.ref c),some (.ref e),some (.ref x),some (.int num),some (.ref L),some (.int (i:Int)),some (.ref q),some (.int (((i+1)%l.length:Nat):Int)),some (.int (ex m va.1)),o9] /\ H4=H3,?_,?_⟩
      ·o_head ⟨xt _ _ hx,ai,rI,rI⟩
      ·rintro σ H4 ⟨rfl,rfl⟩;refine⟨fun σ H5=>σ=[some (.ref c),some (.ref e),some (.ref x),some (.int num),some (.ref L),some (.int (i:Int)),some (.ref q),some (.int (((i+1)%l.length:Nat):Int)),some (.int (ex m va.1)),some (.int (ex m vb.1))] /\ H5=H4,?_,?_⟩
       ·o_head ⟨xt _ _ hx,aj,rI,rI⟩
       ·rintro σ H5 ⟨rfl,rfl⟩;have len30:ts.length<=60:=by
         rw[rwt.1];exact xU m num l i l30
        refine⟨fun σ H6=>∃ts':List Addr,σ=[some (.ref c),some (.ref e),some (.ref x),some (.int num),some (.ref L),some (.int (i:Int)),some (.ref q),some (.int (((i+1)%l.length:Nat):Int)),some (.int (ex m va.1)),some (.int (ex m vb.1))] /\ H6 L=some (.lst (ts'.map V.ref)) /\ ts'.length<=61 /\ RwAt H6 ts' (((edges l).take i).flatMap (emit m num)++(if ex m va.1<0∨(ex m va.1=0 /\ ex m vb.1<=0) then[va] else if ex m va.1=0 then[(va.1,m,num)] else[])) /\ Ext H H6,?_,?_⟩
        ·o_head ⟨xt _ _ he,an,eLt,rI⟩
         have one:∀(p:Addr) (v:Vx),v.1=va.1 ->H5 p=none ->kY (lJ (upd H5 p (.tup [.ref q,.int v.2.2]) L)) fun xs=>xs.length<1000000 /\ ∃ts':List Addr,HO.lst (xs++[V.ref p])=HO.lst (iD V.ref ts') /\ ts'.length<=61 /\ RwAt (upd (upd H5 p (.tup [.ref q,.int v.2.2])) L (.lst (xs++[V.ref p]))) ts' (((edges l).take i).flatMap (emit m num)++[v]) /\ Ext H (upd (upd H5 p (.tup [.ref q,.int v.2.2])) L (.lst (xs++[V.ref p]))):=by
          intro p v ev hp;obtain⟨A1,A2,A3⟩:=uV (v:=v) hL eLt xt rwt hp (by rw[ev];exact xt _ _ eqa)
          rw[A1,jA,iR];exact⟨by rw[ah];omega,ts++[p],by rw[mZ],by rw[aq];simp only[aV,bu];omega,A2,A3⟩
         by_cases h1:ex m va.1<0
         ·rw[if_pos h1,if_pos (.inl h1)];exact⟨by decide,fun p hp=>one p va rfl hp⟩
         ·rw[if_neg h1]
          by_cases h2:ex m va.1=0
          ·rw[if_pos h2]
           by_cases h3:ex m vb.1<=0
           ·rw[if_pos h3,if_pos (.inr ⟨h2,h3⟩)];exact⟨by decide,fun p hp=>one p va rfl hp⟩
           ·rw[if_neg h3,if_pos h2,if_neg (fun z:_∨_=>z.elim h1 fun z=>h3 z.2),if_pos h2];exact⟨by decide,fun p hp=>one p (va.1,m,num) rfl hp⟩
          ·rw[if_neg h2,if_neg h2,if_neg (fun z:_∨_=>z.elim h1 fun z=>h2 z.1),if_neg h2,aL];exact⟨ts,rfl,by omega,rwt,xt⟩
        ·rintro σ H6 ⟨ts',rfl,eL6,len61,rw6,x6⟩;have el1:((edges l).take (i+1)).flatMap (emit m num)=(((edges l).take i).flatMap (emit m num)++(if ex m va.1<0∨(ex m va.1=0 /\ ex m vb.1<=0) then[va] else if ex m va.1=0 then[(va.1,m,num)] else[]))++(if ex m va.1<0 /\ 0<ex m vb.1 then[(je va.1 vb.1 (ex m va.1) (ex m vb.1),m,num)] else if 0<ex m va.1 /\ ex m vb.1<0 then[(je va.1 vb.1 (ex m va.1) (ex m vb.1),va.2)] else[]):=by
          rw[bU,hE,cu,bI];simp only[fz,bB,dG,aL];rfl
         rw[el1];generalize(((edges l).take i).flatMap (emit m num)++(if ex m va.1<0∨(ex m va.1=0 /\ ex m vb.1<=0) then[va] else if ex m va.1=0 then[(va.1,m,num)] else[]))=R1 at rw6⊢
         o_head ⟨x6 _ _ hc,ac,eL6,kH⟩
         have two:∀(H1:Hp) (r p:Addr) (v:Vx),v.1=je va.1 vb.1 (ex m va.1) (ex m vb.1) ->H6 r=none ->H1=upd H6 r (.tup [.int (je va.1 vb.1 (ex m va.1) (ex m vb.1)).1,.int (je va.1 vb.1 (ex m va.1) (ex m vb.1)).2.1,.int (je va.1 vb.1 (ex m va.1) (ex m vb.1)).2.2]) ->H1 p=none ->kY (lJ (upd H1 p (.tup [.ref r,.int v.2.2]) L)) fun xs=>xs.length<1000000 /\ (∃x,some (V.int (ex m vb.1))=x) /\ ∃ts':List Addr,HO.lst (xs++[V.ref p])=HO.lst (iD V.ref ts') /\ RwAt (upd (upd H1 p (.tup [.ref r,.int v.2.2])) L (.lst (xs++[V.ref p]))) ts' (R1++[v]) /\ Ext H (upd (upd H1 p (.tup [.ref r,.int v.2.2])) L (.lst (xs++[V.ref p]))):=by
          intro H1 r p v ev hr eH hp;subst eH;obtain⟨A1,A2,A3⟩:=uV (v:=v) hL (jf hr eL6) (x6.then hr) (rw6.ext (Ext.upd hr)) hp (by rw[ev];exact iN)
          rw[A1,jA,iR];exact⟨by rw[ah];omega,⟨_,rfl⟩,ts'++[p],by rw[mZ],A2,A3⟩
         have nz1:ex m va.1<0 ->0<ex m vb.1 -> ¬va.1.2.2*ex m vb.1-vb.1.2.2*ex m va.1=0:=fun q1 q2=>by
          exact eJ (Int.sub_pos_of_lt (Int.lt_trans (bQ hb.1 q1) (bL ha.1 q2)))
         have nz2:0<ex m va.1 ->ex m vb.1<0 -> ¬va.1.2.2*ex m vb.1-vb.1.2.2*ex m va.1=0:=fun q1 q2=>by
          exact Int.ne_of_lt (Int.sub_neg_of_lt (Int.lt_trans (bQ ha.1 q2) (bL hb.1 q1)))
         by_cases h1:ex m va.1<0
         ·rw[if_pos h1]
          by_cases h2:0<ex m vb.1
          ·rw[if_pos h2,if_pos ⟨h1,h2⟩];exact⟨va.1,x6 _ _ eqa,vb.1,x6 _ _ eqb,ha.2,hb.2,bh,bt,nz1 h1 h2,fun r hr=>⟨by decide,fun p hp=>two _ r p (_,m,num) rfl hr rfl hp⟩⟩
          ·rw[if_neg h2,if_neg (Int.lt_asymm h1),if_neg fun z=>h2 z.2,if_neg fun z=>Int.lt_asymm h1 z.1,aL];exact⟨⟨_,rfl⟩,ts',rfl,rw6,x6⟩
         ·rw[if_neg h1]
          by_cases h2:0<ex m va.1
          ·rw[if_pos h2]
           by_cases h3:ex m vb.1<0
           ·rw[if_pos h3,if_neg fun z=>h1 z.1,if_pos ⟨h2,h3⟩];refine⟨va.1,x6 _ _ eqa,vb.1,x6 _ _ eqb,ha.2,hb.2,bh,bt,nz2 h2 h3,fun r hr=> ?_⟩;rw[jf hr (x6 _ _ he),kJ,iR,an,iR];exact⟨by decide,fun p hp=>two _ r p (_,va.2) rfl hr rfl hp⟩
           ·rw[if_neg h3,if_neg fun z=>h1 z.1,if_neg fun z=>h3 z.2,aL];exact⟨⟨_,rfl⟩,ts',rfl,rw6,x6⟩
          ·rw[if_neg h2,if_neg fun z=>h1 z.1,if_neg fun z=>h2 z.1,aL];exact⟨⟨_,rfl⟩,ts',rfl,rw6,x6⟩
    ·rintro σ H' ⟨o5,o6,o7,o8,o9,ts,rfl,eL,rw',x'⟩;have el:(edges l).take (qs.map V.ref).length=edges l:=by
      rw[ah,lq];exact cN (by rw[lm];exact ax _)
     rw[el] at rw';walk_at "RD"
     exact h L ts H' x' hL eL rw'
theorem sc_from_first:FnScope ["rows","first","at","row","turned"] ["rows"] (iL s_from_first):=⟨rfl,rfl,rfl,by decide+kernel,rfl,by decide+kernel,by decide+kernel⟩
theorem ok_from_first{C:Cz}{f:Addr}{fd:FuncData}(F:Fun K "from_first" "from_first" s_from_first f fd)(T:Txt K mg C)(F_ahead:FnB P w K mg base (CXE P w) 1 "ahead" ["one","other"] lC):FnOk P w K mg base (CXE P w) 2 f fd ["rows"] (kG K):=by
 refine okN F (k:=1) sc_from_first (fun vs H Q E h=> ?_) (fun cdv A outer s H vs Q E hr h=> ?_)
 ·obtain⟨t,ts,R,rfl,_⟩:=h
  rfl
 ·obtain⟨t,ts,R,rfl,h⟩:=h
  refine'⟨_,?main,?rest⟩
  case main=>
   refine' iO ?c1 ?c2
   case' c1=>exact jc (i:=1) sc_from_first.nd rfl (aQ rfl) iJ
   case' c2=>refine' iO ?c3 ?c4
   case' c3=>refine' j6 ?c5 ?c6 ?c7 ?c8 ?c9
   case c5=>exact PassesOwn.never
   case c6=>exact rfl
   case' c7=>refine' rC (K:=K) rfl rfl T.b_enumerate ?c10
   case' c10=>exact iI (pvF 0) iK
   case' c8=>refine' n6 (n:=2) rfl ?c11
   case' c11=>refine' iP (iQ (i:=2) sc_from_first.nd rfl (aQ rfl)) ?c12
   case' c12=>exact iP (iQ (i:=3) sc_from_first.nd rfl (aQ rfl)) jh
   case' c9=>refine' iM ?c13
   case' c13=>refine' jm ?c14 ?c15 ?c16
   case' c14=>refine' jP ?c17
   case' c17=>refine' i9 F_ahead (hr.mono (by decide)) rfl iV ?c18
   case' c18=>refine' iI ?c19 ?c20
   case' c19=>exact iW jg (pvF 3) iJ (fun _ _=>rfl)
   case' c20=>refine' iI ?c21 iK
   case' c21=>exact iW jg (iW jg (pvF 0) (pvF 1) (fun _ _=>rfl)) iJ (fun _ _=>rfl)
   case' c15=>exact iM (jc (i:=1) sc_from_first.nd rfl (aQ rfl) (pvF 2))
   case c16=>exact i8
   case' c4=>refine' i7 ?c22 ?c23
   case' c22=>refine' jc (i:=4) sc_from_first.nd rfl (aQ rfl) ?c24
   case' c24=>refine' iS rH ?c25 ?c26
   case' c25=>exact j1 y4 (pvF 0) (kL (pvF 1)) kM
   case' c26=>exact j1 y4 (pvF 0) kM (kL (pvF 1))
   case' c23=>refine' iM ?c27
   case' c27=>refine' i4 ?c28
   case' c28=>refine' jk ?c29
   case' c29=>refine' iI ?c30 ?c31
   case' c30=>refine' pO (CScope.of_ok (dsc:=iL s_from_first) (N0:=["rows","first","at","row","turned"]) (N:=["row"]) (k:=1) (js:=[]) rfl rfl (by decide+kernel)) rfl (jG (K:=K) rfl (pvF 4)) ?c32 ?c33 ?c34
   case' c32=>intro _ _ _ _ _ _;exact(iQ (i:=0) (by show bS (["row"]:List Str);decide+kernel) rfl (aQ rfl))
   case' c33=>intro _ _ _ _ _ _;exact jF
   case' c34=>intro _ _ _ _ _ _;exact(iW jg (pvF 0) iJ (fun _ _=>rfl))
   case' c31=>refine' iI ?c35 ?c36
   case' c35=>refine' pO (CScope.of_ok (dsc:=iL s_from_first) (N0:=["rows","first","at","row","turned"]) (N:=["row"]) (k:=1) (js:=[]) rfl rfl (by decide+kernel)) rfl (jG (K:=K) rfl (pvF 4)) ?c37 ?c38 ?c39
   case' c37=>intro _ _ _ _ _ _;exact(iQ (i:=0) (by show bS (["row"]:List Str);decide+kernel) rfl (aQ rfl))
   case' c38=>intro _ _ _ _ _ _;exact jF
   case' c39=>intro _ _ _ _ _ _;exact(iW jg (pvF 0) iJ (fun _ _=>rfl))
   case c36=>exact iK
  case rest=>
   obtain⟨ht,rw',hl,l0,l60,h⟩:=h
   have lt:ts.length=R.length:=rw'.1
   walk_at "ST"
   walk_at "RD"
   refine ni (fun a' H1=>a'=t /\ H1=H) ?_ ?_
   ·intro R' hR;walk_at "RD"
    exact hR _ _ ⟨rfl,rfl⟩
   ·rintro t' H1 ⟨et,eH⟩;subst t';subst H1;refine⟨ts.map V.ref,fun i σ H'=>∃(j:Nat) (o2 o3:Option V),σ=[some (.ref t),some (.int (j:Int)),o2,o3,none] /\ j<R.length /\ (∀u,R[j]? =some u -> ∀v∈R.take i,¬Ahd v.1 u.1) /\ Ext H H',⟨0,_,_,rfl,l0,fun u _ v hv=>by simp at hv,.refl _⟩,?_,?_,?_⟩
    ·rintro i σ H' _ ⟨j,o2,o3,rfl,hj,mn,x'⟩;exact SqL.of (x' _ _ ht)
    ·rintro i w1 p σ H' hi ⟨j,o2,o3,rfl,hj,mn,x'⟩ hp;obtain⟨ti,hti,rfl⟩:=jw hi
     have li:i<R.length:=by rw[<-lt];exact(aa.mp hti).1
     obtain⟨vi,hvi⟩:∃v,R[i]? =some v:=⟨_,ag li⟩
     obtain⟨vj,hvj⟩:∃v,R[j]? =some v:=⟨_,ag hj⟩
     obtain⟨tj,htj⟩:∃v,ts[j]? =some v:=⟨_,ag (by rw[lt];exact hj)⟩
     obtain⟨qi,r1,r2⟩:=rw'.2 i ti vi hti hvi
     obtain⟨qj,r3,r4⟩:=rw'.2 j tj vj htj hvj
     have bi:=hl vi (av hvi)
     have bj:=hl vj (av hvj)
     have mo:∀{a:P3},B3 601 a ->B3 2000 a:=fun q=>⟨q.1.mono (by decide),q.2.1.mono (by decide),q.2.2.mono (by decide)⟩
     have xt:=x'.then (o:= .tup [.int (i:Int),.ref ti]) hp
     have et:=iN (H:=H') (a:=p) (o:= .tup [.int (i:Int),.ref ti])
     generalize upd H' p (.tup [.int (i:Int),.ref ti])=H2 at xt et⊢
     o_head ⟨kj,ky,ou,et,lC,xt _ _ r1,xt _ _ r2,xt _ _ ht,jr (show(ts.map V.ref)[j]? =some (.ref tj) by rw[au,htj];rfl),xt _ _ r3,xt _ _ r4,wl⟩;refine⟨mo bi.2,mo bj.2,?_⟩
     by_cases q:Ahd vi.1 vj.1
     ·refine(if_pos q).mpr ⟨i,rfl,li,fun u hu v hv=> ?_,xt⟩;rw[hvi] at hu;cases hu;rw[bU,hvi] at hv;rcases aT.mp hv with hv|hv
      ·exact fun z=>mn vj hvj v hv (z.trans (hl v (dC hv)).1 bi.1 bj.1 q)
      ·rw[fz,bA] at hv;rw[hv];exact Ahd.irr _
     ·refine(if_neg q).mpr ⟨j,rfl,hj,fun u hu v hv=> ?_,xt⟩;rw[hvj] at hu;cases hu;rw[bU,hvi] at hv;rcases aT.mp hv with hv|hv
      ·exact mn vj hvj v hv
      ·rw[fz,bA] at hv;rw[hv];exact q
    ·rintro σ H' ⟨j,o2,o3,rfl,hj,mn,x'⟩;have el:R.take (ts.map V.ref).length=R:=by
      rw[ah,lt];exact bo
     rw[el] at mn;refine⟨fun σ H1=>∃D,σ=[some (.ref t),some (.int (j:Int)),o2,o3,some (.ref D)] /\ H1 D=some (.lst ((rotk j ts).map V.ref)) /\ Ext H H1,?_,?_⟩
     ·o_head ⟨x' _ _ ht,qe,qR,rI⟩
      intro p hp;rw[jf hp (x' _ _ ht),jA,iR];intro p1 hp1;rw[jf hp1 iN,jA,iR];refine⟨by rw[aI,aF,ah];omega,fun p2 hp2=>⟨?_,((x'.then hp).then hp1).then hp2⟩⟩;rw[wW];rfl
     ·rintro σ H1 ⟨D,rfl,eD,x1⟩;have rr:=(rw'.rotk (k:=j) (by omega)).ext x1
      have lr:((rotk j ts).map V.ref).length=(rotk j R).length:=by rw[ah,rr.1]
      have lr':(rotk j R).length=R.length:=wX j R
      walk_at "RD"
      refine jX (K:=K) (a:=D) (xs:=(rotk j ts).map V.ref) (fun R h=>by walk_at "RD";exact h) (SqL.of eD) (by omega) (fun D' i ys H'=>∃qs':List Addr,ys=qs'.map V.ref /\ H' D'=some (.lst ys) /\ CsAt H' qs' (((rotk j R).take i).map (·.1)) /\ Ext H1 H') ?_ ?_ ?_ ?_
      ·intro D' hD';exact⟨[],rfl,iN,⟨rfl,fun i q z a=>by simp at a⟩,.upd hD'⟩
      ·rintro D' i ys H2 _ ⟨qs',rfl,e2,c2,x2⟩;refine⟨e2,?_,SqL.of (x2 _ _ eD)⟩;rw[ah,c2.1,ah,aF];omega
      ·rintro D' i w1 ys H2 hD' hi ⟨qs',rfl,e2,c2,x2⟩;obtain⟨ti,hti,rfl⟩:=jw hi
       have li:i<(rotk j R).length:=by rw[<-rr.1];exact(aa.mp hti).1
       obtain⟨vi,hvi⟩:∃v,(rotk j R)[i]? =some v:=⟨_,ag li⟩
       obtain⟨q,r1,r2⟩:=rr.2 i ti vi hti hvi
       o_head ⟨x2 _ _ r1⟩
       refine⟨e2,qs'++[q],by rw[ay];rfl,?_,x2.set hD'⟩;rw[bU,hvi,ay];exact(c2.snoc (x2 _ _ r2)).setL e2
      ·rintro D' ys H2 hD' ⟨qs',rfl,e2,c2,x2⟩;rw[lr,bo] at c2;have rr2:=rr.ext x2
       refine jX (K:=K) (a:=D) (xs:=(rotk j ts).map V.ref) (fun R h=>by walk_at "RD";exact h) (SqL.of (x2 _ _ eD)) (by omega) (fun D2 i ys H'=>ys=(((rotk j R).take i).map (·.2.2)).map V.int /\ H' D2=some (.lst ys) /\ Ext H2 H') ?_ ?_ ?_ ?_
       ·intro D2 hD2;exact⟨rfl,iN,.upd hD2⟩
       ·rintro D2 i ys H3 _ ⟨rfl,e3,x3⟩;refine⟨e3,?_,SqL.of (x3 _ _ (x2 _ _ eD))⟩;rw[ah,ah,aF];omega
       ·rintro D2 i w1 ys H3 hD2 hi ⟨rfl,e3,x3⟩;obtain⟨ti,hti,rfl⟩:=jw hi
        have li:i<(rotk j R).length:=by rw[<-rr.1];exact(aa.mp hti).1
        obtain⟨vi,hvi⟩:∃v,(rotk j R)[i]? =some v:=⟨_,ag li⟩
        obtain⟨q,r1,r2⟩:=rr2.2 i ti vi hti hvi
        o_head ⟨x3 _ _ r1⟩
        refine⟨e3,?_,x3.set hD2⟩;rw[bU,hvi];simp only[iE,ay,aM,bO]
       ·rintro D2 ys H3 hD2 ⟨rfl,e3,x3⟩;rw[lr,bo] at e3;refine⟨by decide,fun p hp=> ?_⟩;have xe:=(x2.trans x3).then (o:= .tup [.ref D',.ref D2]) hp
        refine h p D' D2 qs' (rotk j R) _ (x1.trans xe) ⟨(x1.trans (x2.trans x3)).none hp,x1.none hD',(x1.trans x2).none hD2,fun z=>by rw[z,hD2] at e2;cases e2⟩ ⟨iN,jf hp (x3 _ _ e2),(c2.ext x3).ext (Ext.upd hp),jf hp e3⟩ (Rot.of j R) fun v hv u hu=> ?_
        rw[uX hj] at hu;exact mn u hu v hv
theorem sc_cut:FnScope ["field","line","number","corners","edges","excesses"] ["field","line","number"] (iL s_cut):=⟨rfl,rfl,rfl,by decide+kernel,rfl,by decide+kernel,by decide+kernel⟩
theorem ok_cut{C:Cz}{f:Addr}{fd:FuncData}(F:Fun K "cut" "cut" s_cut f fd)(T:Txt K mg C)(F_rest:FnB P w K mg base (CXE P w) 4 "rest" ["corners","edges","excesses","number"] (rn K))(F_from_first:FnB P w K mg base (CXE P w) 2 "from_first" ["rows"] (kG K))(F_excess:FnB P w K mg base (CXE P w) 1 "excess" ["line","point"] lV):FnOk P w K mg base (CXE P w) 5 f fd ["field","line","number"] (sJ K):=by
 refine okN F (k:=4) sc_cut (fun vs H Q E h=> ?_) (fun cdv A outer s H vs Q E hr h=> ?_)
 ·obtain⟨f,ln,num,c,e,qs,l,m,rfl,_⟩:=h
  rfl
 ·obtain⟨f,ln,num,c,e,qs,l,m,rfl,h⟩:=h
  refine'⟨_,?main,?rest⟩
  case main=>
   refine' i7 ?c1 ?c2
   case' c1=>refine' kB (pvF 0) ?c3
   case' c3=>refine' n6 (n:=2) rfl ?c4
   case' c4=>refine' iP (iQ (i:=3) sc_cut.nd rfl (aQ rfl)) ?c5
   case' c5=>exact iP (iQ (i:=4) sc_cut.nd rfl (aQ rfl)) jh
   case' c2=>refine' i7 ?c6 ?c7
   case' c6=>refine' t7 (i:=5) ?c8 ?c9 ?c10 ?c11 ?c12 ?c13 ?c14 ?c15 ?c16
   case c8=>exact(CScope.of_ok (dsc:=iL s_cut) (N0:=["field","line","number","corners","edges","excesses"]) (N:=["corner","line"]) (k:=1) (js:=[1]) rfl rfl (by decide+kernel))
   case c9=>exact rfl
   case c10=>exact(jG (K:=K) rfl (pvF 3))
   case' c11=>intro _ _ _ _ _ _;exact(iQ (i:=0) (by show bS (["corner","line"]:List Str);decide+kernel) rfl (aQ rfl))
   case' c12=>intro _ _ _ _ _ _;exact jF
   case' c13=>intro _ _ _ _ _ _;refine' i9 F_excess (hr.mono (by decide)) rfl iV ?c17
   case' c17=>refine' iI (pvF 1) ?c18
   case' c18=>exact iI (pvF 0) iK
   case c14=>exact sc_cut.nd
   case c15=>exact rfl
   case c16=>exact rfl
   case' c7=>refine' iO ?c19 ?c20
   case' c19=>refine' jm ?c21 ?c22 ?c23
   case' c21=>refine' iT (OpR.f0 ua) ?c24 iJ (iZ _)
   case' c24=>refine' iU (kf (K:=K) rfl rfl) (by rfl) T.b_max boot_max ?c25
   case' c25=>exact iI (pvF 5) iK
   case' c22=>refine' iM ?c26
   case' c26=>refine' i4 ?c27
   case' c27=>refine' jk ?c28
   case' c28=>refine' iI ?c29 ?c30
   case' c29=>refine' jN j5 (by rfl) T.b_list boot_list ?c31
   case' c31=>exact iI (pvF 3) iK
   case' c30=>refine' iI ?c32 iK
   case' c32=>refine' jN j5 (by rfl) T.b_list boot_list ?c33
   case' c33=>exact iI (pvF 4) iK
   case c23=>exact i8
   case' c20=>refine' iO ?c34 ?c35
   case' c34=>refine' jm ?c36 ?c37 ?c38
   case' c36=>refine' iT (OpR.f0 qJ) ?c39 iJ (iZ _)
   case' c39=>refine' iU (jU (K:=K) rfl rfl) (by rfl) T.b_min boot_min ?c40
   case' c40=>exact iI (pvF 5) iK
   case' c37=>refine' iM ?c41
   case' c41=>exact i4 yu
   case c38=>exact i8
   case' c35=>refine' iM ?c42
   case' c42=>refine' i4 ?c43
   case' c43=>refine' i9 F_from_first (hr.mono (by decide)) rfl iV ?c44
   case' c44=>refine' iI ?c45 iK
   case' c45=>refine' i9 F_rest (hr.mono (by decide)) rfl iV ?c46
   case' c46=>refine' iI (pvF 3) ?c47
   case' c47=>refine' iI (pvF 4) ?c48
   case' c48=>refine' iI (pvF 5) ?c49
   case' c49=>exact iI (pvF 2) iK
  case rest=>
   obtain⟨hf,hln,hP,hB,bm,l30,hN,hS,hR⟩:=h
   have bc:∀v∈l,0<v.1.2.2 /\ B3 601 v.1:=fun v hv=>⟨hP.pos v hv,mf hP hB hv⟩
   have lq:qs.length=l.length:=by rw[hf.pt.1,ah]
   have l3:=hP.three
   walk_at "ST"
   refine⟨fun σ H1=>σ=[some (.ref f),some (.ref ln),some (.int num),some (.ref c),some (.ref e),none] /\ H1=H,?_,?_⟩
   ·o_head ⟨hf.at_,kj,ky,ou⟩
   ·rintro σ H1 ⟨rfl,eH⟩;subst H1;refine⟨fun σ H1=>∃D,σ=[some (.ref f),some (.ref ln),some (.int num),some (.ref c),some (.ref e),some (.ref D)] /\ H1 D=some (.lst ((l.map fun v=>ex m v.1).map V.int)) /\ Ext H H1,?_,?_⟩
    ·walk_at "RD"
     refine jX (K:=K) (a:=c) (xs:=qs.map V.ref) (fun R h=>by walk_at "RD";exact h) (SqL.of hf.cs) (by rw[ah];omega) (fun D i ys H'=>ys=((l.take i).map fun v=>ex m v.1).map V.int /\ H' D=some (.lst ys) /\ Ext H H') ?_ ?_ ?_ ?_
     ·intro D hD;exact⟨rfl,iN,.upd hD⟩
     ·rintro D i ys H1 _ ⟨rfl,e1,x1⟩;refine⟨e1,?_,SqL.of (x1 _ _ hf.cs)⟩;rw[ah,ah,aF];omega
     ·rintro D i w1 ys H1 hD hi ⟨rfl,e1,x1⟩;obtain⟨q,hq,rfl⟩:=jw hi
      have li:i<l.length:=by rw[<-lq];exact(aa.mp hq).1
      obtain⟨v,hv⟩:∃v,l[i]? =some v:=⟨_,ag li⟩
      have eqv:=hf.pt.2 i q v.1 hq (by rw[au,hv];rfl)
      have bv:=(bc v (av hv)).2
      o_head ⟨lV,x1 _ _ hln,x1 _ _ eqv,rI⟩
      refine⟨⟨bm.1.mono (by decide),bm.2.1.mono (by decide),bm.2.2.mono (by decide)⟩,⟨bv.1.mono (by decide),bv.2.1.mono (by decide),bv.2.2.mono (by decide)⟩,e1,?_,x1.set hD⟩;rw[bU,hv];simp only[iE,ay,aM,bO];rfl
     ·rintro D ys H1 hD ⟨rfl,e1,x1⟩;rw[ah,lq,bo] at e1;walk_at "RD"
      exact⟨e1,x1⟩
    ·rintro σ H1 ⟨D,rfl,eD,x1⟩;have f1:=hf.ext x1
     walk_at "RD"
     refine⟨D,l.map (fun v=>ex m v.1),rfl,SqL.of eD,by rw[ah];omega,fun M hM hlM=> ?_⟩;obtain⟨u,hu,eu⟩:=aC.mp hM;dsimp only
     by_cases q1:M<=0
     ·rw[if_pos q1,f1.cs,kJ,iR];intro p hp;rw[jf hp f1.es,kJ,iR];intro p1 hp1;refine⟨by decide,fun p2 hp2=> ?_⟩;have xa:=Ext.upd (o:= .lst (qs.map V.ref)) hp
      have xb:=xa.then (o:= .lst ((l.map (·.2.2)).map V.int)) hp1
      have xc:=xb.then (o:= .tup [.ref p,.ref p1]) hp2
      refine hS p2 p p1 qs _ (x1.trans xc) ⟨x1.none (xb.none hp2),x1.none hp,(x1.trans xa).none hp1,fun z=>by rw[<-z,iN] at hp1;cases hp1⟩ ⟨iN,jf hp2 (jf hp1 iN),f1.pt.ext xc,jf hp2 iN⟩ fun v hv=>gP (hlM _ (aC.mpr ⟨v,hv,rfl⟩)) q1
     ·rw[if_neg q1];refine⟨D,l.map (fun v=>ex m v.1),rfl,SqL.of eD,by rw[ah];omega,fun M' hM' hlM'=> ?_⟩;obtain⟨u',hu',eu'⟩:=aC.mp hM';dsimp only
      have hp:∃v∈l,0<ex m v.1:=⟨u,hu,by omega⟩
      by_cases q2:0<=M'
      ·rw[if_pos q2];exact hN H1 x1 (fun v hv=>gP q2 (hlM' _ (aC.mpr ⟨v,hv,rfl⟩))) hp
      ·rw[if_neg q2];have hn:∃v∈l,ex m v.1<0:=⟨u',hu',by omega⟩
       have hP':=md hP m num hp hn
       have hB':=sM (num:=num) hB bm
       refine⟨c,e,D,num,qs,l,m,rfl,f1.cs,f1.pt,f1.es,eD,bc,bm,by omega,l30,fun t ts H2 x2 ht2 et2 rw2=> ?_⟩;refine⟨t,ts,ju m num l,rfl,et2,rw2,fun v hv=>⟨hP'.pos v hv,mf hP' hB' hv⟩,?_,?_,?_⟩
       ·have:=hP'.three
        omega
       ·have:=v6 hP m num hp hn
        omega
       ·intro f' c' e' qs' l' H3 x3 nf ff rr ld;have x12:=x1.trans x2
        exact hR f' c' e' qs' l' H3 (x12.trans x3) ⟨x12.none nf.nf,x12.none nf.nc,x12.none nf.ne,nf.ce⟩ ff hp hn rr ld
theorem sc_cut_each:FnScope ["field","cuts","line","number"] ["field","cuts"] (iL s_cut_each):=⟨rfl,rfl,rfl,by decide+kernel,rfl,by decide+kernel,by decide+kernel⟩
theorem ok_cut_each{C:Cz}{f:Addr}{fd:FuncData}(F:Fun K "cut_each" "cut_each" s_cut_each f fd)(T:Txt K mg C)(F_cut:FnB P w K mg base (CXE P w) 5 "cut" ["field","line","number"] (sJ K)):FnOk P w K mg base (CXE P w) 6 f fd ["field","cuts"] (mB K):=by
 refine okN F (k:=5) sc_cut_each (fun vs H Q E h=> ?_) (fun cdv A outer s H vs Q E hr h=> ?_)
 ·obtain⟨f,o,c,e,ps,L,ts,cs,P',NN,rfl,_⟩:=h
  rfl
 ·obtain⟨f,o,c,e,ps,L,ts,cs,P',NN,rfl,h⟩:=h
  refine'⟨_,?main,?rest⟩
  case main=>
   refine' iO ?c1 ?c2
   case' c1=>refine' j6 ?c3 ?c4 ?c5 ?c6 ?c7
   case c3=>exact PassesOwn.never
   case c4=>exact rfl
   case c5=>exact(jG (K:=K) rfl (pvF 1))
   case' c6=>refine' n6 (n:=2) rfl ?c8
   case' c8=>refine' iP (iQ (i:=2) sc_cut_each.nd rfl (aQ rfl)) ?c9
   case' c9=>exact iP (iQ (i:=3) sc_cut_each.nd rfl (aQ rfl)) jh
   case' c7=>refine' iO ?c10 ?c11
   case' c10=>refine' jm ?c12 ?c13 i8
   case' c12=>exact Bc (Bl (pvF 0))
   case' c13=>refine' iM ?c14
   case' c14=>exact i4 yu
   case' c11=>refine' iM ?c15
   case' c15=>refine' jc (i:=0) sc_cut_each.nd rfl (aQ rfl) ?c16
   case' c16=>refine' i9 F_cut (hr.mono (by decide)) rfl iV ?c17
   case' c17=>refine' iI (pvF 0) ?c18
   case' c18=>refine' iI (pvF 2) ?c19
   case' c19=>exact iI (pvF 3) iK
   case' c2=>exact iM (i4 (pvF 0))
  case rest=>
   obtain⟨hf,ho,hcs,hP0,hst,hN,h⟩:=h
   walk_at "ST"
   walk_at "RD"
   refine lQ (K:=K) (a:=o) (xs:=ts.map V.ref) (fun R h=>by walk_at "RD";exact h) (fun k σ H'=>∃(va:V) (o2 o3:Option V),σ=[some va,some (.ref o),o2,o3] /\ Ext H H' /\ ((va= .non /\ NN)∨∃(f' c' e':Addr) (ps':List Addr) (L':List Vx),va= .ref f' /\ (NewF H f' c' e'∨(k=0 /\ f'=f /\ c'=c /\ e'=e)) /\ FldAt H' f' c' e' ps' L' /\ P' k L')) ⟨_,_,_,rfl,.refl _,.inr ⟨f,c,e,ps,L,rfl,.inr ⟨rfl,rfl,rfl,rfl⟩,hf,hP0⟩⟩ ?_ ?_ ?_
   ·rintro k σ H1 _ ⟨va,o2,o3,rfl,x1,_⟩;exact SqL.of (x1 _ _ ho)
   ·rintro k w1 σ H1 hk ⟨va,o2,o3,rfl,x1,hv⟩;obtain⟨t,ht,rfl⟩:=jw hk
    have li:=(aa.mp ht).1
    obtain⟨w',hw⟩:∃z,cs[k]? =some z:=⟨_,ag (by rw[<-hcs.1];exact li)⟩
    obtain⟨q,et,eq⟩:=hcs.2 k t w' ht hw
    o_head ⟨kj,ky,ou,x1 _ _ et⟩
    rcases hv with⟨rfl,nn⟩|⟨f',c',e',ps',L',rfl,nf1,hf1,hP1⟩
    ·walk_at "RD"
     exact hN nn H1 x1
    ·obtain⟨s1,s2,s3,s4,s5,s6,s7⟩:=hst k w' L' hw hP1
     o_head ⟨sJ⟩
     refine⟨c',e',ps',L',hf1,w'.1,x1 _ _ eq,s1,s2,s3,s4,?_,?_,?_⟩
     ·intro H2 x2 q1 q2;exact⟨x1.trans x2,s7 q1 q2⟩
     ·intro f2 c2 e2 ps2 H2 x2 nf2 hf2 q1;exact⟨x1.trans x2,c2,e2,⟨x1.none nf2.nf,x1.none nf2.nc,x1.none nf2.ne,nf2.ce⟩,ps2,L',hf2,s5 q1⟩
     ·intro f2 c2 e2 ps2 L2 H2 x2 nf2 hf2 q1 q2 rt ld;exact⟨x1.trans x2,c2,e2,⟨x1.none nf2.nf,x1.none nf2.nc,x1.none nf2.ne,nf2.ce⟩,ps2,L2,hf2,s6 L2 q1 q2 rt ld⟩
   ·rintro σ H1 ⟨va,o2,o3,rfl,x1,hv⟩;walk_at "RD"
    rcases hv with⟨rfl,nn⟩|⟨f',c',e',ps',L',rfl,nf1,hf1,hP1⟩
    ·exact hN nn H1 x1
    ·rw[ah,hcs.1] at hP1 nf1;exact h f' c' e' ps' L' H1 x1 nf1 hf1 hP1
theorem tZ:FnScope ["field","spots","number","others"] ["field","spots","number","others"] (iL s_cut_off):=⟨rfl,rfl,rfl,by decide+kernel,rfl,by decide+kernel,by decide+kernel⟩
theorem ok_cut_off{C:Cz}{f:Addr}{fd:FuncData}(F:Fun K "cut_off" "cut_off" s_cut_off f fd)(T:Txt K mg C)(F_between:FnB P w K mg base (CXE P w) 3 "between" ["one","other"] lB)(F_cut_each:FnB P w K mg base (CXE P w) 6 "cut_each" ["field","cuts"] (mB K)):FnOk P w K mg base (CXE P w) 7 f fd ["field","spots","number","others"] (nA K):=by
 refine okN F (k:=6) tZ (fun vs H Q E h=> ?_) (fun cdv A outer s H vs Q E hr h=> ?_)
 ·obtain⟨f,l,i,o,b,x,y,u,v,qs,rs,c,e,ps,L,r,j0,js,rfl,_⟩:=h
  rfl
 ·obtain⟨f,l,i,o,b,x,y,u,v,qs,rs,c,e,ps,L,r,j0,js,rfl,h⟩:=h
  refine'⟨_,?main,?rest⟩
  case main=>
   refine' iM ?c1
   case' c1=>refine' i4 ?c2
   case' c2=>refine' i9 ?c3 ?c4 ?c5 ?c6 ?c7
   case c3=>exact F_cut_each
   case c4=>exact(hr.mono (by decide))
   case c5=>exact rfl
   case c6=>exact iV
   case' c7=>refine' iI ?c8 ?c9
   case c8=>exact(pvF 0)
   case' c9=>refine' iI ?c10 ?c11
   case' c10=>refine' pO (CScope.of_ok (dsc:=iL s_cut_off) (N0:=["field","spots","number","others"]) (N:=["other","spots","number"]) (k:=1) (js:=[1,2]) rfl rfl (by decide+kernel)) rfl (jG (K:=K) rfl (pvF 3)) ?c12 ?c13 ?c14
   case' c12=>intro _ _ _ _ _ _;exact(iQ (i:=0) (by show bS (["other","spots","number"]:List Str);decide+kernel) rfl (aQ rfl))
   case' c13=>intro _ _ _ _ _ _;exact jF
   case' c14=>intro _ _ _ _ _ _;refine' jk ?c15
   case' c15=>refine' iI ?c16 ?c17
   case' c16=>refine' i9 F_between (hr.mono (by decide)) rfl iV ?c18
   case' c18=>refine' iI (iW jg (pvF 1) (pvF 2) (fun _ _=>rfl)) ?c19
   case' c19=>exact iI (iW jg (pvF 1) (pvF 0) (fun _ _=>rfl)) iK
   case' c17=>exact iI (pvF 0) iK
   case c11=>exact iK
  case rest=>
   obtain⟨ok,hf,hL,hri,ho,nd,l12,hjs,hj0,h⟩:=h
   have lq:qs.length=rs.length:=ok.at_.1
   obtain⟨qi,hqi⟩:∃q,qs[i]? =some q:=⟨_,ag (by rw[lq];exact(aa.mp hri).1)⟩
   have eqi:=ok.at_.2 i qi r hqi hri
   have ai:atI (qs.map V.ref) (i:Int)=some (.ref qi):=jr (by rw[au,hqi];rfl)
   have br:=ok.b2 (av hri)
   have lj:(JsV js).length=js.length:=by unfold JsV;rw[ah]
   walk_at "ST"
   walk_at "RD"
   refine jX (K:=K) (a:=o) (xs:=JsV js) (fun R h=>by walk_at "RD";exact h) (SqL.of ho) (by omega) (fun D k ys H'=>∃ts:List Addr,ys=ts.map V.ref /\ RwAt H' ts ((js.take k).map (BW rs r)) /\ H' D=some (.lst ys) /\ Ext H H') ?_ ?_ ?_ ?_
   ·intro D hD;exact⟨[],rfl,⟨rfl,fun i t v a=>by simp at a⟩,iN,.upd hD⟩
   ·rintro D k ys H1 _ ⟨ts,rfl,r1,e1,x1⟩;refine⟨e1,?_,SqL.of (x1 _ _ ho)⟩;rw[ah,r1.1,ah,aF];omega
   ·rintro D k w1 ys H1 hD hk ⟨ts,rfl,r1,e1,x1⟩;obtain⟨j,hj,rfl⟩:=sy hk
    obtain⟨jl,ji,_⟩:=hjs j (av hj)
    obtain⟨s,hs⟩:∃s,rs[j]? =some s:=⟨_,ag jl⟩
    obtain⟨qj,hqj⟩:∃q,qs[j]? =some q:=⟨_,ag (by rw[lq];exact jl)⟩
    have eqj:=ok.at_.2 j qj s hqj hs
    have ok1:=ok.ext x1
    have ne:=nodup_ne ok.nd hri hs ji
    have bs:=ok.b2 (av hs)
    have aj:atI (qs.map V.ref) (j:Int)=some (.ref qj):=jr (by rw[au,hqj];rfl)
    o_head ⟨ok1.sp,ai,aj,lB,x1 _ _ eqi,x1 _ _ eqj,BX,rI,rI,rI,rI,rI⟩
    refine⟨⟨br.1.mono (by decide),br.2.mono (by decide)⟩,⟨bs.1.mono (by decide),bs.2.mono (by decide)⟩,ne,fun t ht=>⟨by decide,fun t2 ht2=> ?_⟩⟩;have e1':=jf (o:= .tup [.ref t,.int (j:Int)]) ht2 (jf (o:= .tup [.int (lnB r s).1,.int (lnB r s).2.1,.int (lnB r s).2.2]) ht e1)
    refine⟨e1',ts++[t2],by rw[mZ],?_,((x1.then ht).then ht2).set hD⟩;rw[bU,hj,ay];refine RwAt.setL (xs:=ts.map V.ref) ?_ e1';refine RwAt.snoc ((r1.ext (Ext.upd ht)).ext (Ext.upd ht2)) (q:=t) ?_ ?_
    ·rw[sv hs];exact iN
    ·rw[sv hs];exact jf ht2 iN
   ·rintro D ys H1 hD ⟨ts,rfl,r1,e1,x1⟩;rw[lj,bo] at r1;have ok1:=ok.ext x1
    refine⟨f,D,c,e,ps,L,ts,js.map (BW rs r),fun k l'=>LandOk x y u v rs r (j0++js.take k) l',False,rfl,hf.ext x1,e1,r1,by show LandOk x y u v rs r (j0++js.take 0) L;rw[gz,aL];exact hL,?_,fun z=>z.elim,fun f' c' e' ps' L' H' x' nf hf' hL'=> ?_⟩
    ·intro k w1 L1 hk hL1;rw[au] at hk;obtain⟨j,hj,rfl⟩:∃j,js[k]? =some j /\ w1=BW rs r j:=by
      cases e:js[k]? with
      |none=>rw[e] at hk;cases hk
      |some q=>rw[e] at hk;exact⟨q,rfl,(ba.inj hk).symm⟩
     obtain⟨jl,ji,jn⟩:=hjs j (av hj)
     obtain⟨s,hs⟩:∃s,rs[j]? =some s:=⟨_,ag jl⟩
     rw[sv hs];dsimp only;have ne:=nodup_ne ok.nd hri hs ji
     have bm:B3 300 (lnB r s):=by
      have a1:=ok.ins r (av hri)
      have a2:=ok.ins s (av hs)
      have z:=ok.sz
      have b:=Bt (n:=110) (tS (n:=r.1) (by omega) (by omega) 110) (tS (n:=r.2) (by omega) (by omega) 110) (tS (n:=s.1) (by omega) (by omega) 110) (tS (n:=s.2) (by omega) (by omega) 110) ne
      exact⟨b.1.mono (by decide),b.2.1.mono (by decide),b.2.2.mono (by decide)⟩
     have lL:=hL1.len
     rw[aq,aF] at lL;have own:=xv hL1 ok.xu ok.yv (ok.ins r (av hri)) fun j' hj' z=>nodup_ne ok.nd hri z ((aT.mp hj').elim (hj0 j') fun q=>(hjs j' (dC q)).2.1) rfl
     have tk:j0++js.take (k+1)=(j0++js.take k)++[j]:=by
      rw[bU,hj,bI];rfl
     refine⟨hL1.poly,hL1.lnb,bm,by omega,fun q1=> ?_,fun l' q1 q2 rt ld=> ?_,fun q1 _=> ?_⟩
     ·rw[tk];exact vE hL1 hs q1
     ·rw[tk];exact xw hL1 hs (fun z=>(aT.mp z).elim jn (xj nd hj)) bm q1 q2 rt ld
     ·obtain⟨w,hw,lt⟩:=ro hL1.poly own (vc ne)
      have:=q1 w hw
      omega
    ·rw[ah,bo] at hL';refine h f' c' e' ps' L' H' (x1.trans x') ?_ hf' hL';rcases nf with n|n
     ·exact .inl ⟨x1.none n.nf,x1.none n.nc,x1.none n.ne,n.ce⟩
     ·exact .inr (by rw[ah] at n;exact n)
theorem oa:FnScope ["box","spots","number"] ["box","spots","number"] (iL s_land_within):=⟨rfl,rfl,rfl,by decide+kernel,rfl,by decide+kernel,by decide+kernel⟩
theorem ok_land_within{C:Cz}{f:Addr}{fd:FuncData}(F:Fun K "land_within" "land_within" s_land_within f fd)(T:Txt K mg C)(F_others_of:FnB P w K mg base (CXE P w) 1 "others_of" ["spots","number"] ny)(F_box_field:FnB P w K mg base (CXE P w) 2 "box_field" ["box"] km)(F_cut_off:FnB P w K mg base (CXE P w) 7 "cut_off" ["field","spots","number","others"] (nA K)):FnOk P w K mg base (CXE P w) 8 f fd ["box","spots","number"] (lS K):=by
 refine okN F (k:=7) oa (fun vs H Q E h=> ?_) (fun cdv A outer s H vs Q E hr h=> ?_)
 ·obtain⟨b,l,i,x,y,u,v,qs,rs,r,rfl,_⟩:=h
  rfl
 ·obtain⟨b,l,i,x,y,u,v,qs,rs,r,rfl,h⟩:=h
  refine'⟨_,?main,?rest⟩
  case main=>
   refine' iM ?c1
   case' c1=>refine' i4 ?c2
   case' c2=>refine' i9 ?c3 ?c4 ?c5 ?c6 ?c7
   case c3=>exact F_cut_off
   case c4=>exact(hr.mono (by decide))
   case c5=>exact rfl
   case c6=>exact iV
   case' c7=>refine' iI ?c8 ?c9
   case' c8=>refine' i9 F_box_field (hr.mono (by decide)) rfl iV ?c10
   case' c10=>exact iI (pvF 0) iK
   case' c9=>refine' iI (pvF 1) ?c11
   case' c11=>refine' iI (pvF 2) ?c12
   case' c12=>refine' iI ?c13 iK
   case' c13=>refine' i9 F_others_of (hr.mono (by decide)) rfl iV ?c14
   case' c14=>refine' iI (pvF 1) ?c15
   case' c15=>exact iI (pvF 2) iK
  case rest=>
   obtain⟨ok,hri,h⟩:=h
   have lq:(qs.map V.ref).length=rs.length:=by rw[ah];exact ok.at_.1
   have n12:=ok.n12
   have z:=ok.sz
   have xu:=ok.xu
   have yv:=ok.yv
   walk_at "ST"
   o_head ⟨km⟩
   refine⟨x,y,u,v,ok.bx,xu,yv,fun f c e ps H2 x2 nf hf=> ?_⟩;have ok2:=ok.ext x2
   refine⟨l,i,qs.map V.ref,rfl,ok2.sp,by rw[lq];omega,fun D H3 x3 hD eD=> ?_⟩;rw[lq] at eD;have bx:Bd 300 x /\ Bd 300 y /\ Bd 300 u /\ Bd 300 v:=⟨tS (by omega) (by omega) 300,tS (by omega) (by omega) 300,tS (by omega) (by omega) 300,tS (by omega) (by omega) 300⟩
   refine⟨f,l,i,D,b,x,y,u,v,qs,rs,c,e,ps,lH x y u v,r,[],jo rs.length i,rfl,ok2.ext x3,hf.ext x3,xA rs r xu yv bx,hri,eD,pP _ _,by rw[bu,fw];exact cv (kO _ _) n12,fun j hj=>⟨(mem_othersL.mp hj).1,(mem_othersL.mp hj).2,by simp⟩,by simp,fun f' c' e' ps' L' H4 x4 nf4 hf4 hL4=> ?_⟩;have x23:=x2.trans x3
   refine h f' c' e' ps' L' H4 (x23.trans x4) ?_ hf4 hL4;rcases nf4 with n|⟨_,rfl,rfl,rfl⟩
   ·exact⟨x23.none n.nf,x23.none n.nc,x23.none n.ne,n.ce⟩
   ·exact nf
theorem wN:FnScope ["box","spots"] ["box","spots"] (iL s_lands):=⟨rfl,rfl,rfl,by decide+kernel,rfl,by decide+kernel,by decide+kernel⟩
theorem ok_lands{C:Cz}{f:Addr}{fd:FuncData}(F:Fun K "lands" "lands" s_lands f fd)(T:Txt K mg C)(F_land_within:FnB P w K mg base (CXE P w) 8 "land_within" ["box","spots","number"] (lS K))(F_check_box_and_spots:FnB P w K mg base (CXE P w) 3 "check_box_and_spots" ["box","spots"] (oz K)):FnOk P w K mg base (CXE P w) 9 f fd ["box","spots"] (pj K):=by
 refine okN F (k:=8) wN (fun vs H Q E h=> ?_) (fun cdv A outer s H vs Q E hr h=> ?_)
 ·obtain⟨b,l,x,y,u,v,qs,rs,rfl,_⟩:=h
  rfl
 ·obtain⟨b,l,x,y,u,v,qs,rs,rfl,h⟩:=h
  refine'⟨_,?main,?rest⟩
  case main=>
   refine' iO ?c1 ?c2
   case' c1=>refine' jx ?c3
   case' c3=>refine' i9 F_check_box_and_spots (hr.mono (by decide)) rfl iV ?c4
   case' c4=>refine' iI (pvF 0) ?c5
   case' c5=>exact iI (pvF 1) iK
   case' c2=>refine' iM ?c6
   case' c6=>refine' i4 ?c7
   case' c7=>refine' pO (CScope.of_ok (dsc:=iL s_lands) (N0:=["box","spots"]) (N:=["number","box","spots"]) (k:=1) (js:=[0,1]) rfl rfl (by decide+kernel)) rfl ?c8 ?c9 ?c10 ?c11
   case' c8=>refine' jJ rfl T.b_range ?c12
   case' c12=>refine' iI ?c13 iK
   case' c13=>refine' iU jb (by rfl) T.b_len aW ?c14
   case' c14=>exact iI (pvF 1) iK
   case' c9=>intro _ _ _ _ _ _;exact(iQ (i:=0) (by show bS (["number","box","spots"]:List Str);decide+kernel) rfl (aQ rfl))
   case' c10=>intro _ _ _ _ _ _;exact jF
   case' c11=>intro _ _ _ _ _ _;refine' i9 F_land_within (hr.mono (by decide)) rfl iV ?c15
   case' c15=>refine' iI (pvF 1) ?c16
   case' c16=>refine' iI (pvF 2) ?c17
   case' c17=>exact iI (pvF 0) iK
  case rest=>
   obtain⟨ok,h⟩:=h
   have lq:(qs.map V.ref).length=rs.length:=by rw[ah];exact ok.at_.1
   have n12:=ok.n12
   walk_at "ST"
   o_head ⟨oz⟩
   refine⟨⟨x,y,u,v,qs,rs,ok⟩,fun H0 x0=> ?_⟩;have ok0:=ok.ext x0
   refine lP rs.length (fun R hR=>by o_head ⟨ok0.sp,lq,rI,rI⟩;exact hR) (by omega) (fun D k ys H'=>∃fs:List Addr,ys=fs.map V.ref /\ fs.length=k /\ H' D=some (.lst ys) /\ Ext H0 H' /\ sx (upd H0 D (.lst [])) H' fs x y u v rs) ?_ ?_ ?_ ?_
   ·intro D hD;exact⟨[],rfl,rfl,iN,.upd hD,fun i f hi=>by simp at hi⟩
   ·rintro D k ys H1 _ ⟨fs,rfl,rfl,e1,x1,_⟩;exact⟨e1,by rw[ah];exact ax _⟩
   ·rintro D k ys H1 hD hk ⟨fs,rfl,rfl,e1,x1,ls⟩;have ok1:=ok0.ext x1
    obtain⟨r,hr'⟩:∃r,rs[fs.length]? =some r:=⟨_,ag hk⟩
    walk_at "RD"
    refine⟨b,l,fs.length,x,y,u,v,qs,rs,r,by rw[bR],ok1,hr',fun f c e ps L H2 x2 nf hf hL=> ?_⟩;refine⟨x2 _ _ e1,fs++[f],by rw[mZ],by rw[aq];rfl,(x1.trans x2).set hD,fun i f' hi=> ?_⟩;have dn:∀{a:Addr},H1 a=none ->upd H0 D (.lst []) a=none:=fun {a} ha=>(i6 (fun z=>by rw[z,e1] at ha;cases ha)).trans (x1.none ha)
    by_cases hlt:i<fs.length
    ·rw[aN hlt] at hi;obtain⟨c',e',ps',L',r',g1,g2,g3,g4⟩:=ls i f' hi
     exact⟨c',e',ps',L',r',g1,(g2.ext x2).setL (fun z=>by have:=g4.nc;rw[z,iN] at this;cases this) (fun z=>by have:=g4.ne;rw[z,iN] at this;cases this) (x2 _ _ e1),g3,g4⟩
    ·have:i=fs.length:=by
      have:=(aa.mp hi).1
      rw[aq] at this;simp only[aV,bu] at this;omega
     subst this;rw[aH (ax _),gQ] at hi;cases hi;exact⟨c,e,ps,L,r,hr',hf.setL (fun z=>by have:=nf.nc;rw[z,e1] at this;cases this) (fun z=>by have:=nf.ne;rw[z,e1] at this;cases this) (x2 _ _ e1),hL,⟨dn nf.nf,dn nf.nc,dn nf.ne,nf.ce⟩⟩
   ·rintro D ys H1 hD ⟨fs,rfl,lf,e1,x1,ls⟩;refine h D fs H1 (x0.trans x1) (x0.none hD) e1 lf fun i f hi=> ?_
    obtain⟨c,e,ps,L,r,g1,g2,g3,g4⟩:=ls i f hi
    have xd:=x0.then (o:= .lst []) hD
    exact⟨c,e,ps,L,r,g1,g2,g3,⟨xd.none g4.nf,xd.none g4.nc,xd.none g4.ne,g4.ce⟩⟩
theorem qA:FnScope ["box","spots","lot"] ["box","spots","lot"] (iL s_check_lot):=⟨rfl,rfl,rfl,by decide+kernel,rfl,by decide+kernel,by decide+kernel⟩
theorem ok_check_lot{C:Cz}{f:Addr}{fd:FuncData}(F:Fun K "check_lot" "check_lot" s_check_lot f fd)(T:Txt K mg C)(F_are_unlike:FnB P w K mg base (CXE P w) 1 "are_unlike" ["spots","numbers"] (nu K))(F_check_box_and_spots:FnB P w K mg base (CXE P w) 3 "check_box_and_spots" ["box","spots"] (oz K)):FnOk P w K mg base (CXE P w) 4 f fd ["box","spots","lot"] (kI K):=by
 refine okN F (k:=3) qA (fun vs H Q E h=> ?_) (fun cdv A outer s H vs Q E hr h=> ?_)
 ·obtain⟨b,l,t,x,y,u,v,qs,rs,lot,rfl,_⟩:=h
  rfl
 ·obtain⟨b,l,t,x,y,u,v,qs,rs,lot,rfl,h⟩:=h
  refine'⟨_,?main,?rest⟩
  case main=>
   refine' iO ?c1 ?c2
   case' c1=>refine' jx ?c3
   case' c3=>refine' i9 F_check_box_and_spots (hr.mono (by decide)) rfl iV ?c4
   case' c4=>refine' iI (pvF 0) ?c5
   case' c5=>exact iI (pvF 1) iK
   case' c2=>refine' iM ?c6
   case' c6=>refine' jm ?c7 ?c8 ?c9
   case' c7=>refine' PW.pt ?c10
   case' c10=>refine' k9 ?c11 ?c12
   case' c11=>refine' lg ?c13
   case' c13=>refine' jP ?c14
   case' c14=>refine' i9 F_are_unlike (hr.mono (by decide)) rfl iV ?c15
   case' c15=>refine' iI (pvF 1) ?c16
   case' c16=>exact iI (pvF 2) iK
   case' c12=>refine' kX ?c17
   case' c17=>refine' iT jD ?c18 ?c19 (iZ _)
   case' c18=>refine' iU jb (by rfl) T.b_len aW ?c20
   case' c20=>exact iI (pvF 2) iK
   case' c19=>refine' iU jb (by rfl) T.b_len aW ?c21
   case' c21=>exact iI (pvF 1) iK
   case' c8=>exact iM kK
   case c9=>exact i8
  case rest=>
   obtain⟨ok,ht,nd,l0,ll,hlt,h⟩:=h
   have n12:=ok.n12
   have lq:(qs.map V.ref).length=rs.length:=by rw[ah,ok.at_.1]
   walk_at "ST"
   o_head ⟨oz⟩
   refine⟨⟨x,y,u,v,qs,rs,ok⟩,fun H0 x0=> ?_⟩;have ok0:=ok.ext x0
   refine⟨l,t,qs.map V.ref,lot,rfl,ok0.sp,x0 _ _ ht,nd,l0,by omega,fun j hj=>by rw[lq];exact hlt j hj,fun H1 x1=> ?_⟩
   o_head ⟨x1 _ _ (x0 _ _ ht),x1 _ _ ok0.sp,kz,lq⟩
   rw[if_neg (by omega)];exact h _ (x0.trans x1)
theorem og:FnScope ["one","other"] ["one","other"] (iL s_edge_before):=⟨rfl,rfl,rfl,by decide+kernel,rfl,by decide+kernel,by decide+kernel⟩
theorem ok_edge_before{C:Cz}{f:Addr}{fd:FuncData}(F:Fun K "edge_before" "edge_before" s_edge_before f fd)(T:Txt K mg C)(F_ahead:FnB P w K mg base (CXE P w) 1 "ahead" ["one","other"] lC):FnOk P w K mg base (CXE P w) 2 f fd ["one","other"] (yX K):=by
 refine okN F (k:=1) og (fun vs H Q E h=> ?_) (fun cdv A outer s H vs Q E hr h=> ?_)
 ·obtain⟨p,q,z,z2,rfl,_⟩:=h
  rfl
 ·obtain⟨p,q,z,z2,rfl,h⟩:=h
  refine'⟨_,?main,?rest⟩
  case main=>
   refine' iO ?c1 ?c2
   case' c1=>refine' jm ?c3 ?c4 ?c5
   case' c3=>refine' iT (rG (K:=K) rfl (AA hr)) ?c6 ?c7 (iZ _)
   case' c6=>exact iW jg (pvF 0) iJ (fun _ _=>rfl)
   case' c7=>exact iW jg (pvF 1) iJ (fun _ _=>rfl)
   case' c4=>refine' iM ?c8
   case' c8=>refine' i4 ?c9
   case' c9=>refine' i9 F_ahead (hr.mono (by decide)) rfl iV ?c10
   case' c10=>refine' iI ?c11 ?c12
   case' c11=>exact iW jg (pvF 0) iJ (fun _ _=>rfl)
   case' c12=>refine' iI ?c13 iK
   case' c13=>exact iW jg (pvF 1) iJ (fun _ _=>rfl)
   case c5=>exact i8
   case' c2=>refine' iM ?c14
   case' c14=>refine' i4 ?c15
   case' c15=>refine' i9 F_ahead (hr.mono (by decide)) rfl iV ?c16
   case' c16=>refine' iI ?c17 ?c18
   case' c17=>exact iW jg (pvF 0) iJ (fun _ _=>rfl)
   case' c18=>refine' iI ?c19 iK
   case' c19=>exact iW jg (pvF 1) iJ (fun _ _=>rfl)
  case rest=>
   obtain⟨⟨s1,e1,p1,p2,p3⟩,⟨s2,e2,q1,q2,q3⟩,⟨_,b1,b2⟩,⟨_,b3,b4⟩,h⟩:=h
   walk_at "ST"
   o_head ⟨p1,q1,lC,p2,p3,q2,q3,rI,rI,rI,rI,rI⟩
   refine⟨_,_,mG p2,mG q2,kA _,kA _,?_⟩;rw[vR];dsimp only;have hq:∀b:Bool,b=decide (EB z z2) ->Q (.bl b) H:=fun b e=>by rw[e];exact h
   clear h
   by_cases c:z.1=z2.1
   ·have h:decide (Ahd z.2.1 z2.2.1)=decide (EB z z2):=decide_eq_decide.mpr (by unfold EB;rw[if_pos c])
    rw[if_pos (show id (decide (z.1=z2.1))=true from decide_eq_true c)];rw[p1,jV,iR,show atI [V.ref s1,V.ref e1,V.int z.2.2.1,V.int z.2.2.2] 1=some (V.ref e1) from rfl,iR,q1,jV,iR,show atI [V.ref s2,V.ref e2,V.int z2.2.2.1,V.int z2.2.2.2] 1=some (V.ref e2) from rfl,iR];refine⟨_,rfl,_,rfl,?_⟩;rw[p3,q3];refine⟨b2,b4,?_⟩;rw[mv z.2.1 z2.2.1];exact hq _ h
   ·have h:decide (Ahd z.1 z2.1)=decide (EB z z2):=decide_eq_decide.mpr (by unfold EB;rw[if_neg c])
    rw[if_neg (show¬id (decide (z.1=z2.1))=true from fun g=>c (of_decide_eq_true g))];rw[p1,jV,iR,rd,iR,q1,jV,iR,rd,iR];refine⟨_,rfl,_,rfl,?_⟩;rw[p2,q2];refine⟨b1,b3,?_⟩;rw[mv z.1 z2.1];exact hq _ h
theorem sc_ordered:FnScope ["things","before","told","thing","at"] ["things","before"] (iL s_ordered):=⟨rfl,rfl,rfl,by decide+kernel,rfl,by decide+kernel,by decide+kernel⟩
theorem ok_ordered{C:Cz}{f:Addr}{fd:FuncData}(F:Fun K "ordered" "ordered" s_ordered f fd)(T:Txt K mg C)(F_edge_before:FnB P w K mg base (CXE P w) 2 "edge_before" ["one","other"] (yX K)):FnOk P w K mg base (CXE P w) 3 f fd ["things","before"] (ly K C):=by
 refine okN F (k:=2) sc_ordered (fun vs H Q E h=> ?_) (fun cdv A outer s H vs Q E hr h=> ?_)
 ·obtain⟨l,ts,zs,rfl,_⟩:=h
  rfl
 ·obtain⟨l,ts,zs,rfl,h⟩:=h
  refine'⟨_,?main,?rest⟩
  case main=>
   refine' i7 ?c1 ?c2
   case' c1=>refine' jc (i:=2) sc_ordered.nd rfl (aQ rfl) ?c3
   case' c3=>exact jO iK
   case' c2=>refine' iO ?c4 ?c5
   case' c4=>refine' j6 ?c6 ?c7 ?c8 ?c9 ?c10
   case c6=>exact PassesOwn.never
   case c7=>exact rfl
   case c8=>exact(jG (K:=K) rfl (pvF 0))
   case c9=>exact(iQ (i:=3) sc_ordered.nd rfl (aQ rfl))
   case' c10=>refine' iO ?c11 ?c12
   case' c11=>refine' jc (i:=4) sc_ordered.nd rfl (aQ rfl) ?c13
   case' c13=>refine' iU jb (by rfl) T.b_len aW ?c14
   case' c14=>exact iI (pvF 2) iK
   case' c12=>refine' iO ?c15 ?c16
   case' c15=>refine' mX ?c17 ?c18 ?c19
   case c17=>exact PassesOwn.never
   case' c18=>refine' PW.pt ?c20
   case' c20=>refine' lF ?c21 ?c22
   case' c21=>exact iT (OpR.f0 mR) (pvF 4) iJ (iZ _)
   case' c22=>refine' kx ?c23
   case' c23=>refine' jP ?c24
   case' c24=>refine' Bk F_edge_before T.g_edge_before (hr.mono (by decide)) (pvF 1) iV ?c25
   case' c25=>refine' iI (pvF 3) ?c26
   case' c26=>refine' iI ?c27 iK
   case' c27=>refine' iW jg (pvF 2) ?c28 (fun _ _=>rfl)
   case' c28=>exact iS (OpR.f0 jy) (pvF 4) iJ
   case' c19=>refine' iM ?c29
   case' c29=>exact Be (i:=4) sc_ordered.nd rfl (aQ rfl) iJ BA
   case' c16=>refine' iM ?c30
   case' c30=>refine' jx ?c31
   case' c31=>refine' zu (pvF 2) ?c32
   case' c32=>refine' iI (pvF 4) ?c33
   case' c33=>exact iI (pvF 3) iK
   case' c5=>exact iM (i4 (pvF 2))
  case rest=>
   obtain⟨hl,hR0,hb,ln,h⟩:=h
   have lt:(ts.map V.ref).length=ts.length:=ah _
   walk_at "ST"
   refine⟨fun σ H'=>∃D:Addr,σ=[some (.ref l),some (.ref C.edge_before),some (.ref D),none,none] /\ Ext H H' /\ H D=none /\ H' D=some (.lst []),?_,?_⟩
   ·walk_at "RD"
    exact⟨by decide,fun D hD=>⟨.upd hD,hD⟩⟩
   rintro σ H1 ⟨D,rfl,x1,nD,eD⟩;refine lQ (K:=K) (a:=l) (xs:=ts.map V.ref) (fun R hR=>by walk_at "RD";exact hR) (fun i σ H'=>∃(us:List Addr) (ws:List Rw) (o3 o4:Option V),σ=[some (.ref l),some (.ref C.edge_before),some (.ref D),o3,o4] /\ Ext H H' /\ H' D=some (.lst (us.map V.ref)) /\ RwsAt H' us ws /\ ws.Perm (zs.take i) /\ yM ws) ⟨[],[],_,_,rfl,x1,eD,⟨rfl,fun i t z a=>by simp at a⟩,ix _,fE⟩ ?_ ?_ ?_
   ·rintro i σ H2 _ ⟨us,ws,o3,o4,rfl,x2,eD2,ra,pm,so⟩;exact SqL.of (x2 _ _ hl)
   rotate_left
   ·rintro σ H2 ⟨us,ws,o3,o4,rfl,x2,eD2,ra,pm,so⟩;rw[lt,hR0.1,bo] at pm;walk_at "RD"
    exact h D us ws H2 x2 nD eD2 ra pm so
   rintro i v σ H2 hi ⟨us,ws,o3,o4,rfl,x2,eD2,ra,pm,so⟩;obtain⟨t,ht,rfl⟩:=jw hi
   have il:=(aa.mp ht).1
   obtain⟨z,hz,rz⟩:=hR0.at ht
   have bz:=hb z (av hz)
   have lu:us.length<=900:=by have:=pm.length_eq;rw[aF] at this;rw[ra.1];omega
   have rt:=rz.ext x2
   have lw:us.length=ws.length:=ra.1
   have bw:∀w∈ws,wm w:=fun w hw=>hb w (dC (pm.mem_iff.mp hw))
   have lU:(us.map V.ref).length=us.length:=ah _
   o_head ⟨eD2,lU,rI,rI⟩
   refine⟨fun k σ H'=>k<=us.length /\ (∀w∈ws.drop k,EB z w) /\ σ=[some (.ref l),some (.ref C.edge_before),some (.ref D),some (.ref t),some (.int (k:Int))] /\ H'=H2,⟨us.length,ax _,fun w hw=>(by rw[lw,hU] at hw;cases hw),rfl,rfl⟩,?_⟩;rintro k σ H3 ⟨ku,up,rfl,rfl⟩;have done:∀k:Nat,k<=us.length ->(∀w∈ws.drop k,EB z w) ->(k=0∨∃w,ws[k-1]? =some w /\ ¬EB z w) ->Ext H (upd H3 D (.lst ((us.map V.ref).take k++[.ref t]++(us.map V.ref).drop k))) /\ ∃x:List Addr,HO.lst ((us.map V.ref).take k++[.ref t]++(us.map V.ref).drop k)=HO.lst (x.map V.ref) /\ ∃y:List Rw,RwsAt (upd H3 D (.lst ((us.map V.ref).take k++[.ref t]++(us.map V.ref).drop k))) x y /\ y.Perm (zs.take (i+1)) /\ yM y:=fun k ku up dn=>by
    refine⟨x2.set nD,us.take k++[t]++us.drop k,by rw[ay,ay,cO,du];rfl,ws.take k++[z]++ws.drop k,?_,?_,yW so bz.1 (fun w hw=>(bw w hw).1) (by omega) up dn⟩
    ·have r0:=((ra.take k).app (.one rt)).app (ra.drop k)
     refine⟨r0.1,fun i t z a b=> ?_⟩;obtain⟨s,e,g1,g2,g3⟩:=r0.2 i t z a b
     exact⟨s,e,(i6 (lI g1 eD2 (by intro z;cases z))).trans g1,(i6 (lI g2 eD2 (by intro z;cases z))).trans g2,(i6 (lI g3 eD2 (by intro z;cases z))).trans g3⟩
    ·rw[cR,hz];refine List.Perm.trans ?_ (pm.append_right _);rw[bI];refine(List.perm_append_comm_assoc _ _ _).trans ?_;rw[cF];exact gj
   have ia:p7 (us.map V.ref).length (k:Int)=k:=by unfold p7;rw[if_neg (by omega),lU];omega
   o_head ⟨eD2⟩
   by_cases c0:0<(k:Int)
   rotate_left
   ·rw[if_neg c0,ia];exact⟨by omega,by omega,by omega,⟨_,rfl⟩,done k ku up (.inl (by omega))⟩
   rw[if_pos c0];obtain⟨j,rfl⟩:∃j,k=j+1:=⟨k-1,by omega⟩
   obtain⟨u,hu⟩:∃u,us[j]? =some u:=⟨_,ag (by omega)⟩
   obtain⟨w,hw,rw'⟩:=ra.at hu
   rw[show((j+1:Nat):Int)-1=((j:Nat):Int) by omega,jr (j:=j) (v:=V.ref u) (by rw[au,hu];rfl),iR];refine⟨t,u,z,w,rfl,rt,rw',bz,bw w (av hw),?_⟩;dsimp only
   by_cases b:EB z w
   rotate_left
   ·rw[decide_eq_false b,if_neg (by decide),eD2,jA,iR,ia];exact⟨rfl,by omega,by omega,by omega,⟨_,rfl⟩,done (j+1) ku up (.inr ⟨w,hw,b⟩)⟩
   ·rw[decide_eq_true b,if_pos rfl];refine⟨fun σ H'=>σ=[some (.ref l),some (.ref C.edge_before),some (.ref D),some (.ref t),some (.int (j:Int))] /\ H'=H3,?_,?_⟩
    ·rintro σ H4 ⟨rfl,rfl⟩;refine⟨j,by omega,by omega,fun w' hw'=> ?_,rfl,rfl⟩;rw[bT (show j<ws.length by omega)] at hw';rcases aw.mp hw' with g|g
     ·rw[g,(aa.mp hw).2];exact b
     ·exact up w' g
    ·refine⟨.int ((j+1:Nat):Int),rfl,?_⟩;refine⟨((j+1:Nat):Int),1,rfl,rfl,?_⟩;show [some (V.ref l),some (V.ref C.edge_before),some (V.ref D),some (V.ref t),some (V.int (((j+1:Nat):Int)-1))]=[some (V.ref l),some (V.ref C.edge_before),some (V.ref D),some (V.ref t),some (V.int (j:Int))] /\ H3=H3
     rw[show((j+1:Nat):Int)-1=(j:Int) by omega];exact⟨rfl,rfl⟩
theorem sc_seam:FnScope ["box","spots","lot","rows","number","corners","edges","start","end","called"] ["box","spots","lot"] (iL s_seam):=⟨rfl,rfl,rfl,by decide+kernel,rfl,by decide+kernel,by decide+kernel⟩
theorem ok_seam{C:Cz}{f:Addr}{fd:FuncData}(F:Fun K "seam" "seam" s_seam f fd)(T:Txt K mg C)(F_ordered:FnB P w K mg base (CXE P w) 3 "ordered" ["things","before"] (ly K C))(F_land_within:FnB P w K mg base (CXE P w) 8 "land_within" ["box","spots","number"] (lS K))(F_check_lot:FnB P w K mg base (CXE P w) 4 "check_lot" ["box","spots","lot"] (kI K)):FnOk P w K mg base (CXE P w) 9 f fd ["box","spots","lot"] (pf K C):=by
 refine okN F (k:=8) sc_seam (fun vs H Q E h=> ?_) (fun cdv A outer s H vs Q E hr h=> ?_)
 ·obtain⟨b,l,t,x,y,u,v,qs,rs,lot,rfl,_⟩:=h
  rfl
 ·obtain⟨b,l,t,x,y,u,v,qs,rs,lot,rfl,h⟩:=h
  refine'⟨_,?main,?rest⟩
  case main=>
   refine' i7 ?c1 ?c2
   case' c1=>refine' jx ?c3
   case' c3=>refine' i9 F_check_lot (hr.mono (by decide)) rfl iV ?c4
   case' c4=>refine' iI (pvF 0) ?c5
   case' c5=>refine' iI (pvF 1) ?c6
   case' c6=>exact iI (pvF 2) iK
   case' c2=>refine' i7 ?c7 ?c8
   case' c7=>refine' jc (i:=3) sc_seam.nd rfl (aQ rfl) ?c9
   case' c9=>exact jO iK
   case' c8=>refine' i7 ?c10 ?c11
   case' c10=>refine' j6 ?c12 ?c13 ?c14 ?c15 ?c16
   case c12=>exact PassesOwn.never
   case c13=>exact rfl
   case c14=>exact(jG (K:=K) rfl (pvF 2))
   case c15=>exact(iQ (i:=4) sc_seam.nd rfl (aQ rfl))
   case' c16=>refine' i7 ?c17 ?c18
   case' c17=>refine' kB ?c19 ?c20
   case' c19=>refine' i9 F_land_within (hr.mono (by decide)) rfl iV ?c21
   case' c21=>refine' iI (pvF 0) ?c22
   case' c22=>refine' iI (pvF 1) ?c23
   case' c23=>exact iI (pvF 4) iK
   case' c20=>refine' n6 (n:=2) rfl ?c24
   case' c24=>refine' iP (iQ (i:=5) sc_seam.nd rfl (aQ rfl)) ?c25
   case' c25=>exact iP (iQ (i:=6) sc_seam.nd rfl (aQ rfl)) jh
   case' c18=>refine' iM ?c26
   case' c26=>refine' j6 ?c27 ?c28 ?c29 ?c30 ?c31
   case c27=>exact PassesOwn.never
   case c28=>exact rfl
   case' c29=>refine' zm (K:=K) rfl rfl T.b_zip ?c32
   case' c32=>refine' iI ?c33 ?c34
   case c33=>exact(pvF 5)
   case' c34=>refine' iI ?c35 ?c36
   case' c35=>refine' iS rH ?c37 ?c38
   case' c37=>refine' j1 y4 (pvF 5) ?c39 kM
   case' c39=>exact kL iJ
   case' c38=>refine' j1 y4 (pvF 5) kM ?c40
   case' c40=>exact kL iJ
   case' c36=>exact iI (pvF 6) iK
   case' c30=>refine' n6 (n:=3) rfl ?c41
   case' c41=>refine' iP (iQ (i:=7) sc_seam.nd rfl (aQ rfl)) ?c42
   case' c42=>refine' iP (iQ (i:=8) sc_seam.nd rfl (aQ rfl)) ?c43
   case' c43=>exact iP (iQ (i:=9) sc_seam.nd rfl (aQ rfl)) jh
   case' c31=>refine' iM ?c44
   case' c44=>refine' jm ?c45 ?c46 ?c47
   case' c45=>refine' PW.pt ?c48
   case' c48=>refine' lF ?c49 ?c50
   case' c49=>exact iT (OpR.f0 qJ) (pvF 9) iJ (iZ _)
   case' c50=>exact kx (iT (kP (K:=K) rfl) (pvF 9) (pvF 2) (by with_unfolding_all rfl))
   case' c46=>refine' iM ?c51
   case' c51=>refine' jx ?c52
   case' c52=>refine' pe_app (pvF 3) ?c53
   case' c53=>refine' iI ?c54 iK
   case' c54=>refine' jk ?c55
   case' c55=>refine' iI (pvF 7) ?c56
   case' c56=>refine' iI (pvF 8) ?c57
   case' c57=>refine' iI (pvF 4) ?c58
   case' c58=>exact iI (pvF 9) iK
   case c47=>exact i8
   case' c11=>refine' iM ?c59
   case' c59=>refine' i4 ?c60
   case' c60=>refine' i9 F_ordered (hr.mono (by decide)) rfl iV ?c61
   case' c61=>refine' iI (pvF 3) ?c62
   case' c62=>exact iI (u9 (v:=V.ref C.edge_before) rfl T.g_edge_before rfl) iK
  case rest=>
   obtain⟨ok,ht,nd,l0,ll,hlt,h⟩:=h
   have n12:=ok.n12
   have lq:(qs.map V.ref).length=rs.length:=by rw[ah,ok.at_.1]
   walk_at "ST"
   refine⟨fun σ H'=>σ=[some (.ref b),some (.ref l),some (.ref t),none,none,none,none,none,none,none] /\ Ext H H',?_,?_⟩
   ·o_head ⟨kI⟩
    exact⟨x,y,u,v,qs,rs,ok,lot,ht,nd,l0,ll,hlt,fun H' x'=>x'⟩
   rintro σ H1 ⟨rfl,x1⟩;refine⟨fun σ H'=>∃D:Addr,σ=[some (.ref b),some (.ref l),some (.ref t),some (.ref D),none,none,none,none,none,none] /\ Ext H H' /\ H D=none /\ H' D=some (.lst []),?_,?_⟩
   ·walk_at "RD"
    exact⟨by decide,fun D hD=>⟨x1.then hD,x1.none hD⟩⟩
   rintro σ H2 ⟨D,rfl,x2,nD,eD⟩;refine⟨fun σ H'=>∃(us:List Addr) (Lf:Nat ->List Vx) (o4 o5 o6 o7 o8 o9:Option V),σ=[some (.ref b),some (.ref l),some (.ref t),some (.ref D),o4,o5,o6,o7,o8,o9] /\ Ext H (del H' D) /\ H' D=some (.lst (us.map V.ref)) /\ RwsAt (del H' D) us (jW lot Lf lot) /\ ko x y u v rs Lf lot /\ us.length<=900,?_,?_⟩
   rotate_left
   ·rintro σ H3 ⟨us,Lf,o4,o5,o6,o7,o8,o9,rfl,x3,eD3,ra,lf,lu⟩;have x3':Ext H H3:=x3.trans (kb _ _)
    have ra3:=ra.ext (kb H3 D)
    have rb:∀z∈jW lot Lf lot,wm z:=fun z hz=>by
     obtain⟨n,hn,hz'⟩:=eU.mp hz
     obtain⟨r,hr',lo⟩:=lf n hn
     exact wR ok.xu ok.yv ok.nd ok.ins hn hr' lo z hz'
    o_head ⟨ly⟩
    refine⟨us,eD3,jW lot Lf lot,ra3,rb,lu,fun E ws' ws H4 x4 nE eE rw4 pm so=> ?_⟩;exact h E ws' ws Lf H4 (x3'.trans x4) (x3'.none nE) eE rw4 pm so lf (fun z hz=>rb z (pm.mem_iff.mp hz)) (by rw[rw4.1,pm.length_eq, <-ra.1];exact lu)
   refine lQ (K:=K) (a:=t) (xs:=JsV lot) (fun R hR=>by walk_at "RD";exact hR) (fun i σ H'=>∃(us:List Addr) (Lf:Nat ->List Vx) (o4 o5 o6 o7 o8 o9:Option V),σ=[some (.ref b),some (.ref l),some (.ref t),some (.ref D),o4,o5,o6,o7,o8,o9] /\ Ext H (del H' D) /\ H' D=some (.lst (us.map V.ref)) /\ RwsAt (del H' D) us (jW lot Lf (lot.take i)) /\ ko x y u v rs Lf (lot.take i) /\ us.length<=30*i) ⟨[],fun _=>[],_,_,_,_,_,_,rfl,?_,eD,⟨rfl,fun i t z a=>by simp at a⟩,fun n hn=>(by simp at hn),bb _⟩ ?_ ?_ ?_
   ·exact fun z o hz=>(mJ (iY hz nD)).trans (x2 _ _ hz)
   ·rintro i σ H3 _ ⟨us,Lf,o4,o5,o6,o7,o8,o9,rfl,x3,eD3,ra,lf,lu⟩;exact SqL.of ((x3.trans (kb _ _)) _ _ ht)
   rotate_left
   ·rintro σ H3 ⟨us,Lf,o4,o5,o6,o7,o8,o9,rfl,x3,eD3,ra,lf,lu⟩;rw[kz] at lu;rw[kz,bo] at ra lf;exact⟨us,Lf,_,_,_,_,_,_,rfl,x3,eD3,ra,lf,by omega⟩
   rintro i w1 σ H3 hi ⟨us,Lf,o4,o5,o6,o7,o8,o9,rfl,x3,eD3,ra,lf,lu⟩;obtain⟨n,hn,rfl⟩:=sy hi
   have mn:=av hn
   have nl:=hlt n mn
   have nk:n∉lot.take i:=fun g=>by
    obtain⟨j,hj⟩:=bg g
    have lj:=(aa.mp hj).1
    rw[aF] at lj;rw[aY (by omega)] at hj;obtain⟨l1,f1⟩:=aa.mp hj
    obtain⟨l2,f2⟩:=aa.mp hn
    have:=(b7 nd).mp (f1.trans f2.symm)
    omega
   have tk:lot.take (i+1)=lot.take i++[n]:=by rw[cR,hn];rfl
   obtain⟨r,hr'⟩:∃r,rs[n]? =some r:=⟨_,ag nl⟩
   have x3':Ext H H3:=x3.trans (kb _ _)
   walk_at "RD"
   refine⟨fun σ H'=>∃(f c e:Addr) (ps:List Addr) (L:List Vx),σ=[some (.ref b),some (.ref l),some (.ref t),some (.ref D),some (.int (n:Int)),some (.ref c),some (.ref e),o7,o8,o9] /\ Ext H3 H' /\ NewF H3 f c e /\ FldAt H' f c e ps L /\ LandOk x y u v rs r (jo rs.length n) L,?_,?_⟩
   ·o_head ⟨lS⟩
    refine⟨n,rfl,x,y,u,v,qs,rs,ok.ext x3',r,hr',fun f c e ps L H4 x4 nf fa lo=> ?_⟩
    o_head ⟨kj,ky,ou,fa.at_⟩
    exact⟨x4,f,nf,ps,L,fa,lo⟩
   rintro σ H4 ⟨f,c,e,ps,L,rfl,x4,nf,fa,lo⟩;have eD4:=x4 _ _ eD3
   have nc:c≠D:=(iY eD3 nf.nc).symm
   have ne:e≠D:=(iY eD3 nf.ne).symm
   have fG:=fa.delD eD4 nc ne
   have xG:=(x3.trans (um (D:=D) x4))
   have sG:=ra.ext (um (D:=D) x4)
   have lps:ps.length=L.length:=by have:=fa.pt.1;rwa [ah] at this
   have lL:=lo.len
   have lo2:=kO rs.length n
   refine uE (fun a1 a2 a3 H'=>a1=c /\ a3=e /\ H' a2=some (.lst ((ps.drop 1++ps.take 1).map V.ref)) /\ a2≠D /\ Ext H4 H') (fun R hR=> ?_) ?_
   ·o_head ⟨fa.cs⟩
    intro a1 k1;generalize hG:upd H4 a1 _=G1;have y1:=zH hG k1
    have g1:=zI hG
    clear hG;rw[y1 _ _ fa.cs,jA,iR];intro a2 k2;generalize hG:upd G1 a2 _=G2;have y2:=zH hG k2
    have g2:=zI hG
    clear hG;rw[y2 _ _ g1,jA,iR];have c1:tN (ps.map V.ref) (some 1) none=(ps.map V.ref).drop 1:=qe _ 1
    have c2:tN (ps.map V.ref) none (some 1)=(ps.map V.ref).take 1:=qR _ 1
    rw[c1,c2];refine⟨by rw[aI,aF,ah];omega,?_⟩;intro a3 k3;generalize hG:upd G2 a3 _=G3;have y3:=zH hG k3
    have g3:=zI hG
    clear hG;exact hR c a3 e G3 ⟨rfl,rfl,by rw[g3,ay,du,cO],(iY (y2 _ _ (y1 _ _ eD4)) k3).symm,y1.trans (y2.trans y3)⟩
   rintro a1 a2 a3 H5 ⟨rfl,rfl,e2,n2,x5⟩;have x5D:=um (D:=D) x5
   refine⟨ps.map V.ref,(ps.drop 1++ps.take 1).map V.ref,(L.map (·.2.2)).map V.int,fun k σ H'=>∃(us:List Addr) (o7 o8 o9:Option V),σ=[some (.ref b),some (.ref l),some (.ref t),some (.ref D),some (.int (n:Int)),some (.ref a1),some (.ref a3),o7,o8,o9] /\ Ext (del H5 D) (del H' D) /\ H' D=some (.lst (us.map V.ref)) /\ RwsAt (del H' D) us (jW lot Lf (lot.take i)++((qp L).take k).filterMap (qg lot n)) /\ us.length<=30*i+k,
    by rw[ah,ah,aq,aI,aF];omega,by rw[ah,ah,ah,lps],⟨us,_,_,_,rfl,.refl _,x5 _ _ eD4,(by rw[gz,gK,aL];exact sG.ext x5D),by omega⟩,?_,?_,?_⟩
   ·rintro k σ H6 _ ⟨us,o7,o8,o9,rfl,x6,eD6,sk6,lu⟩;have xx:=x6.trans (kb H6 D)
    exact⟨SqL.of (xx _ _ (x5D _ _ fG.cs)),SqL.of (xx _ _ ((mJ n2).trans e2)),SqL.of (xx _ _ (x5D _ _ fG.es))⟩
   rotate_left
   ·rintro σ H6 ⟨us,o7,o8,o9,rfl,x6,eD6,sk6,lu⟩;rw[ah,lps] at lu sk6;rw[<-sD L,bo] at sk6;refine⟨⟨_,_,_,_,_,_,rfl⟩,xG.trans (x5D.trans x6),us,eD6,fun m=>if m=n then L else Lf m,?_,?_,by omega⟩
    ·rw[tk,qy nk];exact sk6
    ·rw[tk];exact nQ lf nk hr' lo
   rintro k vx vy vz tt σ H6 hx hy hz ⟨us,o7,o8,o9,rfl,x6,eD6,sk6,lu⟩ htt;obtain⟨q1,hq1,rfl⟩:=jw hx
   obtain⟨q2,hq2,rfl⟩:=jw hy
   rw[au,au] at hz;obtain⟨nm,hnm,rfl⟩:=cY.mp hz
   obtain⟨w,hw,rfl⟩:=cY.mp hnm
   obtain⟨w2,hw2,htr⟩:=uD hw
   have tk2:((qp L).take (k+1)).filterMap (qg lot n)=((qp L).take k).filterMap (qg lot n)++(qg lot n (w.1,w2.1,w.2.2)).toList:=by
    rw[cR,htr,gk]
    congr 1
   have xt:=Ext.upd (o:= .tup [.ref q1,.ref q2,.int w.2.2]) htt
   have et:=iN (H:=H6) (a:=tt) (o:= .tup [.ref q1,.ref q2,.int w.2.2])
   generalize upd H6 tt (.tup [.ref q1,.ref q2,.int w.2.2])=H7 at xt et⊢;have xt':=um (D:=D) xt
   have sk7:=sk6.ext xt'
   have eD7:=xt _ _ eD6
   have x67:=x6.trans xt'
   o_head ⟨kj,ky,ou,et⟩
   by_cases c0:0<=w.2.2
   rotate_left
   ·rw[if_neg c0];refine⟨x67,us,eD7,?_,by omega⟩;rw[tk2,show qg lot n (w.1,w2.1,w.2.2)=none from if_neg (fun o=>c0 o.1)];simp only[dZ,aL];exact sk7
   rw[if_pos c0];obtain⟨m,hm⟩:∃m:Nat,w.2.2=(m:Int):=⟨w.2.2.toNat,by omega⟩
   have ht7:H7 t=some (.lst (JsV lot)):=(xG.trans (x5D.trans (x67.trans (kb H7 D)))) _ _ ht
   refine⟨t,JsV lot,rfl,.inl (SqL.of ht7),rfl,xK lot,?_⟩;dsimp only;rw[if_pos rfl,hm,vL]
   by_cases cm:m∈lot
   ·rw[decide_eq_true cm,if_neg (by decide)];refine⟨x67,us,eD7,?_,by omega⟩;rw[tk2,show qg lot n (w.1,w2.1,w.2.2)=none from if_neg (fun o=>o.2 m cm hm)];simp only[dZ,aL];exact sk7
   rw[decide_eq_false cm,if_pos (by decide)];refine⟨by rw[eD7];rfl,by decide,fun p hp=> ?_⟩;have xp:=Ext.upd (o:= .tup [.ref q1,.ref q2,.int (n:Int),.int (m:Int)]) hp
   have ep:=iN (H:=H7) (a:=p) (o:= .tup [.ref q1,.ref q2,.int (n:Int),.int (m:Int)])
   generalize upd H7 p (.tup [.ref q1,.ref q2,.int (n:Int),.int (m:Int)])=H8 at xp ep⊢;have eD8:=xp _ _ eD7
   rw[eD8,jA,iR];have nlL:=(aa.mp hw).1
   have ilL:=(aa.mp hn).1
   have xD:=(um (D:=D) xp).trans (tL H8 D (.lst (us.map V.ref++[.ref p])))
   have pD:p≠D:=lI ep eD8 (by intro z;cases z)
   have ep':del (upd H8 D (.lst (us.map V.ref++[.ref p]))) D p=some (.tup [.ref q1,.ref q2,.int (n:Int),.int (m:Int)]):=(mJ pD).trans ((i6 pD).trans ep)
   have big:=x5D.trans (x67.trans xD)
   have c1:del H4 D q1=some (.tup [.int w.1.1,.int w.1.2.1,.int w.1.2.2]):=fG.pt.2 k q1 w.1 hq1 (by rw[au,hw];rfl)
   have c2:del H4 D q2=some (.tup [.int w2.1.1,.int w2.1.2.1,.int w2.1.2.2]):=by
    have e1:(L.map (·.1)).drop 1++(L.map (·.1)).take 1=(L.drop 1++L.take 1).map (·.1):=by rw[ay,du,cO]
    have r:=fG.pt.rot1.2 k q2 w2.1 hq2 (by rw[e1,au,hw2];rfl)
    exact r
   refine⟨by rw[ah];omega,x67.trans xD,us++[p],by rw[ay];rfl,?_,by rw[aq];show _+1<=_;omega⟩;rw[tk2,show qg lot n (w.1,w2.1,w.2.2)=some (w.1,w2.1,(n:Int),w.2.2) from if_pos ⟨c0,fun j hj e=>cm (by have e':w.2.2=(j:Int):=e;rw[show m=j by omega];exact hj)⟩, <-bI];refine(sk7.ext xD).app (.one ⟨q1,q2,?_,big _ _ c1,big _ _ c2⟩);show _=some (HO.tup [V.ref q1,V.ref q2,V.int (n:Int),V.int w.2.2])
   rw[hm];exact ep'
theorem qB:FnScope ["_law_script"] ["_law_script"] (iL s__law_feed):=⟨rfl,rfl,rfl,by decide+kernel,rfl,by decide+kernel,by decide+kernel⟩
theorem ok__law_feed{C:Cz}{f:Addr}{fd:FuncData}(F:Fun K "_law_feed" "_law_feed" s__law_feed f fd)(T:Txt K mg C):FnOk P w K mg base (CXE P w) 1 f fd ["_law_script"] (pq K):=by
 refine okN F (k:=0) qB (fun vs H Q E h=> ?_) (fun cdv A outer s H vs Q E hr h=> ?_)
 ·obtain⟨a,ns,rfl,_⟩:=h
  rfl
 ·obtain⟨a,ns,rfl,h⟩:=h
  refine'⟨_,?main,?rest⟩
  case main=>
   refine' iM ?c1
   case' c1=>refine' i4 ?c2
   case' c2=>refine' zw ?c3 rfl rfl (by decide) (by decide)
   case' c3=>refine' pM kn ?c4 ?c5
   case' c4=>refine' jN j5 (by rfl) T.b_list boot_list ?c6
   case' c6=>refine' iI ?c7 iK
   case' c7=>refine' j1 (wJ (K:=K) rfl) (pvF 0) kM ?c8
   case' c8=>exact kL iJ
   case' c5=>refine' pM kn iJ ?c9
   case' c9=>exact pM kn iJ zi
  case rest=>
   obtain⟨hS,hl,h⟩:=h
   walk_at "ST"
   walk_at "RD"
   intro p hp;refine⟨a,_,rfl,(Ext.upd hp).sqL hS,fun l1 h1=> ?_⟩;walk_at "RD"
   intro l2 h2;have e1:tN (ns.map V.int) none (some 63)=(ns.take 63).map V.int:=by
    have:=qR (ns.map V.int) 63
    rw[<-cO] at this;exact this
   refine⟨jf h2 (jf h1 iN),[(Sum.inr "cells",.ref l2),(Sum.inr "at",.int 0),(Sum.inr "left",.int 0)],rfl,(by show 3<=15;decide),?_⟩
   rw[e1] at h2⊢;refine h p l2 _ ((((Ext.upd (o:= .dK []) hp).then h1).then h2).set hp) hp ⟨ns.take 63,0,0,iN,?_,by rw[aF];omega,ax _⟩;rw[i6 (iY (jf h1 iN) h2).symm];exact iN
theorem sc__law_draw:FnScope ["_law_feed_here","_law_many","_law_found","_law_at","_law_cell","_law_number"] ["_law_feed_here","_law_many"] (iL s__law_draw):=⟨rfl,rfl,rfl,by decide+kernel,rfl,by decide+kernel,by decide+kernel⟩
theorem ok__law_draw{C:Cz}{f:Addr}{fd:FuncData}(F:Fun K "_law_draw" "_law_draw" s__law_draw f fd)(T:Txt K mg C):FnOk P w K mg base (CXE P w) 1 f fd ["_law_feed_here","_law_many"] jj:=by
 refine okN F (k:=0) sc__law_draw (fun vs H Q E h=> ?_) (fun cdv A outer s H vs Q E hr h=> ?_)
 ·obtain⟨p,m,c,b,rfl,_⟩:=h
  rfl
 ·obtain⟨p,m,c,b,rfl,h⟩:=h
  refine'⟨_,?main,?rest⟩
  case main=>
   refine' iO ?c1 ?c2
   case' c1=>refine' jm ?c3 ?c4 ?c5
   case' c3=>refine' iT (OpR.f0 mR) ?c6 iJ (iZ _)
   case' c6=>exact mH (nU hr) (pvF 0) kn (fun _ _=>rfl)
   case' c4=>refine' iO ?c7 ?c8
   case' c7=>refine' jc (i:=2) sc__law_draw.nd rfl (aQ rfl) ?c9
   case' c9=>refine' iS (OpR.f kD) ?c10 (pvF 1)
   case' c10=>exact mH (nU hr) (pvF 0) kn (fun _ _=>rfl)
   case' c8=>refine' iO ?c11 ?c12
   case' c11=>refine' u4 (nU hr) (pvF 0) kn ?c13 rfl
   case' c13=>refine' iS (OpR.f jT) ?c14 (pvF 1)
   case' c14=>exact mH (nU hr) (pvF 0) kn (fun _ _=>rfl)
   case' c12=>exact iM (i4 (pvF 2))
   case c5=>exact i8
   case' c2=>refine' iO ?c15 ?c16
   case' c15=>refine' jc (i:=3) sc__law_draw.nd rfl (aQ rfl) ?c17
   case' c17=>exact mH (nU hr) (pvF 0) kn (fun _ _=>rfl)
   case' c16=>refine' iO ?c18 ?c19
   case' c18=>refine' u4 (nU hr) (pvF 0) kn ?c20 rfl
   case' c20=>exact iS (OpR.f0 jv) (pvF 3) iJ
   case' c19=>refine' iO (jc (i:=4) sc__law_draw.nd rfl (aQ rfl) (pvF 3)) ?c21
   case' c21=>refine' iO ?c22 ?c23
   case' c22=>refine' jm ?c24 ?c25 ?c26
   case' c24=>refine' iT (OpR.f0 mR) ?c27 iJ (iZ _)
   case' c27=>refine' iU jb (by rfl) T.b_len aW ?c28
   case' c28=>refine' iI ?c29 iK
   case' c29=>exact mH (nU hr) (pvF 0) kn (fun _ _=>rfl)
   case' c25=>refine' iM ?c30
   case' c30=>refine' jc (i:=4) ?c31 ?c32 ?c33 ?c34
   case c31=>exact sc__law_draw.nd
   case c32=>exact rfl
   case c33=>exact(aQ rfl)
   case' c34=>refine' iW jg ?c35 ?c36 (fun _ _=>rfl)
   case' c35=>exact mH (nU hr) (pvF 0) kn (fun _ _=>rfl)
   case' c36=>refine' iS (OpR.f kD) (pvF 3) ?c37
   case' c37=>refine' iU jb (by rfl) T.b_len aW ?c38
   case' c38=>refine' iI ?c39 iK
   case' c39=>exact mH (nU hr) (pvF 0) kn (fun _ _=>rfl)
   case c26=>exact i8
   case' c23=>refine' iO ?c40 ?c41
   case' c40=>refine' jm ?c42 ?c43 ?c44
   case' c42=>refine' PW.pt ?c45
   case' c45=>refine' lF ?c46 ?c47
   case' c46=>refine' iT (OpR.f0 qJ) (pvF 4) ?c48 (iZ _)
   case' c48=>exact iS (OpR.f rE) iJ iJ
   case' c47=>refine' kx ?c49
   case' c49=>refine' iT (OpR.f0 mD) (pvF 3) ?c50 (iZ _)
   case' c50=>refine' iU jb (by rfl) T.b_len aW ?c51
   case' c51=>refine' iI ?c52 iK
   case' c52=>exact mH (nU hr) (pvF 0) kn (fun _ _=>rfl)
   case' c43=>refine' iO ?c53 ?c54
   case' c53=>exact u4 (nU hr) (pvF 0) kn (iS (OpR.f jT) (pvF 4) (pvF 1)) rfl
   case' c54=>refine' iM ?c55
   case' c55=>exact i4 (iS (OpR.f kD) (pvF 4) (pvF 1))
   case c44=>exact i8
   case' c41=>refine' iO ?c56 ?c57
   case' c56=>refine' jc (i:=5) ?c58 ?c59 ?c60 ?c61
   case c58=>exact sc__law_draw.nd
   case c59=>exact rfl
   case c60=>exact(aQ rfl)
   case' c61=>refine' iS ?c62 ?c63 ?c64
   case c62=>exact(OpR.f kD)
   case' c63=>refine' iS ?c65 ?c66 ?c67
   case c65=>exact(OpR.f iX)
   case' c66=>refine' iS ?c68 ?c69 ?c70
   case c68=>exact(OpR.f0 jv)
   case' c69=>refine' iS (OpR.f0 jv) ?c71 ?c72
   case' c71=>refine' iS (OpR.f0 jv) ?c73 ?c74
   case' c73=>exact iS (OpR.f kD) (pvF 4) iJ
   case' c74=>refine' iS (OpR.f iX) ?c75 (pvF 3)
   case' c75=>exact iS (OpR.f iX) iJ (pvF 3)
   case' c72=>exact iS (OpR.f iX) iJ (pvF 3)
   case c70=>exact iJ
   case c67=>exact iJ
   case c64=>exact iJ
   case' c57=>refine' iM ?c76
   case' c76=>refine' i4 ?c77
   case' c77=>refine' iS ?c78 ?c79 ?c80
   case c78=>exact(OpR.f kD)
   case' c79=>refine' iS ?c81 ?c82 ?c83
   case c81=>exact(OpR.f jT)
   case' c82=>refine' iS ?c84 ?c85 ?c86
   case c84=>exact(OpR.f kD)
   case' c85=>refine' iS (OpR.f iX) ?c87 iJ
   case' c87=>refine' iS (OpR.f kD) ?c88 iJ
   case' c88=>refine' iS (OpR.f0 jv) ?c89 ?c90
   case' c89=>exact iS (OpR.f iX) (pvF 5) iJ
   case' c90=>exact iS (OpR.f iX) iJ (pvF 3)
   case c86=>exact iJ
   case c83=>exact iJ
   case c80=>exact(pvF 1)
  case rest=>
   obtain⟨⟨ns,n,l,e1,e2,hl,hn⟩,hb,h0,h1,h⟩:=h
   walk_at "ST"
   have hcp:c≠p:=lI e2 e1 (by intro z;cases z)
   have e2x:∀kvs,upd H p (.dK kvs) c=some (.lst (ns.map V.int)):=fun kvs=>(i6 hcp).trans e2
   have kp:∀kvs q o,q≠p ->H q=some o ->upd H p (.dK kvs) q=some o:=fun kvs q o hq e=>(i6 hq).trans e
   have bm:Bd 9000 m:=Bd.of_le 100000 (by omega) (by omega) (by decide)
   o_head ⟨e1,z9,Ce,xN,xM,ui,e2x,uw,ah,rI,rI,rI⟩
   by_cases hL:0<l
   ·rw[if_pos hL];refine⟨h0,by omega,bm,h _ _ (cE _ (by omega)) (cg _ h0) ⟨⟨ns,n,_,iN,e2x _,hl,by omega⟩,kp _⟩⟩
   ·rw[if_neg hL]
    by_cases hL2:0<(ns.length:Int)
    ·rw[if_pos hL2];refine⟨hL2,?_⟩;obtain⟨x,hx,_⟩:=Al (xs:=ns) (k:=(n:Int)) (by omega)
     rw[hx];walk_at "RD"
     repeat' split
     all_goals first
      |exact⟨by omega,bm,h0,h _ _ (cE _ (by omega)) (cg _ h0) ⟨⟨ns,n+1,_,iN,e2x _,hl,by omega⟩,kp _⟩⟩
      |exact⟨.left (by decide) (by decide),.right (by omega) (by omega),.left (by decide) (by decide),.right (by decide) (by decide),.right (by decide) (by decide),.left (by decide) (by decide),.right (by decide) (by decide),Bd.lit (by decide) (by decide),h0,h _ _ (cE _ (by omega)) (cg _ h0) ⟨⟨ns,n+1,_,iN,e2x _,hl,by omega⟩,kp _⟩⟩
    ·rw[if_neg hL2];split
     ·split
      ·exact⟨by omega,bm,h0,h _ _ (cE _ (by omega)) (cg _ h0) ⟨⟨ns,n+1,_,iN,e2x _,hl,by omega⟩,kp _⟩⟩
      ·exact⟨.left (by decide) (by decide),.right (by omega) (by omega),.left (by decide) (by decide),.right (by decide) (by decide),.right (by decide) (by decide),.left (by decide) (by decide),.right (by decide) (by decide),Bd.lit (by decide) (by decide),h0,h _ _ (cE _ (by omega)) (cg _ h0) ⟨⟨ns,n+1,_,iN,e2x _,hl,by omega⟩,kp _⟩⟩
     ·exact⟨.left (by decide) (by decide),.right (by omega) (by omega),.left (by decide) (by decide),.right (by decide) (by decide),.right (by decide) (by decide),.left (by decide) (by decide),.right (by decide) (by decide),Bd.lit (by decide) (by decide),h0,h _ _ (cE _ (by omega)) (cg _ h0) ⟨⟨ns,n+1,_,iN,e2x _,hl,by omega⟩,kp _⟩⟩
theorem sc__law_great:FnScope ["_law_feed_here","_law_pieces","_law_number","_law_k"] ["_law_feed_here","_law_pieces"] (iL s__law_great):=⟨rfl,rfl,rfl,by decide+kernel,rfl,by decide+kernel,by decide+kernel⟩
theorem ok__law_great{C:Cz}{f:Addr}{fd:FuncData}(F:Fun K "_law_great" "_law_great" s__law_great f fd)(T:Txt K mg C)(F__law_draw:FnB P w K mg base (CXE P w) 1 "_law_draw" ["_law_feed_here","_law_many"] jj):FnOk P w K mg base (CXE P w) 2 f fd ["_law_feed_here","_law_pieces"] mV:=by
 refine okN F (k:=1) sc__law_great (fun vs H Q E h=> ?_) (fun cdv A outer s H vs Q E hr h=> ?_)
 ·obtain⟨p,k,c,b,rfl,_⟩:=h
  rfl
 ·obtain⟨p,k,c,b,rfl,h⟩:=h
  refine'⟨_,?main,?rest⟩
  case main=>
   refine' iO ?c1 ?c2
   case' c1=>exact jc (i:=2) sc__law_great.nd rfl (aQ rfl) iJ
   case' c2=>refine' iO ?c3 ?c4
   case' c3=>refine' j6 ?c5 ?c6 ?c7 ?c8 ?c9
   case c5=>exact PassesOwn.never
   case c6=>exact rfl
   case' c7=>refine' jJ rfl T.b_range ?c10
   case' c10=>exact iI (pvF 1) iK
   case c8=>exact(iQ (i:=3) sc__law_great.nd rfl (aQ rfl))
   case' c9=>refine' iM ?c11
   case' c11=>refine' jc (i:=2) sc__law_great.nd rfl (aQ rfl) ?c12
   case' c12=>refine' iS (OpR.f0 jv) ?c13 ?c14
   case' c13=>exact iS (OpR.f iX) (pvF 2) iJ
   case' c14=>refine' i9 F__law_draw (hr.mono (by decide)) rfl iV ?c15
   case' c15=>refine' iI (pvF 0) ?c16
   case' c16=>exact iI iJ iK
   case' c4=>exact iM (i4 (pvF 2))
  case rest=>
   obtain⟨hF,hb,hk,h⟩:=h
   walk_at "ST"
   walk_at "RD"
   refine lx k (fun R hR=>by walk_at "RD";exact hR) (by omega) (fun i σ H'=>∃(r:Int) (o3:Option V),σ=[some (.ref p),some (.int k),some (.int r),o3] /\ 0<=r /\ r<100000^i /\ DX c (b+i) p H H') ⟨0,_,rfl,by decide,by decide,.refl hF⟩ ?_ ?_
   ·rintro i σ H' hi ⟨r,o3,rfl,r0,r1,dx⟩
    o_head ⟨jj⟩
    refine⟨.right (by decide) (by decide),_,_,dx.feed,by omega,fun r' H2 a1 a2 d2=> ?_⟩;refine⟨by omega,?_,dx.trans (d2.mono (by omega))⟩;rw[fv];generalize(100000:Int)^i=N at r1⊢;omega
   ·rintro σ H' ⟨r,o3,rfl,r0,r1,dx⟩;walk_at "RD"
    exact h r H' r0 r1 dx
theorem sc__law_scale:FnScope ["_law_feed_here","_law_way_here"] ["_law_feed_here"] (iL s__law_scale):=⟨rfl,rfl,rfl,by decide+kernel,rfl,by decide+kernel,by decide+kernel⟩
theorem ok__law_scale{C:Cz}{f:Addr}{fd:FuncData}(F:Fun K "_law_scale" "_law_scale" s__law_scale f fd)(T:Txt K mg C)(F__law_great:FnB P w K mg base (CXE P w) 2 "_law_great" ["_law_feed_here","_law_pieces"] mV)(F__law_draw:FnB P w K mg base (CXE P w) 1 "_law_draw" ["_law_feed_here","_law_many"] jj):FnOk P w K mg base (CXE P w) 3 f fd ["_law_feed_here"] mU:=by
 refine okN F (k:=2) sc__law_scale (fun vs H Q E h=> ?_) (fun cdv A outer s H vs Q E hr h=> ?_)
 ·obtain⟨p,c,b,rfl,_⟩:=h
  rfl
 ·obtain⟨p,c,b,rfl,h⟩:=h
  refine'⟨_,?main,?rest⟩
  case main=>
   refine' iO ?c1 ?c2
   case' c1=>refine' jc (i:=1) sc__law_scale.nd rfl (aQ rfl) ?c3
   case' c3=>refine' i9 F__law_draw (hr.mono (by decide)) rfl iV ?c4
   case' c4=>refine' iI (pvF 0) ?c5
   case' c5=>exact iI iJ iK
   case' c2=>refine' iO ?c6 ?c7
   case' c6=>refine' jm ?c8 ?c9 ?c10
   case' c8=>exact iT (OpR.f0 mD) (pvF 1) iJ (iZ _)
   case' c9=>refine' iM ?c11
   case' c11=>refine' i4 ?c12
   case' c12=>refine' jk ?c13
   case' c13=>refine' iI iJ ?c14
   case' c14=>refine' iI iJ ?c15
   case' c15=>exact iI iJ iK
   case c10=>exact i8
   case' c7=>refine' iO ?c16 ?c17
   case' c16=>refine' jm ?c18 ?c19 ?c20
   case' c18=>exact iT jD (pvF 1) iJ (iZ _)
   case' c19=>refine' iM ?c21
   case' c21=>refine' i4 ?c22
   case' c22=>refine' jk ?c23
   case' c23=>refine' iI ?c24 ?c25
   case' c24=>refine' iS (OpR.f0 jv) iJ ?c26
   case' c26=>refine' i9 F__law_draw (hr.mono (by decide)) rfl iV ?c27
   case' c27=>refine' iI (pvF 0) ?c28
   case' c28=>exact iI iJ iK
   case' c25=>refine' iI ?c29 ?c30
   case' c29=>refine' iS (OpR.f0 jy) ?c31 iJ
   case' c31=>refine' i9 F__law_draw (hr.mono (by decide)) rfl iV ?c32
   case' c32=>refine' iI (pvF 0) ?c33
   case' c33=>exact iI iJ iK
   case' c30=>refine' iI ?c34 iK
   case' c34=>refine' iS (OpR.f0 jy) ?c35 iJ
   case' c35=>refine' i9 F__law_draw (hr.mono (by decide)) rfl iV ?c36
   case' c36=>refine' iI (pvF 0) ?c37
   case' c37=>exact iI iJ iK
   case c20=>exact i8
   case' c17=>refine' iM ?c38
   case' c38=>refine' i4 ?c39
   case' c39=>refine' jk ?c40
   case' c40=>refine' iI ?c41 ?c42
   case' c41=>refine' iS (OpR.f0 jv) iJ ?c43
   case' c43=>refine' i9 F__law_great (hr.mono (by decide)) rfl iV ?c44
   case' c44=>refine' iI (pvF 0) ?c45
   case' c45=>exact iI iJ iK
   case' c42=>refine' iI ?c46 ?c47
   case' c46=>refine' iS ?c48 ?c49 ?c50
   case c48=>exact(OpR.f0 jy)
   case' c49=>refine' i9 F__law_great (hr.mono (by decide)) rfl iV ?c51
   case' c51=>refine' iI (pvF 0) ?c52
   case' c52=>exact iI iJ iK
   case' c50=>refine' i9 F__law_great (hr.mono (by decide)) rfl iV ?c53
   case' c53=>refine' iI (pvF 0) ?c54
   case' c54=>exact iI iJ iK
   case' c47=>refine' iI ?c55 ?c56
   case' c55=>refine' iS ?c57 ?c58 ?c59
   case c57=>exact(OpR.f0 jy)
   case' c58=>refine' i9 F__law_great (hr.mono (by decide)) rfl iV ?c60
   case' c60=>refine' iI (pvF 0) ?c61
   case' c61=>exact iI iJ iK
   case' c59=>refine' i9 F__law_great (hr.mono (by decide)) rfl iV ?c62
   case' c62=>refine' iI (pvF 0) ?c63
   case' c63=>exact iI iJ iK
   case c56=>exact iK
  case rest=>
   obtain⟨hF,hb,h⟩:=h
   walk_at "ST"
   o_head ⟨jj⟩
   refine⟨c,b,hF,by omega,fun r H1 a1 a2 d1=> ?_⟩;split
   ·refine⟨by decide,fun t ht=> ?_⟩;exact h t _ _ _ _ ((d1.upd ht).mono (by omega)) iN (by decide) (by decide) (by decide)
   ·split
    ·refine⟨c,_,d1.feed,by omega,fun r2 H2 a3 a4 d2=>⟨c,_,d2.feed,by omega,fun r3 H3 a5 a6 d3=>⟨c,_,d3.feed,by omega,fun r4 H4 a7 a8 d4=>⟨by decide,fun t ht=> ?_⟩⟩⟩⟩;exact h t _ _ _ _ ((((((d1.trans d2).trans d3).trans d4)).upd ht).mono (by omega)) iN (by omega) (by omega) (by omega)
    ·have p4:(100000:Int)^4=10^20:=by decide
     have p5:(100000:Int)^5=10^25:=by decide
     o_head ⟨mV⟩
     refine⟨4,rfl,c,_,d1.feed,by omega,by decide,fun r2 H2 a3 a4 d2=>⟨5,rfl,c,_,d2.feed,by omega,by decide,fun r3 H3 a5 a6 d3=>⟨5,rfl,c,_,d3.feed,by omega,by decide,fun r4 H4 a7 a8 d4=>⟨5,rfl,c,_,d4.feed,by omega,by decide,fun r5 H5 a9 a10 d5=>⟨5,rfl,c,_,d5.feed,by omega,by decide,fun r6 H6 a11 a12 d6=>⟨by decide,fun t ht=> ?_⟩⟩⟩⟩⟩⟩;rw[p4] at a4;rw[p5] at a6 a8 a10 a12;exact h t _ _ _ _ ((((((((d1.trans d2).trans d3).trans d4).trans d5).trans d6)).upd ht).mono (by omega)) iN (by omega) (by omega) (by omega)
theorem sc__law_spot:FnScope ["_law_feed_here","_law_style","_law_k"] ["_law_feed_here","_law_style"] (iL s__law_spot):=⟨rfl,rfl,rfl,by decide+kernel,rfl,by decide+kernel,by decide+kernel⟩
theorem ok__law_spot{C:Cz}{f:Addr}{fd:FuncData}(F:Fun K "_law_spot" "_law_spot" s__law_spot f fd)(T:Txt K mg C)(F__law_draw:FnB P w K mg base (CXE P w) 1 "_law_draw" ["_law_feed_here","_law_many"] jj):FnOk P w K mg base (CXE P w) 2 f fd ["_law_feed_here","_law_style"] oY:=by
 refine okN F (k:=1) sc__law_spot (fun vs H Q E h=> ?_) (fun cdv A outer s H vs Q E hr h=> ?_)
 ·obtain⟨p,st,c,b,rfl,_⟩:=h
  rfl
 ·obtain⟨p,st,c,b,rfl,h⟩:=h
  refine'⟨_,?main,?rest⟩
  case main=>
   refine' iO ?c1 ?c2
   case' c1=>refine' jm ?c3 ?c4 ?c5
   case' c3=>exact iT jD (pvF 1) iJ (iZ _)
   case' c4=>refine' iM ?c6
   case' c6=>refine' i4 ?c7
   case' c7=>refine' jk ?c8
   case' c8=>refine' iI ?c9 ?c10
   case' c9=>refine' i9 F__law_draw (hr.mono (by decide)) rfl iV ?c11
   case' c11=>refine' iI (pvF 0) ?c12
   case' c12=>exact iI iJ iK
   case' c10=>refine' iI ?c13 iK
   case' c13=>refine' i9 F__law_draw (hr.mono (by decide)) rfl iV ?c14
   case' c14=>refine' iI (pvF 0) ?c15
   case' c15=>exact iI iJ iK
   case c5=>exact i8
   case' c2=>refine' iO ?c16 ?c17
   case' c16=>refine' jm ?c18 ?c19 ?c20
   case' c18=>exact iT jD (pvF 1) iJ (iZ _)
   case' c19=>refine' iM ?c21
   case' c21=>refine' i4 ?c22
   case' c22=>refine' jk ?c23
   case' c23=>refine' iI ?c24 ?c25
   case' c24=>refine' i9 F__law_draw (hr.mono (by decide)) rfl iV ?c26
   case' c26=>refine' iI (pvF 0) ?c27
   case' c27=>exact iI iJ iK
   case' c25=>refine' iI ?c28 iK
   case' c28=>refine' i9 F__law_draw (hr.mono (by decide)) rfl iV ?c29
   case' c29=>refine' iI (pvF 0) ?c30
   case' c30=>exact iI iJ iK
   case c20=>exact i8
   case' c17=>refine' iO ?c31 ?c32
   case' c31=>refine' jc (i:=2) sc__law_spot.nd rfl (aQ rfl) ?c33
   case' c33=>refine' i9 F__law_draw (hr.mono (by decide)) rfl iV ?c34
   case' c34=>refine' iI (pvF 0) ?c35
   case' c35=>exact iI iJ iK
   case' c32=>refine' iO ?c36 ?c37
   case' c36=>refine' jm ?c38 ?c39 ?c40
   case' c38=>exact iT jD (pvF 1) iJ (iZ _)
   case' c39=>refine' iM ?c41
   case' c41=>refine' i4 ?c42
   case' c42=>refine' jk ?c43
   case' c43=>refine' lY ?c44 ?c45
   case' c44=>refine' iW ?c46 ?c47 ?c48 ?c49
   case c46=>exact jg
   case' c47=>refine' jO ?c50
   case' c50=>refine' iI ?c51 ?c52
   case c51=>exact iJ
   case' c52=>refine' iI ?c53 ?c54
   case c53=>exact iJ
   case' c54=>refine' iI ?c55 ?c56
   case c55=>exact iJ
   case' c56=>refine' iI ?c57 ?c58
   case c57=>exact iJ
   case' c58=>refine' iI ?c59 ?c60
   case c59=>exact iJ
   case' c60=>refine' iI ?c61 ?c62
   case c61=>exact iJ
   case' c62=>refine' iI ?c63 ?c64
   case c63=>exact iJ
   case' c64=>refine' iI ?c65 ?c66
   case c65=>exact iJ
   case' c66=>refine' iI iJ ?c67
   case' c67=>refine' iI iJ ?c68
   case' c68=>refine' iI iJ ?c69
   case' c69=>exact iI iJ iK
   case c48=>exact(pvF 2)
   case c49=>exact(fun _ _=>rfl)
   case' c45=>refine' lY ?c70 ?c71
   case' c70=>refine' iW ?c72 ?c73 ?c74 ?c75
   case c72=>exact jg
   case' c73=>refine' jO ?c76
   case' c76=>refine' iI ?c77 ?c78
   case c77=>exact iJ
   case' c78=>refine' iI ?c79 ?c80
   case c79=>exact iJ
   case' c80=>refine' iI ?c81 ?c82
   case c81=>exact iJ
   case' c82=>refine' iI ?c83 ?c84
   case c83=>exact iJ
   case' c84=>refine' iI ?c85 ?c86
   case c85=>exact iJ
   case' c86=>refine' iI ?c87 ?c88
   case c87=>exact iJ
   case' c88=>refine' iI ?c89 ?c90
   case c89=>exact iJ
   case' c90=>refine' iI ?c91 ?c92
   case c91=>exact iJ
   case' c92=>refine' iI iJ ?c93
   case' c93=>refine' iI iJ ?c94
   case' c94=>refine' iI iJ ?c95
   case' c95=>exact iI iJ iK
   case c74=>exact(pvF 2)
   case c75=>exact(fun _ _=>rfl)
   case c71=>exact iK
   case c40=>exact i8
   case' c37=>refine' iM ?c96
   case' c96=>refine' i4 ?c97
   case' c97=>refine' iW ?c98 ?c99 ?c100 ?c101
   case c98=>exact jg
   case' c99=>refine' jO ?c102
   case' c102=>refine' iI ?c103 ?c104
   case' c103=>refine' jk ?c105
   case' c105=>refine' iI (pvF 2) ?c106
   case' c106=>exact iI iJ iK
   case' c104=>refine' iI ?c107 ?c108
   case' c107=>refine' jk ?c109
   case' c109=>refine' iI iJ ?c110
   case' c110=>exact iI (pvF 2) iK
   case' c108=>refine' iI ?c111 iK
   case' c111=>refine' jk ?c112
   case' c112=>refine' iI (pvF 2) ?c113
   case' c113=>exact iI (pvF 2) iK
   case' c100=>exact iS (OpR.f0 jy) (pvF 1) iJ
   case c101=>exact(fun _ _=>rfl)
  case rest=>
   obtain⟨hF,hb,s0,s5,h⟩:=h
   walk_at "ST"
   o_head ⟨jj⟩
   split
   ·refine⟨c,b,hF,by omega,fun r1 H1 a1 a2 d1=>⟨c,_,d1.feed,by omega,fun r2 H2 a3 a4 d2=>⟨by decide,fun t ht=> ?_⟩⟩⟩;exact h t _ _ _ (((d1.trans d2).upd ht).mono (by omega)) iN (by omega) (by omega)
   ·split
    ·refine⟨c,b,hF,by omega,fun r1 H1 a1 a2 d1=>⟨c,_,d1.feed,by omega,fun r2 H2 a3 a4 d2=>⟨by decide,fun t ht=> ?_⟩⟩⟩;exact h t _ _ _ (((d1.trans d2).upd ht).mono (by omega)) iN (by omega) (by omega)
    ·refine⟨c,b,hF,by omega,fun r1 H1 a1 a2 d1=> ?_⟩;split
     ·obtain⟨x,hx,mx⟩:=yL (xs:=[10,9,8,5,2,1,0,1,2,5,8,9]) a1 a2
      obtain⟨y,hy,my⟩:=yL (xs:=[5,8,9,10,9,8,5,2,1,0,1,2]) a1 a2
      have bx:∀x∈([10,9,8,5,2,1,0,1,2,5,8,9]:List Int),0<=x /\ x<=12:=by decide
      have bY:∀x∈([5,8,9,10,9,8,5,2,1,0,1,2]:List Int),0<=x /\ x<=12:=by decide
      simp only[aM,bO] at hx hy;refine⟨by decide,fun t1 h1=> ?_⟩;rw[hx,iR];refine⟨by decide,fun t2 h2=> ?_⟩;rw[hy,iR];exact⟨by decide,fun t3 h3=>h t3 x y _ ((((d1.upd h1).upd h2).upd h3).mono (by omega)) iN (bx x mx) (bY y my)⟩
     ·refine⟨by decide,fun t1 h1=>⟨by decide,fun t2 h2=>⟨by decide,fun t3 h3=>⟨by decide,fun t4 h4=> ?_⟩⟩⟩⟩;have dd:=((((d1.upd (o:= .tup [.int r1,.int 4]) h1).upd (o:= .tup [.int 5,.int r1]) h2).upd (o:= .tup [.int r1,.int r1]) h3).upd (o:= .lst [.ref t1,.ref t2,.ref t3]) h4).mono (show b+1<=b+2 by omega)
      have:st=3∨st=4∨st=5:=by omega
      rcases this with rfl|rfl|rfl
      ·exact h t1 _ _ _ dd (jf h4 (jf h3 (jf h2 iN))) (by omega) (by omega)
      ·exact h t2 _ _ _ dd (jf h4 (jf h3 iN)) (by omega) (by omega)
      ·exact h t3 _ _ _ dd (jf h4 iN) (by omega) (by omega)
theorem sc__law_dozen:FnScope ["_law_feed_here","_law_way_here","_law_found","_law_k","_law_at"] ["_law_feed_here"] (iL s__law_dozen):=⟨rfl,rfl,rfl,by decide+kernel,rfl,by decide+kernel,by decide+kernel⟩
theorem ok__law_dozen{C:Cz}{f:Addr}{fd:FuncData}(F:Fun K "_law_dozen" "_law_dozen" s__law_dozen f fd)(T:Txt K mg C)(F__law_draw:FnB P w K mg base (CXE P w) 1 "_law_draw" ["_law_feed_here","_law_many"] jj):FnOk P w K mg base (CXE P w) 2 f fd ["_law_feed_here"] mW:=by
 refine okN F (k:=1) sc__law_dozen (fun vs H Q E h=> ?_) (fun cdv A outer s H vs Q E hr h=> ?_)
 ·obtain⟨p,c,b,rfl,_⟩:=h
  rfl
 ·obtain⟨p,c,b,rfl,h⟩:=h
  refine'⟨_,?main,?rest⟩
  case main=>
   refine' iO ?c1 ?c2
   case' c1=>refine' jc (i:=1) sc__law_dozen.nd rfl (aQ rfl) ?c3
   case' c3=>refine' i9 F__law_draw (hr.mono (by decide)) rfl iV ?c4
   case' c4=>refine' iI (pvF 0) ?c5
   case' c5=>exact iI iJ iK
   case' c2=>refine' iO ?c6 ?c7
   case' c6=>refine' jc (i:=2) sc__law_dozen.nd rfl (aQ rfl) ?c8
   case' c8=>exact jO iK
   case' c7=>refine' i7 ?c9 ?c10
   case' c9=>refine' j6 ?c11 ?c12 ?c13 ?c14 ?c15
   case c11=>exact PassesOwn.never
   case c12=>exact rfl
   case' c13=>refine' jJ rfl T.b_range ?c16
   case' c16=>refine' iI ?c17 iK
   case' c17=>refine' iS (OpR.f0 jv) iJ ?c18
   case' c18=>refine' i9 F__law_draw (hr.mono (by decide)) rfl iV ?c19
   case' c19=>refine' iI (pvF 0) ?c20
   case' c20=>exact iI iJ iK
   case c14=>exact(iQ (i:=3) sc__law_dozen.nd rfl (aQ rfl))
   case' c15=>refine' iM ?c21
   case' c21=>refine' jm ?c22 ?c23 ?c24
   case' c22=>exact iT jD (pvF 1) iJ (iZ _)
   case' c23=>refine' iM ?c25
   case' c25=>refine' jx ?c26
   case' c26=>refine' pe_app ?c27 ?c28
   case c27=>exact(pvF 2)
   case' c28=>refine' iI ?c29 ?c30
   case' c29=>refine' jk ?c31
   case' c31=>refine' iI ?c32 ?c33
   case' c32=>exact iS (OpR.f kD) (pvF 3) iJ
   case' c33=>refine' iI ?c34 iK
   case' c34=>exact iS (OpR.f jT) (pvF 3) iJ
   case c30=>exact iK
   case' c24=>refine' iM ?c35
   case' c35=>refine' jm ?c36 ?c37 ?c38
   case' c36=>exact iT jD (pvF 1) iJ (iZ _)
   case' c37=>refine' iM ?c39
   case' c39=>refine' jx ?c40
   case' c40=>refine' pe_app ?c41 ?c42
   case c41=>exact(pvF 2)
   case' c42=>refine' iI ?c43 ?c44
   case' c43=>refine' jk ?c45
   case' c45=>refine' lY ?c46 ?c47
   case' c46=>refine' iW ?c48 ?c49 ?c50 ?c51
   case c48=>exact jg
   case' c49=>refine' jO ?c52
   case' c52=>refine' iI ?c53 ?c54
   case c53=>exact iJ
   case' c54=>refine' iI ?c55 ?c56
   case c55=>exact iJ
   case' c56=>refine' iI ?c57 ?c58
   case c57=>exact iJ
   case' c58=>refine' iI ?c59 ?c60
   case c59=>exact iJ
   case' c60=>refine' iI ?c61 ?c62
   case c61=>exact iJ
   case' c62=>refine' iI ?c63 ?c64
   case c63=>exact iJ
   case' c64=>refine' iI ?c65 ?c66
   case c65=>exact iJ
   case' c66=>refine' iI ?c67 ?c68
   case c67=>exact iJ
   case' c68=>refine' iI iJ ?c69
   case' c69=>refine' iI iJ ?c70
   case' c70=>refine' iI iJ ?c71
   case' c71=>exact iI iJ iK
   case c50=>exact(pvF 3)
   case c51=>exact(fun _ _=>rfl)
   case' c47=>refine' lY ?c72 ?c73
   case' c72=>refine' iW ?c74 ?c75 ?c76 ?c77
   case c74=>exact jg
   case' c75=>refine' jO ?c78
   case' c78=>refine' iI ?c79 ?c80
   case c79=>exact iJ
   case' c80=>refine' iI ?c81 ?c82
   case c81=>exact iJ
   case' c82=>refine' iI ?c83 ?c84
   case c83=>exact iJ
   case' c84=>refine' iI ?c85 ?c86
   case c85=>exact iJ
   case' c86=>refine' iI ?c87 ?c88
   case c87=>exact iJ
   case' c88=>refine' iI ?c89 ?c90
   case c89=>exact iJ
   case' c90=>refine' iI ?c91 ?c92
   case c91=>exact iJ
   case' c92=>refine' iI ?c93 ?c94
   case c93=>exact iJ
   case' c94=>refine' iI iJ ?c95
   case' c95=>refine' iI iJ ?c96
   case' c96=>refine' iI iJ ?c97
   case' c97=>exact iI iJ iK
   case c76=>exact(pvF 3)
   case c77=>exact(fun _ _=>rfl)
   case c73=>exact iK
   case c44=>exact iK
   case' c38=>refine' iM ?c98
   case' c98=>refine' jx ?c99
   case' c99=>refine' pe_app ?c100 ?c101
   case c100=>exact(pvF 2)
   case' c101=>refine' iI ?c102 ?c103
   case' c102=>refine' jk ?c104
   case' c104=>refine' iI ?c105 ?c106
   case c105=>exact(pvF 3)
   case' c106=>refine' lY ?c107 ?c108
   case' c107=>refine' iW ?c109 ?c110 ?c111 ?c112
   case c109=>exact jg
   case' c110=>refine' jO ?c113
   case' c113=>refine' iI iJ ?c114
   case' c114=>refine' iI ?c115 iK
   case' c115=>refine' i9 F__law_draw (hr.mono (by decide)) rfl iV ?c116
   case' c116=>refine' iI (pvF 0) ?c117
   case' c117=>exact iI iJ iK
   case' c111=>exact iS (OpR.f0 jy) (pvF 1) iJ
   case c112=>exact(fun _ _=>rfl)
   case c108=>exact iK
   case c103=>exact iK
   case' c10=>refine' iO ?c118 ?c119
   case' c118=>refine' jc (i:=4) sc__law_dozen.nd rfl (aQ rfl) ?c120
   case' c120=>refine' i9 F__law_draw (hr.mono (by decide)) rfl iV ?c121
   case' c121=>refine' iI (pvF 0) ?c122
   case' c122=>refine' iI ?c123 iK
   case' c123=>refine' iU jb (by rfl) T.b_len aW ?c124
   case' c124=>exact iI (pvF 2) iK
   case' c119=>refine' iM ?c125
   case' c125=>refine' i4 ?c126
   case' c126=>refine' iS rH ?c127 ?c128
   case' c127=>exact j1 y4 (pvF 2) (kL (pvF 4)) kM
   case' c128=>exact j1 y4 (pvF 2) kM (kL (pvF 4))
  case rest=>
   obtain⟨hF,hb,h⟩:=h
   walk_at "ST"
   o_head ⟨jj⟩
   refine⟨c,b,hF,by omega,fun way H1 w1 w2 d1=> ?_⟩;refine⟨by decide,fun L hL=> ?_⟩;have dL:=d1.upd (o:= .lst []) hL
   have nLp:=d1.feed.ne hL
   refine⟨fun σ H'=>∃(qs:List Addr) (rs:List P2) (o3:Option V),σ=[some (.ref p),some (.int way),some (.ref L),o3,none] /\ H' L=some (.lst (qs.map V.ref)) /\ R2At H' qs rs /\ (∀i r,rs[i]? =some r ->DzOk way i r) /\ 10<=rs.length /\ rs.length<=12 /\ DX c (b+14) p H H',?_,?_⟩
   ·refine nh (fun n H'=>10<=n /\ n<=12 /\ H' L=some (.lst []) /\ DX c (b+2) p H H') ?_ ?_
    ·intro R hR
     o_head ⟨jj⟩
     refine⟨c,_,dL.feed,by omega,fun r H2 a1 a2 d2=> ?_⟩;have:=hR (10+r.toNat) H2 ⟨by omega,by omega,d2.keep _ _ nLp iN,dL.trans d2⟩
     rw[show((10+r.toNat:Nat):Int)=10+r by omega] at this;exact this
    ·rintro n H2 ⟨n10,n12,eL,d2⟩;refine⟨by omega,fun i σ H'=>∃(qs:List Addr) (rs:List P2) (o3:Option V),σ=[some (.ref p),some (.int way),some (.ref L),o3,none] /\ H' L=some (.lst (qs.map V.ref)) /\ R2At H' qs rs /\ (∀i r,rs[i]? =some r ->DzOk way i r) /\ rs.length=i /\ DX c (b+2+i) p H H',⟨[],[],_,rfl,eL,⟨rfl,fun i q z a=>by simp at a⟩,fun i r a=>by simp at a,rfl,d2⟩,?_,?_⟩
     ·rintro i σ H3 hi ⟨qs,rs,o3,rfl,eL,r2,dz,rfl,d3⟩;have lq:=r2.1
      have fin:∀(H4:Hp) (t:Addr) (x y:Int),DX c (b+2+(rs.length+1)) p H H4 ->H4 L=some (.lst (qs.map V.ref)) ->R2At H4 qs rs ->H4 t=none ->DzOk way rs.length (x,y) ->
        kY (lJ (upd H4 t (.tup [.int x,.int y]) L)) fun xs=>xs.length<1000000 /\ ∃qs',HO.lst (xs++[.ref t])=HO.lst (qs'.map V.ref) /\ ∃rs',R2At (upd (upd H4 t (.tup [.int x,.int y])) L (.lst (xs++[.ref t]))) qs' rs' /\ (∀i r,rs'[i]? =some r ->DzOk way i r) /\ rs'.length=rs.length+1 /\ DX c (b+2+(rs.length+1)) p H (upd (upd H4 t (.tup [.int x,.int y])) L (.lst (xs++[.ref t]))):=by
       intro H4 t x y d4 e4 r4 ht hz;have e':=jf (o:= .tup [.int x,.int y]) ht e4
       rw[e',jA,iR];refine⟨by rw[ah];omega,qs++[t],by rw[ay];rfl,rs++[(x,y)],R2At.setL ((r4.ext (Ext.upd ht)).append (R2At.one (r:=(x,y)) iN)) e',fun i r' hi'=> ?_,by rw[aq];rfl,(d4.upd ht).set (d1.none hL) hF⟩
       by_cases hlt:i<rs.length
       ·rw[aN hlt] at hi';exact dz i r' hi'
       ·have:i=rs.length:=by
         have:=(aa.mp hi').1
         rw[aq] at this;simp only[aV,bu] at this;omega
        subst this;rw[aH (ax _),gQ] at hi';cases hi';exact hz
      have cs:((0:Int)+(rs.length:Int))=(rs.length:Int):=bR _
      have d3':=d3.mono (show b+2+rs.length<=b+2+(rs.length+1) by omega)
      by_cases w0:way=0
      ·subst w0
       o_head ⟨eL⟩
       refine⟨by decide,fun t ht=> ?_⟩;rw[cs,Int.fdiv_eq_ediv_of_nonneg _ (by decide)];exact fin H3 t _ _ d3' eL r2 ht (by unfold DzOk;rw[if_pos rfl])
      ·by_cases w1:way=1
       ·subst w1;obtain⟨x,hx,mx⟩:=atI_get (xs:=dzX) (n:=rs.length) (by show rs.length<12;omega)
        obtain⟨y,hy,my⟩:=atI_get (xs:=dzY) (n:=rs.length) (by show rs.length<12;omega)
        simp only[dzX,aM,bO] at hx;simp only[dzY,aM,bO] at hy
        o_head ⟨eL,cs,hx,hy⟩
        refine⟨by decide,fun t1 h1=>⟨by decide,fun t2 h2=>⟨by decide,fun t3 h3=> ?_⟩⟩⟩;have xx:Ext H3 _:=(Ext.upd (o:= .lst [.int 10,.int 9,.int 8,.int 5,.int 2,.int 1,.int 0,.int 1,.int 2,.int 5,.int 8,.int 9]) h1).then (o:= .lst [.int 5,.int 8,.int 9,.int 10,.int 9,.int 8,.int 5,.int 2,.int 1,.int 0,.int 1,.int 2]) h2
        exact fin _ t3 x y (d3'.ext xx) (xx _ _ eL) (r2.ext xx) h3 (by unfold DzOk;rw[if_neg (by decide),if_pos rfl];exact⟨mx,my⟩)
       ·have:way=2∨way=3:=by omega
        rcases this with rfl|rfl
        ·o_head ⟨eL,jj,cs,rI⟩
         refine⟨c,_,d3.feed,by omega,fun r H4 a1 a2 d4=>⟨by decide,fun t1 h1=>⟨by decide,fun t2 h2=> ?_⟩⟩⟩;have xx:=Ext.upd (o:= .lst [.int 4,.int r]) h1
         exact fin _ t2 _ _ (((d3.trans d4).ext xx).mono (by omega)) (xx _ _ (d4.keep _ _ nLp eL)) ((r2.dx d3.feed d4).ext xx) h2 (by unfold DzOk;rw[if_neg (by decide),if_neg (by decide)];exact⟨rfl,show(0:Int)<=4 by decide,show(4:Int)<=10 by decide⟩)
        ·o_head ⟨eL,jj,cs,rI⟩
         refine⟨c,_,d3.feed,by omega,fun r H4 a1 a2 d4=>⟨by decide,fun t1 h1=>⟨by decide,fun t2 h2=> ?_⟩⟩⟩;have xx:=Ext.upd (o:= .lst [.int 4,.int r]) h1
         exact fin _ t2 _ _ (((d3.trans d4).ext xx).mono (by omega)) (xx _ _ (d4.keep _ _ nLp eL)) ((r2.dx d3.feed d4).ext xx) h2 (by unfold DzOk;rw[if_neg (by decide),if_neg (by decide)];exact⟨rfl,a1,by dsimp only;omega⟩)
     ·rintro σ H3 ⟨qs,rs,o3,rfl,eL,r2,dz,rfl,d3⟩;exact⟨qs,rs,o3,rfl,eL,r2,dz,n10,n12,d3.mono (by omega)⟩
   ·rintro σ H2 ⟨qs,rs,o3,rfl,eL,r2,dz,l10,l12,d2⟩;have lq:(qs.map V.ref).length=rs.length:=by rw[ah,r2.1]
    o_head ⟨eL,lq,jj,rI⟩
    refine⟨c,_,d2.feed,by omega,by omega,by omega,fun r H3 a1 a2 d3=> ?_⟩;obtain⟨k,rfl⟩:=fM a1
    have eL3:=d3.keep _ _ nLp eL
    rw[eL3,jA,iR,qe];intro t1 h1;rw[jf h1 eL3,jA,iR,qR];intro t2 h2;rw[jf h2 iN,jA,iR];refine⟨by rw[aI,aF,ah,r2.1];omega,fun t3 h3=> ?_⟩;have dd:=((((d2.trans d3).upd (o:= .lst ((qs.map V.ref).drop k)) h1).upd (o:= .lst ((qs.map V.ref).take k)) h2)).upd (o:= .lst ((qs.map V.ref).drop k++(qs.map V.ref).take k)) h3
    have xx:=((Ext.upd (o:= .lst ((qs.map V.ref).drop k)) h1).then (o:= .lst ((qs.map V.ref).take k)) h2).then (o:= .lst ((qs.map V.ref).drop k++(qs.map V.ref).take k)) h3
    have r3:=(r2.dx d2.feed d3).ext xx
    have h3':=(d2.trans d3).none (((Ext.upd (o:= .lst ((qs.map V.ref).drop k)) h1).then (o:= .lst ((qs.map V.ref).take k)) h2).none h3)
    refine h t3 (qs.drop k++qs.take k) (rs.drop k++rs.take k) _ (dd.mono (by omega)) h3' (by rw[iN,ay,du,cO]) ((r3.drop k).append (r3.take k)) (vh (rJ dz fun i j r hi hj=>DzOk.inj (by omega) (by omega)) k) ?_ ?_ ?_
    ·rw[aq,aI,aF];omega
    ·rw[aq,aI,aF];omega
    ·intro r hr';have hm:r∈rs:=by
      rcases aT.mp hr' with q|q
      ·exact gu q
      ·exact dC q
     obtain⟨i,hi⟩:=bg hm
     exact(dz i r hi).bd (by have:=(aa.mp hi).1;omega)
theorem sc__law_spots:FnScope ["_law_feed_here","_law_least","_law_most","_law_style","_law_found","_law_k","_law_kind","_law_spot_here"] ["_law_feed_here","_law_least","_law_most"] (iL s__law_spots):=⟨rfl,rfl,rfl,by decide+kernel,rfl,by decide+kernel,by decide+kernel⟩
theorem ok__law_spots{C:Cz}{f:Addr}{fd:FuncData}(F:Fun K "_law_spots" "_law_spots" s__law_spots f fd)(T:Txt K mg C)(F__law_draw:FnB P w K mg base (CXE P w) 1 "_law_draw" ["_law_feed_here","_law_many"] jj)(F__law_spot:FnB P w K mg base (CXE P w) 2 "_law_spot" ["_law_feed_here","_law_style"] oY)(F__law_dozen:FnB P w K mg base (CXE P w) 2 "_law_dozen" ["_law_feed_here"] mW):FnOk P w K mg base (CXE P w) 3 f fd ["_law_feed_here","_law_least","_law_most"] (mT K):=by
 refine okN F (k:=2) sc__law_spots (fun vs H Q E h=> ?_) (fun cdv A outer s H vs Q E hr h=> ?_)
 ·obtain⟨p,n0,m0,c,b,rfl,_⟩:=h
  rfl
 ·obtain⟨p,n0,m0,c,b,rfl,h⟩:=h
  refine'⟨_,?main,?rest⟩
  case main=>
   refine' i7 ?c1 ?c2
   case' c1=>refine' jm ?c3 ?c4 ?c5
   case' c3=>refine' PW.pt ?c6
   case' c6=>refine' lF ?c7 ?c8
   case' c7=>exact iT (OpR.f0 mR) (pvF 2) iJ (iZ _)
   case' c8=>refine' kx ?c9
   case' c9=>refine' iT jD ?c10 iJ (iZ _)
   case' c10=>refine' i9 F__law_draw (hr.mono (by decide)) rfl iV ?c11
   case' c11=>refine' iI (pvF 0) ?c12
   case' c12=>exact iI iJ iK
   case' c4=>refine' iM ?c13
   case' c13=>refine' i4 ?c14
   case' c14=>refine' i9 F__law_dozen (hr.mono (by decide)) rfl iV ?c15
   case' c15=>exact iI (pvF 0) iK
   case c5=>exact i8
   case' c2=>refine' iO ?c16 ?c17
   case' c16=>refine' jc (i:=3) sc__law_spots.nd rfl (aQ rfl) ?c18
   case' c18=>refine' i9 F__law_draw (hr.mono (by decide)) rfl iV ?c19
   case' c19=>refine' iI (pvF 0) ?c20
   case' c20=>exact iI iJ iK
   case' c17=>refine' iO ?c21 ?c22
   case' c21=>refine' jc (i:=4) sc__law_spots.nd rfl (aQ rfl) ?c23
   case' c23=>exact jO iK
   case' c22=>refine' i7 ?c24 ?c25
   case' c24=>refine' j6 ?c26 ?c27 ?c28 ?c29 ?c30
   case c26=>exact PassesOwn.never
   case c27=>exact rfl
   case' c28=>refine' jJ rfl T.b_range ?c31
   case' c31=>refine' iI ?c32 ?c33
   case' c32=>refine' iS (OpR.f0 jv) (pvF 1) ?c34
   case' c34=>refine' i9 F__law_draw (hr.mono (by decide)) rfl iV ?c35
   case' c35=>refine' iI (pvF 0) ?c36
   case' c36=>refine' iI ?c37 iK
   case' c37=>exact iS (OpR.f0 jv) (iS (OpR.f0 jy) (pvF 2) (pvF 1)) iJ
   case c33=>exact iK
   case c29=>exact(iQ (i:=5) sc__law_spots.nd rfl (aQ rfl))
   case' c30=>refine' iO (jc (i:=6) sc__law_spots.nd rfl (aQ rfl) (pvF 3)) ?c38
   case' c38=>refine' i7 ?c39 ?c40
   case' c39=>refine' jm ?c41 ?c42 ?c43
   case' c41=>exact iT jD (pvF 3) iJ (iZ _)
   case' c42=>refine' iM ?c44
   case' c44=>refine' jc (i:=6) sc__law_spots.nd rfl (aQ rfl) ?c45
   case' c45=>refine' i9 F__law_draw (hr.mono (by decide)) rfl iV ?c46
   case' c46=>refine' iI (pvF 0) ?c47
   case' c47=>exact iI iJ iK
   case c43=>exact i8
   case' c40=>refine' iO ?c48 ?c49
   case' c48=>refine' jc (i:=7) sc__law_spots.nd rfl (aQ rfl) ?c50
   case' c50=>refine' i9 F__law_spot (hr.mono (by decide)) rfl iV ?c51
   case' c51=>refine' iI (pvF 0) ?c52
   case' c52=>exact iI (pvF 6) iK
   case' c49=>refine' iM ?c53
   case' c53=>refine' jm (iT (t9 (K:=K) rfl (Cs hr)) (pvF 7) (pvF 4) (by with_unfolding_all rfl)) ?c54 i8
   case' c54=>refine' iM ?c55
   case' c55=>refine' jx ?c56
   case' c56=>refine' pe_app (pvF 4) ?c57
   case' c57=>exact iI (pvF 7) iK
   case' c25=>refine' iO ?c58 ?c59
   case' c58=>refine' mX ?c60 ?c61 ?c62
   case c60=>exact PassesOwn.never
   case' c61=>refine' iT (OpR.f0 mD) ?c63 (pvF 1) (iZ _)
   case' c63=>refine' iU jb (by rfl) T.b_len aW ?c64
   case' c64=>exact iI (pvF 4) iK
   case' c62=>refine' iM ?c65
   case' c65=>refine' jx ?c66
   case' c66=>refine' pe_app ?c67 ?c68
   case c67=>exact(pvF 4)
   case' c68=>refine' iI ?c69 ?c70
   case' c69=>refine' jk ?c71
   case' c71=>refine' iI ?c72 ?c73
   case' c72=>refine' iS ?c74 ?c75 ?c76
   case c74=>exact(OpR.f0 jv)
   case c75=>exact iJ
   case' c76=>refine' iU ?c77 ?c78 ?c79 ?c80 ?c81
   case c77=>exact(kf (K:=K) rfl rfl)
   case c78=>exact(by rfl)
   case c79=>exact T.b_max
   case c80=>exact boot_max
   case' c81=>refine' iI ?c82 ?c83
   case' c82=>refine' pO (CScope.of_ok (dsc:=iL s__law_spots) (N0:=["_law_feed_here","_law_least","_law_most","_law_style","_law_found","_law_k","_law_kind","_law_spot_here"]) (N:=["_law_x","_law_y"]) (k:=2) (js:=[]) rfl rfl (by decide+kernel)) rfl (jG (K:=K) rfl (pvF 4)) ?c84 ?c85 (fun _ _ _ _ _ _=>(pvF 0))
   case' c84=>intro _ _ _ _ _ _;refine' n6 (n:=2) rfl ?c86
   case' c86=>refine' iP (iQ (i:=0) (by show bS (["_law_x","_law_y"]:List Str);decide+kernel) rfl (aQ rfl)) ?c87
   case' c87=>exact iP (iQ (i:=1) (by show bS (["_law_x","_law_y"]:List Str);decide+kernel) rfl (aQ rfl)) jh
   case' c85=>intro _ _ _ _ _ _;exact jF
   case c83=>exact iK
   case' c73=>refine' iI ?c88 iK
   case' c88=>refine' iW jg ?c89 iJ (fun _ _=>rfl)
   case' c89=>exact iW jg (pvF 4) iJ (fun _ _=>rfl)
   case c70=>exact iK
   case' c59=>exact iM (i4 (pvF 4))
  case rest=>
   obtain⟨hF,hb,h1,h6,hnm,hm,h⟩:=h
   walk_at "ST"
   refine⟨fun σ H'=>σ=[some (.ref p),some (.int n0),some (.int m0),none,none,none,none,none] /\ DX c (b+1) p H H',?_,?_⟩
   ·o_head ⟨jj,mW,rI,rI⟩
    split
    ·refine⟨c,_,hF,by omega,fun r H1 a1 a2 d1=> ?_⟩;split
     ·refine⟨c,_,d1.feed,by omega,fun D qs rs H2 d2 hD eD r2 nd l10 l12 bd=> ?_⟩;exact h D qs rs H2 ((d1.trans d2).mono (by omega)) (d1.none hD) eD r2 nd (by omega) l12 fun r hr'=>by have:=bd r hr';omega
     ·exact d1
    ·exact(DX.refl hF).mono (by omega)
   ·rintro σ H1 ⟨rfl,d1⟩
    o_head ⟨jj⟩
    refine⟨c,_,d1.feed,by omega,fun st H2 s1 s2 d2=>⟨by decide,fun L hL=> ?_⟩⟩;have dL:=(d1.trans d2).upd (o:= .lst []) hL
    have hL0:=(d1.trans d2).none hL
    have nLp:=d2.feed.ne hL
    refine⟨fun σ H'=>∃(qs:List Addr) (rs:List P2) (o5 o6 o7:Option V),σ=[some (.ref p),some (.int n0),some (.int m0),some (.int st),some (.ref L),o5,o6,o7] /\ H' L=some (.lst (qs.map V.ref)) /\ R2At H' qs rs /\ rs.Nodup /\ 0<rs.length /\ rs.length<=12 /\ WBd 12 rs /\ DX c (b+50) p H H',?_,?_⟩
    ·refine nh (fun n H'=>n0<=n /\ n<=m0 /\ H' L=some (.lst []) /\ DX c (b+4) p H H') ?_ ?_
     ·intro R hR
      o_head ⟨jj⟩
      refine⟨c,_,dL.feed,by omega,by omega,by omega,fun r H3 a1 a2 d3=> ?_⟩;have:=hR (n0+r.toNat) H3 ⟨by omega,by omega,d3.keep _ _ nLp iN,(dL.trans d3).mono (by omega)⟩
      rw[show((n0+r.toNat:Nat):Int)=n0+r by omega] at this;exact this
     ·rintro n H3 ⟨n1,n2,eL,d3⟩;refine⟨by omega,fun i σ H'=>∃(qs:List Addr) (rs:List P2) (o5 o6 o7:Option V),σ=[some (.ref p),some (.int n0),some (.int m0),some (.int st),some (.ref L),o5,o6,o7] /\ H' L=some (.lst (qs.map V.ref)) /\ R2At H' qs rs /\ rs.Nodup /\ (0<i ->0<rs.length) /\ rs.length<=i /\ WBd 12 rs /\ DX c (b+4+3*i) p H H',⟨[],[],_,_,_,rfl,eL,⟨rfl,fun i q z a=>by simp at a⟩,gy,fun z=>absurd z (cz _),ax _,fun r hr'=>absurd hr' az,d3⟩,?_,?_⟩
      ·rintro i σ H4 hi ⟨qs,rs,o5,o6,o7,rfl,eL,r2,nd,z0,li,bd,d4⟩;walk_at "RD"
       refine⟨fun σ H'=>∃kd:Int,σ=[some (.ref p),some (.int n0),some (.int m0),some (.int st),some (.ref L),some (.int (0+(i:Int))),some (.int kd),o7] /\ 0<=kd /\ kd<=5 /\ H' L=some (.lst (qs.map V.ref)) /\ R2At H' qs rs /\ DX c (b+4+3*i+1) p H H',?_,?_⟩
       ·o_head ⟨jj⟩
        split
        ·exact⟨c,_,d4.feed,by omega,fun r H5 a1 a2 d5=>⟨a1,by omega,d5.keep _ _ nLp eL,r2.dx d4.feed d5,d4.trans d5⟩⟩
        ·exact⟨s1,by omega,eL,r2,d4.mono (by omega)⟩
       ·rintro σ H5 ⟨kd,rfl,k0,k5,eL,r2,d5⟩
        o_head ⟨oY⟩
        refine⟨c,_,d5.feed,by omega,k0,k5,fun t x y H6 d6 et hx hy=> ?_⟩;have eL6:=d6.keep _ _ nLp eL
        have r6:=r2.dx d5.feed d6
        refine⟨t2d (x,y),rs.map t2d,qC et,.lst (SqL.of eL6) (sN r6),qw _,qx _,fun y' hy'=> ?_,?_⟩
        ·obtain⟨z,_,rfl⟩:=aC.mp hy'
         exact mY _ _
        ·rw[BC];dsimp only;have d56:=d5.trans d6
         by_cases hm':(x,y)∈rs
         ·rw[decide_eq_true hm',if_neg (by simp)];exact⟨⟨_,rfl⟩,qs,eL6,rs,r6,nd,fun _=>List.length_pos_of_mem hm',by omega,bd,d56.mono (by omega)⟩
         ·rw[decide_eq_false hm',if_pos (by simp),eL6,jA,iR];refine⟨rfl,by rw[ah,r6.1];omega,⟨_,rfl⟩,qs++[t],by rw[ay];rfl,rs++[(x,y)],(r6.append (R2At.one et)).setL eL6,nodup_snoc nd hm',fun _=>by rw[aq];exact Nat.succ_pos _,?_,bd.snoc ⟨hx,hy⟩,(d56.mono (by omega)).set hL0 hF⟩;rw[aq];show _+1<=_
          omega
      ·rintro σ H4 ⟨qs,rs,o5,o6,o7,rfl,eL,r2,nd,z0,li,bd,d4⟩;exact⟨qs,rs,o5,o6,o7,rfl,eL,r2,nd,z0 (by omega),by omega,bd,d4.mono (by omega)⟩
    ·rintro σ H3 ⟨qs,rs,o5,o6,o7,rfl,eL,r2,nd,z0,li,bd,d3⟩;walk_at "RD"
     refine⟨fun m σ H'=>∃(qs:List Addr) (rs:List P2),σ=[some (.ref p),some (.int n0),some (.int m0),some (.int st),some (.ref L),o5,o6,o7] /\ H' L=some (.lst (qs.map V.ref)) /\ R2At H' qs rs /\ rs.Nodup /\ 0<rs.length /\ rs.length<=12 /\ WBd (12+rs.length) rs /\ DX c (b+50) p H H' /\ m=12-rs.length,⟨_,qs,rs,rfl,eL,r2,nd,z0,li,bd.mono (by omega),d3,rfl⟩,?_⟩;rintro m σ H4 ⟨qs,rs,rfl,eL,r2,nd,z0,li,bd,d4,rfl⟩;have lq:(qs.map V.ref).length=rs.length:=by rw[ah,r2.1]
     o_head ⟨eL,lq,rI,rI⟩
     by_cases hlt:(rs.length:Int)<n0
     ·rw[if_pos hlt];refine⟨fun σ' H'=>∃(qs':List Addr) (rs':List P2),σ'=[some (.ref p),some (.int n0),some (.int m0),some (.int st),some (.ref L),o5,o6,o7] /\ H' L=some (.lst (qs'.map V.ref)) /\ R2At H' qs' rs' /\ rs'.Nodup /\ 0<rs'.length /\ rs'.length<=12 /\ WBd (12+rs'.length) rs' /\ DX c (b+50) p H H' /\ rs'.length=rs.length+1,?_,?_⟩
      ·rintro σ' H' ⟨qs',rs',rfl,g1,g2,g3,g4,g5,g6,g7,g8⟩;exact⟨12-rs'.length,by omega,rfl,qs',g1,rs',g2,g3,g4,g5,g6,g7,rfl⟩
      ·refine jX (K:=K) (a:=L) (xs:=qs.map V.ref) (fun R h=>by walk_at "RD";exact h) (SqL.of eL) (by omega) (fun D i ys H'=>ys=((rs.take i).map (·.1)).map V.int /\ H' D=some (.lst ys) /\ Ext H4 H') ?_ ?_ ?_ ?_
       ·intro D hD;exact⟨rfl,iN,.upd hD⟩
       ·rintro D i ys H5 _ ⟨rfl,e5,x5⟩;refine⟨e5,?_,SqL.of (x5 _ _ eL)⟩;rw[ah,ah,aF];omega
       ·rintro D i w1 ys H5 hD hi ⟨rfl,e5,x5⟩;obtain⟨q,hq,rfl⟩:=jw hi
        obtain⟨r,hr1,hr2⟩:=r2.at hq
        o_head ⟨kj,ky,ou,x5 _ _ hr2⟩
        refine⟨e5,?_,x5.set hD⟩;rw[bU,hr1,ay,ay];rfl
       ·rintro D ys H5 hD ⟨rfl,e5,x5⟩;rw[lq,bo] at e5;refine⟨D,rs.map (·.1),rfl,SqL.of e5,by rw[ah];exact z0,fun M hM hmax=> ?_⟩;obtain⟨r0,hr0⟩:∃r,rs[0]? =some r:=⟨_,ag z0⟩
        obtain⟨q0,hq0⟩:∃q,qs[0]? =some q:=⟨_,ag (by rw[r2.1];exact z0)⟩
        have e0:=x5 _ _ (r2.2 0 q0 r0 hq0 hr0)
        have a0:atI (qs.map V.ref) 0=some (.ref q0):=jr (j:=0) (by rw[au,hq0];rfl)
        o_head ⟨x5 _ _ eL,a0,e0,rI⟩
        refine⟨by decide,fun t ht=> ?_⟩;have e6:=jf (o:= .tup [.int (1+M),.int r0.2]) ht (x5 _ _ eL)
        rw[e6,jA,iR];have nin:(1+M,r0.2)∉rs:=fun z=>by
         have:=hmax (1+M) (aC.mpr ⟨_,z,rfl⟩)
         omega
        obtain⟨rM,hrM,eM⟩:=aC.mp hM
        have bM:=bd rM hrM
        have b0:=bd r0 (av hr0)
        have ll:(rs++[(1+M,r0.2)]).length=rs.length+1:=by rw[aq];rfl
        have W:WBd (12+((rs++[(1+M,r0.2)]).length:Int)) (rs++[(1+M,r0.2)]):=by
         rw[ll];exact(bd.mono (by omega)).snoc ⟨by dsimp only;omega,by dsimp only;omega⟩
        refine⟨by rw[ah,r2.1];omega,qs++[t],by rw[ay];rfl,rs++[(1+M,r0.2)],((((r2.ext x5).ext (Ext.upd ht)).append (R2At.one (r:=(1+M,r0.2)) iN)).setL e6),nodup_snoc nd nin,by omega,by omega,W,((d4.ext x5).upd ht).set hL0 hF,ll⟩
     ·rw[if_neg hlt];exact h L qs rs H4 (d4.mono (by omega)) hL0 eL r2 nd (by omega) li (bd.mono (by omega))
theorem sc__law_world:FnScope ["_law_feed_here","_law_least","_law_most","_law_small","_law_times","_law_right","_law_up","_law_edge","_law_xs","_law_ys","_law_wide","_law_high","_law_box"] ["_law_feed_here","_law_least","_law_most"] (iL s__law_world):=⟨rfl,rfl,rfl,by decide+kernel,rfl,by decide+kernel,by decide+kernel⟩
theorem ok__law_world{C:Cz}{f:Addr}{fd:FuncData}(F:Fun K "_law_world" "_law_world" s__law_world f fd)(T:Txt K mg C)(F__law_draw:FnB P w K mg base (CXE P w) 1 "_law_draw" ["_law_feed_here","_law_many"] jj)(F__law_scale:FnB P w K mg base (CXE P w) 3 "_law_scale" ["_law_feed_here"] mU)(F__law_spots:FnB P w K mg base (CXE P w) 3 "_law_spots" ["_law_feed_here","_law_least","_law_most"] (mT K)):FnOk P w K mg base (CXE P w) 4 f fd ["_law_feed_here","_law_least","_law_most"] (mS K):=by
 refine okN F (k:=3) sc__law_world (fun vs H Q E h=> ?_) (fun cdv A outer s H vs Q E hr h=> ?_)
 ·obtain⟨p,n0,m0,c,b,rfl,_⟩:=h
  rfl
 ·obtain⟨p,n0,m0,c,b,rfl,h⟩:=h
  refine'⟨_,?main,?rest⟩
  case main=>
   refine' iO ?c1 ?c2
   case' c1=>refine' jc (i:=3) sc__law_world.nd rfl (aQ rfl) ?c3
   case' c3=>refine' i9 F__law_spots (hr.mono (by decide)) rfl iV ?c4
   case' c4=>refine' iI (pvF 0) ?c5
   case' c5=>refine' iI (pvF 1) ?c6
   case' c6=>exact iI (pvF 2) iK
   case' c2=>refine' i7 ?c7 ?c8
   case' c7=>refine' kB ?c9 ?c10
   case' c9=>refine' i9 F__law_scale (hr.mono (by decide)) rfl iV ?c11
   case' c11=>exact iI (pvF 0) iK
   case' c10=>refine' n6 (n:=3) rfl ?c12
   case' c12=>refine' iP (iQ (i:=4) sc__law_world.nd rfl (gF rfl)) ?c13
   case' c13=>refine' iP (iQ (i:=5) sc__law_world.nd rfl (gF rfl)) ?c14
   case' c14=>exact iP (iQ (i:=6) sc__law_world.nd rfl (gF rfl)) jh
   case' c8=>refine' i7 ?c15 ?c16
   case' c15=>refine' t7 (i:=7) ?c17 ?c18 ?c19 ?c20 ?c21 ?c22 ?c23 ?c24 ?c25
   case c17=>exact(CScope.of_ok (dsc:=iL s__law_world) (N0:=["_law_feed_here","_law_least","_law_most","_law_small","_law_times","_law_right","_law_up","_law_edge","_law_xs","_law_ys","_law_wide","_law_high","_law_box"]) (N:=["_law_k","_law_feed_here"]) (k:=1) (js:=[0]) rfl rfl (by decide+kernel))
   case c18=>exact rfl
   case' c19=>refine' jJ rfl T.b_range ?c26
   case' c26=>exact iI iJ iK
   case' c20=>intro _ _ _ _ _ _;exact(iQ (i:=0) (by show bS (["_law_k","_law_feed_here"]:List Str);decide+kernel) rfl (aQ rfl))
   case' c21=>intro _ _ _ _ _ _;exact jF
   case' c22=>intro _ _ _ _ _ _;refine' iW ?c27 ?c28 ?c29 ?c30
   case c27=>exact jg
   case' c28=>refine' jO ?c31
   case' c31=>refine' iI iJ ?c32
   case' c32=>refine' iI iJ ?c33
   case' c33=>refine' iI iJ ?c34
   case' c34=>exact iI iJ iK
   case' c29=>refine' i9 F__law_draw (hr.mono (by decide)) rfl iV ?c35
   case' c35=>refine' iI (pvF 1) ?c36
   case' c36=>exact iI iJ iK
   case c30=>exact(fun _ _=>rfl)
   case c23=>exact sc__law_world.nd
   case c24=>exact rfl
   case c25=>exact rfl
   case' c16=>refine' i7 ?c37 ?c38
   case' c37=>refine' t7 (i:=8) ?c39 ?c40 ?c41 ?c42 ?c43 ?c44 ?c45 ?c46 ?c47
   case c39=>exact(CScope.of_ok (dsc:=iL s__law_world) (N0:=["_law_feed_here","_law_least","_law_most","_law_small","_law_times","_law_right","_law_up","_law_edge","_law_xs","_law_ys","_law_wide","_law_high","_law_box"]) (N:=["_law_x","_law_y"]) (k:=2) (js:=[]) rfl rfl (by decide+kernel))
   case c40=>exact rfl
   case c41=>exact(jG (K:=K) rfl (pvF 3))
   case' c42=>intro _ _ _ _ _ _;refine' n6 (n:=2) rfl ?c48
   case' c48=>refine' iP (iQ (i:=0) (by show bS (["_law_x","_law_y"]:List Str);decide+kernel) rfl (aQ rfl)) ?c49
   case' c49=>exact iP (iQ (i:=1) (by show bS (["_law_x","_law_y"]:List Str);decide+kernel) rfl (aQ rfl)) jh
   case' c43=>intro _ _ _ _ _ _;exact jF
   case c44=>exact(fun _ _ _ _ _ _=>(pvF 0))
   case c45=>exact sc__law_world.nd
   case c46=>exact rfl
   case c47=>exact rfl
   case' c38=>refine' i7 ?c50 ?c51
   case' c50=>refine' t7 (i:=9) ?c52 ?c53 ?c54 ?c55 ?c56 ?c57 ?c58 ?c59 ?c60
   case c52=>exact(CScope.of_ok (dsc:=iL s__law_world) (N0:=["_law_feed_here","_law_least","_law_most","_law_small","_law_times","_law_right","_law_up","_law_edge","_law_xs","_law_ys","_law_wide","_law_high","_law_box"]) (N:=["_law_x","_law_y"]) (k:=2) (js:=[]) rfl rfl (by decide+kernel))
   case c53=>exact rfl
   case c54=>exact(jG (K:=K) rfl (pvF 3))
   case' c55=>intro _ _ _ _ _ _;refine' n6 (n:=2) rfl ?c61
   case' c61=>refine' iP (iQ (i:=0) (by show bS (["_law_x","_law_y"]:List Str);decide+kernel) rfl (aQ rfl)) ?c62
   case' c62=>exact iP (iQ (i:=1) (by show bS (["_law_x","_law_y"]:List Str);decide+kernel) rfl (aQ rfl)) jh
   case' c56=>intro _ _ _ _ _ _;exact jF
   case c57=>exact(fun _ _ _ _ _ _=>(pvF 1))
   case c58=>exact sc__law_world.nd
   case c59=>exact rfl
   case c60=>exact rfl
   case' c51=>refine' i7 ?c63 ?c64
   case' c63=>refine' jc (i:=10) ?c65 ?c66 ?c67 ?c68
   case c65=>exact sc__law_world.nd
   case c66=>exact rfl
   case c67=>exact(aQ rfl)
   case' c68=>refine' iS ?c69 ?c70 ?c71
   case c69=>exact(OpR.f0 jv)
   case' c70=>refine' iS (OpR.f0 jv) ?c72 ?c73
   case' c72=>refine' iU (kf (K:=K) rfl rfl) (by rfl) T.b_max boot_max ?c74
   case' c74=>exact iI (pvF 8) iK
   case' c73=>exact iW jg (pvF 7) iJ (fun _ _=>rfl)
   case' c71=>refine' jN ?c75 ?c76 ?c77 ?c78 ?c79
   case c75=>exact qW
   case c76=>exact(by rfl)
   case c77=>exact T.b_int
   case c78=>exact boot_int
   case' c79=>refine' iI ?c80 ?c81
   case' c80=>refine' j7 ?c82 ?c83 ?c84 ?c85
   case c82=>exact jD
   case' c83=>refine' iS (OpR.f0 jv) ?c86 ?c87
   case' c86=>refine' iU (kf (K:=K) rfl rfl) (by rfl) T.b_max boot_max ?c88
   case' c88=>exact iI (pvF 8) iK
   case' c87=>exact iW jg (pvF 7) iJ (fun _ _=>rfl)
   case' c84=>refine' iS (OpR.f0 jy) ?c89 ?c90
   case' c89=>refine' iU (jU (K:=K) rfl rfl) (by rfl) T.b_min boot_min ?c91
   case' c91=>exact iI (pvF 8) iK
   case' c90=>exact iW jg (pvF 7) iJ (fun _ _=>rfl)
   case c85=>exact(iZ _)
   case c81=>exact iK
   case' c64=>refine' i7 ?c92 ?c93
   case' c92=>refine' jc (i:=11) ?c94 ?c95 ?c96 ?c97
   case c94=>exact sc__law_world.nd
   case c95=>exact rfl
   case c96=>exact(aQ rfl)
   case' c97=>refine' iS ?c98 ?c99 ?c100
   case c98=>exact(OpR.f0 jv)
   case' c99=>refine' iS (OpR.f0 jv) ?c101 ?c102
   case' c101=>refine' iU (kf (K:=K) rfl rfl) (by rfl) T.b_max boot_max ?c103
   case' c103=>exact iI (pvF 9) iK
   case' c102=>exact iW jg (pvF 7) iJ (fun _ _=>rfl)
   case' c100=>refine' jN ?c104 ?c105 ?c106 ?c107 ?c108
   case c104=>exact qW
   case c105=>exact(by rfl)
   case c106=>exact T.b_int
   case c107=>exact boot_int
   case' c108=>refine' iI ?c109 ?c110
   case' c109=>refine' j7 ?c111 ?c112 ?c113 ?c114
   case c111=>exact jD
   case' c112=>refine' iS (OpR.f0 jv) ?c115 ?c116
   case' c115=>refine' iU (kf (K:=K) rfl rfl) (by rfl) T.b_max boot_max ?c117
   case' c117=>exact iI (pvF 9) iK
   case' c116=>exact iW jg (pvF 7) iJ (fun _ _=>rfl)
   case' c113=>refine' iS (OpR.f0 jy) ?c118 ?c119
   case' c118=>refine' iU (jU (K:=K) rfl rfl) (by rfl) T.b_min boot_min ?c120
   case' c120=>exact iI (pvF 9) iK
   case' c119=>exact iW jg (pvF 7) iJ (fun _ _=>rfl)
   case c114=>exact(iZ _)
   case c110=>exact iK
   case' c93=>refine' i7 ?c121 ?c122
   case' c121=>refine' jc (i:=12) ?c123 ?c124 ?c125 ?c126
   case c123=>exact sc__law_world.nd
   case c124=>exact rfl
   case c125=>exact(aQ rfl)
   case' c126=>refine' jk ?c127
   case' c127=>refine' iI ?c128 ?c129
   case' c128=>refine' iS (OpR.f0 jv) ?c130 (pvF 5)
   case' c130=>refine' iS (OpR.f iX) ?c131 (pvF 4)
   case' c131=>refine' iS (OpR.f0 jy) ?c132 ?c133
   case' c132=>refine' iU (jU (K:=K) rfl rfl) (by rfl) T.b_min boot_min ?c134
   case' c134=>exact iI (pvF 8) iK
   case' c133=>exact iW jg (pvF 7) iJ (fun _ _=>rfl)
   case' c129=>refine' iI ?c135 ?c136
   case' c135=>refine' iS (OpR.f0 jv) ?c137 (pvF 6)
   case' c137=>refine' iS (OpR.f iX) ?c138 (pvF 4)
   case' c138=>refine' iS (OpR.f0 jy) ?c139 ?c140
   case' c139=>refine' iU (jU (K:=K) rfl rfl) (by rfl) T.b_min boot_min ?c141
   case' c141=>exact iI (pvF 9) iK
   case' c140=>exact iW jg (pvF 7) iJ (fun _ _=>rfl)
   case' c136=>refine' iI ?c142 ?c143
   case' c142=>exact iS (OpR.f0 jv) (iS (OpR.f iX) (pvF 10) (pvF 4)) (pvF 5)
   case' c143=>refine' iI ?c144 iK
   case' c144=>exact iS (OpR.f0 jv) (iS (OpR.f iX) (pvF 11) (pvF 4)) (pvF 6)
   case' c122=>refine' iM ?c145
   case' c145=>refine' i4 ?c146
   case' c146=>refine' jk ?c147
   case' c147=>refine' iI ?c148 ?c149
   case c148=>exact(pvF 12)
   case' c149=>refine' iI ?c150 ?c151
   case' c150=>refine' pO (CScope.of_ok (dsc:=iL s__law_world) (N0:=["_law_feed_here","_law_least","_law_most","_law_small","_law_times","_law_right","_law_up","_law_edge","_law_xs","_law_ys","_law_wide","_law_high","_law_box"]) (N:=["_law_x","_law_y","_law_right","_law_up","_law_times"]) (k:=2) (js:=[5,6,4]) rfl rfl (by decide+kernel)) rfl (jG (K:=K) rfl (pvF 3)) ?c152 ?c153 ?c154
   case' c152=>intro _ _ _ _ _ _;refine' n6 (n:=2) rfl ?c155
   case' c155=>refine' iP (iQ (i:=0) (by show bS (["_law_x","_law_y","_law_right","_law_up","_law_times"]:List Str);decide+kernel) rfl (aQ rfl)) ?c156
   case' c156=>exact iP (iQ (i:=1) (by show bS (["_law_x","_law_y","_law_right","_law_up","_law_times"]:List Str);decide+kernel) rfl (aQ rfl)) jh
   case' c153=>intro _ _ _ _ _ _;exact jF
   case' c154=>intro _ _ _ _ _ _;refine' jk ?c157
   case' c157=>refine' iI ?c158 ?c159
   case' c158=>exact iS (OpR.f0 jv) (iS (OpR.f iX) (pvF 0) (pvF 4)) (pvF 2)
   case' c159=>refine' iI ?c160 iK
   case' c160=>exact iS (OpR.f0 jv) (iS (OpR.f iX) (pvF 1) (pvF 4)) (pvF 3)
   case c151=>exact iK
  case rest=>
   obtain⟨hF,hb,h1,h6,hnm,hm,h⟩:=h
   walk_at "ST"
   o_head ⟨mT⟩
   refine⟨n0,rfl,m0,rfl,c,b,hF,by omega,h1,h6,hnm,hm,fun L qs rs H1 d1 hL eL r2 nd l0 l12 bd=> ?_⟩;have lq:(qs.map V.ref).length=rs.length:=by rw[ah,r2.1]
   have nLp:=d1.feed.lst eL
   refine⟨fun σ H'=>∃m r u:Int,σ=[some (.ref p),some (.int n0),some (.int m0),some (.ref L),some (.int m),some (.int r),some (.int u),none,none,none,none,none,none] /\ H' L=some (.lst (qs.map V.ref)) /\ R2At H' qs rs /\ (1<=m /\ m<=10^20) /\ (-(10^25)<=r /\ r<=10^25) /\ (-(10^25)<=u /\ u<=10^25) /\ DX c (b+85) p H H',?_,?_⟩
   ·o_head ⟨mU⟩
    refine⟨c,_,d1.feed,by omega,fun t m r u H2 d2 et hm' hr' hu=> ?_⟩
    o_head ⟨kj,ky,ou,et⟩
    exact⟨d2.keep _ _ nLp eL,r2.dx d1.feed d2,hm'.1,hm'.2,hr'.1,hr'.2,hu.1,hu.2,(d1.trans d2).mono (by omega)⟩
   ·rintro σ H2 ⟨m,r,u,rfl,eL,r2,⟨m1,m2⟩,hr',hu,d2⟩;refine⟨fun σ H'=>∃(E:Addr) (e0 e1 e2 e3:Int),σ=[some (.ref p),some (.int n0),some (.int m0),some (.ref L),some (.int m),some (.int r),some (.int u),some (.ref E),none,none,none,none,none] /\ H' E=some (.lst [.int e0,.int e1,.int e2,.int e3]) /\ ((0<=e0 /\ e0<=7) /\ (0<=e1 /\ e1<=7) /\ (0<=e2 /\ e2<=7) /\ (0<=e3 /\ e3<=7)) /\ H' L=some (.lst (qs.map V.ref)) /\ R2At H' qs rs /\ DX c (b+90) p H H',?_,?_⟩
    ·walk_at "RD"
     refine lP 4 (fun R h=>h) (by decide) (fun D i ys H'=>H' D=some (.lst ys) /\ ys.length=i /\ D≠p /\ (∀v∈ys,∃e:Int,v= .int e /\ 0<=e /\ e<=7) /\ DX c (b+85+i) p H2 H') ?_ ?_ ?_ ?_
     ·intro D hD;exact⟨iN,rfl,d2.feed.ne hD,fun v hv=>absurd hv az,(DX.refl d2.feed).upd hD⟩
     ·rintro D i ys H3 _ ⟨e3,l3,_⟩;exact⟨e3,by omega⟩
     ·rintro D i ys H3 hD hi ⟨e3,l3,nD,hv,d3⟩
      o_head ⟨jj⟩
      refine⟨by decide,fun t ht=>⟨c,_,d3.feed.upd ht,by omega,fun k H4 a1 a2 d4=> ?_⟩⟩;have et:=d4.keep t _ (d3.feed.ne ht) iN
      have eD:=d4.keep D _ nD (jf ht e3)
      obtain⟨x,hx,hp1,hp2⟩:=yb (a:=0) (b:=1) (c:=0) (d:=7) (fun x=>0<=x /\ x<=7) (by decide) (by decide) (by decide) (by decide) a1 a2
      o_head ⟨et,hx,rI,rI⟩
      refine⟨eD,by rw[aq,l3];rfl,nD,fun v hv'=> ?_,(((d3.upd ht).trans d4).mono (by omega)).set hD d2.feed⟩;rcases aT.mp hv' with q|q
      ·exact hv v q
      ·exact⟨x,by simpa using q,hp1,hp2⟩
     ·rintro D ys H3 hD ⟨e3,l3,nD,hv,d3⟩;obtain⟨e0,e1,e2,e3',rfl,f0,f1,f2,f3⟩:=vP l3 hv
      walk_at "RD"
      exact⟨e0,e1,e2,e3',e3,f0.1,f0.2,f1.1,f1.2,f2.1,f2.2,f3.1,f3.2,d3.keep _ _ (d2.feed.lst eL) eL,r2.dx d2.feed d3,(d2.trans d3).mono (by omega)⟩
    ·rintro σ H3 ⟨E,e0,e1,e2,e3,rfl,eE,⟨f0,f1,f2,f3⟩,eL,r2,d3⟩;refine⟨fun σ H'=>∃X:Addr,σ=[some (.ref p),some (.int n0),some (.int m0),some (.ref L),some (.int m),some (.int r),some (.int u),some (.ref E),some (.ref X),none,none,none,none] /\ H' X=some (.lst ((rs.map (·.1)).map V.int)) /\ Ext H3 H',?_,?_⟩
     ·walk_at "RD"
      refine jX (K:=K) (a:=L) (xs:=qs.map V.ref) (fun R h=>by walk_at "RD";exact h) (SqL.of eL) (by rw[lq];omega) (fun D i ys H'=>ys=((rs.take i).map (·.1)).map V.int /\ H' D=some (.lst ys) /\ Ext H3 H') ?_ ?_ ?_ ?_
      ·intro D hD;exact⟨rfl,iN,.upd hD⟩
      ·rintro D i ys H5 _ ⟨rfl,e5,x5⟩;refine⟨e5,?_,SqL.of (x5 _ _ eL)⟩;rw[ah,ah,aF];omega
      ·rintro D i w1 ys H5 hD hi ⟨rfl,e5,x5⟩;obtain⟨q,hq,rfl⟩:=jw hi
       obtain⟨z,hr1,hr2⟩:=r2.at hq
       o_head ⟨kj,ky,ou,x5 _ _ hr2⟩
       refine⟨e5,?_,x5.set hD⟩;rw[bU,hr1,ay,ay];rfl
      ·rintro D ys H5 hD ⟨rfl,e5,x5⟩;rw[lq,bo] at e5;walk_at "RD"
       exact⟨e5,x5⟩
     ·rintro σ H4 ⟨X,rfl,eX,x4⟩;replace eL:=x4 _ _ eL
      replace r2:=r2.ext x4
      refine⟨fun σ H'=>∃Y:Addr,σ=[some (.ref p),some (.int n0),some (.int m0),some (.ref L),some (.int m),some (.int r),some (.int u),some (.ref E),some (.ref X),some (.ref Y),none,none,none] /\ H' Y=some (.lst ((rs.map (·.2)).map V.int)) /\ Ext H4 H',?_,?_⟩
      ·walk_at "RD"
       refine jX (K:=K) (a:=L) (xs:=qs.map V.ref) (fun R h=>by walk_at "RD";exact h) (SqL.of eL) (by rw[lq];omega) (fun D i ys H'=>ys=((rs.take i).map (·.2)).map V.int /\ H' D=some (.lst ys) /\ Ext H4 H') ?_ ?_ ?_ ?_
       ·intro D hD;exact⟨rfl,iN,.upd hD⟩
       ·rintro D i ys H5 _ ⟨rfl,e5,x5⟩;refine⟨e5,?_,SqL.of (x5 _ _ eL)⟩;rw[ah,ah,aF];omega
       ·rintro D i w1 ys H5 hD hi ⟨rfl,e5,x5⟩;obtain⟨q,hq,rfl⟩:=jw hi
        obtain⟨z,hr1,hr2⟩:=r2.at hq
        o_head ⟨kj,ky,ou,x5 _ _ hr2⟩
        refine⟨e5,?_,x5.set hD⟩;rw[bU,hr1,ay,ay];rfl
       ·rintro D ys H5 hD ⟨rfl,e5,x5⟩;rw[lq,bo] at e5;walk_at "RD"
        exact⟨e5,x5⟩
      ·rintro σ H5 ⟨Y,rfl,eY,x5⟩;replace eL:=x5 _ _ eL
       replace r2:=r2.ext x5
       replace eX:=x5 _ _ eX
       replace eE:=x5 _ _ (x4 _ _ eE)
       have n1:0<(rs.map (·.1)).length:=by rw[ah];omega
       have n2:0<(rs.map (·.2)).length:=by rw[ah];omega
       have mx:∀M,M∈rs.map (·.1) ->0<=M /\ M<=24:=fun M hM=>by
        obtain⟨z,hz,rfl⟩:=aC.mp hM
        exact(bd z hz).1
       have my:∀M,M∈rs.map (·.2) ->0<=M /\ M<=12:=fun M hM=>by
        obtain⟨z,hz,rfl⟩:=aC.mp hM
        exact(bd z hz).2
       refine⟨fun σ H'=>∃wd:Int,σ=[some (.ref p),some (.int n0),some (.int m0),some (.ref L),some (.int m),some (.int r),some (.int u),some (.ref E),some (.ref X),some (.ref Y),some (.int wd),none,none] /\ H'=H5 /\ (∀a∈rs.map (·.1),a<=wd) /\ (∀N∈rs.map (·.1),(∀a∈rs.map (·.1),N<=a) ->N-e0<wd) /\ wd<=40,?_,?_⟩
       ·o_head ⟨eE⟩
        refine⟨X,_,rfl,SqL.of eX,n1,fun M hM hmax=> ?_⟩
        o_head ⟨eE⟩
        refine⟨X,_,rfl,SqL.of eX,n1,fun M2 hM2 hmax2=> ?_⟩
        o_head ⟨eE⟩
        refine⟨X,_,rfl,SqL.of eX,n1,fun N hN hmin=> ?_⟩
        o_head ⟨eE⟩
        have e12:M2=M:=by have:=hmax M2 hM2;have:=hmax2 M hM;omega
        subst e12;have bM:=mx M2 hM
        refine⟨fun a ha=> ?_,fun N' hN' hmin'=> ?_,?_⟩
        ·have:=hmax a ha
         split<;>omega
        ·have:=hmin' N hN
         have:=hmin N' hN'
         have:=hmax N' hN'
         split<;>omega
        ·split<;>omega
       ·rintro σ H6 ⟨wd,rfl,rfl,wmax,wmin,w40⟩;refine⟨fun σ H'=>∃hg:Int,σ=[some (.ref p),some (.int n0),some (.int m0),some (.ref L),some (.int m),some (.int r),some (.int u),some (.ref E),some (.ref X),some (.ref Y),some (.int wd),some (.int hg),none] /\ H'=H6 /\ (∀a∈rs.map (·.2),a<=hg) /\ (∀N∈rs.map (·.2),(∀a∈rs.map (·.2),N<=a) ->N-e1<hg) /\ hg<=40,?_,?_⟩
        ·o_head ⟨eE⟩
         refine⟨Y,_,rfl,SqL.of eY,n2,fun M hM hmax=> ?_⟩
         o_head ⟨eE⟩
         refine⟨Y,_,rfl,SqL.of eY,n2,fun M2 hM2 hmax2=> ?_⟩
         o_head ⟨eE⟩
         refine⟨Y,_,rfl,SqL.of eY,n2,fun N hN hmin=> ?_⟩
         o_head ⟨eE⟩
         have e12:M2=M:=by have:=hmax M2 hM2;have:=hmax2 M hM;omega
         subst e12;have bM:=my M2 hM
         refine⟨fun a ha=> ?_,fun N' hN' hmin'=> ?_,?_⟩
         ·have:=hmax a ha
          split<;>omega
         ·have:=hmin' N hN
          have:=hmin N' hN'
          have:=hmax N' hN'
          split<;>omega
         ·split<;>omega
        ·rintro σ H7 ⟨hg,rfl,rfl,hgmax,hgmin,h40⟩;have b70:Bd 70 m:=Bd.of_le (10^20) (by omega) (by omega) (by decide)
         have sm:∀k:Int,-10<=k ->k<=50 ->Bd 10 k:=fun k a1 a2=>Bd.of_le 50 (by omega) (by omega) (by decide)
         have xpos:∀z∈rs,0<=wd:=fun z hz=>by have:=wmax z.1 (aC.mpr ⟨z,hz,rfl⟩);have:=bd z hz;omega
         have z0:∃z,z∈rs:=by
          obtain⟨z,hz⟩:∃z,rs[0]? =some z:=⟨_,ag (by omega)⟩
          exact⟨z,av hz⟩
         obtain⟨zz,hzz⟩:=z0
         have w0:=xpos zz hzz
         have g0:0<=hg:=by have:=hgmax zz.2 (aC.mpr ⟨zz,hzz,rfl⟩);have:=bd zz hzz;omega
         refine⟨fun σ H'=>∃(B:Addr) (N N':Int),σ=[some (.ref p),some (.int n0),some (.int m0),some (.ref L),some (.int m),some (.int r),some (.int u),some (.ref E),some (.ref X),some (.ref Y),some (.int wd),some (.int hg),some (.ref B)] /\ H' B=some (.tup [.int ((N-e0)*m+r),.int ((N'-e1)*m+u),.int (wd*m+r),.int (hg*m+u)]) /\ Ext H7 H' /\ (N∈rs.map (·.1) /\ ∀a∈rs.map (·.1),N<=a) /\ (N'∈rs.map (·.2) /\ ∀a∈rs.map (·.2),N'<=a),?_,?_⟩
         ·o_head ⟨eE⟩
          refine⟨X,_,rfl,SqL.of eX,n1,fun N hN hmin=> ?_⟩;have bN:=mx N hN
          o_head ⟨eE⟩
          refine⟨.of (sm _ (by omega) (by omega)) b70 (by decide) (by decide),?_⟩;refine⟨Y,_,rfl,SqL.of eY,n2,fun N' hN' hmin'=> ?_⟩;have bN':=my N' hN'
          o_head ⟨eE⟩
          refine⟨.of (sm _ (by omega) (by omega)) b70 (by decide) (by decide),.of (sm _ (by omega) (by omega)) b70 (by decide) (by decide),.of (sm _ (by omega) (by omega)) b70 (by decide) (by decide),by decide,fun B hB=> ?_⟩;exact⟨N,N',rfl,.upd hB,hN,hmin,hN',hmin'⟩
         ·rintro σ H8 ⟨B,N,N',rfl,eB,x8,⟨hN,hmin⟩,hN',hmin'⟩;have bN:=mx N hN
          have bN':=my N' hN'
          walk_at "RD"
          refine jX (K:=K) (a:=L) (xs:=qs.map V.ref) (fun R h=>by walk_at "RD";exact h) (SqL.of (x8 _ _ eL)) (by rw[lq];omega) (fun D i ys H'=>∃qs':List Addr,ys=qs'.map V.ref /\ R2At H' qs' ((rs.take i).map fun z=>(z.1*m+r,z.2*m+u)) /\ H' D=some (.lst ys) /\ Ext H8 H') ?_ ?_ ?_ ?_
          ·intro D hD;exact⟨[],rfl,⟨rfl,fun i q z a=>by simp at a⟩,iN,.upd hD⟩
          ·rintro D i ys H9 _ ⟨qs',rfl,r9,e9,x9⟩;refine⟨e9,?_,SqL.of (x9 _ _ (x8 _ _ eL))⟩;rw[ah,r9.1,ah,aF];omega
          ·rintro D i w1 ys H9 hD hi ⟨qs',rfl,r9,e9,x9⟩;obtain⟨q,hq,rfl⟩:=jw hi
           obtain⟨z,hr1,hr2⟩:=r2.at hq
           have bz:=bd z (av hr1)
           o_head ⟨kj,ky,ou,x9 _ _ (x8 _ _ hr2)⟩
           refine⟨.of (sm _ (by omega) (by omega)) b70 (by decide) (by decide),.of (sm _ (by omega) (by omega)) b70 (by decide) (by decide),by decide,fun t ht=> ?_⟩;have e9':=jf (o:= .tup [.int (z.1*m+r),.int (z.2*m+u)]) ht e9
           refine⟨e9',qs'++[t],by rw[ay];rfl,?_,(x9.then ht).set hD⟩;rw[bU,hr1,ay];exact((r9.ext (Ext.upd ht)).append (R2At.one (r:=(z.1*m+r,z.2*m+u)) iN)).setL e9'
          ·rintro D ys H9 hD ⟨qs',rfl,r9,e9,x9⟩;rw[lq,bo] at r9;refine⟨by decide,fun t ht=> ?_⟩;have xt:=x9.trans (Ext.upd (o:= .tup [.ref B,.ref D]) ht)
           have xa:=((x4.trans x5).trans x8).trans xt
           have q1:=wO (k:=N-e0) (by omega) (by omega) m1 m2
           have q2:=wO (k:=N'-e1) (by omega) (by omega) m1 m2
           have q3:=wO (k:=wd) (by omega) (by omega) m1 m2
           have q4:=wO (k:=hg) (by omega) (by omega) m1 m2
           refine h t B D ((N-e0)*m+r) ((N'-e1)*m+u) (wd*m+r) (hg*m+u) qs' (rs.map fun z=>(z.1*m+r,z.2*m+u)) _ (d3.ext xa) iN ⟨xt _ _ eB,jf ht e9,r9.ext (Ext.upd ht),AZ (wmin N hN hmin) m1,AZ (hgmin N' hN' hmin') m1,?_,xl nd m1,by rw[ah];omega,by rw[ah];exact l12,by omega⟩ (by rw[ah];exact l0) (by omega) (by omega);intro w' hw';obtain⟨z,hz,rfl⟩:=aC.mp hw'
           have k1:=hmin z.1 (aC.mpr ⟨z,hz,rfl⟩)
           have k2:=hmin' z.2 (aC.mpr ⟨z,hz,rfl⟩)
           have k3:=wmax z.1 (aC.mpr ⟨z,hz,rfl⟩)
           have k4:=hgmax z.2 (aC.mpr ⟨z,hz,rfl⟩)
           exact⟨wM (by omega) m1,wM k3 m1,wM (by omega) m1,wM k4 m1⟩
theorem sc__law_lot:FnScope ["_law_feed_here","_law_many","_law_lot_here"] ["_law_feed_here","_law_many"] (iL s__law_lot):=⟨rfl,rfl,rfl,by decide+kernel,rfl,by decide+kernel,by decide+kernel⟩
theorem ok__law_lot{C:Cz}{f:Addr}{fd:FuncData}(F:Fun K "_law_lot" "_law_lot" s__law_lot f fd)(T:Txt K mg C)(F__law_draw:FnB P w K mg base (CXE P w) 1 "_law_draw" ["_law_feed_here","_law_many"] jj):FnOk P w K mg base (CXE P w) 2 f fd ["_law_feed_here","_law_many"] (sH K):=by
 refine okN F (k:=1) sc__law_lot (fun vs H Q E h=> ?_) (fun cdv A outer s H vs Q E hr h=> ?_)
 ·obtain⟨p,n,c,b,rfl,_⟩:=h
  rfl
 ·obtain⟨p,n,c,b,rfl,h⟩:=h
  refine'⟨_,?main,?rest⟩
  case main=>
   refine' i7 ?c1 ?c2
   case' c1=>refine' t7 (i:=2) ?c3 ?c4 ?c5 ?c6 ?c7 ?c8 ?c9 ?c10 ?c11
   case c3=>exact(CScope.of_ok (dsc:=iL s__law_lot) (N0:=["_law_feed_here","_law_many","_law_lot_here"]) (N:=["_law_k","_law_feed_here"]) (k:=1) (js:=[0]) rfl rfl (by decide+kernel))
   case c4=>exact rfl
   case' c5=>refine' jJ rfl T.b_range ?c12
   case' c12=>exact iI (pvF 1) iK
   case' c6=>intro _ _ _ _ _ _;exact(iQ (i:=0) (by show bS (["_law_k","_law_feed_here"]:List Str);decide+kernel) rfl (aQ rfl))
   case' c7=>intro _ _ _ _ _ _;refine' sO ?c13
   case' c13=>refine' iT jD ?c14 iJ (iZ _)
   case' c14=>refine' i9 F__law_draw (hr.mono (by decide)) rfl iV ?c15
   case' c15=>refine' iI (pvF 1) ?c16
   case' c16=>exact iI iJ iK
   case c8=>exact(fun _ _ _ _ _ _=>(pvF 0))
   case c9=>exact sc__law_lot.nd
   case c10=>exact rfl
   case c11=>exact rfl
   case' c2=>refine' i7 ?c17 ?c18
   case' c17=>refine' jm ?c19 ?c20 ?c21
   case' c19=>refine' iT jD ?c22 iJ (iZ _)
   case' c22=>refine' iU jb (by rfl) T.b_len aW ?c23
   case' c23=>exact iI (pvF 2) iK
   case' c20=>refine' iM ?c24
   case' c24=>refine' jc (i:=2) sc__law_lot.nd rfl (aQ rfl) ?c25
   case' c25=>refine' jO ?c26
   case' c26=>refine' iI ?c27 iK
   case' c27=>refine' i9 F__law_draw (hr.mono (by decide)) rfl iV ?c28
   case' c28=>refine' iI (pvF 0) ?c29
   case' c29=>exact iI (pvF 1) iK
   case c21=>exact i8
   case' c18=>refine' i7 ?c30 ?c31
   case' c30=>refine' jm ?c32 ?c33 ?c34
   case' c32=>refine' iT jD ?c35 (pvF 1) (iZ _)
   case' c35=>refine' iU jb (by rfl) T.b_len aW ?c36
   case' c36=>exact iI (pvF 2) iK
   case' c33=>refine' iM ?c37
   case' c37=>refine' jx ?c38
   case' c38=>refine' zt (pvF 2) ?c39
   case' c39=>refine' iI ?c40 iK
   case' c40=>refine' i9 F__law_draw (hr.mono (by decide)) rfl iV ?c41
   case' c41=>refine' iI (pvF 0) ?c42
   case' c42=>exact iI (pvF 1) iK
   case c34=>exact i8
   case' c31=>refine' i7 ?c43 ?c44
   case' c43=>refine' jm ?c45 ?c46 ?c47
   case' c45=>refine' iT jD ?c48 iJ (iZ _)
   case' c48=>refine' i9 F__law_draw (hr.mono (by decide)) rfl iV ?c49
   case' c49=>refine' iI (pvF 0) ?c50
   case' c50=>exact iI iJ iK
   case' c46=>refine' iM ?c51
   case' c51=>exact jx (zr (pvF 2))
   case c47=>exact i8
   case' c44=>exact iM (i4 (pvF 2))
  case rest=>
   obtain⟨hF,hb,n2,n12,h⟩:=h
   walk_at "ST"
   refine⟨fun σ H'=>∃(t:Addr) (lot:List Nat),σ=[some (.ref p),some (.int (n:Int)),some (.ref t)] /\ H t=none /\ DX c (b+12) p H H' /\ H' t=some (.lst (JsV lot)) /\ lot.Nodup /\ (∀j∈lot,j<n),?_,?_⟩
   ·walk_at "RD"
    refine lP n (fun R h=>by walk_at "RD";exact h) (by omega) (fun D i ys H'=>∃lot:List Nat,ys=JsV lot /\ H' D=some (.lst ys) /\ lot.length<=i /\ D≠p /\ lot.Nodup /\ (∀j∈lot,j<i) /\ DX c (b+i) p H H') ?_ ?_ ?_ ?_
    ·intro D hD;exact⟨[],rfl,iN,ax _,hF.ne hD,.nil,by simp,(DX.refl hF).upd hD⟩
    ·rintro D i ys H3 _ ⟨lot,rfl,e3,l3,_⟩;exact⟨e3,by rw[kz];exact l3⟩
    ·rintro D i ys H3 hD hi ⟨lot,rfl,e3,l3,nD,nd,lt,d3⟩
     o_head ⟨jj⟩
     refine⟨c,_,d3.feed,by omega,fun k H4 a1 a2 d4=> ?_⟩;have eD:=d4.keep D _ nD e3
     have d34:=(d3.trans d4).mono (b:=b+(i+1)) (by omega)
     split
     ·refine⟨eD,lot++[i],?_,by rw[aq];show _+1<=_;omega,nD,aX.mpr ⟨nd,by simp,fun x hx y hy e=> ?_⟩,fun j hj=> ?_,d34.set hD hF⟩
      ·unfold JsV;rw[ay,bR];rfl
      ·rw[bA] at hy;have:=lt x hx
       omega
      ·rcases aT.mp hj with q|q
       ·have:=lt j q
        omega
       ·rw[bA] at q;omega
     ·exact⟨lot,rfl,eD,by omega,nD,nd,fun j hj=>dm (lt j hj),d34⟩
    ·rintro D ys H3 hD ⟨lot,rfl,e3,l3,nD,nd,lt,d3⟩;walk_at "RD"
     exact⟨hD,d3.mono (by omega),lot,e3,nd,lt⟩
   ·rintro σ H1 ⟨t,lot,rfl,ht,d1,e1,nd,lt⟩;refine⟨fun σ H'=>∃(t:Addr) (lot:List Nat),σ=[some (.ref p),some (.int (n:Int)),some (.ref t)] /\ H t=none /\ DX c (b+14) p H H' /\ H' t=some (.lst (JsV lot)) /\ lot.Nodup /\ (∀j∈lot,j<n) /\ 0<lot.length,?_,?_⟩
    ·o_head ⟨e1,kz,rI,rI⟩
     split
     ·o_head ⟨jj⟩
      refine⟨c,_,d1.feed,by omega,by omega,by omega,fun k H4 a1 a2 d4=>⟨by decide,fun t2 h2=> ?_⟩⟩;have d14:=d1.trans d4
      refine⟨d14.none h2,(d14.upd h2).mono (by omega),[k.toNat],?_,by simp,?_,by simp⟩
      ·show HO.lst [V.int k]=HO.lst [V.int (k.toNat:Int)]
       rw[Int.toNat_of_nonneg a1]
      ·intro j hj;rw[bA] at hj;omega
     ·exact⟨ht,d1.mono (by omega),lot,rfl,nd,lt,by omega⟩
    ·rintro σ H2 ⟨t,lot,rfl,ht,d2,e2,nd,lt,l0⟩;have le:=vp nd lt
     refine⟨fun σ H'=>∃(t:Addr) (lot:List Nat),σ=[some (.ref p),some (.int (n:Int)),some (.ref t)] /\ H t=none /\ DX c (b+16) p H H' /\ H' t=some (.lst (JsV lot)) /\ lot.Nodup /\ (∀j∈lot,j<n) /\ 0<lot.length /\ lot.length<n,?_,?_⟩
     ·o_head ⟨e2,kz,rI,rI⟩
      split
      ·rename_i en
       o_head ⟨jj⟩
       refine⟨c,_,d2.feed,by omega,by omega,by omega,fun k H4 a1 a2 d4=> ?_⟩;have nt:=hF.ne ht
       have e4:=d4.keep t _ nt e2
       obtain⟨i,rfl⟩:∃i:Nat,k=(i:Int):=⟨k.toNat,by omega⟩
       have il:i<lot.length:=by omega
       o_head ⟨e4,kz,rI,rI⟩
       rw[Bz il,iR];have hg:(JsV lot)[i]? =some (V.int (lot[i]:Int)):=by
        unfold JsV;rw[au,ag il];rfl
       rw[hg,iR];refine⟨by omega,ht,(((d2.trans d4).mono (by omega)).set ht hF),lot.eraseIdx i,?_,nd.eraseIdx i,fun j hj=>lt j (List.mem_of_mem_eraseIdx hj),?_,?_⟩
       ·unfold JsV;rw[ed,ed,ay,cO,du]
       ·rw[gw,if_pos il];omega
       ·rw[gw,if_pos il];omega
      ·exact⟨ht,d2.mono (by omega),lot,rfl,nd,lt,l0,by omega⟩
     ·rintro σ H3 ⟨t,lot,rfl,ht,d3,e3,nd,lt,l0,ll⟩;have nt:=hF.ne ht
      refine⟨fun σ H'=>∃(lot:List Nat),σ=[some (.ref p),some (.int (n:Int)),some (.ref t)] /\ DX c (b+18) p H H' /\ H' t=some (.lst (JsV lot)) /\ lot.Nodup /\ (∀j∈lot,j<n) /\ 0<lot.length /\ lot.length<n,?_,?_⟩
      ·o_head ⟨jj⟩
       refine⟨c,_,d3.feed,by omega,fun k H4 a1 a2 d4=> ?_⟩;have e4:=d4.keep t _ nt e3
       have d34:=(d3.trans d4).mono (b:=b+18) (by omega)
       split
       ·o_head ⟨e4⟩
        refine⟨d34.set ht hF,lot.reverse,?_,(List.reverse_perm lot).nodup_iff.mpr nd,fun j hj=>lt j (List.mem_reverse.mp hj),by rw[fe];exact l0,by rw[fe];exact ll⟩;unfold JsV;rw[List.map_reverse]
       ·exact⟨d34,lot,e4,nd,lt,l0,ll⟩
      ·rintro σ H4 ⟨lot,rfl,d4,e4,nd,lt,l0,ll⟩;walk_at "RD"
       exact h t lot H4 (d4.mono (by omega)) ht e4 nd l0 ll lt
theorem pK:FnScope ["_law_thing"] ["_law_thing"] (iL s__law_whole):=⟨rfl,rfl,rfl,by decide+kernel,rfl,by decide+kernel,by decide+kernel⟩
theorem ok__law_whole{C:Cz}{f:Addr}{fd:FuncData}(F:Fun K "_law_whole" "_law_whole" s__law_whole f fd)(T:Txt K mg C):FnOk P w K mg base (CXE P w) 1 f fd ["_law_thing"] jE:=by
 refine okN F (k:=0) pK (fun vs H Q E h=> ?_) (fun cdv A outer s H vs Q E hr h=> ?_)
 ·obtain⟨i,rfl,_⟩:=h
  rfl
 ·obtain⟨i,rfl,h⟩:=h
  refine'⟨_,?main,?rest⟩
  case main=>
   refine' iM ?c1
   case' c1=>refine' i4 ?c2
   case' c2=>refine' sR ?c3 ?c4
   case' c3=>refine' iU mh (by rfl) T.b_isinstance boot_isinstance ?c5
   case' c5=>refine' iI (pvF 0) ?c6
   case' c6=>exact iI (nK (v:=V.ty "int") rfl T.b_int boot_int rfl) iK
   case' c4=>refine' sP ?c7
   case' c7=>refine' Bj ?c8
   case' c8=>refine' iU mh (by rfl) T.b_isinstance boot_isinstance ?c9
   case' c9=>refine' iI (pvF 0) ?c10
   case' c10=>exact iI (nK (v:=V.ty "bool") rfl T.b_bool boot_bool rfl) iK
  case rest=>
   walk_at "ST"
   walk_at "RD"
   exact h
theorem sc__law_divisor:FnScope ["_law_one","_law_other"] ["_law_one","_law_other"] (iL s__law_divisor):=⟨rfl,rfl,rfl,by decide+kernel,rfl,by decide+kernel,by decide+kernel⟩
theorem ok__law_divisor{C:Cz}{f:Addr}{fd:FuncData}(F:Fun K "_law_divisor" "_law_divisor" s__law_divisor f fd)(T:Txt K mg C):FnOk P w K mg base (CXE P w) 1 f fd ["_law_one","_law_other"] jM:=by
 refine okN F (k:=0) sc__law_divisor (fun vs H Q E h=> ?_) (fun cdv A outer s H vs Q E hr h=> ?_)
 ·obtain⟨a,b,rfl,_⟩:=h
  rfl
 ·obtain⟨a,b,rfl,h⟩:=h
  refine'⟨_,?main,?rest⟩
  case main=>
   refine' iO ?c1 ?c2
   case' c1=>refine' jc (i:=0) sc__law_divisor.nd rfl (aQ rfl) ?c3
   case' c3=>refine' iU m8 (by rfl) T.b_abs boot_abs ?c4
   case' c4=>exact iI (pvF 0) iK
   case' c2=>refine' iO ?c5 ?c6
   case' c5=>refine' jc (i:=1) sc__law_divisor.nd rfl (aQ rfl) ?c7
   case' c7=>refine' iU m8 (by rfl) T.b_abs boot_abs ?c8
   case' c8=>exact iI (pvF 1) iK
   case' c6=>refine' iO ?c9 ?c10
   case' c9=>refine' mX PassesOwn.never ?c11 ?c12
   case' c11=>exact iT (OpR.f0 mR) (pvF 1) iJ (iZ _)
   case' c12=>refine' iM ?c13
   case' c13=>refine' yr (i:=0) (j:=1) rfl sc__law_divisor.nd rfl rfl (by decide) rfl rfl ?c14 rfl
   case' c14=>refine' iI (pvF 1) ?c15
   case' c15=>exact iI (iS (OpR.f kD) (pvF 0) (pvF 1)) iK
   case' c10=>exact iM (i4 (pvF 0))
  case rest=>
   walk_at "ST"
   walk_at "RD"
   refine⟨fun m σ H'=>∃x y:Int,σ=[some (.int x),some (.int y)] /\ H'=H /\ 0<=x /\ 0<=y /\ aB x y=aB a b /\ m=y.toNat,⟨_,_,_,rfl,rfl,?_,?_,?_,rfl⟩,?_⟩
   ·show 0<=ab a
    rw[rg];omega
   ·show 0<=ab b
    rw[rg];omega
   ·show aB (ab a) (ab b)=_
    rw[rg,rg,mI,l6]
   ·rintro m σ H' ⟨x,y,rfl,rfl,hx,hy,hg,rfl⟩;walk_at "RD"
    by_cases hy0:y=0
    ·subst hy0;rw[if_neg (by simp)];have e:=gcd_zero hx
     rw[hg] at e;rw[e] at h;exact h
    ·rw[if_pos (by omega)];have hp:0<y:=by omega
     refine⟨fun σ' H1=>∃x y':Int,σ'=[some (.int x),some (.int y')] /\ H1=H' /\ 0<=x /\ 0<=y' /\ aB x y'=aB a b /\ y'<y,?_,?_⟩
     ·rintro σ' H1 ⟨x,y',rfl,rfl,h1,h2,h3,h4⟩;exact⟨y'.toNat,by omega,x,y',rfl,rfl,h1,h2,h3,rfl⟩
     ·walk_at "RD"
      exact⟨hp,hy,cE _ hy0,by rw[tD hp];exact hg,cg _ hp⟩
theorem mP:FnScope ["_law_thing"] ["_law_thing"] (iL s__law_is_point):=⟨rfl,rfl,rfl,by decide+kernel,rfl,by decide+kernel,by decide+kernel⟩
theorem ok__law_is_point{C:Cz}{f:Addr}{fd:FuncData}(F:Fun K "_law_is_point" "_law_is_point" s__law_is_point f fd)(T:Txt K mg C)(F__law_divisor:FnB P w K mg base (CXE P w) 1 "_law_divisor" ["_law_one","_law_other"] jM)(F__law_whole:FnB P w K mg base (CXE P w) 1 "_law_whole" ["_law_thing"] jE):FnOk P w K mg base (CXE P w) 2 f fd ["_law_thing"] (pk K):=by
 refine okN F (k:=1) mP (fun vs H Q E h=> ?_) (fun cdv A outer s H vs Q E hr h=> ?_)
 ·obtain⟨p,z,rfl,_⟩:=h
  rfl
 ·obtain⟨p,z,rfl,h⟩:=h
  refine'⟨_,?main,?rest⟩
  case main=>
   refine' iO ?c1 ?c2
   case' c1=>refine' jm ?c3 ?c4 ?c5
   case' c3=>refine' PW.pt ?c6
   case' c6=>refine' k9 ?c7 ?c8
   case' c7=>refine' lg ?c9
   case' c9=>refine' jP ?c10
   case' c10=>refine' iU mh (by rfl) T.b_isinstance boot_isinstance ?c11
   case' c11=>refine' iI (pvF 0) ?c12
   case' c12=>exact iI (nK (v:=V.ty "tuple") rfl T.b_tuple boot_tuple rfl) iK
   case' c8=>refine' k9 ?c13 ?c14
   case' c13=>refine' iT lZ ?c15 iJ (iZ _)
   case' c15=>refine' iU jb (by rfl) T.b_len aW ?c16
   case' c16=>exact iI (pvF 0) iK
   case' c14=>refine' kX ?c17
   case' c17=>refine' lg ?c18
   case' c18=>refine' jP ?c19
   case' c19=>refine' iU ?c20 ?c21 ?c22 ?c23 ?c24
   case c20=>exact(qX (K:=K) rfl rfl)
   case c21=>exact(by rfl)
   case c22=>exact T.b_all
   case c23=>exact boot_all
   case' c24=>refine' iI ?c25 ?c26
   case' c25=>refine' pO (CScope.of_ok (dsc:=iL s__law_is_point) (N0:=["_law_thing"]) (N:=["_law_number"]) (k:=1) (js:=[]) rfl rfl (by decide+kernel)) rfl (rB (K:=K) rfl (pvF 0)) ?c27 ?c28 ?c29
   case' c27=>intro _ _ _ _ _ _;exact(iQ (i:=0) (by show bS (["_law_number"]:List Str);decide+kernel) rfl (aQ rfl))
   case' c28=>intro _ _ _ _ _ _;exact jF
   case' c29=>intro _ _ _ _ _ _;refine' i9 F__law_whole (hr.mono (by decide)) rfl iV ?c30
   case' c30=>exact iI (pvF 0) iK
   case c26=>exact iK
   case' c4=>refine' iM ?c31
   case' c31=>exact i4 nL
   case c5=>exact i8
   case' c2=>refine' iM ?c32
   case' c32=>refine' i4 ?c33
   case' c33=>refine' sR ?c34 ?c35
   case' c34=>refine' j7 (OpR.f0 mR) ?c36 iJ (iZ _)
   case' c36=>exact iW jg (pvF 0) iJ (fun _ _=>rfl)
   case' c35=>refine' sP ?c37
   case' c37=>refine' j7 ?c38 ?c39 ?c40 ?c41
   case c38=>exact jD
   case' c39=>refine' i9 ?c42 ?c43 ?c44 ?c45 ?c46
   case c42=>exact F__law_divisor
   case c43=>exact(hr.mono (by decide))
   case c44=>exact rfl
   case c45=>exact iV
   case' c46=>refine' iI ?c47 ?c48
   case' c47=>refine' i9 F__law_divisor (hr.mono (by decide)) rfl iV ?c49
   case' c49=>refine' iI ?c50 ?c51
   case' c50=>exact iW jg (pvF 0) iJ (fun _ _=>rfl)
   case' c51=>refine' iI ?c52 iK
   case' c52=>exact iW jg (pvF 0) iJ (fun _ _=>rfl)
   case' c48=>refine' iI ?c53 iK
   case' c53=>exact iW jg (pvF 0) iJ (fun _ _=>rfl)
   case c40=>exact iJ
   case c41=>exact(iZ _)
  case rest=>
   obtain⟨hp,h0,hg,h⟩:=h
   walk_at "ST"
   o_head ⟨hp⟩
   refine rl (K:=K) (a:=p) (xs:=[.int z.1,.int z.2.1,.int z.2.2]) (fun R h=>h) (SqT.of hp) (show 3<1000000 by decide) (fun _=> .bl true) ?_ ?_
   ·intro D v ys R R' hD hv hR;obtain⟨i,rfl⟩:∃i,v= .int i:=by
     simp only[aw,az,or_false] at hv;rcases hv with rfl|rfl|rfl<;>exact⟨_,rfl⟩
    o_head ⟨jE⟩
    exact hR
   ·intro D hD;have t2:=jf (o:= .lst [.bl true,.bl true,.bl true]) hD hp
    have x2:=Ext.upd (o:= .lst [.bl true,.bl true,.bl true]) hD
    have e2:=iN (H:=H) (a:=D) (o:= .lst [.bl true,.bl true,.bl true])
    refine⟨D,[true,true,true],rfl,SqL.of e2,?_⟩
    o_head ⟨gE,List.all_nil,id,gI⟩
    generalize upd H D _=H2 at t2 x2 e2⊢
    o_head ⟨t2,jM,rI,rI⟩
    rw[if_pos (by omega),hg];exact h _ x2
theorem sc__law_way:FnScope ["_law_point","_law_spot_here","_law_x","_law_y","_law_w"] ["_law_point","_law_spot_here"] (iL s__law_way):=⟨rfl,rfl,rfl,by decide+kernel,rfl,by decide+kernel,by decide+kernel⟩
theorem ok__law_way{C:Cz}{f:Addr}{fd:FuncData}(F:Fun K "_law_way" "_law_way" s__law_way f fd)(T:Txt K mg C):FnOk P w K mg base (CXE P w) 1 f fd ["_law_point","_law_spot_here"] sF:=by
 refine okN F (k:=0) sc__law_way (fun vs H Q E h=> ?_) (fun cdv A outer s H vs Q E hr h=> ?_)
 ·obtain⟨p,q,z,r,rfl,_⟩:=h
  rfl
 ·obtain⟨p,q,z,r,rfl,h⟩:=h
  refine'⟨_,?main,?rest⟩
  case main=>
   refine' iO ?c1 ?c2
   case' c1=>refine' kB (pvF 0) ?c3
   case' c3=>refine' n6 (n:=3) rfl ?c4
   case' c4=>refine' iP (iQ (i:=2) sc__law_way.nd rfl (aQ rfl)) ?c5
   case' c5=>refine' iP (iQ (i:=3) sc__law_way.nd rfl (aQ rfl)) ?c6
   case' c6=>exact iP (iQ (i:=4) sc__law_way.nd rfl (aQ rfl)) jh
   case' c2=>refine' iM ?c7
   case' c7=>refine' i4 ?c8
   case' c8=>refine' iS ?c9 ?c10 ?c11
   case c9=>exact(OpR.f0 jv)
   case' c10=>refine' iS (OpR.f rE) ?c12 iJ
   case' c12=>refine' iS (OpR.f0 jy) (pvF 2) ?c13
   case' c13=>refine' iS (OpR.f iX) ?c14 (pvF 4)
   case' c14=>exact iW jg (pvF 1) iJ (fun _ _=>rfl)
   case' c11=>refine' iS (OpR.f rE) ?c15 iJ
   case' c15=>refine' iS (OpR.f0 jy) (pvF 3) ?c16
   case' c16=>refine' iS (OpR.f iX) ?c17 (pvF 4)
   case' c17=>exact iW jg (pvF 1) iJ (fun _ _=>rfl)
  case rest=>
   obtain⟨hp,hq,bz,br,h⟩:=h
   walk_at "ST"
   o_head ⟨kj,ky,ou,hp,hq,rI,rI,rI,rI,rI,rI,rI⟩
   exact⟨.of br.1 bz.2.2 (by decide) (by decide),((bz.1).sub (br.1.mul bz.2.2)).mono (by decide),.of br.2 bz.2.2 (by decide) (by decide),((bz.2.1).sub (br.2.mul bz.2.2)).mono (by decide),h⟩
theorem sc__law_side:FnScope ["_law_one","_law_other","_law_third","_law_found"] ["_law_one","_law_other","_law_third"] (iL s__law_side):=⟨rfl,rfl,rfl,by decide+kernel,rfl,by decide+kernel,by decide+kernel⟩
theorem ok__law_side{C:Cz}{f:Addr}{fd:FuncData}(F:Fun K "_law_side" "_law_side" s__law_side f fd)(T:Txt K mg C):FnOk P w K mg base (CXE P w) 1 f fd ["_law_one","_law_other","_law_third"] pd:=by
 refine okN F (k:=0) sc__law_side (fun vs H Q E h=> ?_) (fun cdv A outer s H vs Q E hr h=> ?_)
 ·obtain⟨p,q,r,A,B,D,rfl,_⟩:=h
  rfl
 ·obtain⟨p,q,r,A,B,D,rfl,h⟩:=h
  refine'⟨_,?main,?rest⟩
  case main=>
   refine' iO ?c1 ?c2
   case' c1=>refine' jc (i:=3) ?c3 ?c4 ?c5 ?c6
   case c3=>exact sc__law_side.nd
   case c4=>exact rfl
   case c5=>exact(aQ rfl)
   case' c6=>refine' iS ?c7 ?c8 ?c9
   case c7=>exact(OpR.f iX)
   case' c8=>exact iW jg (pvF 0) iJ (fun _ _=>rfl)
   case' c9=>refine' iS ?c10 ?c11 ?c12
   case c10=>exact(OpR.f0 jy)
   case' c11=>refine' iS (OpR.f iX) ?c13 ?c14
   case' c13=>exact iW jg (pvF 1) iJ (fun _ _=>rfl)
   case' c14=>exact iW jg (pvF 2) iJ (fun _ _=>rfl)
   case' c12=>refine' iS (OpR.f iX) ?c15 ?c16
   case' c15=>exact iW jg (pvF 2) iJ (fun _ _=>rfl)
   case' c16=>exact iW jg (pvF 1) iJ (fun _ _=>rfl)
   case' c2=>refine' iO ?c17 ?c18
   case' c17=>refine' jc (i:=3) ?c19 ?c20 ?c21 ?c22
   case c19=>exact sc__law_side.nd
   case c20=>exact rfl
   case c21=>exact(aQ rfl)
   case' c22=>refine' iS ?c23 ?c24 ?c25
   case c23=>exact(OpR.f0 jy)
   case c24=>exact(pvF 3)
   case' c25=>refine' iS ?c26 ?c27 ?c28
   case c26=>exact(OpR.f iX)
   case' c27=>exact iW jg (pvF 0) iJ (fun _ _=>rfl)
   case' c28=>refine' iS ?c29 ?c30 ?c31
   case c29=>exact(OpR.f0 jy)
   case' c30=>refine' iS (OpR.f iX) ?c32 ?c33
   case' c32=>exact iW jg (pvF 1) iJ (fun _ _=>rfl)
   case' c33=>exact iW jg (pvF 2) iJ (fun _ _=>rfl)
   case' c31=>refine' iS (OpR.f iX) ?c34 ?c35
   case' c34=>exact iW jg (pvF 2) iJ (fun _ _=>rfl)
   case' c35=>exact iW jg (pvF 1) iJ (fun _ _=>rfl)
   case' c18=>refine' iM ?c36
   case' c36=>refine' i4 ?c37
   case' c37=>refine' iS ?c38 ?c39 ?c40
   case c38=>exact(OpR.f0 jv)
   case c39=>exact(pvF 3)
   case' c40=>refine' iS ?c41 ?c42 ?c43
   case c41=>exact(OpR.f iX)
   case' c42=>exact iW jg (pvF 0) iJ (fun _ _=>rfl)
   case' c43=>refine' iS ?c44 ?c45 ?c46
   case c44=>exact(OpR.f0 jy)
   case' c45=>refine' iS (OpR.f iX) ?c47 ?c48
   case' c47=>exact iW jg (pvF 1) iJ (fun _ _=>rfl)
   case' c48=>exact iW jg (pvF 2) iJ (fun _ _=>rfl)
   case' c46=>refine' iS (OpR.f iX) ?c49 ?c50
   case' c49=>exact iW jg (pvF 2) iJ (fun _ _=>rfl)
   case' c50=>exact iW jg (pvF 1) iJ (fun _ _=>rfl)
  case rest=>
   obtain⟨hp,hq,hr',⟨a1,a2,a3⟩,⟨b1,b2,b3⟩,⟨c1,c2,c3⟩,h⟩:=h
   walk_at "ST"
   o_head ⟨hp,hq,hr',rI⟩
   have e:A.1*(B.2.1*D.2.2-D.2.1*B.2.2)-A.2.1*(B.1*D.2.2-D.1*B.2.2)+A.2.2*(B.1*D.2.1-D.1*B.2.1)=dt A B D:=by unfold dt;grind
   rw[e];exact⟨(by walk_at "CM"),(by walk_at "CM"),(by walk_at "CM"),(by walk_at "CM"),(by walk_at "CM"),(by walk_at "CM"),(by walk_at "CM"),(by walk_at "CM"),(by walk_at "CM"),h⟩
theorem pL:FnScope ["_law_one","_law_other"] ["_law_one","_law_other"] (iL s__law_ahead):=⟨rfl,rfl,rfl,by decide+kernel,rfl,by decide+kernel,by decide+kernel⟩
theorem ok__law_ahead{C:Cz}{f:Addr}{fd:FuncData}(F:Fun K "_law_ahead" "_law_ahead" s__law_ahead f fd)(T:Txt K mg C):FnOk P w K mg base (CXE P w) 1 f fd ["_law_one","_law_other"] jZ:=by
 refine okN F (k:=0) pL (fun vs H Q E h=> ?_) (fun cdv A outer s H vs Q E hr h=> ?_)
 ·obtain⟨p,q,rfl,_⟩:=h
  rfl
 ·obtain⟨p,q,rfl,h⟩:=h
  refine'⟨_,?main,?rest⟩
  case main=>
   refine' iO ?c1 ?c2
   case' c1=>refine' jm ?c3 ?c4 ?c5
   case' c3=>refine' iT lZ ?c6 ?c7 (iZ _)
   case' c6=>refine' iS (OpR.f iX) ?c8 ?c9
   case' c8=>exact iW jg (pvF 0) iJ (fun _ _=>rfl)
   case' c9=>exact iW jg (pvF 1) iJ (fun _ _=>rfl)
   case' c7=>refine' iS (OpR.f iX) ?c10 ?c11
   case' c10=>exact iW jg (pvF 1) iJ (fun _ _=>rfl)
   case' c11=>exact iW jg (pvF 0) iJ (fun _ _=>rfl)
   case' c4=>refine' iM ?c12
   case' c12=>refine' i4 ?c13
   case' c13=>refine' j7 ?c14 ?c15 ?c16 ?c17
   case c14=>exact(OpR.f0 mD)
   case' c15=>refine' iS (OpR.f iX) ?c18 ?c19
   case' c18=>exact iW jg (pvF 0) iJ (fun _ _=>rfl)
   case' c19=>exact iW jg (pvF 1) iJ (fun _ _=>rfl)
   case' c16=>refine' iS (OpR.f iX) ?c20 ?c21
   case' c20=>exact iW jg (pvF 1) iJ (fun _ _=>rfl)
   case' c21=>exact iW jg (pvF 0) iJ (fun _ _=>rfl)
   case c17=>exact(iZ _)
   case c5=>exact i8
   case' c2=>refine' iM ?c22
   case' c22=>refine' i4 ?c23
   case' c23=>refine' j7 ?c24 ?c25 ?c26 ?c27
   case c24=>exact(OpR.f0 mD)
   case' c25=>refine' iS (OpR.f iX) ?c28 ?c29
   case' c28=>exact iW jg (pvF 0) iJ (fun _ _=>rfl)
   case' c29=>exact iW jg (pvF 1) iJ (fun _ _=>rfl)
   case' c26=>refine' iS (OpR.f iX) ?c30 ?c31
   case' c30=>exact iW jg (pvF 1) iJ (fun _ _=>rfl)
   case' c31=>exact iW jg (pvF 0) iJ (fun _ _=>rfl)
   case c27=>exact(iZ _)
  case rest=>
   obtain⟨⟨a,b,c⟩,hp,h⟩:=ja h
   obtain⟨⟨d,e,f⟩,hq,⟨b1,b2,b3⟩,⟨b4,b5,b6⟩,h⟩:=ja h
   replace hp:=mz hp
   replace hq:=mz hq
   dsimp only at hp hq b1 b2 b3 b4 b5 b6 h;walk_at "ST"
   o_head ⟨hp,hq,rI,rI⟩
   refine⟨(by walk_at "CM"),(by walk_at "CM"),?_⟩;unfold mN at h
   by_cases z:a*f=d*c
   ·rw[if_neg (by omega)] at h;rw[if_neg (by simpa using z)];exact⟨(by walk_at "CM"),(by walk_at "CM"),h⟩
   ·rw[if_pos (by omega)] at h;rw[if_pos (by simpa using z)];have e:decide (a*f-d*c<0)=decide (a*f<d*c):=by
     rw[decide_eq_decide];omega
    rw[e] at h;exact⟨(by walk_at "CM"),(by walk_at "CM"),h⟩
theorem sc__law_edge_right:FnScope ["_law_spots_here","_law_lot_here","_law_row","_law_start","_law_end","_law_one","_law_other","_law_point","_law_ways"] ["_law_spots_here","_law_lot_here","_law_row"] (iL s__law_edge_right):=⟨rfl,rfl,rfl,by decide+kernel,rfl,by decide+kernel,by decide+kernel⟩
theorem ok__law_edge_right{C:Cz}{f:Addr}{fd:FuncData}(F:Fun K "_law_edge_right" "_law_edge_right" s__law_edge_right f fd)(T:Txt K mg C)(F__law_side:FnB P w K mg base (CXE P w) 1 "_law_side" ["_law_one","_law_other","_law_third"] pd)(F__law_way:FnB P w K mg base (CXE P w) 1 "_law_way" ["_law_point","_law_spot_here"] sF)(F__law_whole:FnB P w K mg base (CXE P w) 1 "_law_whole" ["_law_thing"] jE)(F__law_is_point:FnB P w K mg base (CXE P w) 2 "_law_is_point" ["_law_thing"] (pk K)):FnOk P w K mg base (CXE P w) 3 f fd ["_law_spots_here","_law_lot_here","_law_row"] (lW K):=by
 refine okN F (k:=2) sc__law_edge_right (fun vs H Q E h=> ?_) (fun cdv A outer s H vs Q E hr h=> ?_)
 ·obtain⟨b,l,t,p,x,y,u,v,qs,rs,lot,z,n,m,r,s,rfl,_⟩:=h
  rfl
 ·obtain⟨b,l,t,p,x,y,u,v,qs,rs,lot,z,n,m,r,s,rfl,h⟩:=h
  refine'⟨_,?main,?rest⟩
  case main=>
   refine' i7 ?c1 ?c2
   case' c1=>refine' jm ?c3 ?c4 ?c5
   case' c3=>refine' PW.pt ?c6
   case' c6=>refine' k9 ?c7 ?c8
   case' c7=>refine' lg ?c9
   case' c9=>refine' jP ?c10
   case' c10=>refine' iU mh (by rfl) T.b_isinstance boot_isinstance ?c11
   case' c11=>refine' iI (pvF 2) ?c12
   case' c12=>exact iI (nK (v:=V.ty "tuple") rfl T.b_tuple boot_tuple rfl) iK
   case' c8=>refine' k9 ?c13 ?c14
   case' c13=>refine' iT lZ ?c15 iJ (iZ _)
   case' c15=>refine' iU jb (by rfl) T.b_len aW ?c16
   case' c16=>exact iI (pvF 2) iK
   case' c14=>refine' kX ?c17
   case' c17=>refine' lg ?c18
   case' c18=>refine' jP ?c19
   case' c19=>refine' iU ?c20 ?c21 ?c22 ?c23 ?c24
   case c20=>exact(qX (K:=K) rfl rfl)
   case c21=>exact(by rfl)
   case c22=>exact T.b_all
   case c23=>exact boot_all
   case' c24=>refine' iI ?c25 ?c26
   case' c25=>refine' pO (CScope.of_ok (dsc:=iL s__law_edge_right) (N0:=["_law_spots_here","_law_lot_here","_law_row","_law_start","_law_end","_law_one","_law_other","_law_point","_law_ways"]) (N:=["_law_point"]) (k:=1) (js:=[]) rfl rfl (by decide+kernel)) rfl ?c27 ?c28 ?c29 ?c30
   case' c27=>refine' rB (K:=K) rfl ?c31
   case' c31=>refine' PE.up ?c32
   case' c32=>refine' j1 (yZ (K:=K) rfl) (pvF 2) kM ?c33
   case' c33=>exact kL iJ
   case' c28=>intro _ _ _ _ _ _;exact(iQ (i:=0) (by show bS (["_law_point"]:List Str);decide+kernel) rfl (aQ rfl))
   case' c29=>intro _ _ _ _ _ _;exact jF
   case' c30=>intro _ _ _ _ _ _;refine' i9 F__law_is_point (hr.mono (by decide)) rfl iV ?c34
   case' c34=>exact iI (pvF 0) iK
   case c26=>exact iK
   case' c4=>refine' iM ?c35
   case' c35=>exact i4 nL
   case c5=>exact i8
   case' c2=>refine' i7 ?c36 ?c37
   case' c36=>refine' kB ?c38 ?c39
   case c38=>exact(pvF 2)
   case' c39=>refine' n6 (n:=4) rfl ?c40
   case' c40=>refine' iP (iQ (i:=3) sc__law_edge_right.nd rfl (aQ rfl)) ?c41
   case' c41=>refine' iP (iQ (i:=4) sc__law_edge_right.nd rfl (aQ rfl)) ?c42
   case' c42=>refine' iP (iQ (i:=5) sc__law_edge_right.nd rfl (aQ rfl)) ?c43
   case' c43=>exact iP (iQ (i:=6) sc__law_edge_right.nd rfl (aQ rfl)) jh
   case' c37=>refine' i7 ?c44 ?c45
   case' c44=>refine' jm ?c46 ?c47 ?c48
   case' c46=>refine' PW.pt ?c49
   case' c49=>refine' k9 ?c50 ?c51
   case' c50=>refine' lg ?c52
   case' c52=>refine' jP ?c53
   case' c53=>refine' i9 F__law_whole (hr.mono (by decide)) rfl iV ?c54
   case' c54=>exact iI (pvF 5) iK
   case' c51=>refine' k9 ?c55 ?c56
   case' c55=>refine' lg ?c57
   case' c57=>refine' jP ?c58
   case' c58=>refine' i9 F__law_whole (hr.mono (by decide)) rfl iV ?c59
   case' c59=>exact iI (pvF 6) iK
   case' c56=>refine' k9 (iT (kP (K:=K) rfl) (pvF 5) (pvF 1) (by with_unfolding_all rfl)) ?c60
   case' c60=>exact kX (iT (ub (K:=K) rfl) (pvF 6) (pvF 1) (by with_unfolding_all rfl))
   case' c47=>refine' iM ?c61
   case' c61=>exact i4 nL
   case c48=>exact i8
   case' c45=>refine' i7 ?c62 ?c63
   case' c62=>refine' jm ?c64 ?c65 ?c66
   case' c64=>refine' PW.pt ?c67
   case' c67=>refine' k9 ?c68 ?c69
   case' c68=>exact iT (OpR.f0 mD) (pvF 6) iJ (iZ _)
   case' c69=>refine' k9 ?c70 ?c71
   case' c70=>refine' iT (OpR.f0 qJ) (pvF 6) ?c72 (iZ _)
   case' c72=>refine' iU jb (by rfl) T.b_len aW ?c73
   case' c73=>exact iI (pvF 0) iK
   case' c71=>exact kX (iT (rG (K:=K) rfl (AA hr)) (pvF 3) (pvF 4) (iZ _))
   case' c65=>refine' iM ?c74
   case' c74=>exact i4 nL
   case c66=>exact i8
   case' c63=>refine' i7 ?c75 ?c76
   case' c75=>refine' j6 ?c77 ?c78 ?c79 ?c80 ?c81
   case c77=>exact PassesOwn.never
   case c78=>exact rfl
   case' c79=>refine' rB (K:=K) rfl ?c82
   case' c82=>refine' PE.up ?c83
   case' c83=>refine' jk ?c84
   case' c84=>refine' iI (pvF 3) ?c85
   case' c85=>exact iI (pvF 4) iK
   case c80=>exact(iQ (i:=7) sc__law_edge_right.nd rfl (gF rfl))
   case' c81=>refine' i7 ?c86 ?c87
   case' c86=>refine' t7 (i:=8) ?c88 ?c89 ?c90 ?c91 ?c92 ?c93 ?c94 ?c95 ?c96
   case c88=>exact(CScope.of_ok (dsc:=iL s__law_edge_right) (N0:=["_law_spots_here","_law_lot_here","_law_row","_law_start","_law_end","_law_one","_law_other","_law_point","_law_ways"]) (N:=["_law_spot_here","_law_point"]) (k:=1) (js:=[7]) rfl rfl (by decide+kernel))
   case c89=>exact rfl
   case c90=>exact(jG (K:=K) rfl (pvF 0))
   case' c91=>intro _ _ _ _ _ _;exact(iQ (i:=0) (by show bS (["_law_spot_here","_law_point"]:List Str);decide+kernel) rfl (aQ rfl))
   case' c92=>intro _ _ _ _ _ _;exact jF
   case' c93=>intro _ _ _ _ _ _;refine' i9 F__law_way (hr.mono (by decide)) rfl iV ?c97
   case' c97=>refine' iI (pvF 1) ?c98
   case' c98=>exact iI (pvF 0) iK
   case c94=>exact sc__law_edge_right.nd
   case c95=>exact rfl
   case c96=>exact rfl
   case' c87=>refine' iM ?c99
   case' c99=>refine' jm ?c100 ?c101 ?c102
   case' c100=>refine' PW.pt ?c103
   case' c103=>refine' k9 ?c104 ?c105
   case' c104=>refine' iT lZ (iW jg (pvF 8) (pvF 5) (fun _ _=>rfl)) ?c106 (iZ _)
   case' c106=>refine' iU (jU (K:=K) rfl rfl) (by rfl) T.b_min boot_min ?c107
   case' c107=>exact iI (pvF 8) iK
   case' c105=>refine' kX ?c108
   case' c108=>refine' iT lZ (iW jg (pvF 8) (pvF 6) (fun _ _=>rfl)) ?c109 (iZ _)
   case' c109=>refine' iU (jU (K:=K) rfl rfl) (by rfl) T.b_min boot_min ?c110
   case' c110=>exact iI (pvF 8) iK
   case' c101=>refine' iM ?c111
   case' c111=>exact i4 nL
   case c102=>exact i8
   case' c76=>refine' iM ?c112
   case' c112=>refine' i4 ?c113
   case' c113=>refine' j7 ?c114 ?c115 ?c116 ?c117
   case c114=>exact(OpR.f0 mR)
   case' c115=>refine' i9 ?c118 ?c119 ?c120 ?c121 ?c122
   case c118=>exact F__law_side
   case c119=>exact(hr.mono (by decide))
   case c120=>exact rfl
   case c121=>exact iV
   case' c122=>refine' iI ?c123 ?c124
   case c123=>exact(pvF 3)
   case' c124=>refine' iI ?c125 ?c126
   case c125=>exact(pvF 4)
   case' c126=>refine' iI ?c127 ?c128
   case' c127=>refine' jk ?c129
   case' c129=>refine' iI ?c130 ?c131
   case' c130=>exact iW jg (iW jg (pvF 0) (pvF 5) (fun _ _=>rfl)) iJ (fun _ _=>rfl)
   case' c131=>refine' iI ?c132 ?c133
   case' c132=>exact iW jg (iW jg (pvF 0) (pvF 5) (fun _ _=>rfl)) iJ (fun _ _=>rfl)
   case' c133=>exact iI iJ iK
   case c128=>exact iK
   case c116=>exact iJ
   case c117=>exact(iZ _)
  case rest=>
   obtain⟨ok,ht,l12,⟨a,e,hp,ha,he⟩,⟨lz,b1,b2⟩,F,h⟩:=h
   have lq:(qs.map V.ref).length=rs.length:=by rw[ah];exact ok.at_.1
   have n12:=ok.n12
   have nl:=(aa.mp F.hn).1
   have ml:=(aa.mp F.hm).1
   rw[F.en,F.em] at hp;walk_at "ST"
   refine⟨fun σ H'=>σ=[some (.ref l),some (.ref t),some (.ref p),none,none,none,none,none,none] /\ Ext H H',?_,?_⟩
   ·o_head ⟨hp⟩
    refine tW (fun w H'=>∃T,w= .ref T /\ H' T=some (.tup [.ref a,.ref e]) /\ Ext H H') ?_ ?_
    ·walk_at "RD"
     refine⟨p,_,rfl,SqT.of hp,fun g=>(by have:=g.2;revert this;exact(by decide:¬(2:Nat)=4)),fun T hT=>⟨T,rfl,iN,.upd hT⟩⟩
    rintro _ H1 ⟨T,rfl,eT,x1⟩;refine⟨T,[.ref a,.ref e],rfl,SqT.of eT,(by show 2<1000000;omega),fun D k ys H'=>ys=(dE k true).map V.bl /\ H' D=some (.lst ys) /\ Ext H1 H',?_,?_,?_,?_⟩
    ·intro D hD;exact⟨rfl,iN,.upd hD⟩
    ·rintro D k ys H2 _ ⟨rfl,e1,x2⟩;exact⟨e1,by rw[ah,eF];exact ax _,SqT.of (x2 _ _ eT)⟩
    ·rintro D k w1 ys H2 hD hk ⟨rfl,e1,x2⟩;obtain⟨pz,zz,rfl,ez,lz'⟩:∃(pz:Addr) (zz:P3),w1= .ref pz /\ H pz=some (.tup [.int zz.1,.int zz.2.1,.int zz.2.2]) /\ BV zz:=by
      match k,hk with
      |0,hk=>cases hk;exact⟨a,z.1,rfl,ha,lz.1⟩
      |1,hk=>cases hk;exact⟨e,z.2.1,rfl,he,lz.2⟩
     o_head ⟨pk⟩
     exact⟨zz,x2 _ _ (x1 _ _ ez),lz'.1,lz'.2,fun H3 x3=>⟨x3 _ _ e1,A5 k,(x2.trans x3).set hD⟩⟩
    ·rintro D ys H2 hD ⟨rfl,e1,x2⟩;refine⟨D,_,rfl,SqL.of e1,?_⟩;show(if(dE 2 true).all id=false then _ else _)
     rw[if_neg (by decide)];exact x1.trans x2
   rintro σ H1 ⟨rfl,x1⟩;refine⟨fun σ H'=>σ=[some (.ref l),some (.ref t),some (.ref p),some (.ref a),some (.ref e),some (.int (n:Int)),some (.int (m:Int)),none,none] /\ H'=H1,?_,?_⟩
   ·o_head ⟨kj,ky,ou,x1 _ _ hp⟩
   rintro σ H2 ⟨rfl,rfl⟩;refine⟨fun σ H'=>σ=[some (.ref l),some (.ref t),some (.ref p),some (.ref a),some (.ref e),some (.int (n:Int)),some (.int (m:Int)),none,none] /\ H'=H2,?_,?_⟩
   ·o_head ⟨jE⟩
    refine⟨t,_,rfl,.inl (SqL.of (x1 _ _ ht)),rfl,xK lot,?_⟩;rw[if_pos rfl,BB,decide_eq_true F.inl];dsimp only;rw[if_neg (by decide)];refine⟨t,_,rfl,.inl (SqL.of (x1 _ _ ht)),rfl,xK lot,?_⟩;rw[if_neg (by decide),BB,decide_eq_false F.out];dsimp only;rw[if_neg (by decide)]
   rintro σ H3 ⟨rfl,rfl⟩;refine⟨fun σ H'=>σ=[some (.ref l),some (.ref t),some (.ref p),some (.ref a),some (.ref e),some (.int (n:Int)),some (.int (m:Int)),none,none] /\ H'=H3,?_,?_⟩
   ·o_head ⟨x1 _ _ ok.sp,lq,rI,rI⟩
    rw[if_neg (by omega),if_neg (by omega)];refine⟨_,_,mG (x1 _ _ ha),mG (x1 _ _ he),kA _,kA _,?_⟩;rw[vR,decide_eq_false F.ne];dsimp only;rw[if_neg (by decide)]
   rintro σ H4 ⟨rfl,rfl⟩;refine⟨fun σ H'=>∃o7 o8:Option V,σ=[some (.ref l),some (.ref t),some (.ref p),some (.ref a),some (.ref e),some (.int (n:Int)),some (.int (m:Int)),o7,o8] /\ Ext H4 H',?_,?_⟩
   ·refine rm (fun v H'=>∃T,v= .ref T /\ H' T=some (.tup [.ref a,.ref e]) /\ Ext H4 H') ?_ ?_
    ·walk_at "RD"
     exact⟨by decide,fun T hT=> .upd hT⟩
    rintro v1 H5 ⟨T,rfl,eT,x5⟩;refine⟨T,[.ref a,.ref e],rfl,fun k σ H'=>∃o7 o8:Option V,σ=[some (.ref l),some (.ref t),some (.ref p),some (.ref a),some (.ref e),some (.int (n:Int)),some (.int (m:Int)),o7,o8] /\ Ext H5 H',⟨_,_,rfl,.refl _⟩,?_,?_,?_⟩
    ·rintro k σ H6 _ ⟨o7,o8,rfl,x6⟩;exact SqT.of (x6 _ _ eT)
    rotate_left
    ·rintro σ H6 ⟨o7,o8,rfl,x6⟩;exact⟨_,_,rfl,x5.trans x6⟩
    rintro k v2 σ H6 hk ⟨o7,o8,rfl,x6⟩;obtain⟨pz,zz,rfl,ez,bz,near,same⟩:∃(pz:Addr) (zz:P3),v2= .ref pz /\ H4 pz=some (.tup [.int zz.1,.int zz.2.1,.int zz.2.2]) /\ B3 2000 zz /\ (∀t∈rs,sq2 zz r<=sq2 zz t) /\ sq2 zz s=sq2 zz r:=by
     match k,hk with
     |0,hk=>cases hk;exact⟨a,z.1,rfl,x1 _ _ ha,b1,F.n1,F.q1⟩
     |1,hk=>cases hk;exact⟨e,z.2.1,rfl,x1 _ _ he,b2,F.n2,F.q2⟩
    have x16:=x1.trans (x5.trans x6)
    have ok6:=ok.ext x16
    walk_at "RD"
    refine⟨fun σ H'=>∃W:Addr,σ=[some (.ref l),some (.ref t),some (.ref p),some (.ref a),some (.ref e),some (.int (n:Int)),some (.int (m:Int)),some (.ref pz),some (.ref W)] /\ Ext H6 H' /\ H' W=some (.lst ((rs.map (sq2 zz)).map V.int)),?_,?_⟩
    ·walk_at "RD"
     refine jX (K:=K) (a:=l) (xs:=qs.map V.ref) (fun R h=>by walk_at "RD";exact h) (SqL.of ok6.sp) (by rw[lq];omega) (fun D i ys H'=>ys=((rs.take i).map (sq2 zz)).map V.int /\ H' D=some (.lst ys) /\ Ext H6 H') ?_ ?_ ?_ ?_
     ·intro D hD;exact⟨rfl,iN,.upd hD⟩
     ·rintro D i ys H7 _ ⟨rfl,e7,x7⟩;exact⟨e7,by rw[ah,ah,aF];omega,SqL.of (x7 _ _ ok6.sp)⟩
     ·rintro D i w1 ys H7 hD hi ⟨rfl,e7,x7⟩;obtain⟨q,hq,rfl⟩:=jw hi
      obtain⟨r',hr1,hr2⟩:=ok6.at_.at hq
      have br:=ok.b2 (av hr1)
      o_head ⟨sF⟩
      refine⟨zz,x7 _ _ (x6 _ _ (x5 _ _ ez)),r',x7 _ _ hr2,bz,⟨br.1.mono (by decide),br.2.mono (by decide)⟩,e7,?_,x7.set hD⟩;rw[bU,hr1];simp
     ·rintro D ys H7 hD ⟨rfl,e7,x7⟩;rw[lq,bo] at e7;exact⟨D,rfl,x7,e7⟩
    rintro σ H7 ⟨W,rfl,x7,eW⟩;have an:atI ((rs.map (sq2 zz)).map V.int) (n:Int)=some (.int (sq2 zz r)):=jr (by rw[au,au,F.hn];rfl)
    have am:atI ((rs.map (sq2 zz)).map V.int) (m:Int)=some (.int (sq2 zz s)):=jr (by rw[au,au,F.hm];rfl)
    o_head ⟨eW,an,am,rI⟩
    have n0:=ok.n0
    have low:∀M,M∈rs.map (sq2 zz) ->(∀a∈rs.map (sq2 zz),M<=a) ->M=sq2 zz r:=fun M hM lM=>by
     obtain⟨t',ht',rfl⟩:=aC.mp hM
     have:=lM (sq2 zz r) (aC.mpr ⟨r,av F.hn,rfl⟩)
     have:=near t' ht'
     omega
    refine⟨W,_,rfl,SqL.of eW,by rw[ah];exact n0,fun M hM lM=> ?_⟩;have e1:=low M hM lM
    dsimp only;rw[if_neg (fun g=>g e1.symm),eW,kJ,iR,am,iR];refine⟨W,_,rfl,SqL.of eW,by rw[ah];exact n0,fun M' hM' lM'=> ?_⟩;have e2:=low M' hM' lM'
    dsimp only;rw[if_neg (fun g=>g (by rw[e2,same]))];exact⟨⟨_,rfl⟩,x6.trans x7⟩
   rintro σ H5 ⟨o7,o8,rfl,x5⟩;have x15:=x1.trans x5
   obtain⟨qn,hqn⟩:∃q,qs[n]? =some q:=⟨_,ag (by rw[ok.at_.1];exact nl)⟩
   have aj:atI (qs.map V.ref) (n:Int)=some (.ref qn):=jr (by rw[au,hqn];rfl)
   o_head ⟨x15 _ _ ok.sp,aj,x15 _ _ (ok.at_.2 n qn r hqn F.hn),pd⟩
   refine⟨by decide,fun T hT=> ?_⟩;have bn:=ok.b2 (av F.hn)
   have z1:Bd 2000 1:=by unfold Bd;decide
   refine⟨z.1,jf hT (x15 _ _ ha),z.2.1,jf hT (x15 _ _ he),(r.1,r.2,1),rfl,b1,b2,⟨bn.1.mono (by decide),bn.2.mono (by decide),z1⟩,?_⟩;rw[decide_eq_true F.lf];exact h _ (x15.then hT)
theorem oi:FnScope ["_law_one","_law_other"] ["_law_one","_law_other"] (iL s__law_sooner):=⟨rfl,rfl,rfl,by decide+kernel,rfl,by decide+kernel,by decide+kernel⟩
theorem ok__law_sooner{C:Cz}{f:Addr}{fd:FuncData}(F:Fun K "_law_sooner" "_law_sooner" s__law_sooner f fd)(T:Txt K mg C)(F__law_ahead:FnB P w K mg base (CXE P w) 1 "_law_ahead" ["_law_one","_law_other"] jZ):FnOk P w K mg base (CXE P w) 2 f fd ["_law_one","_law_other"] (nv K):=by
 refine okN F (k:=1) oi (fun vs H Q E h=> ?_) (fun cdv A outer s H vs Q E hr h=> ?_)
 ·obtain⟨p,q,z,z2,rfl,_⟩:=h
  rfl
 ·obtain⟨p,q,z,z2,rfl,h⟩:=h
  refine'⟨_,?main,?rest⟩
  case main=>
   refine' iO ?c1 ?c2
   case' c1=>refine' jm ?c3 ?c4 ?c5
   case' c3=>refine' iT (rF (K:=K) rfl (AA hr)) ?c6 ?c7 (iZ _)
   case' c6=>exact iW jg (pvF 0) iJ (fun _ _=>rfl)
   case' c7=>exact iW jg (pvF 1) iJ (fun _ _=>rfl)
   case' c4=>refine' iM ?c8
   case' c8=>refine' i4 ?c9
   case' c9=>refine' i9 F__law_ahead (hr.mono (by decide)) rfl iV ?c10
   case' c10=>refine' iI ?c11 ?c12
   case' c11=>exact iW jg (pvF 0) iJ (fun _ _=>rfl)
   case' c12=>refine' iI ?c13 iK
   case' c13=>exact iW jg (pvF 1) iJ (fun _ _=>rfl)
   case c5=>exact i8
   case' c2=>refine' iM ?c14
   case' c14=>refine' i4 ?c15
   case' c15=>refine' i9 F__law_ahead (hr.mono (by decide)) rfl iV ?c16
   case' c16=>refine' iI ?c17 ?c18
   case' c17=>exact iW jg (pvF 0) iJ (fun _ _=>rfl)
   case' c18=>refine' iI ?c19 iK
   case' c19=>exact iW jg (pvF 1) iJ (fun _ _=>rfl)
  case rest=>
   obtain⟨⟨s1,e1,p1,p2,p3⟩,⟨s2,e2,q1,q2,q3⟩,⟨_,b1,b2⟩,⟨_,b3,b4⟩,h⟩:=h
   walk_at "ST"
   o_head ⟨p1,q1,jZ,p2,p3,q2,q3,rI,rI,rI,rI,rI⟩
   refine⟨_,_,mG p2,mG q2,kA _,kA _,?_⟩;rw[vR];dsimp only;have hq:∀b:Bool,b=decide (EB z z2) ->Q (.bl b) H:=fun b e=>by rw[e];exact h
   clear h
   by_cases c:z.1=z2.1
   ·have h:decide (Ahd z.2.1 z2.2.1)=decide (EB z z2):=decide_eq_decide.mpr (by unfold EB;rw[if_pos c])
    rw[if_neg (show¬(!decide (z.1=z2.1))=true from by rw[decide_eq_true c];decide)]
    rw[p1,jV,iR,show atI [V.ref s1,V.ref e1,V.int z.2.2.1,V.int z.2.2.2] 1=some (V.ref e1) from rfl,iR,q1,jV,iR,show atI [V.ref s2,V.ref e2,V.int z2.2.2.1,V.int z2.2.2.2] 1=some (V.ref e2) from rfl,iR];refine⟨_,rfl,_,rfl,?_⟩;rw[p3,q3];refine⟨b2,b4,?_⟩;rw[mv z.2.1 z2.2.1];exact hq _ h
   ·have h:decide (Ahd z.1 z2.1)=decide (EB z z2):=decide_eq_decide.mpr (by unfold EB;rw[if_neg c])
    rw[if_pos (show(!decide (z.1=z2.1))=true from by rw[decide_eq_false c];rfl)];rw[p1,jV,iR,rd,iR,q1,jV,iR,rd,iR];refine⟨_,rfl,_,rfl,?_⟩;rw[p2,q2];refine⟨b1,b3,?_⟩;rw[mv z.1 z2.1];exact hq _ h
theorem sc__law_rows:FnScope ["_law_fields","_law_lot_here","_law_found","_law_one","_law_corners","_law_edges","_law_k"] ["_law_fields","_law_lot_here"] (iL s__law_rows):=⟨rfl,rfl,rfl,by decide+kernel,rfl,by decide+kernel,by decide+kernel⟩
theorem ok__law_rows{C:Cz}{f:Addr}{fd:FuncData}(F:Fun K "_law_rows" "_law_rows" s__law_rows f fd)(T:Txt K mg C):FnOk P w K mg base (CXE P w) 1 f fd ["_law_fields","_law_lot_here"] (ph K):=by
 refine okN F (k:=0) sc__law_rows (fun vs H Q E h=> ?_) (fun cdv A outer s H vs Q E hr h=> ?_)
 ·obtain⟨g,t,HE,fs,x,y,u,v,rs,lot,rfl,_⟩:=h
  rfl
 ·obtain⟨g,t,HE,fs,x,y,u,v,rs,lot,rfl,h⟩:=h
  refine'⟨_,?main,?rest⟩
  case main=>
   refine' i7 ?c1 ?c2
   case' c1=>refine' jc (i:=2) sc__law_rows.nd rfl (aQ rfl) ?c3
   case' c3=>exact jO iK
   case' c2=>refine' iO ?c4 ?c5
   case' c4=>refine' j6 ?c6 ?c7 ?c8 ?c9 ?c10
   case c6=>exact PassesOwn.never
   case c7=>exact rfl
   case c8=>exact(jG (K:=K) rfl (pvF 1))
   case c9=>exact(iQ (i:=3) sc__law_rows.nd rfl (aQ rfl))
   case' c10=>refine' i7 ?c11 ?c12
   case' c11=>refine' kB (iW jg (pvF 0) (pvF 3) (fun _ _=>rfl)) ?c13
   case' c13=>refine' n6 (n:=2) rfl ?c14
   case' c14=>refine' iP (iQ (i:=4) sc__law_rows.nd rfl (aQ rfl)) ?c15
   case' c15=>exact iP (iQ (i:=5) sc__law_rows.nd rfl (aQ rfl)) jh
   case' c12=>refine' iM ?c16
   case' c16=>refine' j6 ?c17 ?c18 ?c19 ?c20 ?c21
   case c17=>exact PassesOwn.never
   case c18=>exact rfl
   case' c19=>refine' jJ rfl T.b_range ?c22
   case' c22=>refine' iI ?c23 iK
   case' c23=>refine' iU jb (by rfl) T.b_len aW ?c24
   case' c24=>exact iI (pvF 5) iK
   case c20=>exact(iQ (i:=6) sc__law_rows.nd rfl (aQ rfl))
   case' c21=>refine' iM ?c25
   case' c25=>refine' jm ?c26 ?c27 ?c28
   case' c26=>refine' PW.pt ?c29
   case' c29=>refine' lF ?c30 ?c31
   case' c30=>exact iT (OpR.f0 qJ) (iW jg (pvF 5) (pvF 6) (fun _ _=>rfl)) iJ (iZ _)
   case' c31=>refine' kx ?c32
   case' c32=>exact iT (kP (K:=K) rfl) (iW jg (pvF 5) (pvF 6) (fun _ _=>rfl)) (pvF 1) (by with_unfolding_all rfl)
   case' c27=>refine' iM ?c33
   case' c33=>refine' jx ?c34
   case' c34=>refine' pe_app ?c35 ?c36
   case c35=>exact(pvF 2)
   case' c36=>refine' iI ?c37 ?c38
   case' c37=>refine' jk ?c39
   case' c39=>refine' iI ?c40 ?c41
   case c40=>exact(iW jg (pvF 4) (pvF 6) (fun _ _=>rfl))
   case' c41=>refine' iI ?c42 ?c43
   case' c42=>refine' iW jg (pvF 4) ?c44 (fun _ _=>rfl)
   case' c44=>refine' iS (OpR.f kD) ?c45 ?c46
   case' c45=>exact iS (OpR.f0 jv) (pvF 6) iJ
   case' c46=>refine' iU jb (by rfl) T.b_len aW ?c47
   case' c47=>exact iI (pvF 4) iK
   case' c43=>refine' iI (pvF 3) ?c48
   case' c48=>exact iI (iW jg (pvF 5) (pvF 6) (fun _ _=>rfl)) iK
   case c38=>exact iK
   case c28=>exact i8
   case' c5=>exact iM (i4 (pvF 2))
  case rest=>
   obtain⟨hg,lf,n12,la,ht,nd,l12,hlt,h⟩:=h
   walk_at "ST"
   refine⟨fun σ H'=>∃D:Addr,σ=[some (.ref g),some (.ref t),some (.ref D),none,none,none,none] /\ Ext H H' /\ H D=none /\ H' D=some (.lst []),?_,?_⟩
   ·walk_at "RD"
    exact⟨by decide,fun D hD=>⟨.upd hD,hD⟩⟩
   rintro σ H1 ⟨D,rfl,x1,nD,eD⟩;refine lQ (K:=K) (a:=t) (xs:=JsV lot) (fun R hR=>by walk_at "RD";exact hR) (fun i σ H'=>∃(us:List Addr) (Lf:Nat ->List Vx) (o3 o4 o5 o6:Option V),σ=[some (.ref g),some (.ref t),some (.ref D),o3,o4,o5,o6] /\ Ext H (del H' D) /\ H' D=some (.lst (us.map V.ref)) /\ RwsAt (del H' D) us (jW lot Lf (lot.take i)) /\ ko x y u v rs Lf (lot.take i) /\ us.length<=30*i) ⟨[],fun _=>[],_,_,_,_,rfl,?_,eD,⟨rfl,fun i t z a=>by simp at a⟩,fun n hn=>(by simp at hn),bb _⟩ ?_ ?_ ?_
   ·exact fun z o hz=>(mJ (iY hz nD)).trans (x1 _ _ hz)
   ·rintro i σ H2 _ ⟨us,Lf,o3,o4,o5,o6,rfl,x2,eD2,ra,lff,lu⟩;exact SqL.of ((x2.trans (kb _ _)) _ _ ht)
   rotate_left
   ·rintro σ H2 ⟨us,Lf,o3,o4,o5,o6,rfl,x2,eD2,ra,lff,lu⟩;rw[kz,bo] at ra lff;walk_at "RD"
    have x2':=x2.trans (kb H2 D)
    exact h D us Lf H2 x2' nD eD2 (ra.ext (kb _ _)) lff
   rintro i w1 σ H2 hi ⟨us,Lf,o3,o4,o5,o6,rfl,x2,eD2,ra,lff,lu⟩;obtain⟨n,hn,rfl⟩:=sy hi
   have mn:=av hn
   have nl:=hlt n mn
   have nk:n∉lot.take i:=fun g=>by
    obtain⟨j,hj⟩:=bg g
    have lj:=(aa.mp hj).1
    rw[aF] at lj;rw[aY (by omega)] at hj;obtain⟨l1,f1⟩:=aa.mp hj
    obtain⟨l2,f2⟩:=aa.mp hn
    have:=(b7 nd).mp (f1.trans f2.symm)
    omega
   have tk:lot.take (i+1)=lot.take i++[n]:=by rw[cR,hn];rfl
   obtain⟨f,hf⟩:∃f,fs[n]? =some f:=⟨_,ag (by rw[lf];exact nl)⟩
   obtain⟨c,e,ps,L,r,hr',fa,lo,nf⟩:=la n f hf
   have af:atI (fs.map V.ref) (n:Int)=some (.ref f):=jr (by rw[au,hf];rfl)
   have x2':=x2.trans (kb H2 D)
   have fa2:=fa.ext x2
   have lps:ps.length=L.length:=by have:=fa.pt.1;rwa [ah] at this
   have lL:=lo.len
   have lo2:=kO rs.length n
   walk_at "RD"
   refine⟨fun σ H'=>σ=[some (.ref g),some (.ref t),some (.ref D),some (.int (n:Int)),some (.ref c),some (.ref e),o6] /\ H'=H2,?_,?_⟩
   ·o_head ⟨kj,ky,ou,x2' _ _ hg,af,x2' _ _ fa.at_,rI,rI,rI,rI,rI,rI⟩
   rintro σ H3 ⟨rfl,rfl⟩;have le:((L.map (·.2.2)).map V.int).length=L.length:=by rw[ah,ah]
   have lc:(ps.map V.ref).length=L.length:=by rw[ah,lps]
   refine lx L.length (fun R hR=>by o_head ⟨x2' _ _ fa.es,le,rI,rI⟩;exact hR) (by omega) (fun k σ H'=>∃(us:List Addr) (o6:Option V),σ=[some (.ref g),some (.ref t),some (.ref D),some (.int (n:Int)),some (.ref c),some (.ref e),o6] /\ Ext (del H3 D) (del H' D) /\ H' D=some (.lst (us.map V.ref)) /\ RwsAt (del H' D) us (jW lot Lf (lot.take i)++((qp L).take k).filterMap (qg lot n)) /\ us.length<=30*i+k) ⟨us,_,rfl,.refl _,eD2,(by rw[gz,gK,aL];exact ra),by omega⟩ ?_ ?_
   rotate_left
   ·rintro σ H4 ⟨us,o6,rfl,x4,eD4,ra4,lu4⟩;rw[<-sD L,bo] at ra4;refine⟨⟨_,_,_,_,rfl⟩,x2.trans x4,us,eD4,fun m=>if m=n then L else Lf m,?_,?_,by omega⟩
    ·rw[tk,qy nk];exact ra4
    ·rw[tk];exact nQ lff nk hr' lo
   rintro k σ H4 hk ⟨us,o6,rfl,x4,eD4,ra4,lu4⟩;have x24:=x2.trans x4
   have x24':=x24.trans (kb H4 D)
   obtain⟨w,hw⟩:∃w,L[k]? =some w:=⟨_,ag hk⟩
   obtain⟨w2,hw2,htr⟩:=uD hw
   have tk2:((qp L).take (k+1)).filterMap (qg lot n)=((qp L).take k).filterMap (qg lot n)++(qg lot n (w.1,w2.1,w.2.2)).toList:=by
    rw[cR,htr,gk]
    congr 1
   have ae:atI ((L.map (·.2.2)).map V.int) (k:Int)=some (.int w.2.2):=jr (by rw[au,au,hw];rfl)
   o_head ⟨bR,x24' _ _ fa.es,ae,rI⟩
   by_cases c0:0<=w.2.2
   rotate_left
   ·rw[if_neg c0];refine⟨x4,us,eD4,?_,by omega⟩;rw[tk2,show qg lot n (w.1,w2.1,w.2.2)=none from if_neg (fun o=>c0 o.1)];simp only[dZ,aL];exact ra4
   rw[if_pos c0];obtain⟨m,hm⟩:∃m:Nat,w.2.2=(m:Int):=⟨w.2.2.toNat,by omega⟩
   refine⟨t,JsV lot,rfl,.inl (SqL.of (x24' _ _ ht)),rfl,xK lot,?_⟩;dsimp only;rw[if_pos rfl,hm,vL]
   by_cases cm:m∈lot
   ·rw[decide_eq_true cm,if_neg (by decide)];refine⟨x4,us,eD4,?_,by omega⟩;rw[tk2,show qg lot n (w.1,w2.1,w.2.2)=none from if_neg (fun o=>o.2 m cm hm)];simp only[dZ,aL];exact ra4
   rw[decide_eq_false cm,if_pos (by decide)];have nx:=w4 hk hw2
   have jl:(k+1)%L.length<L.length:=iz _ (by omega)
   obtain⟨q1,hq1⟩:∃q,ps[k]? =some q:=⟨_,ag (by omega)⟩
   obtain⟨q2,hq2⟩:∃q,ps[(k+1)%L.length]? =some q:=⟨_,ag (by omega)⟩
   have a1:atI (ps.map V.ref) (k:Int)=some (.ref q1):=jr (by rw[au,hq1];rfl)
   have a2:atI (ps.map V.ref) (((k:Int)+1)%(L.length:Int))=some (.ref q2):=by
    have:((k:Int)+1)%(L.length:Int)=(((k+1)%L.length:Nat):Int):=by rw[hZ,Int.natCast_add];rfl
    rw[this];exact jr (by rw[au,hq2];rfl)
   rw[x24' _ _ fa.cs]
   o_head ⟨lc,a1,a2,eD4,x24' _ _ fa.es,ae,hm,rI,rI,rI,rI,rI⟩
   refine⟨by omega,by decide,fun p hp=> ?_⟩;have xp:=Ext.upd (o:= .tup [.ref q1,.ref q2,.int (n:Int),.int (m:Int)]) hp
   have ep:=iN (H:=H4) (a:=p) (o:= .tup [.ref q1,.ref q2,.int (n:Int),.int (m:Int)])
   generalize upd H4 p (.tup [.ref q1,.ref q2,.int (n:Int),.int (m:Int)])=H5 at xp ep⊢;have eD5:=xp _ _ eD4
   rw[eD5,jA,iR];have ilL:=(aa.mp hn).1
   have xD:=(um (D:=D) xp).trans (tL H5 D (.lst (us.map V.ref++[.ref p])))
   have pD:p≠D:=lI ep eD5 (by intro z;cases z)
   have ep':del (upd H5 D (.lst (us.map V.ref++[.ref p]))) D p=some (.tup [.ref q1,.ref q2,.int (n:Int),.int (m:Int)]):=(mJ pD).trans ((i6 pD).trans ep)
   have c1:del H4 D q1=some (.tup [.int w.1.1,.int w.1.2.1,.int w.1.2.2]):=x24 _ _ (fa.pt.2 k q1 w.1 hq1 (by rw[au,hw];rfl))
   have c2:del H4 D q2=some (.tup [.int w2.1.1,.int w2.1.2.1,.int w2.1.2.2]):=x24 _ _ (fa.pt.2 _ q2 w2.1 hq2 (by rw[au,nx];rfl))
   refine⟨by rw[ah];omega,x4.trans xD,us++[p],by rw[ay];rfl,?_,by rw[aq];show _+1<=_;omega⟩;rw[tk2,show qg lot n (w.1,w2.1,w.2.2)=some (w.1,w2.1,(n:Int),w.2.2) from if_pos ⟨c0,fun j hj e=>cm (by have e':w.2.2=(j:Int):=e;rw[show m=j by omega];exact hj)⟩, <-bI];refine(ra4.ext xD).app (.one ⟨q1,q2,?_,xD _ _ c1,xD _ _ c2⟩);show _=some (HO.tup [V.ref q1,V.ref q2,V.int (n:Int),V.int w.2.2])
   rw[hm];exact ep'
theorem sc_law:FnScope ["_law_script","_law_feed_here","_law_box","_law_spots_here","_law_lot_here","_law_rows_here","_law_handed","_law_bout","_law_found","_law_k"] ["_law_script"] (iL s_law):=⟨rfl,rfl,rfl,by decide+kernel,rfl,by decide+kernel,by decide+kernel⟩
theorem ok_law{C:Cz}{f:Addr}{fd:FuncData}(F:Fun K "law" "law" s_law f fd)(T:Txt K mg C)(F__law_sooner:FnB P w K mg base (CXE P w) 2 "_law_sooner" ["_law_one","_law_other"] (nv K))(F__law_edge_right:FnB P w K mg base (CXE P w) 3 "_law_edge_right" ["_law_spots_here","_law_lot_here","_law_row"] (lW K))(F_seam:FnB P w K mg base (CXE P w) 9 "seam" ["box","spots","lot"] (pf K C))(F_lands:FnB P w K mg base (CXE P w) 9 "lands" ["box","spots"] (pj K))(F__law_rows:FnB P w K mg base (CXE P w) 1 "_law_rows" ["_law_fields","_law_lot_here"] (ph K))(F__law_lot:FnB P w K mg base (CXE P w) 2 "_law_lot" ["_law_feed_here","_law_many"] (sH K))(F__law_world:FnB P w K mg base (CXE P w) 4 "_law_world" ["_law_feed_here","_law_least","_law_most"] (mS K))(F__law_feed:FnB P w K mg base (CXE P w) 1 "_law_feed" ["_law_script"] (pq K)):FnOk P w K mg base (CXE P w) 10 f fd ["_law_script"] (sI K):=by
 refine okN F (k:=9) sc_law (fun vs H Q E h=> ?_) (fun cdv A outer s H vs Q E hr h=> ?_)
 ·obtain⟨a,ns,rfl,_⟩:=h
  rfl
 ·obtain⟨a,ns,rfl,h⟩:=h
  refine'⟨_,?main,?rest⟩
  case main=>
   refine' iO ?c1 ?c2
   case' c1=>refine' jc (i:=1) sc_law.nd rfl (aQ rfl) ?c3
   case' c3=>refine' i9 F__law_feed (hr.mono (by decide)) rfl iV ?c4
   case' c4=>exact iI (pvF 0) iK
   case' c2=>refine' i7 ?c5 ?c6
   case' c5=>refine' kB ?c7 ?c8
   case' c7=>refine' i9 F__law_world (hr.mono (by decide)) rfl iV ?c9
   case' c9=>refine' iI (pvF 1) ?c10
   case' c10=>refine' iI iJ ?c11
   case' c11=>exact iI iJ iK
   case' c8=>refine' n6 (n:=2) rfl ?c12
   case' c12=>refine' iP (iQ (i:=2) sc_law.nd rfl (aQ rfl)) ?c13
   case' c13=>exact iP (iQ (i:=3) sc_law.nd rfl (aQ rfl)) jh
   case' c6=>refine' i7 ?c14 ?c15
   case' c14=>refine' jc (i:=4) sc_law.nd rfl (aQ rfl) ?c16
   case' c16=>refine' i9 F__law_lot (hr.mono (by decide)) rfl iV ?c17
   case' c17=>refine' iI (pvF 1) ?c18
   case' c18=>refine' iI ?c19 iK
   case' c19=>refine' iU jb (by rfl) T.b_len aW ?c20
   case' c20=>exact iI (pvF 3) iK
   case' c15=>refine' i7 ?c21 ?c22
   case' c21=>refine' jc (i:=5) ?c23 ?c24 ?c25 ?c26
   case c23=>exact sc_law.nd
   case c24=>exact rfl
   case c25=>exact(aQ rfl)
   case' c26=>refine' i9 ?c27 ?c28 ?c29 ?c30 ?c31
   case c27=>exact F__law_rows
   case c28=>exact(hr.mono (by decide))
   case c29=>exact rfl
   case c30=>exact iV
   case' c31=>refine' iI ?c32 ?c33
   case' c32=>refine' i9 F_lands (hr.mono (by decide)) rfl iV ?c34
   case' c34=>refine' iI (pvF 2) ?c35
   case' c35=>refine' iI ?c36 iK
   case' c36=>refine' jN j5 (by rfl) T.b_list boot_list ?c37
   case' c37=>exact iI (pvF 3) iK
   case' c33=>exact iI (pvF 4) iK
   case' c22=>refine' i7 ?c38 ?c39
   case' c38=>refine' jc (i:=6) ?c40 ?c41 ?c42 ?c43
   case c40=>exact sc_law.nd
   case c41=>exact rfl
   case c42=>exact(aQ rfl)
   case' c43=>refine' jO ?c44
   case' c44=>refine' iI ?c45 ?c46
   case' c45=>refine' jN j5 (by rfl) T.b_list boot_list ?c47
   case' c47=>exact iI (pvF 3) iK
   case' c46=>refine' iI ?c48 iK
   case' c48=>refine' jN j5 (by rfl) T.b_list boot_list ?c49
   case' c49=>exact iI (pvF 4) iK
   case' c39=>refine' i7 ?c50 ?c51
   case' c50=>refine' j6 ?c52 ?c53 ?c54 ?c55 ?c56
   case c52=>exact PassesOwn.never
   case c53=>exact rfl
   case' c54=>refine' jJ rfl T.b_range ?c57
   case' c57=>exact iI iJ iK
   case c55=>exact(iQ (i:=7) sc_law.nd rfl (aQ rfl))
   case' c56=>refine' i7 ?c58 ?c59
   case' c58=>refine' jc (i:=8) ?c60 ?c61 ?c62 ?c63
   case c60=>exact sc_law.nd
   case c61=>exact rfl
   case c62=>exact(aQ rfl)
   case' c63=>refine' i9 F_seam (hr.mono (by decide)) rfl iV ?c64
   case' c64=>refine' iI (pvF 2) ?c65
   case' c65=>refine' iI ?c66 ?c67
   case' c66=>exact iW jg (pvF 6) iJ (fun _ _=>rfl)
   case' c67=>refine' iI ?c68 iK
   case' c68=>exact iW jg (pvF 6) iJ (fun _ _=>rfl)
   case' c59=>refine' i7 ?c69 ?c70
   case' c69=>refine' jm ?c71 ?c72 ?c73
   case' c71=>refine' PW.pt ?c74
   case' c74=>refine' k9 ?c75 ?c76
   case' c75=>refine' lg ?c77
   case' c77=>refine' jP ?c78
   case' c78=>refine' iU (wc (K:=K) rfl) (by rfl) T.b_isinstance boot_isinstance ?c79
   case' c79=>refine' iI (pvF 8) ?c80
   case' c80=>exact iI (nK (v:=V.ty "list") rfl T.b_list boot_list rfl) iK
   case' c76=>refine' kX ?c81
   case' c81=>refine' iT (rF (K:=K) rfl (AA hr)) (pvF 6) ?c82 (iZ _)
   case' c82=>refine' jO ?c83
   case' c83=>refine' iI (pvF 3) ?c84
   case' c84=>exact iI (pvF 4) iK
   case' c72=>refine' iM ?c85
   case' c85=>exact i4 nL
   case c73=>exact i8
   case' c70=>refine' i7 ?c86 ?c87
   case' c86=>refine' j6 ?c88 ?c89 ?c90 ?c91 ?c92
   case c88=>exact PassesOwn.never
   case c89=>exact rfl
   case' c90=>refine' jJ rfl T.b_range ?c93
   case' c93=>refine' iI ?c94 iK
   case' c94=>refine' iU jb (by rfl) T.b_len aW ?c95
   case' c95=>exact iI (pvF 8) iK
   case c91=>exact(iQ (i:=9) sc_law.nd rfl (aQ rfl))
   case' c92=>refine' i7 ?c96 ?c97
   case' c96=>refine' jm ?c98 ?c99 ?c100
   case' c98=>refine' lg ?c101
   case' c101=>refine' jP ?c102
   case' c102=>refine' i9 F__law_edge_right (hr.mono (by decide)) rfl iV ?c103
   case' c103=>refine' iI (pvF 3) ?c104
   case' c104=>refine' iI (pvF 4) ?c105
   case' c105=>exact iI (iW jg (pvF 8) (pvF 9) (fun _ _=>rfl)) iK
   case' c99=>refine' iM ?c106
   case' c106=>exact i4 nL
   case c100=>exact i8
   case' c97=>refine' iM ?c107
   case' c107=>refine' jm ?c108 ?c109 ?c110
   case' c108=>refine' PW.pt ?c111
   case' c111=>refine' lF ?c112 ?c113
   case' c112=>exact iT (OpR.f0 mR) (pvF 9) iJ (iZ _)
   case' c113=>refine' kx ?c114
   case' c114=>refine' lg ?c115
   case' c115=>refine' jP ?c116
   case' c116=>refine' i9 F__law_sooner (hr.mono (by decide)) rfl iV ?c117
   case' c117=>refine' iI ?c118 ?c119
   case' c118=>refine' iW jg (pvF 8) ?c120 (fun _ _=>rfl)
   case' c120=>exact iS (OpR.f0 jy) (pvF 9) iJ
   case' c119=>exact iI (iW jg (pvF 8) (pvF 9) (fun _ _=>rfl)) iK
   case' c109=>refine' iM ?c121
   case' c121=>exact i4 nL
   case c110=>exact i8
   case' c87=>refine' i7 ?c122 ?c123
   case' c122=>refine' jm ?c124 ?c125 ?c126
   case' c124=>refine' iT (rF (K:=K) rfl (AA hr)) ?c127 ?c128 (iZ _)
   case' c127=>refine' iU (oQ (K:=K) rfl rfl hr.units) (by rfl) T.b_sorted boot_sorted ?c129
   case' c129=>exact iI (pvF 8) iK
   case' c128=>refine' iU (oQ (K:=K) rfl rfl hr.units) (by rfl) T.b_sorted boot_sorted ?c130
   case' c130=>exact iI (pvF 5) iK
   case' c125=>refine' iM ?c131
   case' c131=>exact i4 nL
   case c126=>exact i8
   case' c123=>refine' iM ?c132
   case' c132=>exact jx (zx (pvF 8))
   case' c51=>refine' iM ?c133
   case' c133=>exact i4 nL
  case rest=>
   obtain⟨hS,hl,h⟩:=h
   walk_at "ST"
   o_head ⟨pq⟩
   refine⟨ns,hS,hl,fun p c H0 x0 hp0 hF0=> ?_⟩;refine⟨fun σ H'=>∃(b l:Addr) (x y u v:Int) (qs:List Addr) (rs:List P2),σ=[some (.ref a),some (.ref p),some (.ref b),some (.ref l),none,none,none,none,none,none] /\ DX c 90 p H0 H' /\ SpOk H' b l x y u v qs rs /\ 2<=rs.length,?_,?_⟩
   ·o_head ⟨mS⟩
    refine⟨2,rfl,7,rfl,c,0,hF0,by decide,by decide,by decide,by decide,by decide,fun t b l x y u v qs rs H1 d1 et ok n2 bx by'=> ?_⟩
    o_head ⟨kj,ky,ou,et⟩
    exact⟨d1,x,y,u,v,qs,rs,ok,n2⟩
   rintro σ H1 ⟨b,l,x,y,u,v,qs,rs,rfl,d1,ok1,n2⟩;have lq:(qs.map V.ref).length=rs.length:=by rw[ah,ok1.at_.1]
   have n12:=ok1.n12
   refine⟨fun σ H'=>∃(t:Addr) (lot:List Nat),σ=[some (.ref a),some (.ref p),some (.ref b),some (.ref l),some (.ref t),none,none,none,none,none] /\ SpOk H' b l x y u v qs rs /\ H' t=some (.lst (JsV lot)) /\ lot.Nodup /\ 0<lot.length /\ lot.length<rs.length /\ (∀j∈lot,j<rs.length),?_,?_⟩
   ·o_head ⟨ok1.sp,lq,sH,rI⟩
    refine⟨rs.length,rfl,c,_,d1.feed,by omega,n2,n12,fun t lot H2 d2 ht et nd l0 ll lt=> ?_⟩;exact⟨ok1.dx d1.feed d2,lot,et,nd,l0,ll,lt⟩
   rintro σ H2 ⟨t,lot,rfl,ok2,et,nd,l0,ll,lt⟩;have fresh:∀{H':Hp} {D:Addr},SpOk H' b l x y u v qs rs ->H' D=none ->SpOk (upd H' D (.lst (qs.map V.ref))) b D x y u v qs rs:=fun {H' D} o hD=>by
    have o':=o.ext (Ext.upd (o:= .lst (qs.map V.ref)) hD)
    exact⟨o'.bx,iN,o'.at_,o'.xu,o'.yv,o'.ins,o'.nd,o'.n0,o'.n12,o'.sz⟩
   have xu:=ok1.xu
   have yv:=ok1.yv
   have ndR:=ok1.nd
   have ins:=ok1.ins
   refine⟨fun σ H'=>∃(E:Addr) (ur:List Addr) (Lf:Nat ->List Vx),σ=[some (.ref a),some (.ref p),some (.ref b),some (.ref l),some (.ref t),some (.ref E),none,none,none,none] /\ Ext H2 H' /\ H' E=some (.lst (ur.map V.ref)) /\ RwsAt H' ur (jW lot Lf lot) /\ ko x y u v rs Lf lot,?_,?_⟩
   ·o_head ⟨ok2.sp⟩
    intro l' hl';refine⟨b,l',x,y,u,v,qs,rs,rfl,fresh ok2 hl',fun E fs H5 x5 _ eE lf la=> ?_⟩;have x25:=(Ext.upd (o:= .lst (qs.map V.ref)) hl').trans x5
    exact⟨E,t,_,fs,x,y,u,v,rs,lot,rfl,eE,lf,n12,la,x25 _ _ et,nd,by omega,lt,fun D us Lf H6 x6 _ eD ra lff=>⟨D,rfl,x25.trans x6,us,eD,Lf,ra,lff⟩⟩
   rintro σ H3 ⟨E,ur,Lf,rfl,x3,eE,rar,lff⟩;have ok3:=ok2.ext x3
   have et3:=x3 _ _ et
   have few:=y8 xu yv ndR ins n12 nd lt lff
   refine⟨fun σ H'=>∃(hd l2 t2:Addr),σ=[some (.ref a),some (.ref p),some (.ref b),some (.ref l),some (.ref t),some (.ref E),some (.ref hd),none,none,none] /\ Ext H3 H' /\ H' hd=some (.lst [.ref l2,.ref t2]) /\ H' l2=some (.lst (qs.map V.ref)) /\ H' t2=some (.lst (JsV lot)),?_,?_⟩
   ·o_head ⟨ok3.sp⟩
    intro l2 h2;rw[jf h2 et3,kJ,iR];intro t2 h3;have e2:=jf (o:= .lst (JsV lot)) h3 (iN (H:=H3) (a:=l2) (o:= .lst (qs.map V.ref)))
    have e3:=iN (H:=upd H3 l2 (.lst (qs.map V.ref))) (a:=t2) (o:= .lst (JsV lot))
    have xx:=(Ext.upd (o:= .lst (qs.map V.ref)) h2).then (o:= .lst (JsV lot)) h3
    refine⟨by decide,fun hd h4=> ?_⟩;exact⟨xx.then h4,l2,t2,rfl,jf h4 e2,jf h4 e3⟩
   rintro σ H4 ⟨hd,l2,t2,rfl,x4,eh,el2,et2⟩;have ok4:=ok3.ext x4
   have et4:=x4 _ _ et3
   have eE4:=x4 _ _ eE
   have rar4:=rar.ext x4
   refine⟨fun σ H'=>∃o7 o8 o9:Option V,σ=[some (.ref a),some (.ref p),some (.ref b),some (.ref l),some (.ref t),some (.ref E),some (.ref hd),o7,o8,o9] /\ Ext H4 H',?_,?_⟩
   rotate_left
   ·rintro σ H5 ⟨o7,o8,o9,rfl,x5⟩;walk_at "RD"
    exact h _
   refine lx 2 (fun R hR=>by walk_at "RD";exact hR) (by omega) (fun i σ H'=>∃o7 o8 o9:Option V,σ=[some (.ref a),some (.ref p),some (.ref b),some (.ref l),some (.ref t),some (.ref E),some (.ref hd),o7,o8,o9] /\ Ext H4 H') ⟨_,_,_,rfl,.refl _⟩ ?_ ?_
   rotate_left
   ·rintro σ H5 ⟨o7,o8,o9,rfl,x5⟩;exact⟨_,_,_,rfl,x5⟩
   rintro i σ H5 hi ⟨o7,o8,o9,rfl,x5⟩;have ok5:SpOk H5 b l2 x y u v qs rs:=by
    have o:=ok4.ext x5
    exact⟨o.bx,x5 _ _ el2,o.at_,o.xu,o.yv,o.ins,o.nd,o.n0,o.n12,o.sz⟩
   walk_at "RD"
   refine⟨fun σ H'=>∃(D:Addr) (us:List Addr) (ws:List Rw),σ=[some (.ref a),some (.ref p),some (.ref b),some (.ref l),some (.ref t),some (.ref E),some (.ref hd),some (.int (0+(i:Int))),some (.ref D),o9] /\ Ext H5 H' /\ H5 D=none /\ H' D=some (.lst (us.map V.ref)) /\ RwsAt H' us ws /\ ws.Perm (jW lot Lf lot) /\ yM ws /\ (∀z∈ws,wm z),?_,?_⟩
   ·o_head ⟨x5 _ _ eh,pf,rI,rI⟩
    refine⟨x,y,u,v,qs,rs,ok5,lot,x5 _ _ et2,nd,l0,ll,lt,fun D us ws Lf' H' x' nD eD ra pm so lf' rb _=> ?_⟩;rw[uO xu yv ndR ins lf' lff] at pm;exact⟨x',nD,us,eD,ws,ra,pm,so,rb⟩
   rintro σ H6 ⟨D,us,ws,rfl,x6,nD,eD,ra,pm,so,rb⟩;have x46:=x5.trans x6
   refine⟨fun σ H'=>σ=[some (.ref a),some (.ref p),some (.ref b),some (.ref l),some (.ref t),some (.ref E),some (.ref hd),some (.int (0+(i:Int))),some (.ref D),o9] /\ Ext H6 H',?_,?_⟩
   ·walk_at "RD"
    refine⟨_,_,_,_,rfl,.lst eD,nR K,?_⟩;dsimp only;rw[if_neg (by decide)];refine⟨by decide,fun P hP=> ?_⟩;have xP:=Ext.upd (o:= .lst [.ref l,.ref t]) hP
    have yP:=x46.trans xP
    have at10:=(ok4.ext yP).at_
    refine⟨_,_,yn (yP _ _ eh) (yP _ _ el2) at10 (yP _ _ et2),yn iN (ok4.ext yP).sp at10 (yP _ _ et4),oH _ _,oH _ _,?_⟩;dsimp only;rw[if_neg (by rw[vQ (vN _ _) rfl];decide)]
    exact xP
   rintro σ H7 ⟨rfl,x7⟩;have lw:us.length=ws.length:=ra.1
   have lU:(us.map V.ref).length=ws.length:=by rw[ah,lw]
   have w64:ws.length<64:=by rw[pm.length_eq];exact few
   have ra7:=ra.ext x7
   have ok7:=(ok4.ext x46).ext x7
   refine⟨fun σ H'=>∃o9:Option V,σ=[some (.ref a),some (.ref p),some (.ref b),some (.ref l),some (.ref t),some (.ref E),some (.ref hd),some (.int (0+(i:Int))),some (.ref D),o9] /\ Ext H7 H',?_,?_⟩
   ·refine lx ws.length (fun R hR=>by o_head ⟨x7 _ _ eD,lU,rI,rI⟩;exact hR) (by omega) (fun k σ H'=>∃o9:Option V,σ=[some (.ref a),some (.ref p),some (.ref b),some (.ref l),some (.ref t),some (.ref E),some (.ref hd),some (.int (0+(i:Int))),some (.ref D),o9] /\ Ext H7 H') ⟨_,rfl,.refl _⟩ ?_ ?_
    rotate_left
    ·rintro σ H8 ⟨o9,rfl,x8⟩;exact⟨_,rfl,x8⟩
    rintro k σ H8 hk ⟨o9,rfl,x8⟩;have x78:=x7.trans x8
    have rowAt:∀j,j<ws.length -> ∃t z,atI (us.map V.ref) (j:Int)=some (.ref t) /\ ws[j]? =some z /\ RowIs H8 t z:=fun j hj=>by
     obtain⟨t,ht⟩:∃t,us[j]? =some t:=⟨_,ag (by omega)⟩
     obtain⟨z,hz,rz⟩:=ra.at ht
     exact⟨t,z,jr (by rw[au,ht];rfl),hz,rz.ext x78⟩
    obtain⟨tk,zk,ak,hzk,rk⟩:=rowAt k hk
    have mk:=av hzk
    obtain⟨n,m,r,s,F,_⟩:=wL xu yv ndR ins (fun n hn=>hn) lff (pm.mem_iff.mp mk)
    walk_at "RD"
    refine⟨fun σ H'=>σ=[some (.ref a),some (.ref p),some (.ref b),some (.ref l),some (.ref t),some (.ref E),some (.ref hd),some (.int (0+(i:Int))),some (.ref D),some (.int (0+(k:Int)))] /\ Ext H8 H',?_,?_⟩
    ·o_head ⟨x78 _ _ eD,bR,ak,lW⟩
     exact⟨b,x,y,u,v,qs,rs,ok7.ext x8,lot,(x46.trans x78) _ _ et4,by omega,zk,rk,rb zk mk,⟨n,m,r,s,F⟩,fun H' x'=>x'⟩
    rintro σ H9 ⟨rfl,x9⟩
    o_head ⟨(x78.trans x9) _ _ eD,bR,ak,rI⟩
    by_cases c0:0<(k:Int)
    rotate_left
    ·rw[if_neg c0];exact⟨⟨_,rfl⟩,x8.trans x9⟩
    rw[if_pos c0];obtain⟨j,rfl⟩:∃j,k=j+1:=⟨k-1,by omega⟩
    obtain⟨tj,zj,aj,hzj,rj⟩:=rowAt j (by omega)
    have mj:=av hzj
    rw[show((j+1:Nat):Int)-1=(j:Int) by omega,aj,iR];have eb:EB zj zk:=Classical.byContradiction fun c=>by
     have l1:=(aa.mp hzj)
     have l2:=(aa.mp hzk)
     have nb:=cp.mp so j (j+1) l1.1 l2.1 (by omega)
     rw[l1.2,l2.2] at nb;have ee:=EB.tot (rb zj mj).1 (rb zk mk).1 c nb
     have pw:=(List.Perm.pairwise_iff (fun {a b} (h:¬(a.1=b.1 /\ a.2.1=b.2.1)) g=>h ⟨g.1.symm,g.2.symm⟩) pm).mpr (uP xu yv ndR ins nd (fun n hn=>hn) lff)
     have nq:=cp.mp pw j (j+1) l1.1 l2.1 (by omega)
     rw[l1.2,l2.2] at nq;exact nq ee
    refine⟨tj,tk,zj,zk,rfl,rj.ext x9,rk.ext x9,rb zj mj,rb zk mk,?_⟩;rw[decide_eq_true eb];dsimp only;rw[if_neg (by decide)];exact⟨⟨_,rfl⟩,x8.trans x9⟩
   rintro σ H8 ⟨o9,rfl,x8⟩;have x48:=x46.trans (x7.trans x8)
   have eD8:=(x7.trans x8) _ _ eD
   have ra8:=ra7.ext x8
   refine⟨fun σ H'=>σ=[some (.ref a),some (.ref p),some (.ref b),some (.ref l),some (.ref t),some (.ref E),some (.ref hd),some (.int (0+(i:Int))),some (.ref D),o9] /\ Ext H8 H',?_,?_⟩
   ·walk_at "RD"
    refine⟨D,us.map V.ref,BH H8,rfl,SqL.of eD8,by rw[lU];exact w64,fun v hv=> ?_,fun S q hS hq=> ?_⟩
    ·obtain⟨j,hj⟩:=bg hv
     obtain⟨t',ht',rfl⟩:=jw hj
     obtain⟨z,_,rz⟩:=ra8.at ht'
     exact uW rz
    obtain⟨us1,ws1,e1,r1,p1,s1⟩:=qt ra8 hq
    rw[e1];have xS:=Ext.upd (o:= .lst (us1.map V.ref)) hS
    have eS:=iN (H:=H8) (a:=S) (o:= .lst (us1.map V.ref))
    generalize upd H8 S (.lst (us1.map V.ref))=H9 at xS eS⊢;have rar9:=rar4.ext (x48.trans xS)
    refine⟨E,ur.map V.ref,BH H9,rfl,SqL.of (xS _ _ (x48 _ _ eE4)),by rw[ah,rar9.1];exact few,fun v hv=> ?_,fun S2 q2 hS2 hq2=> ?_⟩
    ·obtain⟨j,hj⟩:=bg hv
     obtain⟨t',ht',rfl⟩:=jw hj
     obtain⟨z,_,rz⟩:=rar9.at ht'
     exact uW rz
    obtain⟨us2,ws2,e2,r2,p2,s2⟩:=qt rar9 hq2
    rw[e2];have same:ws1=ws2:=wG (p1.trans (pm.trans p2.symm)) s1 s2
    subst same;have xS2:=Ext.upd (o:= .lst (us2.map V.ref)) hS2
    refine⟨.list (ws1.map rwD),.list (ws1.map rwD),.lst (SqL.of (xS2 _ _ eS)) (rA ((r1.ext xS).ext xS2)),.lst (SqL.of iN) (rA (r2.ext xS2)),oB _,oB _,?_⟩;rw[vQ (uT _) rfl];dsimp only;rw[if_neg (by decide)];exact xS.trans xS2
   rintro σ H9 ⟨rfl,x9⟩
   o_head ⟨x9 _ _ eD8⟩
   exact⟨⟨_,rfl⟩,(x48.trans x9).set (x5.none nD)⟩
end
end LW
namespace LW
open PySem L2 MA PyProof.Rows
theorem nP{us:List Value}(h:us.length=1):∃u0,us=[u0]:=by
 obtain _|⟨u0,us⟩:=us
 ·cases h
 cases us with
 |nil=>exact⟨u0,rfl⟩
 |cons a r=>simp at h
theorem kh{us:List Value}(h:us.length=2):∃u0 u1,us=[u0,u1]:=by
 obtain _|⟨u0,us⟩:=us
 ·cases h
 obtain _|⟨u1,us⟩:=us
 ·cases h
 cases us with
 |nil=>exact⟨u0,u1,rfl⟩
 |cons a r=>simp at h
theorem oq{us:List Value}(h:us.length=3):∃u0 u1 u2,us=[u0,u1,u2]:=by
 obtain _|⟨u0,us⟩:=us
 ·cases h
 obtain _|⟨u1,us⟩:=us
 ·cases h
 obtain _|⟨u2,us⟩:=us
 ·cases h
 cases us with
 |nil=>exact⟨u0,u1,u2,rfl⟩
 |cons a r=>simp at h
theorem zQ{us:List Value}(h:us.length=4):∃u0 u1 u2 u3,us=[u0,u1,u2,u3]:=by
 obtain _|⟨u0,us⟩:=us
 ·cases h
 obtain _|⟨u1,us⟩:=us
 ·cases h
 obtain _|⟨u2,us⟩:=us
 ·cases h
 obtain _|⟨u3,us⟩:=us
 ·cases h
 cases us with
 |nil=>exact⟨u0,u1,u2,u3,rfl⟩
 |cons a r=>simp at h
theorem all_mk:AllMk:=by
 intro l w K h mg fa X G hfa f_divisor od_divisor an_divisor sl_divisor oc_divisor kV_divisor dc_divisor pm_divisor cd_divisor ct_divisor f_sign od_sign an_sign sl_sign oc_sign kV_sign dc_sign pm_sign cd_sign ct_sign f_point_of od_point_of an_point_of sl_point_of oc_point_of kV_point_of dc_point_of pm_point_of cd_point_of ct_point_of f_spot_point od_spot_point an_spot_point sl_spot_point oc_spot_point kV_spot_point dc_spot_point pm_spot_point cd_spot_point ct_spot_point f_ahead od_ahead an_ahead sl_ahead oc_ahead kV_ahead dc_ahead pm_ahead cd_ahead ct_ahead f_line_of od_line_of an_line_of sl_line_of oc_line_of kV_line_of dc_line_of pm_line_of cd_line_of ct_line_of f_between od_between an_between sl_between oc_between kV_between dc_between pm_between cd_between ct_between f_excess od_excess an_excess sl_excess oc_excess kV_excess dc_excess pm_excess cd_excess ct_excess f_check_box od_check_box an_check_box sl_check_box oc_check_box kV_check_box dc_check_box pm_check_box cd_check_box ct_check_box f_has_point od_has_point an_has_point sl_has_point oc_has_point kV_has_point dc_has_point pm_has_point cd_has_point ct_has_point f_in_box od_in_box an_in_box sl_in_box oc_in_box kV_in_box dc_in_box pm_in_box cd_in_box ct_in_box f_check_count od_check_count an_check_count sl_check_count oc_check_count kV_check_count dc_check_count pm_check_count cd_check_count ct_check_count f_check_box_and_spots od_check_box_and_spots an_check_box_and_spots sl_check_box_and_spots oc_check_box_and_spots kV_check_box_and_spots dc_check_box_and_spots pm_check_box_and_spots cd_check_box_and_spots ct_check_box_and_spots f_others_of od_others_of an_others_of sl_others_of oc_others_of kV_others_of dc_others_of pm_others_of cd_others_of ct_others_of f_are_unlike od_are_unlike an_are_unlike sl_are_unlike oc_are_unlike kV_are_unlike dc_are_unlike pm_are_unlike cd_are_unlike ct_are_unlike f_box_field od_box_field an_box_field sl_box_field oc_box_field kV_box_field dc_box_field pm_box_field cd_box_field ct_box_field f_crossing od_crossing an_crossing sl_crossing oc_crossing kV_crossing dc_crossing pm_crossing cd_crossing ct_crossing f_rest od_rest an_rest sl_rest oc_rest kV_rest dc_rest pm_rest cd_rest ct_rest f_from_first od_from_first an_from_first sl_from_first oc_from_first kV_from_first dc_from_first pm_from_first cd_from_first ct_from_first f_cut od_cut an_cut sl_cut oc_cut kV_cut dc_cut pm_cut cd_cut ct_cut f_cut_each od_cut_each an_cut_each sl_cut_each oc_cut_each kV_cut_each dc_cut_each pm_cut_each cd_cut_each ct_cut_each f_cut_off od_cut_off an_cut_off sl_cut_off oc_cut_off kV_cut_off dc_cut_off pm_cut_off cd_cut_off ct_cut_off f_land_within od_land_within an_land_within sl_land_within oc_land_within kV_land_within dc_land_within pm_land_within cd_land_within ct_land_within f_lands od_lands an_lands sl_lands oc_lands kV_lands dc_lands pm_lands cd_lands ct_lands f_check_lot od_check_lot an_check_lot sl_check_lot oc_check_lot kV_check_lot dc_check_lot pm_check_lot cd_check_lot ct_check_lot f_edge_before od_edge_before an_edge_before sl_edge_before oc_edge_before kV_edge_before dc_edge_before pm_edge_before cd_edge_before ct_edge_before f_ordered od_ordered an_ordered sl_ordered oc_ordered kV_ordered dc_ordered pm_ordered cd_ordered ct_ordered f_seam od_seam an_seam sl_seam oc_seam kV_seam dc_seam pm_seam cd_seam ct_seam f__law_feed od__law_feed an__law_feed sl__law_feed oc__law_feed kV__law_feed dc__law_feed pm__law_feed cd__law_feed ct__law_feed f__law_draw od__law_draw an__law_draw sl__law_draw oc__law_draw kV__law_draw dc__law_draw pm__law_draw cd__law_draw ct__law_draw f__law_great od__law_great an__law_great sl__law_great oc__law_great kV__law_great dc__law_great pm__law_great cd__law_great ct__law_great f__law_scale od__law_scale an__law_scale sl__law_scale oc__law_scale kV__law_scale dc__law_scale pm__law_scale cd__law_scale ct__law_scale f__law_spot od__law_spot an__law_spot sl__law_spot oc__law_spot kV__law_spot dc__law_spot pm__law_spot cd__law_spot ct__law_spot f__law_dozen od__law_dozen an__law_dozen sl__law_dozen oc__law_dozen kV__law_dozen dc__law_dozen pm__law_dozen cd__law_dozen ct__law_dozen f__law_spots od__law_spots an__law_spots sl__law_spots oc__law_spots kV__law_spots dc__law_spots pm__law_spots cd__law_spots ct__law_spots f__law_world od__law_world an__law_world sl__law_world oc__law_world kV__law_world dc__law_world pm__law_world cd__law_world ct__law_world f__law_lot od__law_lot an__law_lot sl__law_lot oc__law_lot kV__law_lot dc__law_lot pm__law_lot cd__law_lot ct__law_lot f__law_whole od__law_whole an__law_whole sl__law_whole oc__law_whole kV__law_whole dc__law_whole pm__law_whole cd__law_whole ct__law_whole f__law_divisor od__law_divisor an__law_divisor sl__law_divisor oc__law_divisor kV__law_divisor dc__law_divisor pm__law_divisor cd__law_divisor ct__law_divisor f__law_is_point od__law_is_point an__law_is_point sl__law_is_point oc__law_is_point kV__law_is_point dc__law_is_point pm__law_is_point cd__law_is_point ct__law_is_point f__law_way od__law_way an__law_way sl__law_way oc__law_way kV__law_way dc__law_way pm__law_way cd__law_way ct__law_way f__law_side od__law_side an__law_side sl__law_side oc__law_side kV__law_side dc__law_side pm__law_side cd__law_side ct__law_side f__law_ahead od__law_ahead an__law_ahead sl__law_ahead oc__law_ahead kV__law_ahead dc__law_ahead pm__law_ahead cd__law_ahead ct__law_ahead f__law_edge_right od__law_edge_right an__law_edge_right sl__law_edge_right oc__law_edge_right kV__law_edge_right dc__law_edge_right pm__law_edge_right cd__law_edge_right ct__law_edge_right f__law_sooner od__law_sooner an__law_sooner sl__law_sooner oc__law_sooner kV__law_sooner dc__law_sooner pm__law_sooner cd__law_sooner ct__law_sooner f__law_rows od__law_rows an__law_rows sl__law_rows oc__law_rows kV__law_rows dc__law_rows pm__law_rows cd__law_rows ct__law_rows f_law od_law an_law sl_law oc_law kV_law dc_law pm_law cd_law ct_law tk_MOST_SPOTS a_divisor l_divisor c_divisor k_divisor a_sign l_sign c_sign k_sign a_point_of l_point_of c_point_of k_point_of a_spot_point l_spot_point c_spot_point k_spot_point a_ahead l_ahead c_ahead k_ahead a_line_of l_line_of c_line_of k_line_of a_between l_between c_between k_between a_excess l_excess c_excess k_excess a_check_box l_check_box c_check_box k_check_box a_has_point l_has_point c_has_point k_has_point a_in_box l_in_box c_in_box k_in_box a_check_count l_check_count c_check_count k_check_count a_check_box_and_spots l_check_box_and_spots c_check_box_and_spots k_check_box_and_spots a_others_of l_others_of c_others_of k_others_of a_are_unlike l_are_unlike c_are_unlike k_are_unlike a_box_field l_box_field c_box_field k_box_field a_crossing l_crossing c_crossing k_crossing a_rest l_rest c_rest k_rest a_from_first l_from_first c_from_first k_from_first a_cut l_cut c_cut k_cut a_cut_each l_cut_each c_cut_each k_cut_each a_cut_off l_cut_off c_cut_off k_cut_off a_land_within l_land_within c_land_within k_land_within a_lands l_lands c_lands k_lands a_check_lot l_check_lot c_check_lot k_check_lot a_edge_before l_edge_before c_edge_before k_edge_before a_ordered l_ordered c_ordered k_ordered a_seam l_seam c_seam k_seam a__law_feed l__law_feed c__law_feed k__law_feed a__law_draw l__law_draw c__law_draw k__law_draw a__law_great l__law_great c__law_great k__law_great a__law_scale l__law_scale c__law_scale k__law_scale a__law_spot l__law_spot c__law_spot k__law_spot a__law_dozen l__law_dozen c__law_dozen k__law_dozen a__law_spots l__law_spots c__law_spots k__law_spots a__law_world l__law_world c__law_world k__law_world a__law_lot l__law_lot c__law_lot k__law_lot a__law_whole l__law_whole c__law_whole k__law_whole a__law_divisor l__law_divisor c__law_divisor k__law_divisor a__law_is_point l__law_is_point c__law_is_point k__law_is_point a__law_way l__law_way c__law_way k__law_way a__law_side l__law_side c__law_side k__law_side a__law_ahead l__law_ahead c__law_ahead k__law_ahead a__law_edge_right l__law_edge_right c__law_edge_right k__law_edge_right a__law_sooner l__law_sooner c__law_sooner k__law_sooner a__law_rows l__law_rows c__law_rows k__law_rows a_law l_law c_law k_law z_abs z_all z_bool z_enumerate z_int z_isinstance z_len z_list z_max z_min z_range z_set z_sorted z_tuple z_zip a_MOST_SPOTS;have e:=hfa.symm.trans (aJ X G a_law)
 cases e;have T:Txt K mg ⟨f_edge_before⟩:=⟨bq X G z_abs,bq X G z_all,bq X G z_bool,bq X G z_enumerate,bq X G z_int,bq X G z_isinstance,bq X G z_len,bq X G z_list,bq X G z_max,bq X G z_min,bq X G z_range,bq X G z_set,bq X G z_sorted,bq X G z_tuple,bq X G z_zip,aJ X G a_edge_before,⟨_,aJ X G a_MOST_SPOTS⟩⟩
 have U_divisor:=jd (st:=s_divisor) l_divisor c_divisor k_divisor
 have B_divisor:=U_divisor.binds (ps:=["one","other"]) fun _ _ _ _ _ _ us hl=>by obtain⟨u0,u1,rfl⟩:=kh hl;rfl
 have U_sign:=jd (st:=s_sign) l_sign c_sign k_sign
 have B_sign:=U_sign.binds (ps:=["number"]) fun _ _ _ _ _ _ us hl=>by obtain⟨u0,rfl⟩:=nP hl;rfl
 have U_point_of:=jd (st:=s_point_of) l_point_of c_point_of k_point_of
 have B_point_of:=U_point_of.binds (ps:=["x","y","w"]) fun _ _ _ _ _ _ us hl=>by obtain⟨u0,u1,u2,rfl⟩:=oq hl;rfl
 have U_spot_point:=jd (st:=s_spot_point) l_spot_point c_spot_point k_spot_point
 have B_spot_point:=U_spot_point.binds (ps:=["spot"]) fun _ _ _ _ _ _ us hl=>by obtain⟨u0,rfl⟩:=nP hl;rfl
 have U_ahead:=jd (st:=s_ahead) l_ahead c_ahead k_ahead
 have B_ahead:=U_ahead.binds (ps:=["one","other"]) fun _ _ _ _ _ _ us hl=>by obtain⟨u0,u1,rfl⟩:=kh hl;rfl
 have U_line_of:=jd (st:=s_line_of) l_line_of c_line_of k_line_of
 have B_line_of:=U_line_of.binds (ps:=["a","b","c"]) fun _ _ _ _ _ _ us hl=>by obtain⟨u0,u1,u2,rfl⟩:=oq hl;rfl
 have U_between:=jd (st:=s_between) l_between c_between k_between
 have B_between:=U_between.binds (ps:=["one","other"]) fun _ _ _ _ _ _ us hl=>by obtain⟨u0,u1,rfl⟩:=kh hl;rfl
 have U_excess:=jd (st:=s_excess) l_excess c_excess k_excess
 have B_excess:=U_excess.binds (ps:=["line","point"]) fun _ _ _ _ _ _ us hl=>by obtain⟨u0,u1,rfl⟩:=kh hl;rfl
 have U_check_box:=jd (st:=s_check_box) l_check_box c_check_box k_check_box
 have B_check_box:=U_check_box.binds (ps:=["box"]) fun _ _ _ _ _ _ us hl=>by obtain⟨u0,rfl⟩:=nP hl;rfl
 have U_has_point:=jd (st:=s_has_point) l_has_point c_has_point k_has_point
 have B_has_point:=U_has_point.binds (ps:=["box","point"]) fun _ _ _ _ _ _ us hl=>by obtain⟨u0,u1,rfl⟩:=kh hl;rfl
 have U_in_box:=jd (st:=s_in_box) l_in_box c_in_box k_in_box
 have B_in_box:=U_in_box.binds (ps:=["box","spot"]) fun _ _ _ _ _ _ us hl=>by obtain⟨u0,u1,rfl⟩:=kh hl;rfl
 have U_check_count:=jd (st:=s_check_count) l_check_count c_check_count k_check_count
 have B_check_count:=U_check_count.binds (ps:=["spots"]) fun _ _ _ _ _ _ us hl=>by obtain⟨u0,rfl⟩:=nP hl;rfl
 have U_check_box_and_spots:=jd (st:=s_check_box_and_spots) l_check_box_and_spots c_check_box_and_spots k_check_box_and_spots
 have B_check_box_and_spots:=U_check_box_and_spots.binds (ps:=["box","spots"]) fun _ _ _ _ _ _ us hl=>by obtain⟨u0,u1,rfl⟩:=kh hl;rfl
 have U_others_of:=jd (st:=s_others_of) l_others_of c_others_of k_others_of
 have B_others_of:=U_others_of.binds (ps:=["spots","number"]) fun _ _ _ _ _ _ us hl=>by obtain⟨u0,u1,rfl⟩:=kh hl;rfl
 have U_are_unlike:=jd (st:=s_are_unlike) l_are_unlike c_are_unlike k_are_unlike
 have B_are_unlike:=U_are_unlike.binds (ps:=["spots","numbers"]) fun _ _ _ _ _ _ us hl=>by obtain⟨u0,u1,rfl⟩:=kh hl;rfl
 have U_box_field:=jd (st:=s_box_field) l_box_field c_box_field k_box_field
 have B_box_field:=U_box_field.binds (ps:=["box"]) fun _ _ _ _ _ _ us hl=>by obtain⟨u0,rfl⟩:=nP hl;rfl
 have U_crossing:=jd (st:=s_crossing) l_crossing c_crossing k_crossing
 have B_crossing:=U_crossing.binds (ps:=["one","other","here","there"]) fun _ _ _ _ _ _ us hl=>by obtain⟨u0,u1,u2,u3,rfl⟩:=zQ hl;rfl
 have U_rest:=jd (st:=s_rest) l_rest c_rest k_rest
 have B_rest:=U_rest.binds (ps:=["corners","edges","excesses","number"]) fun _ _ _ _ _ _ us hl=>by obtain⟨u0,u1,u2,u3,rfl⟩:=zQ hl;rfl
 have U_from_first:=jd (st:=s_from_first) l_from_first c_from_first k_from_first
 have B_from_first:=U_from_first.binds (ps:=["rows"]) fun _ _ _ _ _ _ us hl=>by obtain⟨u0,rfl⟩:=nP hl;rfl
 have U_cut:=jd (st:=s_cut) l_cut c_cut k_cut
 have B_cut:=U_cut.binds (ps:=["field","line","number"]) fun _ _ _ _ _ _ us hl=>by obtain⟨u0,u1,u2,rfl⟩:=oq hl;rfl
 have U_cut_each:=jd (st:=s_cut_each) l_cut_each c_cut_each k_cut_each
 have B_cut_each:=U_cut_each.binds (ps:=["field","cuts"]) fun _ _ _ _ _ _ us hl=>by obtain⟨u0,u1,rfl⟩:=kh hl;rfl
 have U_cut_off:=jd (st:=s_cut_off) l_cut_off c_cut_off k_cut_off
 have B_cut_off:=U_cut_off.binds (ps:=["field","spots","number","others"]) fun _ _ _ _ _ _ us hl=>by obtain⟨u0,u1,u2,u3,rfl⟩:=zQ hl;rfl
 have U_land_within:=jd (st:=s_land_within) l_land_within c_land_within k_land_within
 have B_land_within:=U_land_within.binds (ps:=["box","spots","number"]) fun _ _ _ _ _ _ us hl=>by obtain⟨u0,u1,u2,rfl⟩:=oq hl;rfl
 have U_lands:=jd (st:=s_lands) l_lands c_lands k_lands
 have B_lands:=U_lands.binds (ps:=["box","spots"]) fun _ _ _ _ _ _ us hl=>by obtain⟨u0,u1,rfl⟩:=kh hl;rfl
 have U_check_lot:=jd (st:=s_check_lot) l_check_lot c_check_lot k_check_lot
 have B_check_lot:=U_check_lot.binds (ps:=["box","spots","lot"]) fun _ _ _ _ _ _ us hl=>by obtain⟨u0,u1,u2,rfl⟩:=oq hl;rfl
 have U_edge_before:=jd (st:=s_edge_before) l_edge_before c_edge_before k_edge_before
 have B_edge_before:=U_edge_before.binds (ps:=["one","other"]) fun _ _ _ _ _ _ us hl=>by obtain⟨u0,u1,rfl⟩:=kh hl;rfl
 have U_ordered:=jd (st:=s_ordered) l_ordered c_ordered k_ordered
 have B_ordered:=U_ordered.binds (ps:=["things","before"]) fun _ _ _ _ _ _ us hl=>by obtain⟨u0,u1,rfl⟩:=kh hl;rfl
 have U_seam:=jd (st:=s_seam) l_seam c_seam k_seam
 have B_seam:=U_seam.binds (ps:=["box","spots","lot"]) fun _ _ _ _ _ _ us hl=>by obtain⟨u0,u1,u2,rfl⟩:=oq hl;rfl
 have U__law_feed:=jd (st:=s__law_feed) l__law_feed c__law_feed k__law_feed
 have B__law_feed:=U__law_feed.binds (ps:=["_law_script"]) fun _ _ _ _ _ _ us hl=>by obtain⟨u0,rfl⟩:=nP hl;rfl
 have U__law_draw:=jd (st:=s__law_draw) l__law_draw c__law_draw k__law_draw
 have B__law_draw:=U__law_draw.binds (ps:=["_law_feed_here","_law_many"]) fun _ _ _ _ _ _ us hl=>by obtain⟨u0,u1,rfl⟩:=kh hl;rfl
 have U__law_great:=jd (st:=s__law_great) l__law_great c__law_great k__law_great
 have B__law_great:=U__law_great.binds (ps:=["_law_feed_here","_law_pieces"]) fun _ _ _ _ _ _ us hl=>by obtain⟨u0,u1,rfl⟩:=kh hl;rfl
 have U__law_scale:=jd (st:=s__law_scale) l__law_scale c__law_scale k__law_scale
 have B__law_scale:=U__law_scale.binds (ps:=["_law_feed_here"]) fun _ _ _ _ _ _ us hl=>by obtain⟨u0,rfl⟩:=nP hl;rfl
 have U__law_spot:=jd (st:=s__law_spot) l__law_spot c__law_spot k__law_spot
 have B__law_spot:=U__law_spot.binds (ps:=["_law_feed_here","_law_style"]) fun _ _ _ _ _ _ us hl=>by obtain⟨u0,u1,rfl⟩:=kh hl;rfl
 have U__law_dozen:=jd (st:=s__law_dozen) l__law_dozen c__law_dozen k__law_dozen
 have B__law_dozen:=U__law_dozen.binds (ps:=["_law_feed_here"]) fun _ _ _ _ _ _ us hl=>by obtain⟨u0,rfl⟩:=nP hl;rfl
 have U__law_spots:=jd (st:=s__law_spots) l__law_spots c__law_spots k__law_spots
 have B__law_spots:=U__law_spots.binds (ps:=["_law_feed_here","_law_least","_law_most"]) fun _ _ _ _ _ _ us hl=>by obtain⟨u0,u1,u2,rfl⟩:=oq hl;rfl
 have U__law_world:=jd (st:=s__law_world) l__law_world c__law_world k__law_world
 have B__law_world:=U__law_world.binds (ps:=["_law_feed_here","_law_least","_law_most"]) fun _ _ _ _ _ _ us hl=>by obtain⟨u0,u1,u2,rfl⟩:=oq hl;rfl
 have U__law_lot:=jd (st:=s__law_lot) l__law_lot c__law_lot k__law_lot
 have B__law_lot:=U__law_lot.binds (ps:=["_law_feed_here","_law_many"]) fun _ _ _ _ _ _ us hl=>by obtain⟨u0,u1,rfl⟩:=kh hl;rfl
 have U__law_whole:=jd (st:=s__law_whole) l__law_whole c__law_whole k__law_whole
 have B__law_whole:=U__law_whole.binds (ps:=["_law_thing"]) fun _ _ _ _ _ _ us hl=>by obtain⟨u0,rfl⟩:=nP hl;rfl
 have U__law_divisor:=jd (st:=s__law_divisor) l__law_divisor c__law_divisor k__law_divisor
 have B__law_divisor:=U__law_divisor.binds (ps:=["_law_one","_law_other"]) fun _ _ _ _ _ _ us hl=>by obtain⟨u0,u1,rfl⟩:=kh hl;rfl
 have U__law_is_point:=jd (st:=s__law_is_point) l__law_is_point c__law_is_point k__law_is_point
 have B__law_is_point:=U__law_is_point.binds (ps:=["_law_thing"]) fun _ _ _ _ _ _ us hl=>by obtain⟨u0,rfl⟩:=nP hl;rfl
 have U__law_way:=jd (st:=s__law_way) l__law_way c__law_way k__law_way
 have B__law_way:=U__law_way.binds (ps:=["_law_point","_law_spot_here"]) fun _ _ _ _ _ _ us hl=>by obtain⟨u0,u1,rfl⟩:=kh hl;rfl
 have U__law_side:=jd (st:=s__law_side) l__law_side c__law_side k__law_side
 have B__law_side:=U__law_side.binds (ps:=["_law_one","_law_other","_law_third"]) fun _ _ _ _ _ _ us hl=>by obtain⟨u0,u1,u2,rfl⟩:=oq hl;rfl
 have U__law_ahead:=jd (st:=s__law_ahead) l__law_ahead c__law_ahead k__law_ahead
 have B__law_ahead:=U__law_ahead.binds (ps:=["_law_one","_law_other"]) fun _ _ _ _ _ _ us hl=>by obtain⟨u0,u1,rfl⟩:=kh hl;rfl
 have U__law_edge_right:=jd (st:=s__law_edge_right) l__law_edge_right c__law_edge_right k__law_edge_right
 have B__law_edge_right:=U__law_edge_right.binds (ps:=["_law_spots_here","_law_lot_here","_law_row"]) fun _ _ _ _ _ _ us hl=>by obtain⟨u0,u1,u2,rfl⟩:=oq hl;rfl
 have U__law_sooner:=jd (st:=s__law_sooner) l__law_sooner c__law_sooner k__law_sooner
 have B__law_sooner:=U__law_sooner.binds (ps:=["_law_one","_law_other"]) fun _ _ _ _ _ _ us hl=>by obtain⟨u0,u1,rfl⟩:=kh hl;rfl
 have U__law_rows:=jd (st:=s__law_rows) l__law_rows c__law_rows k__law_rows
 have B__law_rows:=U__law_rows.binds (ps:=["_law_fields","_law_lot_here"]) fun _ _ _ _ _ _ us hl=>by obtain⟨u0,u1,rfl⟩:=kh hl;rfl
 have U_law:=jd (st:=s_law) l_law c_law k_law
 refine⟨aK "law" "law" (i5 s_law) (i0 s_law) (iL s_law) .none kV_law dc_law pm_law an_law cd_law ct_law,fun s v=> .of_eq rfl,fun base X1 G1=> ?_⟩;have F_divisor:FnB l.prog w K mg base (CXE l.prog w) 1 "divisor" ["one","other"] j3:= .of (ok_divisor U_divisor T) (aJ X G a_divisor) k_divisor B_divisor
 have F_sign:FnB l.prog w K mg base (CXE l.prog w) 1 "sign" ["number"] oZ:= .of (ok_sign U_sign T) (aJ X G a_sign) k_sign B_sign
 have F_point_of:FnB l.prog w K mg base (CXE l.prog w) 2 "point_of" ["x","y","w"] kF:= .of (ok_point_of U_point_of T F_divisor F_sign) (aJ X G a_point_of) k_point_of B_point_of
 have F_spot_point:FnB l.prog w K mg base (CXE l.prog w) 1 "spot_point" ["spot"] jY:= .of (ok_spot_point U_spot_point T) (aJ X G a_spot_point) k_spot_point B_spot_point
 have F_ahead:FnB l.prog w K mg base (CXE l.prog w) 1 "ahead" ["one","other"] lC:= .of (ok_ahead U_ahead T) (aJ X G a_ahead) k_ahead B_ahead
 have F_line_of:FnB l.prog w K mg base (CXE l.prog w) 2 "line_of" ["a","b","c"] lA:= .of (ok_line_of U_line_of T F_divisor) (aJ X G a_line_of) k_line_of B_line_of
 have F_between:FnB l.prog w K mg base (CXE l.prog w) 3 "between" ["one","other"] lB:= .of (ok_between U_between T F_line_of) (aJ X G a_between) k_between B_between
 have F_excess:FnB l.prog w K mg base (CXE l.prog w) 1 "excess" ["line","point"] lV:= .of (ok_excess U_excess T) (aJ X G a_excess) k_excess B_excess
 have F_check_box:FnB l.prog w K mg base (CXE l.prog w) 1 "check_box" ["box"] jL:= .of (ok_check_box U_check_box T) (aJ X G a_check_box) k_check_box B_check_box
 have F_has_point:FnB l.prog w K mg base (CXE l.prog w) 1 "has_point" ["box","point"] k7:= .of (ok_has_point U_has_point T) (aJ X G a_has_point) k_has_point B_has_point
 have F_in_box:FnB l.prog w K mg base (CXE l.prog w) 2 "in_box" ["box","spot"] lT:= .of (ok_in_box U_in_box T F_spot_point F_has_point) (aJ X G a_in_box) k_in_box B_in_box
 have F_check_count:FnB l.prog w K mg base (CXE l.prog w) 1 "check_count" ["spots"] jS:= .of (ok_check_count U_check_count T) (aJ X G a_check_count) k_check_count B_check_count
 have F_check_box_and_spots:FnB l.prog w K mg base (CXE l.prog w) 3 "check_box_and_spots" ["box","spots"] (oz K):= .of (ok_check_box_and_spots U_check_box_and_spots T F_in_box F_check_count F_check_box) (aJ X G a_check_box_and_spots) k_check_box_and_spots B_check_box_and_spots
 have F_others_of:FnB l.prog w K mg base (CXE l.prog w) 1 "others_of" ["spots","number"] ny:= .of (ok_others_of U_others_of T) (aJ X G a_others_of) k_others_of B_others_of
 have F_are_unlike:FnB l.prog w K mg base (CXE l.prog w) 1 "are_unlike" ["spots","numbers"] (nu K):= .of (ok_are_unlike U_are_unlike T) (aJ X G a_are_unlike) k_are_unlike B_are_unlike
 have F_box_field:FnB l.prog w K mg base (CXE l.prog w) 2 "box_field" ["box"] km:= .of (ok_box_field U_box_field T F_check_box) (aJ X G a_box_field) k_box_field B_box_field
 have F_crossing:FnB l.prog w K mg base (CXE l.prog w) 3 "crossing" ["one","other","here","there"] kH:= .of (ok_crossing U_crossing T F_point_of) (aJ X G a_crossing) k_crossing B_crossing
 have F_rest:FnB l.prog w K mg base (CXE l.prog w) 4 "rest" ["corners","edges","excesses","number"] (rn K):= .of (ok_rest U_rest T F_crossing) (aJ X G a_rest) k_rest B_rest
 have F_from_first:FnB l.prog w K mg base (CXE l.prog w) 2 "from_first" ["rows"] (kG K):= .of (ok_from_first U_from_first T F_ahead) (aJ X G a_from_first) k_from_first B_from_first
 have F_cut:FnB l.prog w K mg base (CXE l.prog w) 5 "cut" ["field","line","number"] (sJ K):= .of (ok_cut U_cut T F_rest F_from_first F_excess) (aJ X G a_cut) k_cut B_cut
 have F_cut_each:FnB l.prog w K mg base (CXE l.prog w) 6 "cut_each" ["field","cuts"] (mB K):= .of (ok_cut_each U_cut_each T F_cut) (aJ X G a_cut_each) k_cut_each B_cut_each
 have F_cut_off:FnB l.prog w K mg base (CXE l.prog w) 7 "cut_off" ["field","spots","number","others"] (nA K):= .of (ok_cut_off U_cut_off T F_between F_cut_each) (aJ X G a_cut_off) k_cut_off B_cut_off
 have F_land_within:FnB l.prog w K mg base (CXE l.prog w) 8 "land_within" ["box","spots","number"] (lS K):= .of (ok_land_within U_land_within T F_others_of F_box_field F_cut_off) (aJ X G a_land_within) k_land_within B_land_within
 have F_lands:FnB l.prog w K mg base (CXE l.prog w) 9 "lands" ["box","spots"] (pj K):= .of (ok_lands U_lands T F_land_within F_check_box_and_spots) (aJ X G a_lands) k_lands B_lands
 have F_check_lot:FnB l.prog w K mg base (CXE l.prog w) 4 "check_lot" ["box","spots","lot"] (kI K):= .of (ok_check_lot U_check_lot T F_are_unlike F_check_box_and_spots) (aJ X G a_check_lot) k_check_lot B_check_lot
 have F_edge_before:FnB l.prog w K mg base (CXE l.prog w) 2 "edge_before" ["one","other"] (yX K):= .of (ok_edge_before U_edge_before T F_ahead) (aJ X G a_edge_before) k_edge_before B_edge_before
 have F_ordered:FnB l.prog w K mg base (CXE l.prog w) 3 "ordered" ["things","before"] (ly K ⟨f_edge_before⟩):= .of (ok_ordered U_ordered T F_edge_before) (aJ X G a_ordered) k_ordered B_ordered
 have F_seam:FnB l.prog w K mg base (CXE l.prog w) 9 "seam" ["box","spots","lot"] (pf K ⟨f_edge_before⟩):= .of (ok_seam U_seam T F_ordered F_land_within F_check_lot) (aJ X G a_seam) k_seam B_seam
 have F__law_feed:FnB l.prog w K mg base (CXE l.prog w) 1 "_law_feed" ["_law_script"] (pq K):= .of (ok__law_feed U__law_feed T) (aJ X G a__law_feed) k__law_feed B__law_feed
 have F__law_draw:FnB l.prog w K mg base (CXE l.prog w) 1 "_law_draw" ["_law_feed_here","_law_many"] jj:= .of (ok__law_draw U__law_draw T) (aJ X G a__law_draw) k__law_draw B__law_draw
 have F__law_great:FnB l.prog w K mg base (CXE l.prog w) 2 "_law_great" ["_law_feed_here","_law_pieces"] mV:= .of (ok__law_great U__law_great T F__law_draw) (aJ X G a__law_great) k__law_great B__law_great
 have F__law_scale:FnB l.prog w K mg base (CXE l.prog w) 3 "_law_scale" ["_law_feed_here"] mU:= .of (ok__law_scale U__law_scale T F__law_great F__law_draw) (aJ X G a__law_scale) k__law_scale B__law_scale
 have F__law_spot:FnB l.prog w K mg base (CXE l.prog w) 2 "_law_spot" ["_law_feed_here","_law_style"] oY:= .of (ok__law_spot U__law_spot T F__law_draw) (aJ X G a__law_spot) k__law_spot B__law_spot
 have F__law_dozen:FnB l.prog w K mg base (CXE l.prog w) 2 "_law_dozen" ["_law_feed_here"] mW:= .of (ok__law_dozen U__law_dozen T F__law_draw) (aJ X G a__law_dozen) k__law_dozen B__law_dozen
 have F__law_spots:FnB l.prog w K mg base (CXE l.prog w) 3 "_law_spots" ["_law_feed_here","_law_least","_law_most"] (mT K):= .of (ok__law_spots U__law_spots T F__law_draw F__law_spot F__law_dozen) (aJ X G a__law_spots) k__law_spots B__law_spots
 have F__law_world:FnB l.prog w K mg base (CXE l.prog w) 4 "_law_world" ["_law_feed_here","_law_least","_law_most"] (mS K):= .of (ok__law_world U__law_world T F__law_draw F__law_scale F__law_spots) (aJ X G a__law_world) k__law_world B__law_world
 have F__law_lot:FnB l.prog w K mg base (CXE l.prog w) 2 "_law_lot" ["_law_feed_here","_law_many"] (sH K):= .of (ok__law_lot U__law_lot T F__law_draw) (aJ X G a__law_lot) k__law_lot B__law_lot
 have F__law_whole:FnB l.prog w K mg base (CXE l.prog w) 1 "_law_whole" ["_law_thing"] jE:= .of (ok__law_whole U__law_whole T) (aJ X G a__law_whole) k__law_whole B__law_whole
 have F__law_divisor:FnB l.prog w K mg base (CXE l.prog w) 1 "_law_divisor" ["_law_one","_law_other"] jM:= .of (ok__law_divisor U__law_divisor T) (aJ X G a__law_divisor) k__law_divisor B__law_divisor
 have F__law_is_point:FnB l.prog w K mg base (CXE l.prog w) 2 "_law_is_point" ["_law_thing"] (pk K):= .of (ok__law_is_point U__law_is_point T F__law_divisor F__law_whole) (aJ X G a__law_is_point) k__law_is_point B__law_is_point
 have F__law_way:FnB l.prog w K mg base (CXE l.prog w) 1 "_law_way" ["_law_point","_law_spot_here"] sF:= .of (ok__law_way U__law_way T) (aJ X G a__law_way) k__law_way B__law_way
 have F__law_side:FnB l.prog w K mg base (CXE l.prog w) 1 "_law_side" ["_law_one","_law_other","_law_third"] pd:= .of (ok__law_side U__law_side T) (aJ X G a__law_side) k__law_side B__law_side
 have F__law_ahead:FnB l.prog w K mg base (CXE l.prog w) 1 "_law_ahead" ["_law_one","_law_other"] jZ:= .of (ok__law_ahead U__law_ahead T) (aJ X G a__law_ahead) k__law_ahead B__law_ahead
 have F__law_edge_right:FnB l.prog w K mg base (CXE l.prog w) 3 "_law_edge_right" ["_law_spots_here","_law_lot_here","_law_row"] (lW K):= .of (ok__law_edge_right U__law_edge_right T F__law_side F__law_way F__law_whole F__law_is_point) (aJ X G a__law_edge_right) k__law_edge_right B__law_edge_right
 have F__law_sooner:FnB l.prog w K mg base (CXE l.prog w) 2 "_law_sooner" ["_law_one","_law_other"] (nv K):= .of (ok__law_sooner U__law_sooner T F__law_ahead) (aJ X G a__law_sooner) k__law_sooner B__law_sooner
 have F__law_rows:FnB l.prog w K mg base (CXE l.prog w) 1 "_law_rows" ["_law_fields","_law_lot_here"] (ph K):= .of (ok__law_rows U__law_rows T) (aJ X G a__law_rows) k__law_rows B__law_rows
 exact ok_law U_law T F__law_sooner F__law_edge_right F_seam F_lands F__law_rows F__law_lot F__law_world F__law_feed
end LW
end
theorem PySem.Challenge.cw_nearlands_k41_the_seam_holds : PySem.Challenge.rw_nearlands_k41_the_seam.Holds := by
 exact LW.early LW.all_mk
