import PyProof.Rows.All
import Wide.All
import OpenK.AllK
import Wide.FinOn
import Lean
import PyProof.EqAt
import PyProof.EqKinds
import PyProof.TupleCall
import PyProof.ExcArgsOwn
import PyProof.ExcAttrAll.ValueError
import KE.KTryMore
import PyProof.NsDelKeeps
import PyProof.ExcBaseAll.ValueError
import KE.RegKTryMore
import KE.RegKIsAll
import KE.KRevSl
import PyProof.ZipIter
import PyProof.DictIter
import KE.KDictIter
import KE.KDictList
import PyProof.EnumStmt
import PyProof.WalksEnum
import PyProof.EnumMake
import PyProof.Rows.EnumRows
import PyProof.Rows.InDataRows
import PyProof.SumWalk
import PyProof.Rows.SeqCalls
import PyProof.WalksMore
import PyProof.Rows.SetFrom
import PyProof.SetRoads
import PyProof.Rows.TupMore
import PyProof.Rows.SortWalk
import PyProof.ListRange
import KE.KSortTup
import KE.KLam
import PyProof.ListRange
import PySem.Challenge.RW_nearlands_k54_ties
open PySem.W renaming Frag → af, nsIn → au, keepIn → av, codeIn → az, fnOf → aB, mg_of → aG, mg_none_of → aS, kia_one → aW, findIn → bC, mroIn → cF, kitOne → cN, methodObj → cP, specialIn → cR, cellsFrom_some → dc, instObj → dg, OpenLaw → di, takesIn → dk, lookIn → dE, kitx_list → dZ, kitx_dict → d4, plainGet → ef, WalkO → eR, clsIn → eU
open List renaming length_map → ag, getElem?_eq_some_iff → ah, getElem?_eq_getElem → aj, size_toArray → ao, getElem?_map → ar, range → aw, getD_eq_getElem?_getD → aA, mem_append_right → aC, mem_cons → aD, length_append → aE, mem_cons_of_mem → aF, getElem?_append_right → aI, mem_of_getElem? → aK, getElem?_append_left → aL, map_append → aM, map_cons → aO, mem_cons_self → aP, toArray → aQ, mem_range → aT, length_range → aU, nodup_cons → aX, length_take → aZ, length_cons → a9, mem_append_left → bh, mem_singleton → bq, lookup_cons → br, mem_map → bu, length_nil → bw, replicate_succ → bz, getElem?_of_mem → bF, mem_append → bG, getElem?_cons_zero → bM, getElem?_cons_succ → bN, replicate_zero → bO, not_mem_nil → bP, take_of_length_le → bR, map_nil → bT, append_nil → bU, find?_cons → bV, getElem?_eq_none → bX, drop_zero → b5, cons_append → b7, take_length → b8, cons_inj_right → b9, drop_succ_cons → cb, getElem?_take_of_lt → cf, getElem?_replicate → ck, set_cons_zero → cp, set_cons_succ → cq, nil_append → cu, pairwise_map → cy, length_replicate → cz, getElem_inj → cA, Nodup → cG, filterMap_cons → cH, perm_ext_iff_of_nodup → cL, pairwise_iff_getElem → cO, dropLast → cT, getLast? → cU, pairwise_singleton → cV, length_drop → cW, all_eq_true → cX, nodup_range → cY, getElem?_set_self → da, mem_filter → dh, of_mem_zip → dm, length_singleton → dn, getElem?_set_ne → dD, replicate → dF, nodup_nil → dG, take_succ → dI, map_congr_left → dO, mem_filterMap → dQ, any_cons → dR, cons → dU, any_eq_false → dY, reverse_cons → d5, ext_getElem? → d6, take_add_one → d9, filter_cons → ei, getElem_mem → el, forIn_cons → eG, map_take → eY, getD → fg
open Nat renaming le_refl → ak, lt_of_lt_of_le → aq, ne_of_lt → ax, zero_le → aN, lt_irrefl → bf, le_trans → bj, lt_of_le_of_lt → bp, le_of_lt → bt, min_eq_right → cC, pow_le_pow_right → cE, max_eq_left → cJ, min_eq_left → cK, max_eq_right → cZ, ne_of_gt → dj, lt_trans → dq, zero_add → dv, sub_self → dz, lt_or_gt_of_ne → dX, lt_succ_of_lt → d7, succ_ne_self → em, le_succ → eI
open PySem renaming Spec → am, boot_len → aY, mem_of_lookup → bL, Builtin → dS, call → eQ, Within → eZ
open Int renaming gcd → ay, gcd_eq_natAbs_gcd_natAbs → aR, lt_or_gt_of_ne → bg, le_of_lt → bo, emod_lt_of_pos → bB, mul_eq_zero → bI, mul_le_mul_of_nonneg_right → bJ, mul_nonneg → bQ, emod_nonneg → bW, mul_lt_mul_of_pos_right → bZ, neg_mul → cc, mul_ediv_cancel_left → cg, cast_ofNat_Int → cw, toNat_natCast → cS, neg_mul_neg → dr, le_antisymm → du, natAbs_dvd_natAbs → dA, natAbs_mul → dH, gcd_eq_zero_iff → dJ, mul_neg → dM, mul_pos → dN, gcd_dvd_right → d8, gcd_dvd_left → eo, lt_of_not_ge → eB, mul_one → eF
open Option renaming some → aH, isSome_iff_exists → bH, isSome_some → bS, map_some → cm, join_some → cB, getD_none → eh, none → fh
open Or renaming inl → aJ, inr → ee
open Bool renaming false_eq_true → aV, and_eq_true → b6, true_eq_false → cv, not_eq_true' → cx, false_ne_true → cM, and_eq_true_iff → dC, eq_iff_iff → eJ, false_and → eM, false_or → eS
open PyProof.Rows renaming callWith_type1 → bv
open Array renaming getElem?_toList → bA, getElem?_eq_getElem → bE, length_toList → bK, getD_eq_getD_getElem? → bY, getD → dB, append_assoc → dP
open List.Perm renaming eq_of_pairwise → cj, refl → eN
open PySem.F renaming plainAttrs_list → cn
open List.Pairwise renaming nil → cQ
open PySem.AutoSeq1 renaming list_insert_list_int_val_1 → df
open Prod renaming ext → dW, fst → eV
set_option Elab.async false
set_option linter.all false
set_option maxRecDepth 100000
namespace L2
open PySem PySem.Spec PyProof.Rows
noncomputable abbrev Key:=Sum Int Str
noncomputable def kW:Key ->Value ->Bool
 | .inl k,v=>Value.isInt k v
 | .inr x,v=>Value.isStrOf x v
noncomputable def sE(w:World):Key ->Int
 | .inl k=>hashInt k
 | .inr x=>hashStr w x
theorem fS:∀{k:Key} {v:Value},kW k v=true ->(∃i t,k=Sum.inl i /\ v=Value.int i t)∨(∃x t,k=Sum.inr x /\ v=Value.str x t)
 | .inl i,v,h=>by
  obtain⟨t,e⟩:=Value.isInt_shape (k:=i) (v:=v) h
  exact .inl ⟨i,t,rfl,e⟩
 | .inr x,v,h=>by
  obtain⟨t,e⟩:=Value.isStrOf_shape (x:=x) (v:=v) h
  exact .inr ⟨x,t,rfl,e⟩
theorem qE(a b:Int):decide ((Sum.inl a:Key)=Sum.inl b)=(a==b):=by
 by_cases e:a=b
 ·subst e;simp
 ·have h:¬(Sum.inl a:Key)=Sum.inl b:=fun q=>e (Sum.inl.inj q)
  rw[decide_eq_false h];exact(beq_eq_false_iff_ne.mpr e).symm
theorem qB(a b:Str):decide ((Sum.inr a:Key)=Sum.inr b)=decide (a=b):=by
 by_cases e:a=b
 ·subst e;simp
 ·have h:¬(Sum.inr a:Key)=Sum.inr b:=fun q=>e (Sum.inr.inj q)
  rw[decide_eq_false h,decide_eq_false e]
theorem qD(a:Int)(b:Str):decide ((Sum.inl a:Key)=Sum.inr b)=false:=decide_eq_false (fun q=>nomatch q)
theorem qC(a:Str)(b:Int):decide ((Sum.inr a:Key)=Sum.inl b)=false:=decide_eq_false (fun q=>nomatch q)
noncomputable def gc(prog:Program)(w:World):PySem.KeyKind prog w Key where
 is:=kW
 hash:=sE w
 inj:=fun v a b ha hb=>by
  rcases fS ha with⟨i,t,rfl,rfl⟩|⟨x,t,rfl,rfl⟩
  ·rcases fS hb with⟨j,u,rfl,e⟩|⟨y,u,rfl,e⟩
   ·injection e with e1 _;rw[e1]
   ·exact nomatch e
  ·rcases fS hb with⟨j,u,rfl,e⟩|⟨y,u,rfl,e⟩
   ·exact nomatch e
   ·injection e with e1 _;rw[e1]
 byValue:=fun k v h=>by
  rcases fS h with⟨i,t,rfl,rfl⟩|⟨x,t,rfl,rfl⟩<;>rfl
 pyHash:=fun hv h=>by
  rcases fS hv with⟨i,t,rfl,rfl⟩|⟨x,t,rfl,rfl⟩
  ·exact wpAny_pyHash_int h
  ·exact wpAny_pyHash_str h
 eqBool:=fun hu hv h=>by
  rcases fS hu with⟨i,t,rfl,rfl⟩|⟨x,t,rfl,rfl⟩
  ·rcases fS hv with⟨j,u,rfl,rfl⟩|⟨y,u,rfl,rfl⟩
   ·rw[qE] at h;exact wpAny_eqBool_int h
   ·rw[qD] at h;exact SeqAt.EqAt.int_str i t y u _ _ _ _ h
  ·rcases fS hv with⟨j,u,rfl,rfl⟩|⟨y,u,rfl,rfl⟩
   ·rw[qC] at h;exact SeqAt.EqAt.str_int x t j u _ _ _ _ h
   ·rw[qB] at h;exact wpAny_eqBool_str h
 «strs»:=fun k x t v h=>by
  rcases fS h with⟨i,u,rfl,e⟩|⟨y,u,rfl,e⟩
  ·exact nomatch e
  ·injection e with e1 _
   subst e1;cases v<;>rfl
end L2

namespace L2
open PySem PySem.Spec PyProof.Rows
inductive V where
 |non|bl (b:Bool)|int (i:Int)|str (x:Str)|byt (b:Array UInt8)|flt (b:UInt64)|ref (a:Addr)|ty (n:String)
 deriving DecidableEq
noncomputable def RelV:V ->Value ->Prop
 | .non,u=>u=Value.none
 | .bl b,u=>u=Value.bool b
 | .int i,u=>∃t,u=Value.int i t
 | .str x,u=>∃t,u=Value.str x t
 | .byt b,u=>∃t,u=Value.bytes b t
 | .flt b,u=>∃t,u=Value.float b t
 | .ref a,u=>u=Value.ref a
 | .ty n,u=>u=Value.type n
noncomputable abbrev Vals:List V ->List Value ->Prop:=Paired RelV
theorem Vals.length{xs:List V}{us:List Value}(r:Vals xs us):xs.length=us.length:=Paired.length r
theorem Vals.set{x:V}{u:Value}(r:RelV x u):∀{xs:List V} {us:List Value} (i:Nat),Vals xs us ->Vals (xs.set i x) (us.set i u)
 |_,_,_,.nil=> .nil
 |_,_,0,.cons _ t=> .cons r t
 |_,_,i+1,.cons q t=> .cons q (Vals.set r i t)
noncomputable def RelO:Option V ->Option Value ->Prop
 |some v,some u=>RelV v u
 |none,none=>True
 |_,_=>False
noncomputable def KV{κ:Type}:List (κ×V) ->List (κ×Value) ->Prop:=Paired fun(p:κ×V) (q:κ×Value)=>p.1=q.1 /\ RelV p.2 q.2
noncomputable def kV:Key ->V
 | .inl i=> .int i
 | .inr x=> .str x
inductive HO where
 |lst (xs:List V)
 |tup (xs:List V)
 |dK (kvs:List (Key×V))|dT (kvs:List (List Key×V))
 |set (S:Int ->Bool) (n:Nat)
 |ins (C dx:Addr) (fs:List (Str×V))
 |own (x:Addr)
 |xd (fs:List (Str×V))
 |met (f x:Addr)
 |rng (lo hi:Int)
 |frz (o:Obj) (u:HO)
 |tbl (ps:Array Value)
 |ext (φ:Heap ->Prop)
noncomputable abbrev Hp:=Addr ->Option HO
section
variable (P:Program) (w:World)
noncomputable def ObjOk(H:Hp)(h:Heap)(a:Addr):HO ->Prop
 | .lst xs=>xs.length<=sizeLine /\ ∃(its:List Value) (n:Nat),Vals xs its /\ h.get? a=some {cls:= .type "list",data:= .seq its.toArray n}
 | .tup xs=>xs.length<=sizeLine /\ ∃its:List Value,Vals xs its /\ IsTup h a its.toArray
 | .dK kvs=>kvs.length<=sizeLine /\ (a==sysModules)=false /\ ∃vs,KV kvs vs /\ h.DictOf (gc P w) a vs
 | .dT kvs=>kvs.length<=sizeLine /\ (a==sysModules)=false /\ ∃xs:List (List Key×Addr×Value),
   Paired (fun(p:List Key×V) (q:List Key×Addr×Value)=>p.1=q.1 /\ H q.2.1=some (.tup (p.1.map kV)) /\ RelV p.2 q.2.2) kvs xs /\
   ∃o es ep,h.get? a=some o /\ o.ExactDict /\ o.data= .dict es ep /\ es.toList=xs.map (entryOfKey (tupleKind (gc P w))) /\ (xs.map (·.1)).Nodup
 | .set S n=>h.SetOf (intKind P w) a S n
 | .ins C dx fs=>H dx=some (.own a) /\ fs.length<=1000 /\ dx≠a /\ h.get? a=some (dg C dx) /\
   ∃mA,h.Ns1 dx mA /\ (∀f,RelO (fs.lookup f) (mA f)) /\ eZ mA (fs.map (·.1))
 | .own _=>∃o,h.get? a=some o
 | .xd fs=>∃mA,h.Ns1 a mA /\ ∀f,RelO (fs.lookup f) (mA f)
 | .rng lo hi=>∃t u v,h.get? a=some {cls:= .type "range",data:= .fields #[.int lo t,.int hi u,.int 1 v]}
 | .frz o u=>h.get? a=some o /\ ObjOk H h a u
 | .tbl ps=>∃qs:Array Value,h.get? a=some {cls:= .none,data:= .fields qs} /\ (qs= #[]∨∃(c:Addr) (oc:Obj) (l d:Value) (q:Str) (t u:Tok) (vs:Array Value),
   ps= #[l,d,.str q t] /\ qs= #[l,d,.ref c] /\ H c=some (.frz oc (.own 0)) /\ oc.data= .fields vs /\ vs[1]? =some (.str q u))
 | .met f x=>h.get? a=some (cP (.ref f) (.ref x))
 | .ext φ=>φ h /\ (∃o,h.get? a=some o) /\ ∀h1 h2:Heap,φ h1 ->(∀o,h1.get? a=some o ->h2.get? a=some o) ->φ h2
noncomputable def HOk(H:Hp)(h:Heap):Prop:=∀a o,H a=some o ->ObjOk P w H h a o
end
section
variable {P:Program} {w:World} {H H':Hp} {h h':Heap} {a:Addr} {o:HO}
theorem ObjOk.lt(x:ObjOk P w H h a o):a<h.objs.size:=by
 cases o with
 |lst xs=>obtain⟨_,_,_,_,e⟩:=x;exact Heap.lt_size e
 |tup xs=>obtain⟨_,_,_,p⟩:=x;exact p.lt
 |dK kvs=>obtain⟨_,_,_,_,o,_,_,e,_⟩:=x;exact Heap.lt_size e
 |dT kvs=>obtain⟨_,_,_,_,o,_,_,e,_⟩:=x;exact Heap.lt_size e
 |set S n=>obtain⟨o,_,_,_,e,_⟩:=x;exact Heap.lt_size e
 |ins C dx fs=>obtain⟨_,_,_,e,_⟩:=x;exact Heap.lt_size e
 |own y=>obtain⟨_,e⟩:=x;exact Heap.lt_size e
 |xd fs=>obtain⟨_,⟨_,_,_,e,_⟩,_⟩:=x;exact Heap.lt_size e
 |rng lo hi=>obtain⟨_,_,_,e⟩:=x;exact Heap.lt_size e
 |frz ob u=>obtain⟨e,_⟩:=x;exact Heap.lt_size e
 |tbl ps=>obtain⟨_,e,_⟩:=x;exact Heap.lt_size e
 |met f y=>exact Heap.lt_size (show h.get? a=some _ from x)
 |ext φ=>obtain⟨_,⟨_,e⟩,_⟩:=x;exact Heap.lt_size e
theorem HOk.lt(x:HOk P w H h)(e:H a=some o):a<h.objs.size:=(x a o e).lt
end
noncomputable def Rd(H:Hp)(a:Addr)(u:HO):Prop:=H a=some u∨∃o,H a=some (.frz o u)
theorem Rd.of{H:Hp}{a:Addr}{u:HO}(h:H a=some u):Rd H a u:= .inl h
theorem Rd.ok{P:Program}{w:World}{H:Hp}{h:Heap}{a:Addr}{u:HO}(r:Rd H a u)(x:HOk P w H h):ObjOk P w H h a u:=by
 rcases r with r|⟨o,r⟩
 ·exact x a u r
 ·obtain⟨_,q⟩:=x a _ r
  exact q
section
variable {P:Program} {w:World} {H:Hp} {h h':Heap} {x e:Addr} {o':HO}
end
structure Un(fs ex:List Addr)(H H':Hp)(h h':Heap):Prop where
 keep:∀b o,h.get? b=some o ->H b=none ->b∉fs ->b∉ex ->h'.get? b=some o
 slot:∀b o,h.get? b=some o ->H b=none ->b∈fs ->b∉ex -> ∃sl,h'.get? b=some {o with slots:=sl}
 free:∀b o,h.get? b=some o ->H b=none ->b∉ex ->H' b=none
 there:∀b o,h.get? b=some o ->b∉ex -> ∃o',h'.get? b=some o'
 tups:∀b xs,H b=some (.tup xs) ->H' b=some (.tup xs)
 frzs:∀b o u,H b=some (.frz o u) ->H' b=some (.frz o u)
 tbls:∀b ps,H b=some (.tbl ps) -> ∃more,H' b=some (.tbl (ps++more))
section
variable {fs fs' ex ex':List Addr} {H H1 H2:Hp} {h h1 h2 h':Heap} {a x e:Addr} {o:HO}
theorem Un.trans(a:Un fs ex H H1 h h1)(b:Un fs ex H1 H2 h1 h2):Un fs ex H H2 h h2 where
 keep:=fun c ob q n hc hx=>b.keep c ob (a.keep c ob q n hc hx) (a.free c ob q n hx) hc hx
 slot:=fun c ob q n hc hx=>by
  obtain⟨sl,e1⟩:=a.slot c ob q n hc hx
  obtain⟨sl',e2⟩:=b.slot c _ e1 (a.free c ob q n hx) hc hx
  exact⟨sl',e2⟩
 free:=fun c ob q n hx=>by
  obtain⟨o',e1⟩:=a.there c ob q hx
  exact b.free c o' e1 (a.free c ob q n hx) hx
 there:=fun c ob q hx=>by
  obtain⟨o',e1⟩:=a.there c ob q hx
  exact b.there c o' e1 hx
 tups:=fun c xs q=>b.tups c xs (a.tups c xs q)
 frzs:=fun c ob xs q=>b.frzs c ob xs (a.frzs c ob xs q)
 tbls:=fun c ps q=>by
  obtain⟨m1,e1⟩:=a.tbls c ps q
  obtain⟨m2,e2⟩:=b.tbls c _ e1
  exact⟨m1++m2,by rw[e2,dP]⟩
end
noncomputable def trk(h:Heap)(H:Hp):List Addr:=(aw h.objs.size).filter fun a=>(H a).isSome
noncomputable def nz(h:Heap)(H:Hp):Heap:=PySem.W.hideAll h (trk h H)
theorem mm(h:Heap)(H:Hp):(nz h H).objs.size=h.objs.size:=PySem.W.hideAll_size _ _
theorem ny{h:Heap}{H:Hp}{b:Addr}{o:Obj}(e:h.get? b=some o)(n:H b=none):(nz h H).get? b=some o:=
 PySem.W.hideAll_get _ e fun hm=>by
  have q:(H b).isSome=true:=(dh.mp hm).2
  rw[n] at q;simp at q
theorem oQ{h:Heap}{H:Hp}{b:Addr}{o:Obj}(e:(nz h H).get? b=some o):h.get? b=some o /\ H b=none:=by
 have e':h.get? b=some o:=PySem.W.of_hideAll (trk h H) e
 refine⟨e',?_⟩;cases q:H b with
 |none=>rfl
 |some x=>
  have hm:b∈trk h H:=dh.mpr ⟨aT.mpr (Heap.lt_size e'),by simp[q]⟩
  have z:(nz h H).get? b=none:=PySem.W.hideAll_none (trk h H) hm
  rw[z] at e;cases e
end L2

namespace L2
open PySem PySem.Spec PyProof.Rows
structure Mod(K:af)(mg:Str ->Option Value)(base:Heap):Prop where
 kin:K.In base
 glob:base.Ns mainGlobals mg
 blt:∃mb,base.Ns builtinsNs mb /\ ∀x:Str,x≠"__name__" ->mb x=bootBuiltins x
 nolimit:base.NoLimit
noncomputable def frs(l:List Env):List Addr:=l.filterMap (·.frame)
section
variable {X:Cx} {pins:List (Addr×Obj)} {σ:List (Option V)} {H H':Hp} {s:Shared} {h':Heap}
end
noncomputable abbrev XK:=Value ->Option Addr ->Hp ->Prop
noncomputable abbrev VK:=V ->Hp ->Prop
end L2


namespace L2
open PySem PySem.Spec PyProof.Rows
noncomputable def SqL(K:af)(H:Hp)(a:Addr)(xs:List V):Prop:=
 Rd H a (.lst xs)∨
  ∃(o:Obj) (its:Array Value) (n:Nat),K.lookup a=some o /\ o.cls= .type "list" /\ o.dict=none /\ o.data= .seq its n /\ its.size<=sizeLine /\ Vals xs its.toList
section
variable {X:Cx} {pins:List (Addr×Obj)} {σ:St} {H:Hp} {s:Shared} {a:Addr} {xs ys:List V}
theorem SqL.of{K:af}(h:H a=some (.lst xs)):SqL K H a xs:= .inl (.inl h)
end
section
variable {X:Cx} {pins:List (Addr×Obj)} {σ:St} {H:Hp} {s:Shared} {E:Value ->Shared ->Prop}
end
section
variable {X:Cx} {st:Stmt} {rest:List Stmt} {t u:TS} {e:Expr} {te:TE} {pos:Pos}
end
section
variable {X:Cx} {pos:Pos}
end
section
variable {X:Cx} {pos:Pos}
end
end L2




namespace L2
open PySem PySem.Spec PyProof.Rows
structure Room(k:Nat)(A:Around):Prop where
 hd:A.handled=none
 dp:A.depth+3*k+5<recursionLimit
 un:A.units+16*k+200<cLine
section
variable {X:Cx} {e:Expr} {es:List Expr} {te:TE} {t:TA} {pos:Pos}
end
noncomputable abbrev Sp:=List V ->Hp ->VK ->XK ->Prop
noncomputable abbrev CXT:=List Env ->Hp ->Shared ->XK ->Value ->Shared ->Prop
structure Env0(P:Program)(w:World)(K:af)(mg:Str ->Option Value)(base:Heap)(A:Around)(outer:List Env)(s:Shared)(H:Hp):Prop where
 frames:A.frames=some outer
 mod:Mod K mg base
 bs:∀b o,base.get? b=some o ->s.heap.get? b=some o /\ H b=none
 bsz:base.objs.size<=s.heap.objs.size
 funs:s.heap.FunFrames base outer
 frf:∀b∈frs outer,H b=none
 hok:HOk P w H s.heap
 bare:AllBare s.gens
noncomputable def CE(outer:List Env)(P:Program)(w:World)(H:Hp)(s:Shared)(Q:VK)(u:Value)(s':Shared):Prop:=
 ∃v H',s'.os=s.os /\ AllBare s'.gens /\ Un (frs outer) [] H H' s.heap s'.heap /\ HOk P w H' s'.heap /\ RelV v u /\ Q v H'
noncomputable def CR(CX:CXT)(outer:List Env)(P:Program)(w:World)(H:Hp)(s:Shared)(Q:VK)(E:XK)(r:Result)(s':Shared):Prop:=
 match r with
 | .ok (.ret u)=>CE outer P w H s Q u s'
 | .ok _=>False
 | .error e=>CX outer H s E e s'
structure FnOk(P:Program)(w:World)(K:af)(mg:Str ->Option Value)(base:Heap)(CX:CXT)(k:Nat)(f:Addr)(fd:FuncData)(ps:List Str)(sp:Sp):Prop where
 len:∀vs H Q E,sp vs H Q E ->vs.length=ps.length
 run:∀(A:Around) (outer:List Env) (s:Shared) (H:Hp) (args:Args) (us:List Value) (vs:List V) (Q:VK) (E:XK),Room k A ->Env0 P w K mg base A outer s H ->BindsTo s fd args (ps.zip us) ->Vals vs us ->sp vs H Q E ->
  codeAny (model P w) A (.call (.ref f) args) (CR CX outer P w H s Q E) s
section
variable {X:Cx} {pins:List (Addr×Obj)} {σ:St} {H:Hp} {s s':Shared}
end
section
variable {X:Cx} {CX:CXT} {k:Nat} {f C:Addr} {fd:FuncData} {ps:List Str} {sp:Sp} {dvs:List V} {ds:List Value} {E:XK} {x m:Str} {p pos apos:Pos} {e o:Expr} {es:List Expr} {ta:TE} {t:TA}
end
end L2






namespace Att
open PySem PySem.W PySem.Calls PyProof.Rows
theorem iD{P:Params}{h:Heap}:∀(ns:List Int) (vs:List Value),WellAll P h vs (ns.map WData.int) ->IntsAre vs ns:=by
 intro ns
 induction ns with
 |nil=>
  intro vs w;rw[bT] at w;cases w;exact .nil
 |cons n ns ih=>
  intro vs w;rw[aO] at w;cases w with
  |cons a b=>
   cases a;exact .cons _ _ (ih _ b)
theorem lK{l:OpenLaw}{n:Nat}(hn:l.most=some n){P:Params}{h:Heap}{args:List WData}{vals:List Value}
  (hpre:l.row.toRowW.claim.pre args=true) (hwl:WellAll P h vals args):
  ∃a vs ns,vals=[Value.ref a] /\ args=[WData.list (ns.map WData.int)] /\ h.get? a=some {cls:= .type "list",data:= .seq vs.toArray} /\ IntsAre vs ns /\ ns.length<=n:=by
 have hsh:WShape.hasAll [] args [.list .int]=true:=(pre_splitW hpre).1
 have hc:l.pre.holds [] {args:=args}=true:=(pre_splitW hpre).2
 obtain⟨d,r,rfl,h1,h2⟩:=hasAllW_cons hsh
 obtain rfl:=hasAllW_nil h2
 obtain⟨xs,rfl,h3⟩:=hasW_list h1
 obtain⟨ns,rfl⟩:=items_int h3
 have hlen:ns.length<=n:=by
  unfold OpenLaw.pre at hc;have h4:(WTm.not (.lt (.lit (.int (n:Int))) (.len (.arg 0)))).holds [] {args:=[.list (ns.map .int)]}=true:=by
   have h4:=(holds_andW hc).1
   rw[hn] at h4;exact h4
  have h5:=condW_of h4 (w_not (w_lt w_lit (w_len_list (w_arg rfl))))
  rw[ag] at h5;refine Nat.le_of_not_lt fun q=> ?_
  have q':(n:Int)<((ns.length:Nat):Int):=by omega
  first
   |(rw[decide_eq_true q'] at h5;exact absurd h5 (by decide))
   |(simp at h5;omega)
 cases hwl with
 |cons w1 w2=>
  cases w2;cases w1 with
  |list ho hall=>exact⟨_,_,ns,rfl,rfl,ho,iD ns _ hall,hlen⟩
theorem lQ(l:OpenLaw)(args:List WData):l.row.toRowW.claim.post args (.bool true) args=true:=
 postW_of (r:=l.row.toRowW) (X:=(true==true))
  (show WShape.has [] (.bool true) .bool=true by first|rfl|decide|simp[WShape.has,WShape.arms,WShape.armsAll])
  (show(WTm.eq .res (.lit (.bool true))).value [] {args:=args,res:=some (.bool true),after:=args}=some (.bool (true==true)) from w_eq_bool (w_res rfl) w_lit) rfl
theorem attach_call{l:OpenLaw}{n:Nat}{q:Program}{loose:List Str}{XP:(Str ->Option Value) ->Heap ->Prop}{YP:World ->Heap ->Prop}{d:DefRec}
  (hn:l.most=some n) (hdf:d.params.defaults=[])
  (call:∀(w:World) (s₀ s₁:Shared) (mg mb:Str ->Option Value) (fa:Addr) (o:Obj) (pm cd doc:Value) (a:Addr) (vs:List Value) (ns:List Int),
   Ground q loose [] XP w s₀ mg mb s₁.heap ->YP w s₁.heap ->
   s₁.heap.get? fa=some o ->o.data= .func (docDef d.name d.params d.body d.scope pm cd doc) ->s₁.heap.CodeRec cd d.name ->mg d.name=some (.ref fa) ->
   s₁.heap.get? a=some {cls:= .type "list",data:= .seq vs.toArray} ->IntsAre vs ns ->ns.length<=n ->s₁.gens= #[] ->
   codeAny (model l.prog w) callerA (.call (.ref fa) ⟨[.ref a],[]⟩) (fun r s'=>r= .ok (.ret (.bool true)) /\ OldK s₁.heap s'.heap /\ s'.os=s₁.os /\ AllBare s'.gens) s₁):
  WalkO q loose XP YP l.row.toRowW d [] (fun f vs=>eQ f vs):=by
 intro w s₀ s₁ mg mb G Y fa o pm cd doc dV kV ho hd hcd hD hmg hg args vals as hpre hlay hrd hwl hlo;obtain rfl:dV= .none:=Dflts.none hD hdf
 obtain rfl:kV= .none:=Dflts.noKw hD
 obtain⟨a,vs,ns,rfl,rfl,hobj,hints,hlen⟩:=lK hn hpre hwl
 refine enter_call (codeAny_mono (call w s₀ s₁ mg mb fa o pm cd doc a vs ns G Y ho (fd_plain hd) hcd hmg hobj hints hlen hg) fun r s' hq=> ?_);obtain⟨rfl,h2,h3,h4⟩:=hq
 exact⟨.inl ⟨.bool true,.bool true,[],rfl,fun _=>rfl,.bool true,lQ l _,fun _=>⟨cQ,fun _ hm=>(nomatch hm)⟩⟩,h2,h3,h4⟩
end Att

namespace L2
open PySem PySem.Spec PyProof.Rows
theorem jp:∀{vs:List Value} {ns:List Int},IntsAre vs ns ->Vals (ns.map V.int) vs
 |_,_,.nil=> .nil
 |_,_,.cons n t h=> .cons ⟨t,rfl⟩ (jp h)
noncomputable def rP(H:Hp):Prop:=∀b,H b=none∨∃o xs,H b=some (.frz o (.lst xs))
theorem nk{P:Program}{w:World}{K:af}{mg mb:Str ->Option Value}{CX:CXT}{k:Nat}{fa a:Addr}{fd:FuncData}{x:Str}{sp:Sp}{s₁:Shared}{vs:List Value}{ns:List Int}
  (KX:K.In s₁.heap) (hns:s₁.heap.Ns mainGlobals mg) (hb:s₁.heap.Ns builtinsNs mb) (hbb:∀x:Str,x≠"__name__" ->mb x=bootBuiltins x) (hlim:s₁.heap.NoLimit) (hg:s₁.gens= #[])
  (ha:s₁.heap.get? a=some {cls:= .type "list",data:= .seq vs.toArray}) (hi:IntsAre vs ns) (hl:ns.length<=sizeLine) (hr:Room k callerA)
  (F:∀base:Heap,K.In base ->base.Ns mainGlobals mg ->FnOk P w K mg base CX k fa fd [x] sp) (hbind:∀(s:Shared) (u:Value),BindsTo s fd ⟨[u],[]⟩ [(x,u)])
  (hsp:∀H:Hp,rP H ->SqL K H a (ns.map V.int) ->sp [.ref a] H (fun v _=>v= .bl true) fun _ _ _=>False)
  (hCX:∀H e s',CX [] H s₁ (fun _ _ _=>False) e s' ->False):
  codeAny (model P w) callerA (.call (.ref fa) ⟨[.ref a],[]⟩) (fun r s'=>r= .ok (.ret (.bool true)) /\ OldK s₁.heap s'.heap /\ s'.os=s₁.os /\ AllBare s'.gens) s₁:=by
 have rv:=jp hi
 have lenV:=hi.length
 --from an abstract heap in which nothing but the script may be tracked
 have core:∀H:Hp,rP H ->SqL K H a (ns.map V.int) ->HOk P w H s₁.heap ->(∀b,H b≠none ->b=a) ->(H a≠none ->K.lookup a=none) ->
   codeAny (model P w) callerA (.call (.ref fa) ⟨[.ref a],[]⟩) (fun r s'=>r= .ok (.ret (.bool true)) /\ OldK s₁.heap s'.heap /\ s'.os=s₁.os /\ AllBare s'.gens) s₁:=by
  intro H hO hS hok hA hK;have base_of:∀{b:Addr} {o:Obj},s₁.heap.get? b=some o ->H b=none ->(nz s₁.heap H).get? b=some o:=fun e n=>ny e n
  have noA:∀{b:Addr} {o:Obj} {es:Array DictEntry} {ep:Nat},s₁.heap.get? b=some o ->o.data= .dict es ep ->H b=none:=fun {b o es ep} e d=>by
   cases q:H b with
   |none=>rfl
   |some u=>
    have e':b=a:=hA b (by rw[q];simp)
    subst e';rw[ha] at e;cases e;have d':Data.seq vs.toArray _=Data.dict es ep:=d
    cases d'
  have nsK:∀{b:Addr} {m:Str ->Option Value},s₁.heap.Ns b m ->(nz s₁.heap H).Ns b m:=fun {b m} ⟨o,es,ep,e,d,r⟩=>⟨o,es,ep,base_of e (noA e d),d,r⟩
  have hKb:K.In (nz s₁.heap H):=fun b o e=>base_of (KX b o e) (by
   cases q:H b with
   |none=>rfl
   |some u=>
    have e':b=a:=hA b (by rw[q];simp)
    subst e';rw[hK (by rw[q];simp)] at e;cases e)
  have hM:Mod K mg (nz s₁.heap H):=⟨hKb,nsK hns,⟨mb,nsK hb,hbb⟩,let⟨mc,h1,h2⟩:=hlim;⟨mc,nsK h1,h2⟩⟩
  have e0:Env0 P w K mg (nz s₁.heap H) callerA [] s₁ H:=⟨rfl,hM,fun b o e=>oQ e,Nat.le_of_eq (mm _ _),trivial,fun b hb=>absurd (show b∈([]:List Addr) from hb) (by simp),hok,.of_eq hg⟩
  refine codeAny_mono ((F _ hKb (nsK hns)).run callerA [] s₁ H ⟨[.ref a],[]⟩ [.ref a] [.ref a] _ _ hr e0 (hbind s₁ (.ref a)) (.cons rfl .nil) (hsp H hO hS)) fun r s' h=> ?_
  cases r with
  |error e=>exact(hCX H e s' h).elim
  |ok fl=>
   cases fl with
   |next=>exact False.elim h
   |brk=>exact False.elim h
   |cont=>exact False.elim h
   |ret u=>
    obtain⟨v,H',os,bare,un,hok',r',q⟩:=h
    have q':v= .bl true:=q
    subst q';obtain rfl:u=Value.bool true:=r'
    refine⟨rfl,OldK.of_keep fun b o e=> ?_,os,bare⟩;cases q:H b with
    |none=>exact un.keep b o e q (by intro z;exact absurd (show b∈([]:List Addr) from z) (by simp)) (by simp)
    |some u=>
     rcases hO b with z|⟨ob,xs,z⟩
     ·rw[q] at z;cases z
     ·have z2:=un.frzs b ob _ z
      obtain⟨e1,_⟩:=hok b _ z
      obtain⟨e2,_⟩:=hok' b _ z2
      rw[e] at e1;cases e1;exact e2
 cases hk:K.lookup a with
 |some o=>
  --the script is one of the module's own objects
  have e:=KX a o hk
  rw[ha] at e;cases e;refine core (fun _=>none) (fun _=> .inl rfl) (.inr ⟨_,vs.toArray,_,hk,rfl,rfl,rfl,by rw[ao,lenV];exact hl,by simpa using rv⟩) (fun b u z=>by have z':(none:Option HO)=some u:=z;cases z') (fun b z=>absurd rfl z) fun z=>absurd rfl z
 |none=>
  refine core (fun b=>if b=a then some (.frz {cls:= .type "list",data:= .seq vs.toArray} (.lst (ns.map V.int))) else none) (fun b=> ?_) (.inl (.inr ⟨{cls:= .type "list",data:= .seq vs.toArray},if_pos rfl⟩)) (fun b u z=> ?_) (fun b z=> ?_) fun _=>hk
  ·by_cases hb:b=a
   ·exact .inr ⟨_,_,if_pos hb⟩
   ·exact .inl (if_neg hb)
  ·by_cases hb:b=a
   ·have z':=(if_pos hb).symm.trans z
    cases z';subst hb;exact⟨ha,by rw[ag];exact hl,vs,_,rv,ha⟩
   ·have z':=(if_neg hb).symm.trans z
    cases z'
  ·by_cases hb:b=a
   ·exact hb
   ·exact absurd (if_neg hb) z
end L2

namespace L2
open PySem PySem.Spec PyProof.Rows
theorem walk_of{l:di}{n k:Nat}{q:Program}{loose:List Str}{XP:(Str ->Option Value) ->Heap ->Prop}{YP:World ->Heap ->Prop}{d:DefRec}{K:Params ->af}{CX:World ->CXT}{sp:World ->Sp}{x:Str}
  (hn:l.most=some n) (hn2:n<=sizeLine) (hdf:d.params.defaults=[]) (hr:Room k callerA)
  (hY:∀(w:World) (h:Heap),YP w h ->(K w.params).In h)
  (F:∀(w:World) (mg:Str ->Option Value) (fa:Addr) (h:Heap),(K w.params).In h ->h.Ns mainGlobals mg ->mg d.name=some (.ref fa) ->
   ∃fd:FuncData,(∀(s:Shared) (u:Value),BindsTo s fd ⟨[u],[]⟩ [(x,u)]) /\
    ∀base:Heap,(K w.params).In base ->base.Ns mainGlobals mg ->FnOk l.prog w (K w.params) mg base (CX w) k fa fd [x] (sp w))
  (hsp:∀(w:World) (H:Hp) (a:Addr) (ns:List Int),ns.length<=n ->rP H ->SqL (K w.params) H a (ns.map V.int) ->sp w [.ref a] H (fun v _=>v= .bl true) fun _ _ _=>False)
  (hCX:∀(w:World) (H:Hp) (s:Shared) (e:Value) (s':Shared),CX w [] H s (fun _ _ _=>False) e s' ->False):
  eR q loose XP YP l.row.toRowW d [] (fun f vs=>eQ f vs):=by
 refine Att.attach_call hn hdf fun w s₀ s₁ mg mb fa o pm cd doc a vs ns G Y ho hd hcd hmg hobj hints hlen hg=> ?_
 have KX:=hY w _ Y
 obtain⟨fd,hb,hF⟩:=F w mg fa _ KX G.T.g hmg
 exact nk KX G.T.g G.T.b G.T.builtins G.T.nolimit hg hobj hints (bj hlen hn2) hr hF hb (fun H hO hS=>hsp w H a ns hlen hO hS) fun H e s'=>hCX w H s₁ e s'
end L2

namespace L2
open PySem PySem.Spec PyProof.Rows
noncomputable def fM(s:Stmt):Arguments:=match s with
 | .FunctionDef _ a _ _ _ _ _ _ _ _=>a
 |_=>{posonlyargs:=[],args:=[],vararg:=none,kwonlyargs:=[],kw_defaults:=[],kwarg:=none,defaults:=[]}
noncomputable def fG(s:Stmt):List Stmt:=match s with
 | .FunctionDef _ _ b _ _ _ _ _ _ _=>b
 |_=>[]
noncomputable def fm(s:Stmt):Scope:=match s with
 | .FunctionDef _ _ _ _ _ _ sc _ _ _=>sc
 |_=>{kind:= .function,names:=[],isGenerator:=false,isCoroutine:=false}
section
variable {P:Program} {w:World} {K:af} {mg:Str ->Option Value} {base:Heap}
end
section
variable {X:Cx}
end
end L2























namespace L2
open PySem PySem.Spec PyProof.Rows
noncomputable def CXE(P:Program)(w:World):CXT:=fun outer H s E ev s'=>∃(e C:Addr) (a0:Value) (B:Heap) (H':Hp) (od:Option Addr),ev= .ref e /\ s'.os=s.os /\ AllBare s'.gens /\ Un (frs outer) [] H H' s.heap s'.heap /\
 HOk P w H' s'.heap /\ Heap.FlyingW B outer e (.ref C) a0 s'.heap /\ (∀b u,H' b=some u -> ∃o,B.get? b=some o) /\ (∀b o,s.heap.get? b=some o ->b∉frs outer -> ∃o',B.get? b=some o') /\ (∃oe,s'.heap.get? e=some oe /\ ∀dx,od=some dx ->oe.dict=some dx) /\ E (.ref C) od H'
end L2




















set_option maxHeartbeats 4000000
set_option maxHeartbeats 4000000
set_option maxHeartbeats 4000000
set_option maxHeartbeats 4000000

namespace LW
open PySem L2 PyProof.Rows
noncomputable def top(i:Nat):Stmt:=PySem.Challenge.pw_nearlands_k54_ties.main.body.getD i (.Pass ⟨0,0,0,0⟩)
noncomputable abbrev s_divisor:Stmt:=top 6
noncomputable abbrev s_sign:Stmt:=top 7
noncomputable abbrev s_point_of:Stmt:=top 9
noncomputable abbrev s_fraction_of:Stmt:=top 10
noncomputable abbrev s_less:Stmt:=top 11
noncomputable abbrev s_check_count:Stmt:=top 14
noncomputable abbrev s_check_spots:Stmt:=top 15
noncomputable abbrev s_check_number:Stmt:=top 16
noncomputable abbrev s_lead:Stmt:=top 20
noncomputable abbrev s_point_along:Stmt:=top 21
noncomputable abbrev s_reach_within:Stmt:=top 19
noncomputable abbrev s_reach:Stmt:=top 18
noncomputable abbrev s_reaches:Stmt:=top 22
noncomputable abbrev s_ties:Stmt:=top 23
noncomputable abbrev s__law_feed:Stmt:=top 25
noncomputable abbrev s__law_next:Stmt:=top 26
noncomputable abbrev s__law_great:Stmt:=top 27
noncomputable abbrev s__law_spot:Stmt:=top 28
noncomputable abbrev s__law_spots:Stmt:=top 29
noncomputable abbrev s_law:Stmt:=top 30
noncomputable def kj(K:af):Sp:=fun vs H Q _=>∃(a:Addr) (ns:List Int),vs=[.ref a] /\ SqL K H a (ns.map V.int) /\ ns.length<=63 /\ ∀H',Q (.bl true) H'
abbrev AllMk:Prop:=∀{l:di} {w:World} {K:af} {h:Heap} {mg:Str ->Option Value} {fa:Addr} (X:K.In h) (G:h.Ns mainGlobals mg) (hfa:mg "law"=some (.ref fa))
  {f_divisor:Addr} {od_divisor an_divisor:Option Addr} {sl_divisor:Array (Option Value)} {oc_divisor kV_divisor dc_divisor pm_divisor cd_divisor ct_divisor:Value} {f_sign:Addr} {od_sign an_sign:Option Addr} {sl_sign:Array (Option Value)} {oc_sign kV_sign dc_sign pm_sign cd_sign ct_sign:Value} {f_point_of:Addr} {od_point_of an_point_of:Option Addr} {sl_point_of:Array (Option Value)} {oc_point_of kV_point_of dc_point_of pm_point_of cd_point_of ct_point_of:Value} {f_fraction_of:Addr} {od_fraction_of an_fraction_of:Option Addr} {sl_fraction_of:Array (Option Value)} {oc_fraction_of kV_fraction_of dc_fraction_of pm_fraction_of cd_fraction_of ct_fraction_of:Value} {f_less:Addr} {od_less an_less:Option Addr} {sl_less:Array (Option Value)} {oc_less kV_less dc_less pm_less cd_less ct_less:Value} {f_check_count:Addr} {od_check_count an_check_count:Option Addr} {sl_check_count:Array (Option Value)} {oc_check_count kV_check_count dc_check_count pm_check_count cd_check_count ct_check_count:Value} {f_check_spots:Addr} {od_check_spots an_check_spots:Option Addr} {sl_check_spots:Array (Option Value)} {oc_check_spots kV_check_spots dc_check_spots pm_check_spots cd_check_spots ct_check_spots:Value} {f_check_number:Addr} {od_check_number an_check_number:Option Addr} {sl_check_number:Array (Option Value)} {oc_check_number kV_check_number dc_check_number pm_check_number cd_check_number ct_check_number:Value} {f_lead:Addr} {od_lead an_lead:Option Addr} {sl_lead:Array (Option Value)} {oc_lead kV_lead dc_lead pm_lead cd_lead ct_lead:Value} {f_point_along:Addr} {od_point_along an_point_along:Option Addr} {sl_point_along:Array (Option Value)} {oc_point_along kV_point_along dc_point_along pm_point_along cd_point_along ct_point_along:Value} {f_reach_within:Addr} {od_reach_within an_reach_within:Option Addr} {sl_reach_within:Array (Option Value)} {oc_reach_within kV_reach_within dc_reach_within pm_reach_within cd_reach_within ct_reach_within:Value} {f_reach:Addr} {od_reach an_reach:Option Addr} {sl_reach:Array (Option Value)} {oc_reach kV_reach dc_reach pm_reach cd_reach ct_reach:Value} {f_reaches:Addr} {od_reaches an_reaches:Option Addr} {sl_reaches:Array (Option Value)} {oc_reaches kV_reaches dc_reaches pm_reaches cd_reaches ct_reaches:Value} {f_ties:Addr} {od_ties an_ties:Option Addr} {sl_ties:Array (Option Value)} {oc_ties kV_ties dc_ties pm_ties cd_ties ct_ties:Value} {f__law_feed:Addr} {od__law_feed an__law_feed:Option Addr} {sl__law_feed:Array (Option Value)} {oc__law_feed kV__law_feed dc__law_feed pm__law_feed cd__law_feed ct__law_feed:Value} {f__law_next:Addr} {od__law_next an__law_next:Option Addr} {sl__law_next:Array (Option Value)} {oc__law_next kV__law_next dc__law_next pm__law_next cd__law_next ct__law_next:Value} {f__law_great:Addr} {od__law_great an__law_great:Option Addr} {sl__law_great:Array (Option Value)} {oc__law_great kV__law_great dc__law_great pm__law_great cd__law_great ct__law_great:Value} {f__law_spot:Addr} {od__law_spot an__law_spot:Option Addr} {sl__law_spot:Array (Option Value)} {oc__law_spot kV__law_spot dc__law_spot pm__law_spot cd__law_spot ct__law_spot:Value} {f__law_spots:Addr} {od__law_spots an__law_spots:Option Addr} {sl__law_spots:Array (Option Value)} {oc__law_spots kV__law_spots dc__law_spots pm__law_spots cd__law_spots ct__law_spots:Value} {f_law:Addr} {od_law an_law:Option Addr} {sl_law:Array (Option Value)} {oc_law kV_law dc_law pm_law cd_law ct_law:Value} {tk_MOST_SPOTS:Tok}
  (a_divisor:au K mainGlobals "divisor"=some (some (.ref f_divisor)))
  (l_divisor:K.lookup f_divisor=some ⟨oc_divisor,od_divisor,.func (aB "divisor" "divisor" (fM s_divisor) (fG s_divisor) (fm s_divisor) .none kV_divisor dc_divisor pm_divisor an_divisor cd_divisor ct_divisor),sl_divisor⟩)
  (c_divisor:az K cd_divisor "divisor"=true)
  (k_divisor:av K (.ref f_divisor)=true)
  (a_sign:au K mainGlobals "sign"=some (some (.ref f_sign)))
  (l_sign:K.lookup f_sign=some ⟨oc_sign,od_sign,.func (aB "sign" "sign" (fM s_sign) (fG s_sign) (fm s_sign) .none kV_sign dc_sign pm_sign an_sign cd_sign ct_sign),sl_sign⟩)
  (c_sign:az K cd_sign "sign"=true)
  (k_sign:av K (.ref f_sign)=true)
  (a_point_of:au K mainGlobals "point_of"=some (some (.ref f_point_of)))
  (l_point_of:K.lookup f_point_of=some ⟨oc_point_of,od_point_of,.func (aB "point_of" "point_of" (fM s_point_of) (fG s_point_of) (fm s_point_of) .none kV_point_of dc_point_of pm_point_of an_point_of cd_point_of ct_point_of),sl_point_of⟩)
  (c_point_of:az K cd_point_of "point_of"=true)
  (k_point_of:av K (.ref f_point_of)=true)
  (a_fraction_of:au K mainGlobals "fraction_of"=some (some (.ref f_fraction_of)))
  (l_fraction_of:K.lookup f_fraction_of=some ⟨oc_fraction_of,od_fraction_of,.func (aB "fraction_of" "fraction_of" (fM s_fraction_of) (fG s_fraction_of) (fm s_fraction_of) .none kV_fraction_of dc_fraction_of pm_fraction_of an_fraction_of cd_fraction_of ct_fraction_of),sl_fraction_of⟩)
  (c_fraction_of:az K cd_fraction_of "fraction_of"=true)
  (k_fraction_of:av K (.ref f_fraction_of)=true)
  (a_less:au K mainGlobals "less"=some (some (.ref f_less)))
  (l_less:K.lookup f_less=some ⟨oc_less,od_less,.func (aB "less" "less" (fM s_less) (fG s_less) (fm s_less) .none kV_less dc_less pm_less an_less cd_less ct_less),sl_less⟩)
  (c_less:az K cd_less "less"=true)
  (k_less:av K (.ref f_less)=true)
  (a_check_count:au K mainGlobals "check_count"=some (some (.ref f_check_count)))
  (l_check_count:K.lookup f_check_count=some ⟨oc_check_count,od_check_count,.func (aB "check_count" "check_count" (fM s_check_count) (fG s_check_count) (fm s_check_count) .none kV_check_count dc_check_count pm_check_count an_check_count cd_check_count ct_check_count),sl_check_count⟩)
  (c_check_count:az K cd_check_count "check_count"=true)
  (k_check_count:av K (.ref f_check_count)=true)
  (a_check_spots:au K mainGlobals "check_spots"=some (some (.ref f_check_spots)))
  (l_check_spots:K.lookup f_check_spots=some ⟨oc_check_spots,od_check_spots,.func (aB "check_spots" "check_spots" (fM s_check_spots) (fG s_check_spots) (fm s_check_spots) .none kV_check_spots dc_check_spots pm_check_spots an_check_spots cd_check_spots ct_check_spots),sl_check_spots⟩)
  (c_check_spots:az K cd_check_spots "check_spots"=true)
  (k_check_spots:av K (.ref f_check_spots)=true)
  (a_check_number:au K mainGlobals "check_number"=some (some (.ref f_check_number)))
  (l_check_number:K.lookup f_check_number=some ⟨oc_check_number,od_check_number,.func (aB "check_number" "check_number" (fM s_check_number) (fG s_check_number) (fm s_check_number) .none kV_check_number dc_check_number pm_check_number an_check_number cd_check_number ct_check_number),sl_check_number⟩)
  (c_check_number:az K cd_check_number "check_number"=true)
  (k_check_number:av K (.ref f_check_number)=true)
  (a_lead:au K mainGlobals "lead"=some (some (.ref f_lead)))
  (l_lead:K.lookup f_lead=some ⟨oc_lead,od_lead,.func (aB "lead" "lead" (fM s_lead) (fG s_lead) (fm s_lead) .none kV_lead dc_lead pm_lead an_lead cd_lead ct_lead),sl_lead⟩)
  (c_lead:az K cd_lead "lead"=true)
  (k_lead:av K (.ref f_lead)=true)
  (a_point_along:au K mainGlobals "point_along"=some (some (.ref f_point_along)))
  (l_point_along:K.lookup f_point_along=some ⟨oc_point_along,od_point_along,.func (aB "point_along" "point_along" (fM s_point_along) (fG s_point_along) (fm s_point_along) .none kV_point_along dc_point_along pm_point_along an_point_along cd_point_along ct_point_along),sl_point_along⟩)
  (c_point_along:az K cd_point_along "point_along"=true)
  (k_point_along:av K (.ref f_point_along)=true)
  (a_reach_within:au K mainGlobals "reach_within"=some (some (.ref f_reach_within)))
  (l_reach_within:K.lookup f_reach_within=some ⟨oc_reach_within,od_reach_within,.func (aB "reach_within" "reach_within" (fM s_reach_within) (fG s_reach_within) (fm s_reach_within) .none kV_reach_within dc_reach_within pm_reach_within an_reach_within cd_reach_within ct_reach_within),sl_reach_within⟩)
  (c_reach_within:az K cd_reach_within "reach_within"=true)
  (k_reach_within:av K (.ref f_reach_within)=true)
  (a_reach:au K mainGlobals "reach"=some (some (.ref f_reach)))
  (l_reach:K.lookup f_reach=some ⟨oc_reach,od_reach,.func (aB "reach" "reach" (fM s_reach) (fG s_reach) (fm s_reach) .none kV_reach dc_reach pm_reach an_reach cd_reach ct_reach),sl_reach⟩)
  (c_reach:az K cd_reach "reach"=true)
  (k_reach:av K (.ref f_reach)=true)
  (a_reaches:au K mainGlobals "reaches"=some (some (.ref f_reaches)))
  (l_reaches:K.lookup f_reaches=some ⟨oc_reaches,od_reaches,.func (aB "reaches" "reaches" (fM s_reaches) (fG s_reaches) (fm s_reaches) .none kV_reaches dc_reaches pm_reaches an_reaches cd_reaches ct_reaches),sl_reaches⟩)
  (c_reaches:az K cd_reaches "reaches"=true)
  (k_reaches:av K (.ref f_reaches)=true)
  (a_ties:au K mainGlobals "ties"=some (some (.ref f_ties)))
  (l_ties:K.lookup f_ties=some ⟨oc_ties,od_ties,.func (aB "ties" "ties" (fM s_ties) (fG s_ties) (fm s_ties) .none kV_ties dc_ties pm_ties an_ties cd_ties ct_ties),sl_ties⟩)
  (c_ties:az K cd_ties "ties"=true)
  (k_ties:av K (.ref f_ties)=true)
  (a__law_feed:au K mainGlobals "_law_feed"=some (some (.ref f__law_feed)))
  (l__law_feed:K.lookup f__law_feed=some ⟨oc__law_feed,od__law_feed,.func (aB "_law_feed" "_law_feed" (fM s__law_feed) (fG s__law_feed) (fm s__law_feed) .none kV__law_feed dc__law_feed pm__law_feed an__law_feed cd__law_feed ct__law_feed),sl__law_feed⟩)
  (c__law_feed:az K cd__law_feed "_law_feed"=true)
  (k__law_feed:av K (.ref f__law_feed)=true)
  (a__law_next:au K mainGlobals "_law_next"=some (some (.ref f__law_next)))
  (l__law_next:K.lookup f__law_next=some ⟨oc__law_next,od__law_next,.func (aB "_law_next" "_law_next" (fM s__law_next) (fG s__law_next) (fm s__law_next) .none kV__law_next dc__law_next pm__law_next an__law_next cd__law_next ct__law_next),sl__law_next⟩)
  (c__law_next:az K cd__law_next "_law_next"=true)
  (k__law_next:av K (.ref f__law_next)=true)
  (a__law_great:au K mainGlobals "_law_great"=some (some (.ref f__law_great)))
  (l__law_great:K.lookup f__law_great=some ⟨oc__law_great,od__law_great,.func (aB "_law_great" "_law_great" (fM s__law_great) (fG s__law_great) (fm s__law_great) .none kV__law_great dc__law_great pm__law_great an__law_great cd__law_great ct__law_great),sl__law_great⟩)
  (c__law_great:az K cd__law_great "_law_great"=true)
  (k__law_great:av K (.ref f__law_great)=true)
  (a__law_spot:au K mainGlobals "_law_spot"=some (some (.ref f__law_spot)))
  (l__law_spot:K.lookup f__law_spot=some ⟨oc__law_spot,od__law_spot,.func (aB "_law_spot" "_law_spot" (fM s__law_spot) (fG s__law_spot) (fm s__law_spot) .none kV__law_spot dc__law_spot pm__law_spot an__law_spot cd__law_spot ct__law_spot),sl__law_spot⟩)
  (c__law_spot:az K cd__law_spot "_law_spot"=true)
  (k__law_spot:av K (.ref f__law_spot)=true)
  (a__law_spots:au K mainGlobals "_law_spots"=some (some (.ref f__law_spots)))
  (l__law_spots:K.lookup f__law_spots=some ⟨oc__law_spots,od__law_spots,.func (aB "_law_spots" "_law_spots" (fM s__law_spots) (fG s__law_spots) (fm s__law_spots) .none kV__law_spots dc__law_spots pm__law_spots an__law_spots cd__law_spots ct__law_spots),sl__law_spots⟩)
  (c__law_spots:az K cd__law_spots "_law_spots"=true)
  (k__law_spots:av K (.ref f__law_spots)=true)
  (a_law:au K mainGlobals "law"=some (some (.ref f_law)))
  (l_law:K.lookup f_law=some ⟨oc_law,od_law,.func (aB "law" "law" (fM s_law) (fG s_law) (fm s_law) .none kV_law dc_law pm_law an_law cd_law ct_law),sl_law⟩)
  (c_law:az K cd_law "law"=true)
  (k_law:av K (.ref f_law)=true)
  (z_abs:au K mainGlobals "abs"=some none)
  (z_all:au K mainGlobals "all"=some none)
  (z_enumerate:au K mainGlobals "enumerate"=some none)
  (z_isinstance:au K mainGlobals "isinstance"=some none)
  (z_len:au K mainGlobals "len"=some none)
  (z_list:au K mainGlobals "list"=some none)
  (z_min:au K mainGlobals "min"=some none)
  (z_range:au K mainGlobals "range"=some none)
  (z_sorted:au K mainGlobals "sorted"=some none)
  (z_tuple:au K mainGlobals "tuple"=some none)
  (a_MOST_SPOTS:au K mainGlobals "MOST_SPOTS"=some (some (.int 12 tk_MOST_SPOTS))),
  ∃fd:FuncData,(∀(s:Shared) (v:Value),BindsTo s fd ⟨[v],[]⟩ [("_law_script",v)]) /\ ∀base:Heap,K.In base ->base.Ns mainGlobals mg ->FnOk l.prog w K mg base (CXE l.prog w) 7 fa fd ["_law_script"] (kj K)
theorem walk{l:di}{q:Program}{loose:List Str}{XP:(Str ->Option Value) ->Heap ->Prop}{YP:World ->Heap ->Prop}{d:DefRec}{K:Params ->af}(hn:l.most=some 63)(hdf:d.params.defaults=[])
  (hY:∀(w:World) (h:Heap),YP w h ->(K w.params).In h)
  (F:∀(w:World) (mg:Str ->Option Value) (fa:Addr) (h:Heap),(K w.params).In h ->h.Ns mainGlobals mg ->mg d.name=some (.ref fa) ->
   ∃fd:FuncData,(∀(s:Shared) (u:Value),BindsTo s fd ⟨[u],[]⟩ [("_law_script",u)]) /\ ∀base:Heap,(K w.params).In base ->base.Ns mainGlobals mg ->FnOk l.prog w (K w.params) mg base (CXE l.prog w) 7 fa fd ["_law_script"] (kj (K w.params))):
  eR q loose XP YP l.row.toRowW d [] (fun f vs=>eQ f vs):=
 L2.walk_of (n:=63) (k:=7) (x:="_law_script") (CX:=fun w=>(CXE l.prog w)) (sp:=fun w=>kj (K w.params)) hn (by decide) hdf ⟨rfl,by decide,by decide⟩ hY F (fun _ _ a ns hl _ hS=>⟨a,ns,rfl,hS,hl,fun _=>rfl⟩) fun _ _ _ _ _ z=>(by obtain⟨_,_,_,_,_,_,_,_,_,_,_,_,_,_,_,hE⟩:=z;exact hE)
end LW
namespace LW
open PySem
noncomputable def isN:Stmt ->Bool
 | .Assign [.Name x _] _ _=>x==("__name__":Str)
 |_=>false
noncomputable def qv:Program:={PySem.Challenge.pw_nearlands_k54_ties with main:={PySem.Challenge.pw_nearlands_k54_ties.main with body:=PySem.Challenge.pw_nearlands_k54_ties.main.body.filter fun s=> !isN s}}
end LW
section
open PySem PySem.W PyProof.Rows
local macro_rules| `(tactic|o_head $H)=> `(tactic|(refine holds_open (q:=LW.qv) (loose:=[]) (Xt:=fun s=>xlAt LW.qv [] s&&recOk (RowW.records PySem.Challenge.rw_nearlands_k54_ties.row.toRowW) s) (XP:=XL LW.qv []) (Yf:=Hook.obs $H) (Ya:=Hook.val $H) (YP:=Hook.says $H) (N:=30000) ?hl (Hook.of $H) (Hook.keeps $H) (fun s e=>xl_of s (dC.mp e).1) XL.keeps (by rfl) (by rfl) (by rfl) (fun s e=>recFacts_of (dC.mp e).2) (by rfl) (by first|assumption|decide+kernel) (by decide+kernel) ⟨rfl,rfl,rfl,rfl,rfl,by decide+kernel⟩ ?hw ?hc))
set_option maxRecDepth 100000 in
set_option maxHeartbeats 0 in
theorem LW.early(M:LW.AllMk):PySem.Challenge.rw_nearlands_k54_ties.Holds:=by
 w_on;o_law;k_head
 case hl=>
  intro w;unfold openEnds fencedOpening topFrom;rw[Fast.te10274390034422433532,Fast.te14082659384304107361,Fast.te14289696077712309145,Fast.te4187177175401517315,Fast.te1435165496053646825,Fast.te14364793385576792824]
  kernel_rfl
 case hw=>w_witness2
 k_fill
 refine LW.walk (l:=PySem.Challenge.rw_nearlands_k54_ties) rfl rfl (fun w h Y=>PySem.W.kIn_of Y) ?F
 case F=>
  intro w mg fa h KX G hmg;refine' M KX G hmg ?x0 ?x1 ?x2 ?x3 ?x4 ?x5 ?x6 ?x7 ?x8 ?x9 ?x10 ?x11 ?x12 ?x13 ?x14 ?x15 ?x16 ?x17 ?x18 ?x19 ?x20 ?x21 ?x22 ?x23 ?x24 ?x25 ?x26 ?x27 ?x28 ?x29 ?x30 ?x31 ?x32 ?x33 ?x34 ?x35 ?x36 ?x37 ?x38 ?x39 ?x40 ?x41 ?x42 ?x43 ?x44 ?x45 ?x46 ?x47 ?x48 ?x49 ?x50 ?x51 ?x52 ?x53 ?x54 ?x55 ?x56 ?x57 ?x58 ?x59 ?x60 ?x61 ?x62 ?x63 ?x64 ?x65 ?x66 ?x67 ?x68 ?x69 ?x70 ?x71 ?x72 ?x73 ?x74 ?x75 ?x76 ?x77 ?x78 ?x79 ?x80 ?x81 ?x82 ?x83 ?x84 ?x85 ?x86 ?x87 ?x88 ?x89 ?x90
  (case x0=>k_is)
  (case x1=>k_is)
  (case x2=>k_is)
  (case x3=>k_is)
  (case x4=>k_is)
  (case x5=>k_is)
  (case x6=>k_is)
  (case x7=>k_is)
  (case x8=>k_is)
  (case x9=>k_is)
  (case x10=>k_is)
  (case x11=>k_is)
  (case x12=>k_is)
  (case x13=>k_is)
  (case x14=>k_is)
  (case x15=>k_is)
  (case x16=>k_is)
  (case x17=>k_is)
  (case x18=>k_is)
  (case x19=>k_is)
  (case x20=>k_is)
  (case x21=>k_is)
  (case x22=>k_is)
  (case x23=>k_is)
  (case x24=>k_is)
  (case x25=>k_is)
  (case x26=>k_is)
  (case x27=>k_is)
  (case x28=>k_is)
  (case x29=>k_is)
  (case x30=>k_is)
  (case x31=>k_is)
  (case x32=>k_is)
  (case x33=>k_is)
  (case x34=>k_is)
  (case x35=>k_is)
  (case x36=>k_is)
  (case x37=>k_is)
  (case x38=>k_is)
  (case x39=>k_is)
  (case x40=>k_is)
  (case x41=>k_is)
  (case x42=>k_is)
  (case x43=>k_is)
  (case x44=>k_is)
  (case x45=>k_is)
  (case x46=>k_is)
  (case x47=>k_is)
  (case x48=>k_is)
  (case x49=>k_is)
  (case x50=>k_is)
  (case x51=>k_is)
  (case x52=>k_is)
  (case x53=>k_is)
  (case x54=>k_is)
  (case x55=>k_is)
  (case x56=>k_is)
  (case x57=>k_is)
  (case x58=>k_is)
  (case x59=>k_is)
  (case x60=>k_is)
  (case x61=>k_is)
  (case x62=>k_is)
  (case x63=>k_is)
  (case x64=>k_is)
  (case x65=>k_is)
  (case x66=>k_is)
  (case x67=>k_is)
  (case x68=>k_is)
  (case x69=>k_is)
  (case x70=>k_is)
  (case x71=>k_is)
  (case x72=>k_is)
  (case x73=>k_is)
  (case x74=>k_is)
  (case x75=>k_is)
  (case x76=>k_is)
  (case x77=>k_is)
  (case x78=>k_is)
  (case x79=>k_is)
  (case x80=>k_is)
  (case x81=>k_is)
  (case x82=>k_is)
  (case x83=>k_is)
  (case x84=>k_is)
  (case x85=>k_is)
  (case x86=>k_is)
  (case x87=>k_is)
  (case x88=>k_is)
  (case x89=>k_is)
  (case x90=>k_is)
end
namespace L2
open PySem PySem.Spec PyProof.Rows
theorem ma(i:Int)(t:Tok):kW (.inl i) (.int i t)=true:=by simp[kW,Value.isInt]
theorem l9(x:Str)(t:Tok):kW (.inr x) (.str x t)=true:=by simp[kW,Value.isStrOf]
theorem jY(prog:Program)(w:World)(i:Int)(t:Tok):(gc prog w).is (.inl i) (.int i t)=true:=ma i t
theorem jX(prog:Program)(w:World)(x:Str)(t:Tok):(gc prog w).is (.inr x) (.str x t)=true:=l9 x t
end L2
namespace L2
open PySem PySem.Spec PyProof.Rows
theorem Vals.get:∀{xs:List V} {us:List Value} {i:Nat} {x:V},Vals xs us ->xs[i]? =some x -> ∃u,us[i]? =some u /\ RelV x u
 |_,_,_,_,.nil,e=>by simp at e
 |_,_,0,_,.cons r _,e=>by simp at e;subst e;exact⟨_,rfl,r⟩
 |_,_,i+1,x,.cons _ t,e=>by
  obtain⟨u,h1,h2⟩:=Vals.get (i:=i) (x:=x) t (by simpa using e)
  exact⟨u,by simpa using h1,h2⟩
theorem Vals.append:∀{xs ys:List V} {us ws:List Value},Vals xs us ->Vals ys ws ->Vals (xs++ys) (us++ws)
 |_,_,_,_,.nil,s=>s
 |_,_,_,_,.cons r t,s=> .cons r (Vals.append t s)
theorem Vals.take:∀{xs:List V} {us:List Value} (n:Nat),Vals xs us ->Vals (xs.take n) (us.take n)
 |_,_,0,_=> .nil
 |_,_,_+1,.nil=> .nil
 |_,_,n+1,.cons r t=> .cons r (Vals.take n t)
theorem Vals.drop:∀{xs:List V} {us:List Value} (n:Nat),Vals xs us ->Vals (xs.drop n) (us.drop n)
 |_,_,0,r=>r
 |_,_,_+1,.nil=> .nil
 |_,_,n+1,.cons _ t=>Vals.drop n t
noncomputable def upd(H:Hp)(a:Addr)(o:HO):Hp:=fun b=>if b=a then some o else H b
theorem fq{H:Hp}{a:Addr}{o:HO}:upd H a o a=some o:=by unfold upd;rw[if_pos rfl]
theorem fy{H:Hp}{a b:Addr}{o:HO}(h:b≠a):upd H a o b=H b:=by unfold upd;rw[if_neg h]
theorem lZ{H:Hp}{a b:Addr}{o u:HO}(h:H a=some o)(h':H b=some u)(d:o≠u):a≠b:=by
 intro e;subst e;rw[h] at h';exact d (aH.inj h')
theorem fu{H:Hp}{a b:Addr}{o:HO}(h:H a=some o)(h':H b=none):a≠b:=by
 intro e;subst e;rw[h] at h';cases h'
section
variable (P:Program) (w:World)
end
section
variable {P:Program} {w:World} {H H':Hp} {h h':Heap} {a:Addr} {o:HO}
theorem Paired.mapP{α β:Type}{F G:α ->β ->Prop}:∀{l₁:List α} {l₂:List β},Paired F l₁ l₂ ->(∀a b,F a b ->G a b) ->Paired G l₁ l₂
 |_,_,.nil,_=> .nil
 |_,_,.cons r t,f=> .cons (f _ _ r) (Paired.mapP t f)
noncomputable def p8:HO ->Bool
 | .tup _=>true
 | .frz _ _=>true
 |_=>false
noncomputable abbrev Still:={o:HO //p8 o=true}
theorem ObjOk.stay(x:ObjOk P w H h a o)(k:∀b u,(b=a∨H b=some (.own a)) ->h.get? b=some u ->h'.get? b=some u)
  (ho:∀b,H b=some (.own a) ->H' b=some (.own a)) (ht:∀(b:Addr) (xs:Still),H b=some xs.1 ->H' b=some xs.1):ObjOk P w H' h' a o:=by
 induction o with
 |lst xs=>obtain⟨z,its,n,r,e⟩:=x;exact⟨z,its,n,r,k _ _ (.inl rfl) e⟩
 |tup xs=>obtain⟨z,its,r,ob,e,c⟩:=x;exact⟨z,its,r,ob,k _ _ (.inl rfl) e,c⟩
 |dK kvs=>obtain⟨z,y,vs,r,ob,es,ep,e,c⟩:=x;exact⟨z,y,vs,r,ob,es,ep,k _ _ (.inl rfl) e,c⟩
 |dT kvs=>
  obtain⟨z,y,xs,r,ob,es,ep,e,c⟩:=x
  exact⟨z,y,xs,Paired.mapP r fun p q z=>⟨z.1,ht _ ⟨.tup _,rfl⟩ z.2.1,z.2.2⟩,ob,es,ep,k _ _ (.inl rfl) e,c⟩
 |set S n=>obtain⟨ob,es,ep,t,e,c⟩:=x;exact⟨ob,es,ep,t,k _ _ (.inl rfl) e,c⟩
 |ins C dx fs=>
  obtain⟨d,z,ne,e,mA,⟨od,es,ep,e2,c⟩,r⟩:=x
  exact⟨ho _ d,z,ne,k _ _ (.inl rfl) e,mA,⟨od,es,ep,k _ _ (.inr d) e2,c⟩,r⟩
 |own y=>obtain⟨ob,e⟩:=x;exact⟨ob,k _ _ (.inl rfl) e⟩
 |xd fs=>obtain⟨mA,⟨od,es,ep,e,c⟩,r⟩:=x;exact⟨mA,⟨od,es,ep,k _ _ (.inl rfl) e,c⟩,r⟩
 |rng lo hi=>obtain⟨t,u,v,e⟩:=x;exact⟨t,u,v,k _ _ (.inl rfl) e⟩
 |frz ob u ih=>obtain⟨e,q⟩:=x;exact⟨k _ _ (.inl rfl) e,ih q⟩
 |tbl ps=>
  obtain⟨qs,e,z⟩:=x
  refine⟨qs,k _ _ (.inl rfl) e,z.imp id fun⟨c,oc,l,d,q,t,u,vs,e1,e2,e3,e4⟩=>⟨c,oc,l,d,q,t,u,vs,e1,e2,ht c ⟨.frz oc (.own 0),rfl⟩ e3,e4⟩⟩
 |met f y=>
  have e:h.get? a=some (cP (.ref f) (.ref y)):=x
  show h'.get? a=some (cP (.ref f) (.ref y))
  exact k a _ (.inl rfl) e
 |ext φ=>obtain⟨p,⟨o,e⟩,st⟩:=x;exact⟨st _ _ p fun o q=>k _ _ (.inl rfl) q,⟨o,k _ _ (.inl rfl) e⟩,st⟩
theorem HOk.fresh(x:HOk P w H h)(e:h.objs.size<=a):H a=none:=by
 cases q:H a with
 |none=>rfl
 |some u=>exact absurd (aq (x.lt q) e) (bf _)
theorem HOk.kept(x:HOk P w H h)(k:∀b u,h.get? b=some u ->h'.get? b=some u):HOk P w H h':=fun a o e=>
 (x a o e).stay (fun b u _ q=>k b u q) (fun _ q=>q) fun _ _ q=>q
theorem HOk.laid(x:HOk P w H h)(k:∀b u,h.get? b=some u ->h'.get? b=some u)(hp:h.objs.size<=a)(new:ObjOk P w (upd H a o) h' a o):HOk P w (upd H a o) h':=fun b u e=>by
 have hn:=x.fresh hp
 by_cases hb:b=a
 ·subst hb;rw[fq] at e;cases e;exact new
 ·rw[fy hb] at e;exact(x b u e).stay (fun c v _ q=>k c v q) (fun c q=>by rw[fy (fu q hn)];exact q) fun c xs q=>by rw[fy (fu q hn)];exact q
end
noncomputable def Mut:Option HO ->Prop
 |some (.lst _)=>True
 |some (.dK _)=>True
 |some (.dT _)=>True
 |some (.set _ _)=>True
 |some (.ins _ _ _)=>True
 |some (.ext _)=>True
 |_=>False
section
variable {P:Program} {w:World} {H:Hp} {h h':Heap} {x e:Addr} {o':HO}
theorem HOk.write(ok:HOk P w H h)(mu:Mut (H x))(he:e=x∨H e=some (.own x))(k:∀b u,b≠e ->h.get? b=some u ->h'.get? b=some u)(heo:∃u,h'.get? e=some u)
  (new:ObjOk P w (upd H x o') h' x o'):HOk P w (upd H x o') h':=fun b u q=>by
 have nown:∀c y,H c=some (.own y) ->c≠x:=fun c y r z=>by subst z;rw[r] at mu;exact mu
 have ntup:∀c (xs:Still),H c=some xs.1 ->c≠x:=fun c xs r z=>by
  subst z;rw[r] at mu;obtain⟨o,ho⟩:=xs
  cases o<;>first|exact mu|cases ho
 by_cases hb:b=x
 ·subst hb;rw[fq] at q;cases q;exact new
 ·rw[fy hb] at q
  by_cases hbe:b=e
  ·have q':H b=some (.own x):=by
    rcases he with z|z
    ·exact absurd (hbe.trans z) hb
    ·rw[hbe];exact z
   rw[q] at q';cases q';obtain⟨v,hv⟩:=heo
   exact⟨v,by rw[hbe];exact hv⟩
  ·refine(ok b u q).stay (fun c v hc r=>k c v ?_ r) (fun c r=>by rw[fy (nown c b r)];exact r) fun c xs r=>by rw[fy (ntup c xs r)];exact r
   rcases hc with rfl|hc
   ·exact hbe
   ·rintro rfl;rcases he with z|z
    ·exact nown c b hc z
    ·rw[hc] at z;cases z;exact hb rfl
end
section
variable {fs fs' ex ex':List Addr} {H H1 H2:Hp} {h h1 h2 h':Heap} {a x e:Addr} {o:HO}
theorem Un.any(u:Un fs ex H H1 h h1){b:Addr}{ob:Obj}(q:h.get? b=some ob)(n:H b=none)(hx:b∉ex):∃sl,h1.get? b=some {ob with slots:=sl}:=by
 by_cases hb:b∈fs
 ·exact u.slot b ob q n hb hx
 ·exact⟨ob.slots,u.keep b ob q n hb hx⟩
theorem Un.kept(k:∀b u,h.get? b=some u ->h'.get? b=some u):Un fs ex H H h h':=
 ⟨fun b ob q _ _ _=>k b ob q,fun b ob q _ _ _=>⟨ob.slots,k b ob q⟩,fun _ _ _ n _=>n,fun b ob q _=>⟨ob,k b ob q⟩,fun _ _ q=>q,fun _ _ _ q=>q,fun _ ps q=>⟨#[],by rw[q];simp⟩⟩
theorem Un.refl:Un fs ex H H h h:=Un.kept fun _ _ q=>q
theorem Un.laid(k:∀b u,h.get? b=some u ->h'.get? b=some u)(hp:h.objs.size<=a)(hn:H a=none):Un fs ex H (upd H a o) h h' where
 keep:=fun b u q _ _ _=>k b u q
 slot:=fun b u q _ _ _=>⟨u.slots,k b u q⟩
 free:=fun b u q n _=>by rw[fy (ax (aq (Heap.lt_size q) hp))];exact n
 there:=fun b u q _=>⟨u,k b u q⟩
 tups:=fun b xs q=>by rw[fy (fu q hn)];exact q
 frzs:=fun b u xs q=>by rw[fy (fu q hn)];exact q
 tbls:=fun b ps q=>⟨#[],by rw[fy (fu q hn),q];simp⟩
theorem Un.write(mu:Mut (H x))(he:e=x∨H e=some (.own x))(k:∀b u,b≠e ->h.get? b=some u ->h'.get? b=some u)(heo:∃u,h'.get? e=some u):Un fs ex H (upd H x o) h h':=by
 have hx:∀b,H b=none ->b≠x:=fun b n z=>by subst z;rw[n] at mu;exact mu
 have hb:∀b,H b=none ->b≠e:=fun b n z=>by
  subst z;rcases he with r|r
  ·exact hx b n r
  ·rw[n] at r;cases r
 have hm:∀b u,H b=some u -> ¬Mut (some u) ->b≠x:=fun b u q nm z=>by subst z;rw[q] at mu;exact nm mu
 refine⟨fun b u q n _ _=>k b u (hb b n) q,fun b u q n _ _=>⟨u.slots,k b u (hb b n) q⟩,fun b u q n _=>by rw[fy (hx b n)];exact n,fun b u q _=> ?_,
  fun b xs q=>by rw[fy (hm b _ q fun z=>z)];exact q,fun b u xs q=>by rw[fy (hm b _ q fun z=>z)];exact q,fun b ps q=>⟨#[],by rw[fy (hm b _ q fun z=>z),q];simp⟩⟩
 by_cases hbe:b=e
 ·subst hbe;exact heo
 ·exact⟨u,k b u hbe q⟩
theorem Un.mono(u:Un fs ex H H1 h h1)(hs:∀b∈fs,b∈fs')(hx:∀b∈ex,b∈ex'):Un fs' ex' H H1 h h1:=
 ⟨fun b ob q n hb he=>u.keep b ob q n (fun z=>hb (hs b z)) fun z=>he (hx b z),fun _ _ q n _ he=>u.any q n fun z=>he (hx _ z),fun b ob q n he=>u.free b ob q n fun z=>he (hx b z),fun b ob q he=>u.there b ob q fun z=>he (hx b z),u.tups,u.frzs,u.tbls⟩
end
noncomputable def pB(g h:Heap)(L:Addr):List (Addr×Obj):=(aw h.objs.size).filterMap fun a=>if a=L∨(g.get? a).isSome=true then none else(h.get? a).map fun o=>(a,o)
noncomputable def rest(g h:Heap)(L d:Addr):List (Addr×Obj):=(pB g h L).filter fun p=>decide (p.1≠d)
end L2
namespace L2
open PySem PySem.Spec PyProof.Rows
structure Cx where
 prog:Program
 w:World
 K:af
 mg:Str ->Option Value
 base:Heap
 A:Around
 N:List Str
 s₀:Shared
 H₀:Hp
 env:Env
 outer:List Env
 stack:List Env
 ex:List Addr
 fn:Str ->Bool
 calm:Bool
 pn:List (Addr×Obj)
 xe:Value ->Shared ->Prop
noncomputable abbrev Cx.fs(X:Cx):List Addr:=frs X.outer
noncomputable def Vis(sc:Scope)(x:Str):Prop:=sc.names.lookup x=some .local∨sc.names.lookup x=some .cell∨sc.names.lookup x=some .free
noncomputable def Loc(sc:Scope)(x:Str):Prop:=sc.names.lookup x=some .local∨sc.names.lookup x=some .cell
noncomputable def Look(env:Env)(h:Heap)(m:Str ->Option Value)(x:Str)(u:Value):Prop:=
 (env.kindOf x=some .local /\ m x=some u)∨((env.kindOf x=some .cell∨env.kindOf x=some .free) /\ ∃c,env.cells.lookup x=some c /\ h.IsCell c (some u))
structure Cx.Ok(X:Cx):Prop where
 mod:Mod X.K X.mg X.base
 kind:X.env.scope.kind= .function
 glob:X.env.globals=mainGlobals
 blt:X.env.builtins=builtinsNs
 above:X.s₀.heap.objs.size<=X.env.locals
 inj:∀x y c,X.env.cells.lookup x=some c ->X.env.cells.lookup y=some c ->x=y
 has:∀x,(X.env.kindOf x=some .cell∨X.env.kindOf x=some .free) -> ∃c,X.env.cells.lookup x=some c
 cab:∀x c,X.fn x=true ->X.env.cells.lookup x=some c ->X.s₀.heap.objs.size<=c
 hd:X.calm=true ->X.A.handled=none
 frames:X.A.frames=some X.stack
 stk:X.stack=X.outer∨(X.stack=X.env::X.outer /\ X.env.frame=some X.env.locals)
 exf:∀b∈X.ex,b≠X.env.locals /\ ∀x c,X.env.cells.lookup x=some c ->c≠b
 bs:∀b o,X.base.get? b=some o ->X.s₀.heap.get? b=some o /\ X.H₀ b=none
 bsz:X.base.objs.size<=X.s₀.heap.objs.size
 noex:∀b o,X.base.get? b=some o ->b∉X.ex
 exfs:∀b∈X.ex,b∉X.fs
 funs:X.s₀.heap.FunFrames X.base X.outer
 frf:∀b∈X.fs,X.H₀ b=none
structure Inv(X:Cx)(pins:List (Addr×Obj))(σ:List (Option V))(H:Hp)(s:Shared):Prop where
 ok:X.Ok
 os:s.os=X.s₀.os
 bare:AllBare s.gens
 base:Un X.fs X.ex X.H₀ H X.s₀.heap s.heap
 loc:∃m,s.heap.Ns X.env.locals m /\ ∀(i:Nat) (x:Str) (v:V),X.N[i]? =some x ->σ[i]? =some (some v) ->Vis X.env.scope x -> ∃u,RelV v u /\ Look X.env s.heap m x u
 cell:∀x c,X.env.cells.lookup x=some c -> ∃v,s.heap.IsCell c v
 free:H X.env.locals=none
 freeC:∀x c,X.env.cells.lookup x=some c ->H c=none
 pin:∀p∈X.pn++pins,s.heap.get? p.1=some p.2 /\ H p.1=none /\ p.1≠X.env.locals /\ p.1∉X.fs /\ ∀v,p.2.data≠ .cell v
 hok:HOk X.prog X.w H s.heap
 len:σ.length=X.N.length
section
variable {X:Cx} {pins:List (Addr×Obj)} {σ:List (Option V)} {H H':Hp} {s:Shared} {h':Heap}
theorem Cx.Ok.nofr(ok:X.Ok){b:Addr}{o:Obj}(e:X.base.get? b=some o):b∉X.fs:=fun hb=>by
 have:=(ok.funs.mem hb).1
 rw[e] at this;cases this
theorem Inv.bs(I:Inv X pins σ H s):∀b o,X.base.get? b=some o ->s.heap.get? b=some o /\ H b=none:=fun b o e=>
 ⟨I.base.keep b o (I.ok.bs b o e).1 (I.ok.bs b o e).2 (I.ok.nofr e) (I.ok.noex b o e),I.base.free b o (I.ok.bs b o e).1 (I.ok.bs b o e).2 (I.ok.noex b o e)⟩
theorem Inv.bk(I:Inv X pins σ H s):∀b o,X.base.get? b=some o ->s.heap.get? b=some o:=fun b o e=>(I.bs b o e).1
theorem Inv.mod(I:Inv X pins σ H s):Mod X.K X.mg X.base:=I.ok.mod
theorem Inv.kIn(I:Inv X pins σ H s):X.K.In s.heap:=I.ok.mod.kin.keeps I.bk
theorem Inv.nolimit(I:Inv X pins σ H s):s.heap.NoLimit:=I.ok.mod.nolimit.keeps I.bk
theorem Inv.fr(I:Inv X pins σ H s):∃m,Fr X.base X.env.locals s.heap m:=
 let⟨m,hn,_⟩:=I.loc
 ⟨m,hn,I.bk,bj I.ok.bsz I.ok.above⟩
theorem Inv.lt(I:Inv X pins σ H s):X.env.locals<s.heap.objs.size:=let⟨_,hn,_⟩:=I.loc;hn.lt
theorem Inv.sz(I:Inv X pins σ H s):X.s₀.heap.objs.size<=s.heap.objs.size:=bj I.ok.above (bt I.lt)
theorem Inv.nofs(I:Inv X pins σ H s){a:Addr}(h:s.heap.objs.size<=a):a∉X.fs:=fun hb=>by
 obtain⟨_,o,ho,_⟩:=I.ok.funs.mem hb
 exact absurd (aq (Heap.lt_size ho) (bj I.sz h)) (bf _)
theorem Inv.cne(I:Inv X pins σ H s):∀x c,X.env.cells.lookup x=some c ->c≠X.env.locals:=fun x c e z=>by
 obtain⟨v,o,ho,hd⟩:=I.cell x c e
 obtain⟨m,⟨o',es,ep,ho',hd',_⟩,_⟩:=I.loc
 rw[z,ho'] at ho;cases ho;rw[hd'] at hd;cases hd
theorem Inv.funs(I:Inv X pins σ H s):s.heap.FunFrames X.base X.outer:=by
 have all:∀(l:List Env),(∀b∈frs l,b∈X.fs) ->X.s₀.heap.FunFrames X.base l ->s.heap.FunFrames X.base l:=by
  intro l
  induction l with
  |nil=>intro _ _;trivial
  |cons env r ih=>
   intro hs hl;obtain⟨hk,⟨L,o,hf,hn,ho,hd⟩,hr⟩:=hl
   have hL:L∈X.fs:=hs L (by unfold frs;rw[cH,hf];exact aP)
   obtain⟨sl,e⟩:=I.base.slot L o ho (I.ok.frf L hL) hL fun z=>I.ok.exfs L z hL
   exact⟨hk,⟨L,_,hf,hn,e,hd⟩,ih (fun b hb=>hs b (by unfold frs;rw[cH,hf];exact aF _ hb)) hr⟩
 exact all X.outer (fun _ hb=>hb) I.ok.funs
theorem Inv.stack(I:Inv X pins σ H s):s.heap.FunFrames X.base X.stack:=by
 rcases I.ok.stk with e|⟨e,hf⟩
 ·rw[e];exact I.funs
 ·rw[e];obtain⟨m,hn,_⟩:=I.loc
  refine .cons (by rw[I.ok.kind];decide) hf hn ?_ I.funs
  exact Heap.get?_none_of_le (bj I.ok.bsz I.ok.above)
theorem Inv.stkSub(I:Inv X pins σ H s):∀b∈frs X.stack,b∈X.env.locals::X.fs:=fun b hb=>by
 rcases I.ok.stk with e|⟨e,hf⟩
 ·rw[e] at hb;exact aF _ hb
 ·rw[e] at hb;unfold frs at hb;rw[cH,hf] at hb;exact hb
theorem Inv.stkFree(I:Inv X pins σ H s):∀b∈frs X.stack,H b=none:=fun b hb=>by
 rcases aD.mp (I.stkSub b hb) with e|hb
 ·rw[e];exact I.free
 ·obtain⟨_,o,ho,_⟩:=I.ok.funs.mem hb
  exact I.base.free b o ho (I.ok.frf b hb) fun z=>I.ok.exfs b z hb
theorem Inv.step{g':Array GenState}{t':Nat}{d':Drawn}{ch:List Addr}(I:Inv X pins σ H s)
  (hch:∀b∈ch,(b∈X.ex∨X.s₀.heap.objs.size<=b) /\ b≠X.env.locals /\ (∀x c,X.env.cells.lookup x=some c ->c≠b) /\ ∀p∈X.pn++pins,p.1≠b)
  (keep:∀b o,b≠X.env.locals ->b∉X.fs ->b∉ch ->s.heap.get? b=some o ->H b=none ->h'.get? b=some o)
  (slot:∀b o,b≠X.env.locals ->b∈X.fs ->b∉ch ->s.heap.get? b=some o ->H b=none -> ∃sl,h'.get? b=some {o with slots:=sl}) (free:∀b o,b∉ch ->s.heap.get? b=some o ->H b=none ->H' b=none)
  (there:∀b o,b∉ch ->s.heap.get? b=some o -> ∃o',h'.get? b=some o')
  (tups:∀b xs,H b=some (.tup xs) ->H' b=some (.tup xs)) (frzs:∀b o u,H b=some (.frz o u) ->H' b=some (.frz o u)) (tbls:∀b ps,H b=some (.tbl ps) -> ∃more,H' b=some (.tbl (ps++more)))
  (ns:∀m,s.heap.Ns X.env.locals m ->h'.Ns X.env.locals m) (hok:HOk X.prog X.w H' h') (hg:AllBare g'):
  Inv X pins σ H' {s with heap:=h',gens:=g',drawn:=d',toks:=t'}:=by
 have neL:∀b o,X.s₀.heap.get? b=some o ->b≠X.env.locals:=fun b o e=>ax (aq (Heap.lt_size e) I.ok.above)
 have neC:∀b o,X.s₀.heap.get? b=some o ->b∉X.ex ->b∉ch:=fun b o e hx hb=>by
  rcases(hch b hb).1 with z|z
  ·exact hx z
  ·exact absurd (aq (Heap.lt_size e) z) (bf _)
 have cellK:∀x c,X.env.cells.lookup x=some c -> ∀v,s.heap.IsCell c v ->h'.IsCell c v:=fun x c e v ⟨o,ho,hd⟩=>by
  have nch:c∉ch:=fun z=>(hch c z).2.2.1 x c e rfl
  by_cases hc:c∈X.fs
  ·obtain⟨sl,q⟩:=slot c o (I.cne x c e) hc nch ho (I.freeC x c e)
   exact⟨_,q,hd⟩
  ·exact⟨o,keep c o (I.cne x c e) hc nch ho (I.freeC x c e),hd⟩
 refine⟨I.ok,I.os,hg,⟨fun b o e n hb hx=> ?_,fun b o e n hb hx=> ?_,fun b o e n hx=> ?_,fun b o e hx=> ?_,fun b xs e=>tups b xs (I.base.tups b xs e),fun b o xs e=>frzs b o xs (I.base.frzs b o xs e),fun b ps e=> ?_⟩,?_,fun x c e=> ?_,?_,fun x c e=> ?_,fun p hp=> ?_,hok,I.len⟩
 ·exact keep b o (neL b o e) hb (neC b o e hx) (I.base.keep b o e n hb hx) (I.base.free b o e n hx)
 ·obtain⟨sl,e1⟩:=I.base.slot b o e n hb hx
  obtain⟨sl',e2⟩:=slot b _ (neL b o e) hb (neC b o e hx) e1 (I.base.free b o e n hx)
  exact⟨sl',e2⟩
 ·obtain⟨o',e1⟩:=I.base.there b o e hx
  exact free b o' (neC b o e hx) e1 (I.base.free b o e n hx)
 ·obtain⟨o',e1⟩:=I.base.there b o e hx
  exact there b o' (neC b o e hx) e1
 ·obtain⟨m1,e1⟩:=I.base.tbls b ps e
  obtain⟨m2,e2⟩:=tbls b _ e1
  exact⟨m1++m2,by rw[e2,dP]⟩
 ·obtain⟨m,hn,hl⟩:=I.loc
  refine⟨m,ns m hn,fun i x v e1 e2 e3=> ?_⟩;obtain⟨u,r,l⟩:=hl i x v e1 e2 e3
  refine⟨u,r,?_⟩;rcases l with l|⟨k,c,e,z⟩
  ·exact .inl l
  ·exact .inr ⟨k,c,e,cellK x c e _ z⟩
 ·obtain⟨v,z⟩:=I.cell x c e
  exact⟨v,cellK x c e v z⟩
 ·obtain⟨m,⟨o,_,_,ho,_⟩,_⟩:=I.loc
  exact free _ o (fun z=>(hch _ z).2.1 rfl) ho I.free
 ·obtain⟨v,o,ho,hd⟩:=I.cell x c e
  exact free c o (fun z=>(hch c z).2.2.1 x c e rfl) ho (I.freeC x c e)
 ·obtain⟨e,n,ne,nf,d⟩:=I.pin p hp
  have nch:p.1∉ch:=fun z=>(hch p.1 z).2.2.2 p hp rfl
  exact⟨keep p.1 p.2 ne nf nch e n,free p.1 p.2 nch e n,ne,nf,d⟩
theorem Inv.un{t':Nat}(I:Inv X pins σ H s)(u:Un X.fs [] H H' s.heap h')(hok:HOk X.prog X.w H' h'):Inv X pins σ H' {s with heap:=h',toks:=t'}:=by
 obtain⟨m,⟨o,es,ep,ho,r⟩,_⟩:=id I.loc
 obtain⟨sl,hL⟩:=u.any ho I.free (by simp)
 exact I.step (g':=s.gens) (d':=s.drawn) (ch:=[]) (fun _ z=>nomatch z) (fun b o _ hb _ e n=>u.keep b o e n hb (by simp)) (fun b o _ hb _ e n=>u.slot b o e n hb (by simp)) (fun b o _ e n=>u.free b o e n (by simp)) (fun b o _ e=>u.there b o e (by simp)) u.tups u.frzs u.tbls (fun m' hm=>by
  obtain⟨o',es',ep',ho',r'⟩:=hm
  rw[ho] at ho';cases ho';exact⟨_,es',ep',hL,r'⟩) hok I.bare
theorem Inv.call{g':Array GenState}{t':Nat}{d':Drawn}{ch:List Addr}(I:Inv X pins σ H s)(u:Un (frs X.stack) ch H H' s.heap h')(hok:HOk X.prog X.w H' h')(hg:AllBare g')
  (hch:∀b∈ch,(b∈X.ex∨X.s₀.heap.objs.size<=b) /\ b≠X.env.locals /\ (∀x c,X.env.cells.lookup x=some c ->c≠b) /\ ∀p∈X.pn++pins,p.1≠b):
  Inv X pins σ H' {s with heap:=h',gens:=g',drawn:=d',toks:=t'}:=by
 obtain⟨m,⟨o,es,ep,ho,r⟩,_⟩:=id I.loc
 obtain⟨sl,hL⟩:=u.any ho I.free fun z=>(hch _ z).2.1 rfl
 exact I.step (ch:=ch) hch (fun b o hL hb hc e n=>u.keep b o e n (fun z=>(aD.mp (I.stkSub b z)).elim hL hb) hc) (fun b o _ _ hc e n=>u.any e n hc) (fun b o hc e n=>u.free b o e n hc) (fun b o hc e=>u.there b o e hc) u.tups u.frzs u.tbls (fun m' hm=>by
  obtain⟨o',es',ep',ho',r'⟩:=hm
  rw[ho] at ho';cases ho';exact⟨_,es',ep',hL,r'⟩) hok hg
theorem Inv.turned{t':Nat}{it:Addr}(I:Inv X pins σ H s)(k:∀b o,b≠it ->s.heap.get? b=some o ->h'.get? b=some o)(hn:H it=none)(hL:it≠X.env.locals)
  (h1:it∈X.ex∨X.s₀.heap.objs.size<=it) (h2:∀x c,X.env.cells.lookup x=some c ->c≠it) (h3:∀p∈X.pn++pins,p.1≠it):Inv X pins σ H {s with heap:=h',toks:=t'}:=by
 have nit:∀b u,H b=some u ->b≠it:=fun b u e z=>by rw[z,hn] at e;cases e
 refine I.step (g':=s.gens) (d':=s.drawn) (ch:=[it]) (fun b hb=> ?_) (fun b o _ _ hc e _=>k b o (fun z=>hc (by simp[z])) e) (fun b o _ _ hc e _=>⟨o.slots,k b o (fun z=>hc (by simp[z])) e⟩) (fun _ _ _ _ n=>n)
  (fun b o hc e=>⟨o,k b o (fun z=>hc (by simp[z])) e⟩) (fun _ _ e=>e) (fun _ _ _ e=>e) (fun b ps e=>⟨#[],by rw[e];simp⟩) (fun m hm=> ?_) (fun b u e=> ?_) I.bare
 ·have e:b=it:=by simpa using hb
  subst e;exact⟨h1,hL,h2,h3⟩
 ·obtain⟨o,es,ep,ho,r⟩:=hm
  exact⟨o,es,ep,k _ o (Ne.symm hL) ho,r⟩
 ·refine(I.hok b u e).stay (fun c v hc q=>k c v ?_ q) (fun _ q=>q) fun _ _ q=>q
  rcases hc with z|z
  ·rw[z];exact nit b u e
  ·exact nit c _ z
theorem Inv.tok(I:Inv X pins σ H s)(t:Nat):Inv X pins σ H {s with toks:=t}:=I.un (h':=s.heap) (t':=t) Un.refl I.hok
theorem Inv.kept{t':Nat}(I:Inv X pins σ H s)(k:∀b u,s.heap.get? b=some u ->h'.get? b=some u):Inv X pins σ H {s with heap:=h',toks:=t'}:=I.un (Un.kept k) (I.hok.kept k)
theorem Inv.laid{a:Addr}{o:HO}{t':Nat}(I:Inv X pins σ H s)(k:∀b u,s.heap.get? b=some u ->h'.get? b=some u)(hp:s.heap.objs.size<=a)(new:ObjOk X.prog X.w (upd H a o) h' a o):
  Inv X pins σ (upd H a o) {s with heap:=h',toks:=t'}:=I.un (Un.laid k hp (I.hok.fresh hp)) (I.hok.laid k hp new)
theorem Inv.write{x e:Addr}{o:HO}{t':Nat}(I:Inv X pins σ H s)(mu:Mut (H x))(he:e=x∨H e=some (.own x))(k:∀b u,b≠e ->s.heap.get? b=some u ->h'.get? b=some u)(heo:∃u,h'.get? e=some u)
  (new:ObjOk X.prog X.w (upd H x o) h' x o):Inv X pins σ (upd H x o) {s with heap:=h',toks:=t'}:=I.un (Un.write mu he k heo) (I.hok.write mu he k heo new)
theorem Inv.weak{σ':List (Option V)}(I:Inv X pins σ H s)(hl:σ'.length=σ.length)(w:∀(i:Nat) v,σ'[i]? =some (some v) ->σ[i]? =some (some v)):Inv X pins σ' H s:=
 ⟨I.ok,I.os,I.bare,I.base,let⟨m,hn,hl'⟩:=I.loc;⟨m,hn,fun i x v e1 e2 e3=>hl' i x v e1 (w i v e2) e3⟩,I.cell,I.free,I.freeC,I.pin,I.hok,hl.trans I.len⟩
theorem Inv.pins_of{pins':List (Addr×Obj)}(I:Inv X pins σ H s)(h:∀p∈pins',s.heap.get? p.1=some p.2 /\ H p.1=none /\ p.1≠X.env.locals /\ p.1∉X.fs /\ ∀v,p.2.data≠ .cell v):Inv X pins' σ H s:=
 ⟨I.ok,I.os,I.bare,I.base,I.loc,I.cell,I.free,I.freeC,fun p hp=>(bG.mp hp).elim (fun z=>I.pin p (bh _ z)) (h p),I.hok,I.len⟩
theorem kr{N:List Str}(hN:N.Nodup){i j:Nat}{x:Str}(a:N[i]? =some x)(b:N[j]? =some x):i=j:=by
 obtain⟨h1,e1⟩:=ah.mp a
 obtain⟨h2,e2⟩:=ah.mp b
 exact(cA hN).mp (e1.trans e2.symm)
theorem lH{M:Model}{A:Around}{E:Value ->Shared ->Prop}{i:Nat}{x:Str}{v:V}{u:Value}{Q:Unit ->Shared ->Prop}(I:Inv X pins σ H s)(hN:X.N.Nodup)(hi:X.N[i]? =some x)(hx:Loc X.env.scope x)(r:RelV v u)
  (h:∀s',Inv X pins (σ.set i (some v)) H s' ->(∃a,Heap.SameBut a s.heap s'.heap /\ (a=X.env.locals∨X.env.cells.lookup x=some a)) ->Q () s') (hf:X.fn x=true∨X.env.scope.names.lookup x=some .local:=by first|exact .inl rfl|exact .inr rfl|assumption):wpAny M A (storeName X.env x u) Q E s:=by
 obtain⟨m,hn,hl⟩:=id I.loc
 have hcls:(X.env.scope.kind== .class||(X.env.scope.kind== .module&&X.env.locals !=X.env.globals))=false:=by rw[I.ok.kind];rfl
 have hiσ:i<σ.length:=by rw[I.len];exact(ah.mp hi).1
 have cne:=I.cne
 have tracked:∀{a:Addr} {h':Heap},(∃o,s.heap.get? a=some o /\ H a=none) ->Heap.SameBut a s.heap h' ->HOk X.prog X.w H h':=fun {a h'} ha hs b ob e=>by
  obtain⟨_,_,hfree⟩:=ha
  refine(I.hok b ob e).stay (fun c w' hc q=>(hs.2 c ?_).trans q) (fun _ q=>q) fun _ _ q=>q
  rintro rfl;rcases hc with rfl|hc
  ·rw[hfree] at e;cases e
  ·rw[hfree] at hc;cases hc
 rcases hx with hk|hk
 ·refine wpAny_storeName_local hk hn (fun h' hn' hs=> ?_) hcls;obtain⟨oL,_,_,hoL,_⟩:=id hn
  refine h _ ⟨I.ok,I.os,I.bare,⟨fun b o e n hb hx=> ?_,fun b o e n hb hx=> ?_,I.base.free,fun b o e hx=> ?_,I.base.tups,I.base.frzs,I.base.tbls⟩,⟨_,hn',fun j y v' e1 e2 e3=> ?_⟩,fun y c e=> ?_,I.free,I.freeC,fun p hp=> ?_,tracked ⟨oL,hoL,I.free⟩ hs,by simpa using I.len⟩ ⟨_,hs,.inl rfl⟩
  ·exact(hs.2 b (ax (aq (Heap.lt_size e) I.ok.above))).trans (I.base.keep b o e n hb hx)
  ·obtain⟨sl,e1⟩:=I.base.slot b o e n hb hx
   exact⟨sl,(hs.2 b (ax (aq (Heap.lt_size e) I.ok.above))).trans e1⟩
  ·obtain⟨o',e1⟩:=I.base.there b o e hx
   exact⟨o',(hs.2 b (ax (aq (Heap.lt_size e) I.ok.above))).trans e1⟩
  ·by_cases hj:j=i
   ·subst hj;rw[hi] at e1;cases e1;rw[da hiσ] at e2;cases e2;exact⟨u,r,.inl ⟨hk,by simp⟩⟩
   ·rw[dD (Ne.symm hj)] at e2;obtain⟨u',r',q⟩:=hl j y v' e1 e2 e3
    refine⟨u',r',?_⟩;rcases q with⟨k,e⟩|⟨k,c,e,z⟩
    ·refine .inl ⟨k,?_⟩;have:y≠x:=fun e=>hj (kr hN e1 (e▸hi))
     simp[this,e]
    ·exact .inr ⟨k,c,e,z.sameBut hs (cne y c e)⟩
  ·obtain⟨w',z⟩:=I.cell y c e
   exact⟨w',z.sameBut hs (cne y c e)⟩
  ·obtain⟨e,n,ne,nf,d⟩:=I.pin p hp
   exact⟨(hs.2 p.1 ne).trans e,n,ne,nf,d⟩
 ·have hfn:X.fn x=true:=by
   rcases hf with z|z
   ·exact z
   ·rw[z] at hk;cases hk
  obtain⟨c,hc⟩:=I.ok.has x (.inl hk)
  obtain⟨w',z⟩:=I.cell x c hc
  refine wpAny_storeName_cell I.ok.kind hk hc z (fun h' hc' hs=> ?_);obtain⟨oc,hoc,hocd⟩:=id z
  refine h {s with heap:=h'} ⟨I.ok,I.os,I.bare,⟨fun b o e n hb hx=> ?_,fun b o e n hb hx=> ?_,I.base.free,fun b o e hx=> ?_,I.base.tups,I.base.frzs,I.base.tbls⟩,⟨m,hn.sameBut hs (Ne.symm (cne x c hc)),fun j y v' e1 e2 e3=> ?_⟩,fun y c' e=> ?_,I.free,I.freeC,fun p hp=> ?_,tracked ⟨oc,hoc,I.freeC x c hc⟩ hs,by simpa using I.len⟩ ⟨c,hs,.inr hc⟩
  ·exact(hs.2 b (ax (aq (Heap.lt_size e) (I.ok.cab x c hfn hc)))).trans (I.base.keep b o e n hb hx)
  ·obtain⟨sl,e1⟩:=I.base.slot b o e n hb hx
   exact⟨sl,(hs.2 b (ax (aq (Heap.lt_size e) (I.ok.cab x c hfn hc)))).trans e1⟩
  ·obtain⟨o',e1⟩:=I.base.there b o e hx
   exact⟨o',(hs.2 b (ax (aq (Heap.lt_size e) (I.ok.cab x c hfn hc)))).trans e1⟩
  ·by_cases hj:j=i
   ·subst hj;rw[hi] at e1;cases e1;rw[da hiσ] at e2;cases e2;exact⟨u,r,.inr ⟨.inl hk,c,hc,hc'⟩⟩
   ·rw[dD (Ne.symm hj)] at e2;obtain⟨u',r',q⟩:=hl j y v' e1 e2 e3
    refine⟨u',r',?_⟩;rcases q with q|⟨k,c',e,z'⟩
    ·exact .inl q
    ·refine .inr ⟨k,c',e,z'.sameBut hs ?_⟩;rintro rfl;exact hj (kr hN e1 (I.ok.inj _ _ _ e hc▸hi))
  ·by_cases hcc:c'=c
   ·subst hcc;exact⟨_,hc'⟩
   ·obtain⟨w2,z2⟩:=I.cell y c' e
    exact⟨w2,z2.sameBut hs hcc⟩
  ·obtain⟨e,n,ne,nf,d⟩:=I.pin p hp
   refine⟨(hs.2 p.1 ?_).trans e,n,ne,nf,d⟩;intro q;rw[q,hoc] at e;have q':oc=p.2:=aH.inj e
   exact d w' (by rw[<-q'];exact hocd)
theorem ik{M:Model}{A:Around}{E:Value ->Shared ->Prop}{i:Nat}{x:Str}{v:V}{u:Value}{Q:Unit ->Shared ->Prop}(I:Inv X pins σ H s)(hN:X.N.Nodup)(hi:X.N[i]? =some x)(hx:Loc X.env.scope x)(r:RelV v u)
  (h:∀s',Inv X pins (σ.set i (some v)) H s' ->Q () s') (hf:X.fn x=true∨X.env.scope.names.lookup x=some .local:=by first|exact .inl rfl|exact .inr rfl|assumption):wpAny M A (storeName X.env x u) Q E s:=
 lH I hN hi hx r (fun s' I' _=>h s' I') hf
theorem Inv.call'{s':Shared}{ch:List Addr}(I:Inv X pins σ H s)(ho:s'.os=s.os)(u:Un (frs X.stack) ch H H' s.heap s'.heap)(hok:HOk X.prog X.w H' s'.heap)(hg:AllBare s'.gens)
  (hch:∀b∈ch,(b∈X.ex∨X.s₀.heap.objs.size<=b) /\ b≠X.env.locals /\ (∀x c,X.env.cells.lookup x=some c ->c≠b) /\ ∀p∈X.pn++pins,p.1≠b):Inv X pins σ H' s':=by
 obtain⟨h',g',d',t',o'⟩:=s'
 have e:o'=s.os:=ho
 subst e;exact I.call (g':=g') (t':=t') (d':=d') u hok hg hch
end
noncomputable abbrev St:=List (Option V)
noncomputable abbrev TE:=St ->Hp ->VK ->Prop
noncomputable abbrev TT:=St ->Hp ->(Bool ->Hp ->Prop) ->Prop
noncomputable abbrev TA:=St ->Hp ->(List V ->Hp ->Prop) ->Prop
structure Ends where
 nx:St ->Hp ->Prop
 rt:VK
 bk:St ->Hp ->Prop:=fun _ _=>False
 ct:St ->Hp ->Prop:=fun _ _=>False
noncomputable abbrev TS:=Ends ->St ->Hp ->Prop
noncomputable def EP(X:Cx)(pins:List (Addr×Obj))(σ:St)(Q:VK)(u:Value)(s':Shared):Prop:=∃v H',Inv X pins σ H' s' /\ RelV v u /\ Q v H'
noncomputable def TP(X:Cx)(pins:List (Addr×Obj))(σ:St)(Q:Bool ->Hp ->Prop)(b:Bool)(s':Shared):Prop:=∃H',Inv X pins σ H' s' /\ Q b H'
noncomputable def AP(X:Cx)(pins:List (Addr×Obj))(σ:St)(Q:List V ->Hp ->Prop)(us:List Value)(s':Shared):Prop:=∃vs H',Inv X pins σ H' s' /\ Vals vs us /\ Q vs H'
noncomputable def SP(X:Cx)(pins:List (Addr×Obj))(D:Ends)(f:Flow)(s':Shared):Prop:=
 match f with
 | .next=>∃σ' H',Inv X pins σ' H' s' /\ D.nx σ' H'
 | .brk=>∃σ' H',Inv X pins σ' H' s' /\ D.bk σ' H'
 | .cont=>∃σ' H',Inv X pins σ' H' s' /\ D.ct σ' H'
 | .ret u=>∃v σ' H',Inv X pins σ' H' s' /\ RelV v u /\ D.rt v H'
noncomputable def PE(X:Cx)(e:Expr)(t:TE):Prop:=
 ∀(pins:List (Addr×Obj)) (s:Shared) (σ:St) (H:Hp) (Q:VK),Inv X pins σ H s ->t σ H Q ->wpAny (model X.prog X.w) X.A (eval e X.env) (EP X pins σ Q) X.xe s
noncomputable def PT(X:Cx)(e:Expr)(t:TT):Prop:=
 ∀(pins:List (Addr×Obj)) (s:Shared) (σ:St) (H:Hp) (Q:Bool ->Hp ->Prop),Inv X pins σ H s ->t σ H Q ->wpAny (model X.prog X.w) X.A (isTrue e X.env (eval e X.env)) (TP X pins σ Q) X.xe s
noncomputable def PW(X:Cx)(e:Expr)(t:TT):Prop:=
 ∀(whole:Sem Value) (pins:List (Addr×Obj)) (s:Shared) (σ:St) (H:Hp) (Q:Bool ->Hp ->Prop),Inv X pins σ H s ->t σ H Q ->wpAny (model X.prog X.w) X.A (isTrue e X.env whole) (TP X pins σ Q) X.xe s
theorem PW.pt{X:Cx}{e:Expr}{t:TT}(h:PW X e t):PT X e t:=h _
noncomputable def PA(X:Cx)(es:List Expr)(t:TA):Prop:=
 ∀(pos:Pos) (pins:List (Addr×Obj)) (s:Shared) (σ:St) (H:Hp) (Q:List V ->Hp ->Prop),Inv X pins σ H s ->t σ H Q ->wpAny (model X.prog X.w) X.A (spliced (backTo pos (starEach es X.env))) (AP X pins σ Q) X.xe s
noncomputable def PS(X:Cx)(st:Stmt)(t:TS):Prop:=
 ∀(pins:List (Addr×Obj)) (s:Shared) (σ:St) (H:Hp) (D:Ends),Inv X pins σ H s ->t D σ H ->wpAny (model X.prog X.w) X.A (exec st X.env) (SP X pins D) X.xe s
noncomputable def PSs(X:Cx)(st:List Stmt)(t:TS):Prop:=
 ∀(pins:List (Addr×Obj)) (s:Shared) (σ:St) (H:Hp) (D:Ends),Inv X pins σ H s ->t D σ H ->wpAny (model X.prog X.w) X.A (execs st X.env) (SP X pins D) X.xe s
theorem thn{α:Type}{t:Sem α}{Q Q':α ->Shared ->Prop}{M:Model}{A:Around}{E:Value ->Shared ->Prop}{s:Shared}(h:wpAny M A t Q E s)(hQ:∀a s,Q a s ->Q' a s):wpAny M A t Q' E s:=wpAny_mono h hQ fun _ _ x=>x
end L2
namespace L2
open PySem PySem.Spec PyProof.Rows
section
variable {X:Cx}
noncomputable def pE(i:Nat):TE:=fun σ H Q=>∃v,σ[i]? =some (some v) /\ Q v H
noncomputable def tC(v:V):TE:=fun _ H Q=>Q v H
theorem qo{i:Nat}{x:Str}{pos:Pos}(hN:X.N[i]? =some x)(hv:Vis X.env.scope x)(hd:(x==("__debug__":Str))=false:=by decide)(hcd:(x==("__classdict__":Str))=false:=by decide):PE X (.Name x pos) (pE i):=by
 intro pins s σ H Q I h;obtain⟨v,e,h⟩:=h
 obtain⟨m,hn,hl⟩:=I.loc
 obtain⟨u,r,l⟩:=hl i x v hN e hv
 have fin:EP X pins σ Q u s:=⟨v,H,I,r,h⟩
 rcases l with⟨hk,hm⟩|⟨hk,c,hc,hcell⟩
 ·exact wpAny_Name (wpAny_loadName_local I.ok.kind hk hn hm fin) hd
 ·rcases hk with hk|hk
  ·exact wpAny_Name (wpAny_loadName_cell I.ok.kind hk hc hcell fin) hd
  ·exact wpAny_Name (wpAny_loadName_free I.ok.kind hk hc hcell fin hcd) hd
theorem fj{i j pos}:PE X (.Constant (.int i) j pos) (tC (.int i)):=fun _ _ _ H _ I h=>wpAny_Constant_int ⟨.int i,H,I.tok _,⟨_,rfl⟩,h⟩
theorem oN{b j pos}:PE X (.Constant (.bool b) j pos) (tC (.bl b)):=fun _ _ _ H _ I h=>Constant_bool ⟨.bl b,H,I,rfl,h⟩
theorem jz{j pos}:PE X (.Constant .none j pos) (tC .non):=fun _ _ _ H _ I h=>Constant_none ⟨.non,H,I,rfl,h⟩
noncomputable def Gl(X:Cx)(x:Str):Prop:=X.env.kindOf x=some .globalImplicit
theorem l7{E:Value ->Shared ->Prop}{pins:List (Addr×Obj)}{s:Shared}{σ:St}{H:Hp}{x:Str}{u:Value}{pos:Pos}{Q:Value ->Shared ->Prop}(I:Inv X pins σ H s)(hg:Gl X x)(hm:X.mg x=some u)(h:Q u s)
  (hd:(x==("__debug__":Str))=false:=by decide):wpAny (model X.prog X.w) X.A (eval (.Name x pos) X.env) Q E s:=
 Calls.Name_function_global I.ok.kind hg (Calls.loadGlobal_global (by rw[I.ok.glob];exact I.mod.glob.keeps I.bk) hm h) hd
theorem iO{E:Value ->Shared ->Prop}{pins:List (Addr×Obj)}{s:Shared}{σ:St}{H:Hp}{x:Str}{u:Value}{pos:Pos}{Q:Value ->Shared ->Prop}(I:Inv X pins σ H s)(hg:Gl X x)(hm:X.mg x=none)(hv:bootBuiltins x=some u)(h:Q u s)
  (hn:x≠"__name__":=by decide) (hd:(x==("__debug__":Str))=false:=by decide):wpAny (model X.prog X.w) X.A (eval (.Name x pos) X.env) Q E s:=by
 obtain⟨mb,h1,h2⟩:=I.mod.blt
 exact Calls.Name_function_global I.ok.kind hg (Calls.loadGlobal_builtin (by rw[I.ok.glob];exact I.mod.glob.keeps I.bk) hm (by rw[I.ok.blt];exact h1.keeps I.bk) ((h2 x hn).trans hv) h) hd
theorem oK{x:Str}{v:V}{u:Value}{pos:Pos}(hg:Gl X x)(hm:X.mg x=some u)(r:RelV v u)(hd:(x==("__debug__":Str))=false:=by decide):PE X (.Name x pos) (tC v):=
 fun _ _ _ H _ I h=>l7 I hg hm ⟨v,H,I,r,h⟩ hd
theorem lT{x:Str}{v:V}{u:Value}{pos:Pos}(hg:Gl X x)(hm:X.mg x=none)(hv:bootBuiltins x=some u)(r:RelV v u)(hn:x≠"__name__":=by decide)(hd:(x==("__debug__":Str))=false:=by decide):PE X (.Name x pos) (tC v):=
 fun _ _ _ H _ I h=>iO I hg hm hv ⟨v,H,I,r,h⟩ hn hd
variable {a b:Expr} {ta tb:TE} {pos:Pos}
noncomputable def PC(X:Cx)(op:CmpOp)(a b:Expr)(t:TE):Prop:=
 ∀(pins:List (Addr×Obj)) (s:Shared) (σ:St) (H:Hp) (Q:VK),Inv X pins σ H s ->t σ H Q ->
  wpAny (model X.prog X.w) X.A (eval a X.env) (fun v s₁=>wpAny (model X.prog X.w) X.A (eval b X.env) (fun u s₂=>wpAny (model X.prog X.w) X.A (compareOp op v u) (EP X pins σ Q) X.xe s₂) X.xe s₁) X.xe s
theorem nh(b:Expr){op:CmpOp}(h:op≠ .In)(h2:op≠ .NotIn):behindInMarks op b=false:=by
 have e1:(op==CmpOp.In)=false:=by cases op<;>first|rfl|exact absurd rfl h
 have e2:(op==CmpOp.NotIn)=false:=by cases op<;>first|rfl|exact absurd rfl h2
 cases b<;>simp[behindInMarks,e1,e2]
noncomputable def pZ(ta:TE):TE:=fun σ H Q=>ta σ H fun x H1=>Q (.bl (decide (x= .non))) H1
noncomputable def lC(ta:TE):TE:=fun σ H Q=>ta σ H fun x H1=>Q (.bl (!decide (x= .non))) H1
theorem RelV.none_iff{x:V}{v:Value}(r:RelV x v):(v==Value.none)=decide (x= .non):=by
 cases x with
 |non=>cases r;rfl
 |bl _=>cases r;rfl
 |int _=>obtain⟨t,rfl⟩:=r;rfl
 |str _=>obtain⟨t,rfl⟩:=r;rfl
 |byt _=>obtain⟨t,rfl⟩:=r;rfl
 |flt _=>obtain⟨t,rfl⟩:=r;rfl
 |ref _=>cases r;rfl
 |ty _=>cases r;rfl
theorem lV{j pos'}(ha:PE X a ta):PC X .Is a (.Constant .none j pos') (pZ ta):=by
 intro pins s σ H Q I h;refine thn (ha pins s σ H _ I h) fun v s1 ⟨x,H1,I1,r1,q1⟩=> ?_
 exact Constant_none (is_none_gen ⟨.bl _,H1,I1,by rw[r1.none_iff];rfl,q1⟩)
theorem i9{j pos'}(ha:PE X a ta):PC X .IsNot a (.Constant .none j pos') (lC ta):=by
 intro pins s σ H Q I h;refine thn (ha pins s σ H _ I h) fun v s1 ⟨x,H1,I1,r1,q1⟩=> ?_
 exact Constant_none (isnot_none_gen ⟨.bl _,H1,I1,by rw[r1.none_iff];rfl,q1⟩)
noncomputable def tB(t:TE):TT:=fun σ H Q=>t σ H fun x H1=>∃c,x= .bl c /\ Q c H1
theorem iA{op:CmpOp}{t:TE}(h:PC X op a b t)(h1:behindInMarks op b=false:=by first|exact nh _ (by decide) (by decide)|rfl):PT X (.Compare a [op] [b] pos) (tB t):=by
 intro pins s σ H Q I hw;refine wpAny_isTrue_Compare1 (thn (h pins s σ H _ I hw) fun v s1 h1=>thn h1 fun u s2 h2=>thn h2 fun c s3 ⟨x,H1,I1,r1,q1⟩=> ?_) h1;obtain⟨d,rfl,q⟩:=q1
 cases r1;exact wpAny_truthy_bool ⟨H1,I1,q⟩
variable {tA tB':TT} {rest:List Expr}
noncomputable def p7(t u:TT):TT:=fun σ H Q=>t σ H fun c H1=>if c=true then u σ H1 Q else Q false H1
noncomputable def tOr(t u:TT):TT:=fun σ H Q=>t σ H fun c H1=>if c=true then Q true H1 else u σ H1 Q
noncomputable def pS(t:TT):TT:=fun σ H Q=>t σ H fun c H1=>Q (!c) H1
theorem jV(ha:PT X a tA):PW X (.BoolOp .And [a] pos) tA:=by
 intro wh pins s σ H Q I h;refine isTrue_and (thn (ha pins s σ H Q I h) fun c s1 e=> ?_);cases c with
 |true=>exact isTrue_and_nil e
 |false=>exact e
theorem jw(ha:PT X a tA):PW X (.BoolOp .Or [a] pos) tA:=by
 intro wh pins s σ H Q I h;refine isTrue_or (thn (ha pins s σ H Q I h) fun c s1 e=> ?_);cases c with
 |false=>exact isTrue_or_nil e
 |true=>exact e
theorem kn(ha:PT X a tA)(hb:PW X (.BoolOp .And (b::rest) pos) tB'):PW X (.BoolOp .And (a::b::rest) pos) (p7 tA tB'):=by
 intro wh pins s σ H Q I h;refine isTrue_and (thn (ha pins s σ H _ I h) fun c s1 ⟨H1,I1,q1⟩=> ?_);cases c with
 |true=>exact hb wh pins s1 σ H1 Q I1 q1
 |false=>exact⟨H1,I1,q1⟩
theorem kQ(ha:PT X a tA)(hb:PW X (.BoolOp .Or (b::rest) pos) tB'):PW X (.BoolOp .Or (a::b::rest) pos) (tOr tA tB'):=by
 intro wh pins s σ H Q I h;refine isTrue_or (thn (ha pins s σ H _ I h) fun c s1 ⟨H1,I1,q1⟩=> ?_);cases c with
 |true=>exact⟨H1,I1,q1⟩
 |false=>exact hb wh pins s1 σ H1 Q I1 q1
theorem lO(ha:PT X a tA):PT X (.UnaryOp .Not a pos) (pS tA):=by
 intro pins s σ H Q I h;exact isTrue_not (ha pins s σ H (fun c H1=>Q (!c) H1) I h)
noncomputable def mU(ta tb:TE):TE:=fun σ H Q=>ta σ H fun x H1=>∃c,x= .bl c /\ if c=true then tb σ H1 Q else Q (.bl false) H1
noncomputable def qY(ta tb:TE):TE:=fun σ H Q=>ta σ H fun x H1=>∃c,x= .bl c /\ if c=true then Q (.bl true) H1 else tb σ H1 Q
noncomputable def mS(ta:TE):TE:=fun σ H Q=>ta σ H fun x H1=>∃c,x= .bl c /\ Q (.bl (!c)) H1
noncomputable def tIf(t:TT)(ta tb:TE):TE:=fun σ H Q=>t σ H fun c H1=>if c=true then ta σ H1 Q else tb σ H1 Q
end
end L2
namespace L2
open PySem PySem.Spec PyProof.Rows
noncomputable def SqT(K:af)(H:Hp)(a:Addr)(xs:List V):Prop:=
 Rd H a (.tup xs)∨
  ∃(o:Obj) (its:Array Value) (n:Nat),K.lookup a=some o /\ o.cls= .type "tuple" /\ o.data= .seq its n /\ its.size<=sizeLine /\ Vals xs its.toList
noncomputable def sI:Value ->Option V
 | .none=>some .non
 | .bool b=>some (.bl b)
 | .int i _=>some (.int i)
 | .str x _=>some (.str x)
 | .bytes b _=>some (.byt b)
 | .float b _=>some (.flt b)
 | .ref a=>some (.ref a)
 | .type n=>some (.ty n)
 |_=>none
theorem RelV.abs{x:V}{u:Value}(r:RelV x u):sI u=some x:=by
 cases x with
 |non=>cases r;rfl
 |bl _=>cases r;rfl
 |int _=>obtain⟨t,rfl⟩:=r;rfl
 |str _=>obtain⟨t,rfl⟩:=r;rfl
 |byt _=>obtain⟨t,rfl⟩:=r;rfl
 |flt _=>obtain⟨t,rfl⟩:=r;rfl
 |ref _=>cases r;rfl
 |ty _=>cases r;rfl
theorem RelV.inj{x y:V}{u:Value}(r:RelV x u)(q:RelV y u):x=y:=aH.inj (r.abs.symm.trans q.abs)
theorem Vals.inj:∀{xs ys:List V} {us:List Value},Vals xs us ->Vals ys us ->xs=ys
 |_,_,_,.nil,.nil=>rfl
 |_,_,_,.cons r t,.cons r' t'=>by rw[r.inj r',Vals.inj t t']
section
variable {X:Cx} {pins:List (Addr×Obj)} {σ:St} {H:Hp} {s:Shared} {a:Addr} {xs ys:List V}
theorem SqT.of{K:af}(h:H a=some (.tup xs)):SqT K H a xs:= .inl (.inl h)
theorem Inv.list(I:Inv X pins σ H s)(h:SqL X.K H a xs):∃its:List Value,Vals xs its /\ PlainL s.heap a its.toArray /\ xs.length<=sizeLine:=by
 rcases h with h|⟨o,its,n,hk,hc,hd,hs,hz,r⟩
 ·obtain⟨z,its,n,r,e⟩:=h.ok I.hok
  exact⟨its,r,⟨_,n,e,rfl,rfl,rfl⟩,z⟩
 ·refine⟨its.toList,r,⟨o,n,I.kIn a o hk,hc,hd,by simpa using hs⟩,?_⟩;have e:=r.length
  simp only[bK] at e;omega
theorem Inv.tuple(I:Inv X pins σ H s)(h:SqT X.K H a xs):∃its:List Value,Vals xs its /\ IsTup s.heap a its.toArray /\ xs.length<=sizeLine:=by
 rcases h with h|⟨o,its,n,hk,hc,hs,hz,r⟩
 ·obtain⟨z,its,r,p⟩:=h.ok I.hok
  exact⟨its,r,p,z⟩
 ·refine⟨its.toList,r,⟨o,I.kIn a o hk,hc,n,by simpa using hs⟩,?_⟩;have e:=r.length
  simp only[bK] at e;omega
theorem Inv.list_inj(I:Inv X pins σ H s)(h:SqL X.K H a xs)(h':SqL X.K H a ys):xs=ys:=by
 obtain⟨its,r,⟨o,n,e,_,_,d⟩,_⟩:=I.list h
 obtain⟨its',r',⟨o',n',e',_,_,d'⟩,_⟩:=I.list h'
 rw[e] at e';cases e';rw[d] at d'
 injection d' with d1 _
 have:its=its':=by simpa using congrArg Array.toList d1
 subst this;exact r.inj r'
end
noncomputable abbrev Cx.wish(X:Cx)(E:Value ->Shared ->Prop):Cx:={X with xe:=E}
noncomputable abbrev Cx.nox(X:Cx):Cx:=X.wish fun _ _=>False
theorem Cx.Ok.wish{X:Cx}(ok:X.Ok)(E:Value ->Shared ->Prop):(X.wish E).Ok:=
 ⟨ok.mod,ok.kind,ok.glob,ok.blt,ok.above,ok.inj,ok.has,ok.cab,ok.hd,ok.frames,ok.stk,ok.exf,ok.bs,ok.bsz,ok.noex,ok.exfs,ok.funs,ok.frf⟩
theorem Cx.Ok.unwish{X:Cx}{E:Value ->Shared ->Prop}(ok:(X.wish E).Ok):X.Ok:=
 ⟨ok.mod,ok.kind,ok.glob,ok.blt,ok.above,ok.inj,ok.has,ok.cab,ok.hd,ok.frames,ok.stk,ok.exf,ok.bs,ok.bsz,ok.noex,ok.exfs,ok.funs,ok.frf⟩
section
variable {X:Cx} {pins:List (Addr×Obj)} {σ:St} {H:Hp} {s:Shared} {E:Value ->Shared ->Prop}
theorem Inv.wish(I:Inv X pins σ H s)(E:Value ->Shared ->Prop):Inv (X.wish E) pins σ H s:=⟨I.ok.wish E,I.os,I.bare,I.base,I.loc,I.cell,I.free,I.freeC,I.pin,I.hok,I.len⟩
theorem Inv.unwish(I:Inv (X.wish E) pins σ H s):Inv X pins σ H s:=⟨I.ok.unwish,I.os,I.bare,I.base,I.loc,I.cell,I.free,I.freeC,I.pin,I.hok,I.len⟩
theorem SP.unwish{D:Ends}{f:Flow}{s':Shared}(h:SP (X.wish E) pins D f s'):SP X pins D f s':=by
 cases f with
 |next=>obtain⟨σ',H',I,q⟩:=h;exact⟨σ',H',I.unwish,q⟩
 |brk=>obtain⟨σ',H',I,q⟩:=h;exact⟨σ',H',I.unwish,q⟩
 |cont=>obtain⟨σ',H',I,q⟩:=h;exact⟨σ',H',I.unwish,q⟩
 |ret u=>obtain⟨v,σ',H',I,r,q⟩:=h;exact⟨v,σ',H',I.unwish,r,q⟩
theorem PE.nox{e:Expr}{t:TE}(h:PE X.nox e t):PE X e t:=fun pins s σ H Q I hw=>
 wpAny_mono (h pins s σ H Q (I.wish _) hw) (fun _ _ ⟨v,H',I',r,q⟩=>⟨v,H',I'.unwish,r,q⟩) fun _ _ z=>False.elim z
theorem PT.nox{e:Expr}{t:TT}(h:PT X.nox e t):PT X e t:=fun pins s σ H Q I hw=>
 wpAny_mono (h pins s σ H Q (I.wish _) hw) (fun _ _ ⟨H',I',q⟩=>⟨H',I'.unwish,q⟩) fun _ _ z=>False.elim z
theorem PSs.nox{st:List Stmt}{t:TS}(h:PSs X.nox st t):PSs X st t:=fun pins s σ H D I hw=>
 wpAny_mono (h pins s σ H D (I.wish _) hw) (fun _ _ q=>q.unwish) fun _ _ z=>False.elim z
end
section
variable {X:Cx} {st:Stmt} {rest:List Stmt} {t u:TS} {e:Expr} {te:TE} {pos:Pos}
noncomputable def lD:TS:=fun D σ H=>D.nx σ H
noncomputable def pF(t u:TS):TS:=fun D σ H=>t {D with nx:=u D} σ H
theorem fH:PSs X [] lD:=fun _ _ σ H _ I h=>wpAny_execs_nil ⟨σ,H,I,h⟩
theorem fo(h1:PS X st t)(h2:PSs X rest u):PSs X (st::rest) (pF t u):=by
 intro pins s σ H D I h;refine wpAny_execs_cons (thn (h1 pins s σ H {D with nx:=u D} I h) fun f s1 q=> ?_);cases f with
 |next=>
  obtain⟨σ',H',I',q⟩:=q
  exact h2 pins s1 σ' H' D I' q
 |ret v=>exact q
 |brk=>exact q
 |cont=>exact q
theorem ft(h1:PS X st t):PSs X [st] t:=by
 intro pins s σ H D I h;refine wpAny_execs_cons (thn (h1 pins s σ H D I h) fun f s1 q=> ?_);cases f with
 |next=>exact wpAny_execs_nil q
 |ret v=>exact q
 |brk=>exact q
 |cont=>exact q
noncomputable def lF:TS:=fun D σ H=>D.ct σ H
theorem jW:PS X (.Continue pos) lF:=fun _ _ σ H _ I h=>wpAny_Continue ⟨σ,H,I,h⟩
theorem Inv.quiet{pins:List (Addr×Obj)}{σ:St}{H:Hp}{s:Shared}(I:Inv X pins σ H s):interactive X.env=false:=by simp[interactive,I.ok.kind]
noncomputable def lE(te:TE):TS:=fun D σ H=>te σ H fun _ H1=>D.nx σ H1
theorem gB(he:PE X e te)(hs:swapsWith e none pos.line X.env=pure false:=by rfl):PS X (.Expr e pos) (lE te):=by
 intro pins s σ H D I h;exact wpAny_Expr_any (thn (he pins s σ H _ I h) fun v s1 ⟨x,H1,I1,r1,q1⟩=>⟨σ,H1,I1,q1⟩) I.quiet hs
noncomputable def pQ(te:TE):TS:=fun D σ H=>te σ H D.rt
theorem fN(he:PE X e te):PS X (.Return (some e) pos) (pQ te):=by
 intro pins s σ H D I h;exact wpAny_Return_some (thn (he pins s σ H _ I h) fun v s1 ⟨x,H1,I1,r1,q1⟩=>⟨x,σ,H1,I1,r1,q1⟩)
noncomputable def mQ:TS:=fun D _ H=>D.rt .non H
noncomputable def p0(c:TT)(t u:TS):TS:=fun D σ H=>c σ H fun b H1=>if b=true then t D σ H1 else u D σ H1
theorem gi{c:Expr}{a b:List Stmt}{tc:TT}(hc:PT X c tc)(ha:PSs X a t)(hb:PSs X b u):PS X (.If c a b pos) (p0 tc t u):=by
 intro pins s σ H D I h;refine wpAny_If (thn (hc pins s σ H _ I h) fun d s1 ⟨H1,I1,q1⟩=> ?_);cases d with
 |true=>exact ha pins s1 σ H1 D I1 q1
 |false=>exact hb pins s1 σ H1 D I1 q1
noncomputable def pW:TS:=fun _ _ _=>False
theorem gO:PS X st pW:=fun _ _ _ _ _ _ h=>h.elim
end
noncomputable abbrev TG:=V ->St ->Hp ->(St ->Hp ->Prop) ->Prop
noncomputable abbrev TGs:=List V ->St ->Hp ->(St ->Hp ->Prop) ->Prop
noncomputable def PG(X:Cx)(target:Expr)(t:TG):Prop:=
 ∀(pins:List (Addr×Obj)) (s:Shared) (σ:St) (H:Hp) (v:V) (u:Value) (Q:St ->Hp ->Prop),Inv X pins σ H s ->RelV v u ->t v σ H Q ->
  wpAny (model X.prog X.w) X.A (assign target X.env u) (fun _ s'=>∃σ' H',Inv X pins σ' H' s' /\ Q σ' H') X.xe s
noncomputable def PGs(X:Cx)(ts:List Expr)(t:TGs):Prop:=
 ∀(pins:List (Addr×Obj)) (s:Shared) (σ:St) (H:Hp) (vs:List V) (us:List Value) (Q:St ->Hp ->Prop),Inv X pins σ H s ->Vals vs us ->t vs σ H Q ->
  wpAny (model X.prog X.w) X.A (assignInOrder ((assignEach ts X.env).map (·.2)) us) (fun _ s'=>∃σ' H',Inv X pins σ' H' s' /\ Q σ' H') X.xe s
noncomputable abbrev rM:=V ->V ->V ->Hp ->(Hp ->Prop) ->Prop
noncomputable def rN(X:Cx)(t:rM):Prop:=
 ∀(pins:List (Addr×Obj)) (s:Shared) (σ:St) (H:Hp) (o i v:V) (ov iv u:Value) (Q:Hp ->Prop),Inv X pins σ H s ->RelV o ov ->RelV i iv ->RelV v u ->t o i v H Q ->
  wpAny (model X.prog X.w) X.A (setItem ov iv u) (fun _ s'=>∃H',Inv X pins σ H' s' /\ Q H') X.xe s
section
variable {X:Cx} {pos:Pos}
noncomputable def kX(i:Nat):TG:=fun v σ H Q=>Q (σ.set i (some v)) H
theorem fC{i:Nat}{x:Str}(hN:X.N.Nodup)(hi:X.N[i]? =some x)(hx:Loc X.env.scope x)(hf:X.fn x=true∨X.env.scope.names.lookup x=some .local:=by first|exact .inl rfl|exact .inr rfl|assumption):PG X (.Name x pos) (kX i):=by
 intro pins s σ H v u Q I r h;exact wpAny_assign_Name (ik I hN hi hx r (fun s' I'=>⟨_,H,I',h⟩) hf)
noncomputable def pb:TGs:=fun vs σ H Q=>vs=[] /\ Q σ H
noncomputable def j5(t:TG)(u:TGs):TGs:=fun vs σ H Q=>∃v r,vs=v::r /\ t v σ H fun σ' H'=>u r σ' H' Q
theorem oH:PGs X [] pb:=by
 intro pins s σ H vs us Q I r h;obtain⟨e,h⟩:=h
 subst e;cases r;exact assignInOrder_nil ⟨σ,H,I,h⟩
theorem mZ{e:Expr}{es:List Expr}{t:TG}{u:TGs}(h1:PG X e t)(h2:PGs X es u)
  (hs:(assignEach (e::es) X.env).map (·.2)=assign e X.env::(assignEach es X.env).map (·.2):=by rfl):PGs X (e::es) (j5 t u):=by
 intro pins s σ H vs us Q I r h;obtain⟨v,vr,e1,h⟩:=h
 subst e1;cases r with
 |cons r rr=>
  rw[hs];refine assignInOrder_cons (thn (h1 pins s σ H _ _ _ I r h) fun _ s1 ⟨σ1,H1,I1,q1⟩=> ?_);exact h2 pins s1 σ1 H1 _ _ Q I1 rr q1
noncomputable def rV(K:af)(n:Nat)(t:TGs):TG:=fun v σ H Q=>∃a xs,v= .ref a /\ SqT K H a xs /\ xs.length=n /\ t xs σ H Q
theorem qk{es:List Expr}{k:Nat}{t:TGs}{n:Nat}(hc:X.calm=true)(h:PGs X es t)
  (hn:(assignEach es X.env).length=n:=by rfl) (hst:(assignEach es X.env).findIdx? (·.1)=none:=by rfl):PG X (.Tuple es k pos) (rV X.K n t):=by
 intro pins s σ H v u Q I r hw;obtain⟨a,xs,e1,hq,hl,hw⟩:=hw
 subst e1;cases r;obtain⟨its,rv,ht,hz⟩:=I.tuple hq
 refine assign_Tuple_tuple (I.ok.hd hc) ht (by simp[hn, <-hl,rv.length]) hst fun h' hx=> ?_
 have I1:Inv X pins σ H {s with heap:=h'}:=I.kept (t':=s.toks) fun b o e=>hx b o (ax (Heap.lt_size e)) e
 exact h pins _ σ H xs _ Q I1 (by simpa using rv) hw
noncomputable def qO(to ti:TE)(t:rM):TG:=fun v σ H Q=>to σ H fun o H1=>ti σ H1 fun i H2=>t o i v H2 fun H3=>Q σ H3
theorem nW{o i:Expr}{to ti:TE}{t:rM}(ho:PE X o to)(hi:PE X i ti)(hs:rN X t)
  (ha:∀v,assign (.Subscript o i pos) X.env v=(do
   let ov<-holding [v] (eval o X.env)
   let iv<-holding [v,ov] (eval i X.env)
   standAt pos
   holding [v,ov,iv] (setItem ov iv v)
   release [v,ov,iv] []):=by intro _;rfl):PG X (.Subscript o i pos) (qO to ti t):=by
 intro pins s σ H v u Q I r h;rw[ha];refine wpAny_bind (wpAny_holding (thn (ho pins s σ H _ I h) fun ov s1 ⟨x,H1,I1,r1,q1⟩=> ?_));refine wpAny_bind (wpAny_holding (thn (hi pins s1 σ H1 _ I1 q1) fun iv s2 ⟨y,H2,I2,r2,q2⟩=> ?_));refine wpAny_bind (wpAny_standAt (wpAny_bind (wpAny_holding (thn (hs pins s2 σ H2 x y v ov iv u _ I2 r1 r2 r q2) fun _ s3 ⟨H3,I3,q3⟩=> ?_))));exact wpAny_release ⟨σ,H3,I3,q3⟩
noncomputable def pG(te:TE)(g:TG):TS:=fun D σ H=>te σ H fun x H1=>g x σ H1 D.nx
theorem g0{tg e:Expr}{te:TE}{g:TG}(he:PE X e te)(hg:PG X tg g)(hs:swapsWithSole [tg] e pos.line X.env=pure false:=by rfl)(hw:swappedStores [tg] e X.env=pure none:=by rfl)
  (h1:(assignEach [tg] X.env).map (·.2)=[assign tg X.env]:=by rfl):PS X (.Assign [tg] e pos) (pG te g):=by
 intro pins s σ H D I h;refine wpAny_Assign_stores (thn (he pins s σ H _ I h) fun v s1 ⟨x,H1,I1,r1,q1⟩=> ?_) hs hw;rw[h1];exact thn (hg pins s1 σ H1 x v _ I1 r1 q1) fun _ s2 q=>q
theorem fJ{i:Nat}{x:Str}{e:Expr}{te:TE}{pos':Pos}(hN:X.N.Nodup)(hi:X.N[i]? =some x)(hx:Loc X.env.scope x)(he:PE X e te)(hs:swapsWith e (some (.Name x pos')) pos.line X.env=pure false:=by rfl)(hf:X.fn x=true∨X.env.scope.names.lookup x=some .local:=by first|exact .inl rfl|exact .inr rfl|assumption):
  PS X (.Assign [.Name x pos'] e pos) (pG te (kX i)):=by
 intro pins s σ H D I h;refine wpAny_Assign_Name (thn (he pins s σ H _ I h) fun v s1 ⟨y,H1,I1,r1,q1⟩=> ?_) hs;exact ik I1 hN hi hx r1 (fun s2 I2=>⟨_,H1,I2,q1⟩) hf
noncomputable def pR(i j:Nat)(ta:TA):TS:=fun D σ H=>ta σ H fun vs H1=>∃v w,vs=[v,w] /\ D.nx ((σ.set i (some v)).set j (some w)) H1
theorem nU{i j:Nat}{x y:Str}{a b:Expr}{ta:TA}{px py pt:Pos}{kt k2 pt2}(hc:X.calm=true)(hN:X.N.Nodup)(hi:X.N[i]? =some x)(hj:X.N[j]? =some y)(hij:i≠j)
  (hx:X.env.scope.names.lookup x=some .local) (hy:X.env.scope.names.lookup y=some .local) (ha:PA X [a,b] ta)
  (hw:swappedStores [.Tuple [.Name x px,.Name y py] kt pt] (.Tuple [a,b] k2 pt2) X.env=pure (some [x,y]))
  (hs:swapsWithSole [.Tuple [.Name x px,.Name y py] kt pt] (.Tuple [a,b] k2 pt2) pos.line X.env=pure false:=by rfl):
  PS X (.Assign [.Tuple [.Name x px,.Name y py] kt pt] (.Tuple [a,b] k2 pt2) pos) (pR i j ta):=by
 intro pins s σ H D I h;rw[exec_Assign_arm];refine wpAny_bind (wpAny_standAt ?_);rw[hs];refine wpAny_bind (wpAny_pure ?_);rw[if_neg (by decide)];refine wpAny_bind (Tuple_ (thn (ha _ pins s σ H _ I h) fun us s1 ⟨vs,H1,I1,r1,q1⟩=> ?_));obtain⟨v,w,e1,q1⟩:=q1
 subst e1;obtain⟨u1,u2,rfl,rv,rw'⟩:∃u1 u2,us=[u1,u2] /\ RelV v u1 /\ RelV w u2:=by
  cases r1 with
  |cons p q=>
   cases q with
   |cons p' q'=>
    cases q';exact⟨_,_,rfl,p,p'⟩
 refine wpAny_newObj_type ?_ (by show 2<=sizeLine;decide)
 have I2:Inv X pins σ H1 {s1 with heap:=s1.heap.push {cls:= .type "tuple",data:= .seq [u1,u2].toArray}}:=I1.kept (t':=s1.toks) fun b o e=>Heap.get?_push_of_some _ e
 rw[hw];refine wpAny_bind (wpAny_pure ?_);show wpAny (model X.prog X.w) X.A (do rule "assign.swapped-stores";let items<-unpackItems (.ref s1.heap.objs.size) 2 none;assignInOrder [fun v=>bindName X.env y v,fun v=>bindName X.env x v] items.reverse;pure Flow.next) _ _ _
 refine wpAny_bind (wpAny_rule (wpAny_bind (unpackItems_tuple (items:= #[u1,u2]) (I.ok.hd hc) (IsTup.new s1.heap _) fun h' hx'=> ?_)));have I3:=I2.kept (h':=h') (t':=s1.toks) fun b o e=>hx' b o (ax (Heap.lt_size e)) e
 show wpAny _ _ (assignInOrder [fun v=>bindName X.env y v,fun v=>bindName X.env x v] [u2,u1]>>=fun _=>pure Flow.next) _ _ _
 refine wpAny_bind (assignInOrder_cons (wpAny_bindName (ik I3 hN hj (.inl hy) rw' (fun s2 I4=> ?_) (.inr hy))));refine assignInOrder_cons (wpAny_bindName (ik I4 hN hi (.inl hx) rv (fun s3 I5=>assignInOrder_nil (wpAny_pure ?_)) (.inr hx)));rw[List.set_comm _ _ (Ne.symm hij)] at I5;exact⟨_,H1,I5,q1⟩
end
section
variable {X:Cx} {pos:Pos}
noncomputable def pO(c:TT)(tb:TS):TS:=fun D σ H=>∃W:Nat ->St ->Hp ->Prop,(∃m,W m σ H) /\ ∀m σ H,W m σ H ->
 c σ H fun b H1=>if b=true then∃N:St ->Hp ->Prop,(∀σ' H',N σ' H' -> ∃m',m'<m /\ W m' σ' H') /\ tb {D with nx:=N,ct:=N,bk:=D.nx} σ H1 else D.nx σ H1
theorem mY{c:Expr}{body:List Stmt}{tc:TT}{tb:TS}(hp:PassesOwn (model X.prog X.w) X.A X.env X.xe)(hc:PT X c tc)(hb:PSs X body tb):PS X (.While c body [] pos) (pO tc tb):=by
 intro pins s σ H D I h;obtain⟨W,⟨m0,w0⟩,turn⟩:=h
 refine wpAny_While (codeAny_whileLoop (fun n s'=>∃σ' H',Inv X pins σ' H' s' /\ W n σ' H') ?_ m0 ⟨σ,H,I,w0⟩);rintro n s1 ⟨σ1,H1,I1,w1⟩;refine wpAny_passesOwn hp (thn (hc pins s1 σ1 H1 _ I1 (turn n σ1 H1 w1)) fun b s2 ⟨H2,I2,q2⟩=> ?_);cases b with
 |true=>
  obtain⟨N,hN,q2⟩:=q2
  rw[if_pos rfl];refine wpAny_passesOwn hp (thn (hb pins s2 σ1 H2 _ I2 q2) fun f s3 q3=> ?_);cases f with
  |next=>
   obtain⟨σ3,H3,I3,n3⟩:=q3
   obtain⟨m',hm,w3⟩:=hN σ3 H3 n3
   exact⟨m',hm,σ3,H3,I3,w3⟩
  |cont=>
   obtain⟨σ3,H3,I3,n3⟩:=q3
   obtain⟨m',hm,w3⟩:=hN σ3 H3 n3
   exact⟨m',hm,σ3,H3,I3,w3⟩
  |brk=>exact q3
  |ret v=>exact q3
 |false=>
  rw[if_neg cM];exact wpAny_execs_nil ⟨σ1,H2,I2,q2⟩
end
structure It where
 go:Nat ->Hp ->Prop
 yld:Nat ->Hp ->V ->Hp ->Prop
 stop:Nat ->Hp ->Prop
noncomputable def mK(X:Cx)(pins:List (Addr×Obj))(H:Hp)(b:Addr):Prop:=
 H b=none /\ b≠X.env.locals /\ b∉X.fs /\ (b∈X.ex∨X.s₀.heap.objs.size<=b) /\ (∀x c,X.env.cells.lookup x=some c ->c≠b) /\ ∀p∈X.pn++pins,p.1≠b
theorem Inv.fpOk{X:Cx}{pins:List (Addr×Obj)}{σ:St}{H H':Hp}{s:Shared}{b:Addr}(I:Inv X pins σ H s)(hb:s.heap.objs.size<=b)(hn:H' b=none):mK X pins H' b:=by
 refine⟨hn,dj (aq I.lt hb),I.nofs hb,.inr (bj I.sz hb),fun x c e z=> ?_,fun p hp z=> ?_⟩
 ·obtain⟨v,q⟩:=I.cell x c e
  exact absurd (aq q.lt (by rw[z];exact hb)) (bf _)
 ·exact absurd (aq (Heap.lt_size (I.pin p hp).1) (by rw[z];exact hb)) (bf _)
structure Turn(P:Program)(w:World)(K:af)(tg:Expr)(J:It)(fp:List Addr)(it:Addr)(tn:Nat ->Heap ->Prop):Prop where
 mem:it∈fp
 obj:∀i h,tn i h -> ∀b∈fp,∃o,h.get? b=some o /\ ∀v,o.data≠ .cell v
 keep:∀i h h',tn i h ->(∀b∈fp,∀o,h.get? b=some o ->h'.get? b=some o) ->tn i h'
 item:∀(X:Cx),X.prog=P ->X.w=w ->X.K=K ->X.calm=true -> ∀(i:Nat) (pins:List (Addr×Obj)) (s:Shared) (σ:St) (H:Hp) (E:Value ->Shared ->Prop),Inv X pins σ H s ->(∀b∈fp,mK X pins H b) ->tn i s.heap ->J.go i H ->
  wpAny (model P w) X.A (pyNext (.ref it)) (fun r s1=>∃u,r=some u /\
   wpAny (model P w) X.A (letOwnedTupleGo tg (.ref it) u) (fun _ s2=>∃x H',Inv X pins σ H' s2 /\ RelV x u /\ J.yld i H x H' /\ tn (i+1) s2.heap /\ ∀b∈fp,H' b=none) E s1) E s
 done:∀(X:Cx),X.prog=P ->X.w=w ->X.K=K ->X.calm=true -> ∀(i:Nat) (pins:List (Addr×Obj)) (s:Shared) (σ:St) (H:Hp) (E:Value ->Shared ->Prop),Inv X pins σ H s ->(∀b∈fp,mK X pins H b) ->tn i s.heap ->J.stop i H ->
  wpAny (model P w) X.A (pyNext (.ref it)) (fun r s1=>r=none /\ Inv X pins σ H s1) E s
 self:∀(A:Around) (i:Nat) (s:Shared) (Q:Value ->Shared ->Prop) (E:Value ->Shared ->Prop),tn i s.heap ->Q (.ref it) s ->wpAny (model P w) A (pyIter (.ref it)) Q E s
noncomputable abbrev TI:=St ->Hp ->(It ->Hp ->Prop) ->Prop
noncomputable def PIE(X:Cx)(pins:List (Addr×Obj))(σ:St)(tg:Expr)(R:It ->Hp ->Prop)(itv:Value)(s2:Shared):Prop:=
 ∃(it:Addr) (fp:List Addr) (tn:Nat ->Heap ->Prop) (J:It) (H':Hp),itv= .ref it /\ Inv X pins σ H' s2 /\ Turn X.prog X.w X.K tg J fp it tn /\ tn 0 s2.heap /\ (∀b∈fp,mK X pins H' b) /\ R J H'
noncomputable def PI(X:Cx)(tg iter:Expr)(wi:TI):Prop:=
 ∀(pins:List (Addr×Obj)) (s:Shared) (σ:St) (H:Hp) (R:It ->Hp ->Prop),Inv X pins σ H s ->wi σ H R ->
  wpAny (model X.prog X.w) X.A (eval iter X.env) (fun v s1=>wpAny (model X.prog X.w) X.A (pyIter v) (PIE X pins σ tg R) X.xe s1) X.xe s
theorem qM{M:Model}{A:Around}{E:Value ->Shared ->Prop}{s:Shared}{tg:Expr}{it:Addr}{u:Value}{o:Obj}{n:String}{vs:Array Value}{Q:Unit ->Shared ->Prop}(ho:s.heap.get? it=some o)(hc:o.cls= .type n)(hd:o.data= .fields vs)
  (hn:["enumerate","zip","dict_itemiterator","dict_reverseitemiterator","odict_iterator","itertools.zip_longest","itertools.pairwise"].contains n=false) (hQ:Q () s):wpAny M A (letOwnedTupleGo tg (.ref it) u) Q E s:=by
 unfold letOwnedTupleGo;cases tg<;>first
  |exact wpAny_pure hQ
  |(cases u<;>first
    |exact wpAny_pure hQ
    |(refine wpAny_bind (wpAny_load ho ?_);rw[hc,hd];show wpAny M A (if(["enumerate","zip","dict_itemiterator","dict_reverseitemiterator","odict_iterator","itertools.zip_longest","itertools.pairwise"].contains n&&vs[0]? ==some (rawInt _))=true then _ else _) Q E s;rw[if_neg (by intro h;rw[hn,eM] at h;cases h)];exact wpAny_pure hQ))
noncomputable def Itl(K:af)(a:Addr):It:=
 ⟨fun i H=>∃xs x,SqL K H a xs /\ xs[i]? =some x,fun i H x H'=>H'=H /\ ∀xs,SqL K H a xs ->xs[i]? =some x,fun i H=>∃xs,SqL K H a xs /\ xs.length<=i⟩
noncomputable def Itr(lo:Int)(n:Nat):It:=⟨fun i _=>i<n,fun i H x H'=>H'=H /\ x= .int (lo+i),fun i _=>n<=i⟩
theorem lx{P:Program}{w:World}{K:af}{tg:Expr}(a it:Addr):Turn P w K tg (Itl K a) [it] it (fun i h=>h.IsListIter it a i) where
 mem:=by simp
 obj:=fun i h st b hb=>by
  have e:b=it:=by simpa using hb
  subst e;obtain⟨o,e,c,d⟩:=st
  exact⟨o,e,fun v z=>by rw[d] at z;cases z⟩
 keep:=fun i h h' st k=>st.at fun o e=>k it (by simp) o e
 item:=by
  intro X hP hw hK hc i pins s σ H E I hf st hg;subst hP hw hK;obtain⟨xs,x,hq,hx⟩:=hg
  obtain⟨its,rv,p,hz⟩:=I.list hq
  obtain⟨u,hu,ru⟩:=rv.get hx
  obtain⟨f0,f1,f2,f3,f4,f5⟩:=hf it (by simp)
  refine wpAny_pyNext_list_item st p.isList (x:=u) (by simpa using hu) fun h' st' sb=> ?_
  have I1:Inv X pins σ H {s with heap:=h'}:=I.turned (t':=s.toks) (fun b o hb e=>(sb.2 b hb).trans e) f0 f1 f3 f4 f5
  obtain⟨o,e,c,d⟩:=id st'
  exact⟨u,rfl,qM (s:={s with heap:=h'}) e c d (by decide) ⟨x,H,I1,ru,⟨rfl,fun ys hy=>by rw[I.list_inj hy hq];exact hx⟩,st',fun b hb=>(hf b hb).1⟩⟩
 done:=by
  intro X hP hw hK hc i pins s σ H E I hf st hg;subst hP hw hK;obtain⟨xs,hq,hx⟩:=hg
  obtain⟨its,rv,p,hz⟩:=I.list hq
  obtain⟨f0,f1,f2,f3,f4,f5⟩:=hf it (by simp)
  have hl:=rv.length
  exact wpAny_pyNext_list_end (I.ok.hd hc) st p.isList (by simp;omega) fun h' eb=>⟨rfl,I.turned (t':=s.toks) (fun b o hb e=>eb b o hb e) f0 f1 f3 f4 f5⟩
 self:=fun _ _ _ _ _ st h=>wpAny_pyIter_listiter st h
theorem kM{P:Program}{w:World}{K:af}{tg:Expr}(it:Addr)(lo:Int)(n:Nat):Turn P w K tg (Itr lo n) [it] it (fun i h=>IsRangeIter h it (lo+(i:Nat)*1) ((n:Int)-(i:Nat)) 1) where
 mem:=by simp
 obj:=fun i h st b hb=>by
  have e:b=it:=by simpa using hb
  subst e;exact⟨_,st,fun v z=>by
   have z':Data.fields _=Data.cell v:=z
   cases z'⟩
 keep:=fun i h h' st k=>k it (by simp) _ st
 item:=by
  intro X hP hw hK hc i pins s σ H E I hf st hg;subst hP hw hK;obtain⟨f0,f1,f2,f3,f4,f5⟩:=hf it (by simp)
  have W:=Walks.range (prog:=X.prog) (w:=X.w) (I.ok.hd hc) it lo 1 n
  refine W.item i s _ _ hg st fun v h' tk hv st' kk=> ?_
  obtain⟨t,rfl⟩:=hv
  have I1:Inv X pins σ H {s with heap:=h',toks:=tk}:=I.turned (fun b o hb e=>kk b o (by simpa using hb) e) f0 f1 f3 f4 f5
  refine⟨_,rfl,qM (s:={s with heap:=h',toks:=tk}) (n:="range_iterator") st' rfl rfl (by decide) ⟨.int (lo+i),H,I1,⟨t,?_⟩,⟨rfl,rfl⟩,st',fun b hb=>(hf b hb).1⟩⟩;rw[eF]
 done:=by
  intro X hP hw hK hc i pins s σ H E I hf st hg;subst hP hw hK;obtain⟨f0,f1,f2,f3,f4,f5⟩:=hf it (by simp)
  exact wpAny_pyNext_range_end (I.ok.hd hc) st (by have:n<=i:=hg;omega) fun h' eb=>⟨rfl,I.turned (t':=s.toks) (fun b o hb e=>eb b o hb e) f0 f1 f3 f4 f5⟩
 self:=fun _ _ _ _ _ st h=>wpAny_pyIter_rangeiter st h
end L2
namespace L2
open PySem PySem.Spec PyProof.Rows
section
variable {X:Cx} {tg:Expr}
noncomputable def ml(K:af)(tl:TE):TI:=fun σ H R=>tl σ H fun x H1=>∃a,x= .ref a /\ (∃xs,SqL K H1 a xs) /\ R (Itl K a) H1
theorem oF{l:Expr}{tl:TE}(hl:PE X l tl):PI X tg l (ml X.K tl):=by
 intro pins s σ H R I h;refine thn (hl pins s σ H _ I h) fun v s1 ⟨x,H1,I1,r1,q1⟩=> ?_
 obtain⟨a,e,⟨xs,hq⟩,q⟩:=q1
 subst e;cases r1;obtain⟨its,rv,p,hz⟩:=I1.list hq
 refine wpAny_pyIter_list p.isList ?_;refine⟨s1.heap.objs.size,[s1.heap.objs.size],_,_,H1,rfl,I1.kept (t':=s1.toks) fun b o e=>Heap.get?_push_of_some _ e,lx a _,⟨_,Heap.get?_push_size _ rfl,rfl,rfl⟩,fun b hb=> ?_,q⟩;have e:b=s1.heap.objs.size:=by simpa using hb
 subst e;exact I1.fpOk (ak _) (I1.hok.fresh (ak _))
theorem km{pins:List (Addr×Obj)}{σ:St}{H:Hp}{s:Shared}{R:It ->Hp ->Prop}{E:Value ->Shared ->Prop}{lo hi:Int}{t u v:Tok}{tk:Nat}(I:Inv X pins σ H s)(h1: -(2^62)<=lo)(h2:lo<2^62)(h3: -(2^62)<=hi)(h4:hi<2^62)
  (q:R (Itr lo (hi-lo).toNat) H):wpAny (model X.prog X.w) X.A (pyIter (.ref s.heap.objs.size)) (PIE X pins σ tg R) E {s with heap:=s.heap.push {cls:= .type "range",data:= .fields #[.int lo t,.int hi u,.int 1 v]},toks:=tk}:=by
 refine wpAny_pyIter_range (IsRange.new ..) (small_one h1 h2 h3 h4) ?_;have I1:Inv X pins σ H {s with heap:=s.heap.push {cls:= .type "range",data:= .fields #[.int lo t,.int hi u,.int 1 v]},toks:=tk}:=I.kept fun b o e=>Heap.get?_push_of_some _ e
 refine⟨(s.heap.push {cls:= .type "range",data:= .fields #[.int lo t,.int hi u,.int 1 v]}).objs.size,[(s.heap.push {cls:= .type "range",data:= .fields #[.int lo t,.int hi u,.int 1 v]}).objs.size],_,_,H,rfl,
  I1.kept (t':=tk) fun b o e=>Heap.get?_push_of_some _ e,kM _ lo (hi-lo).toNat,?_,fun b hb=> ?_,q⟩
 ·have e1:lo+((0:Nat):Int)*1=lo:=by simp
  have e2:(((hi-lo).toNat:Nat):Int)-((0:Nat):Int)=Builtin.Range.rangeSize lo hi 1:=by rw[rangeSize_one];split<;>omega
  show IsRangeIter _ _ (lo+((0:Nat):Int)*1) ((((hi-lo).toNat:Nat):Int)-((0:Nat):Int)) 1
  rw[e1,e2];exact Heap.get?_push_size _ rfl
 ·have e:b=(s.heap.push {cls:= .type "range",data:= .fields #[.int lo t,.int hi u,.int 1 v]}).objs.size:=by simpa using hb
  subst e;exact I1.fpOk (ak _) (I1.hok.fresh (ak _))
noncomputable def qK(ta:TA):TI:=fun σ H R=>ta σ H fun vs H1=>∃j:Int,vs=[.int j] /\ -(2^62)<=j /\ j<2^62 /\ R (Itr 0 j.toNat) H1
noncomputable def qJ(ta:TA):TI:=fun σ H R=>ta σ H fun vs H1=>∃i j:Int,vs=[.int i,.int j] /\ (-(2^62)<=i /\ i<2^62 /\ -(2^62)<=j /\ j<2^62) /\ R (Itr i (j-i).toNat) H1
theorem gy{a:Expr}{ta:TA}{p pos:Pos}(hg:Gl X "range")(hm:X.mg "range"=none)(ha:PA X [a] ta)(hs:starEach [a] X.env=[(false,eval a X.env)]:=by rfl):PI X tg (.Call (.Name "range" p) [a] [] pos) (qK ta):=by
 intro pins s σ H R I h;refine Call_ (iO I hg hm boot_range (bv (thn (ha pos pins s σ H _ I h) fun us s1 ⟨vs,H1,I1,r1,q1⟩=> ?_) hs rfl));obtain⟨j,e,q1,q2,q⟩:=q1
 subst e;cases r1 with
 |cons r rr=>
  cases rr;obtain⟨t,rfl⟩:=r
  exact call_range_1 (km I1 (by omega) (by omega) q1 q2 (by simpa using q))
theorem jy{a b:Expr}{ta:TA}{p pos:Pos}(hg:Gl X "range")(hm:X.mg "range"=none)(ha:PA X [a,b] ta)(hs:starEach [a,b] X.env=[(false,eval a X.env),(false,eval b X.env)]:=by rfl)(hs2:starEach [b] X.env=[(false,eval b X.env)]:=by rfl):
  PI X tg (.Call (.Name "range" p) [a,b] [] pos) (qJ ta):=by
 intro pins s σ H R I h;refine Call_ (iO I hg hm boot_range (bv (thn (ha pos pins s σ H _ I h) fun us s1 ⟨vs,H1,I1,r1,q1⟩=> ?_) (by rw[hs,hs2]) (by rw[hs2];rfl)));obtain⟨i,j,e,⟨q1,q2,q3,q4⟩,q⟩:=q1
 subst e;cases r1 with
 |cons r rr=>
  cases rr with
  |cons r' rr=>
   cases rr;obtain⟨t,rfl⟩:=r
   obtain⟨t',rfl⟩:=r'
   exact call_range_2 (km I1 q1 q2 q3 q4 q)
noncomputable def p5(wi:TI)(g:TG)(tb:TS):TS:=fun D σ H=>wi σ H fun J H1=>∃W:Nat ->Nat ->St ->Hp ->Prop,(∃m,W 0 m σ H1) /\ ∀i m σ H,W i m σ H ->
 (J.stop i H /\ D.nx σ H)∨(J.go i H /\ ∃N:St ->Hp ->Prop,(∀σ' H',N σ' H' -> ∃m',m'<m /\ W (i+1) m' σ' H') /\ ∀x H',J.yld i H x H' ->g x σ H' fun σ2 H2=>tb {D with nx:=N,ct:=N,bk:=D.nx} σ2 H2)
noncomputable def jx(fp:List Addr)(h:Heap):List (Addr×Obj):=fp.filterMap fun b=>(h.get? b).map fun o=>(b,o)
theorem gP{fp:List Addr}{h:Heap}{b:Addr}{o:Obj}(hb:b∈fp)(e:h.get? b=some o):(b,o)∈jx fp h:=dQ.mpr ⟨b,hb,by rw[e];rfl⟩
theorem lY{fp:List Addr}{h:Heap}{p:Addr×Obj}(hp:p∈jx fp h):p.1∈fp /\ h.get? p.1=some p.2:=by
 obtain⟨b,hb,e⟩:=dQ.mp hp
 cases q:h.get? b with
 |none=>rw[q] at e;cases e
 |some o=>
  rw[q] at e;have e':(b,o)=p:=aH.inj e
  subst e';exact⟨hb,q⟩
theorem Inv.pinned{pins:List (Addr×Obj)}{σ:St}{H:Hp}{s:Shared}{fp:List Addr}(I:Inv X pins σ H s)(hf:∀b∈fp,mK X pins H b)(ho:∀b∈fp,∃o,s.heap.get? b=some o /\ ∀v,o.data≠ .cell v):Inv X (pins++jx fp s.heap) σ H s:=
 I.pins_of fun p hp=>(bG.mp hp).elim (fun z=>I.pin p (aC _ z)) fun z=>by
  obtain⟨hb,e⟩:=lY z
  obtain⟨f0,f1,f2,_⟩:=hf p.1 hb
  obtain⟨o,e',d⟩:=ho p.1 hb
  rw[e] at e';cases e';exact⟨e,f0,f1,f2,d⟩
theorem Inv.unpinned{pins pl:List (Addr×Obj)}{σ:St}{H:Hp}{s:Shared}(I:Inv X (pins++pl) σ H s):Inv X pins σ H s:=I.pins_of fun p hp=>I.pin p (aC _ (bh _ hp))
theorem gR{iter:Expr}{body:List Stmt}{wi:TI}{g:TG}{tb:TS}{pos:Pos}(hp:PassesOwn (model X.prog X.w) X.A X.env X.xe)(hc:X.calm=true)(hi:PI X tg iter wi)(hg:PG X tg g)(hb:PSs X body tb)
  (hs:∀x,foldedSetIterable iter X.env x=pure x:=by intro _;rfl):PS X (.For tg iter body [] pos) (p5 wi g tb):=by
 intro pins s σ H D I h;refine wpAny_For (thn (hi pins s σ H _ I h) fun v s1 h1=>thn h1 fun itv s2 h2=> ?_) hs;obtain⟨it,fp,tn,J,H2,e,I2,T,st2,f2,W,⟨m0,w0⟩,turn⟩:=h2
 subst e
 --what stays true of the iterator's objects through the loop
 have stat:∀{H':Hp},(∀b∈fp,H' b=none) -> ∀b∈fp,mK X pins H' b:=fun hn b hb=>⟨hn b hb,(f2 b hb).2⟩
 refine codeAny_forLoop_any (fun n s'=>∃i σ' H',Inv X pins σ' H' s' /\ tn i s'.heap /\ (∀b∈fp,H' b=none) /\ W i n σ' H') ?_ m0 ⟨0,σ,H2,I2,st2,fun b hb=>(f2 b hb).1,w0⟩;rintro n s3 ⟨i,σ3,H3,I3,st3,fr3,w3⟩;rcases turn i n σ3 H3 w3 with⟨stop,qn⟩|⟨go,N,hN,step⟩
 ·refine wpAny_passesOwn hp (thn (T.done X rfl rfl rfl hc i pins s3 σ3 H3 X.xe I3 (stat fr3) st3 stop) fun r s4 ⟨hr,I4⟩=> ?_);subst hr;exact wpAny_execs_nil ⟨σ3,H3,I4,qn⟩
 ·refine wpAny_passesOwn hp (thn (T.item X rfl rfl rfl hc i pins s3 σ3 H3 X.xe I3 (stat fr3) st3 go) fun r s4 ⟨u,hr,h4⟩=> ?_);subst hr;refine wpAny_passesOwn hp (thn h4 fun _ s5 ⟨x,H5,I5,r5,y5,st5,fr5⟩=> ?_);have I5':=I5.pinned (stat fr5) (T.obj _ _ st5)
  refine wpAny_passesOwn hp (thn (hg _ s5 σ3 H5 x u _ I5' r5 (step x H5 y5)) fun _ s6 ⟨σ6,H6,I6,q6⟩=> ?_);refine wpAny_passesOwn hp (thn (hb _ s6 σ6 H6 _ I6 q6) fun f s7 q7=> ?_);have again:∀{σ7:St} {H7:Hp},Inv X (pins++jx fp s5.heap) σ7 H7 s7 ->N σ7 H7 -> ∃m,m<n /\ ∃i σ' H',Inv X pins σ' H' s7 /\ tn i s7.heap /\ (∀b∈fp,H' b=none) /\ W i m σ' H':=fun {σ7 H7} I7 n7=>by
   obtain⟨m',hm,w7⟩:=hN σ7 H7 n7
   refine⟨m',hm,i+1,σ7,H7,I7.unpinned,T.keep _ _ _ st5 fun b hb o e=>(I7.pin (b,o) (aC _ (aC _ (gP hb e)))).1,fun b hb=> ?_,w7⟩;obtain⟨o,e,d⟩:=T.obj _ _ st5 b hb
   exact(I7.pin (b,o) (aC _ (aC _ (gP hb e)))).2.1
  cases f with
  |next=>obtain⟨σ7,H7,I7,n7⟩:=q7;exact again I7 n7
  |cont=>obtain⟨σ7,H7,I7,n7⟩:=q7;exact again I7 n7
  |brk=>obtain⟨σ7,H7,I7,q7⟩:=q7;exact⟨σ7,H7,I7.unpinned,q7⟩
  |ret v=>obtain⟨x7,σ7,H7,I7,r7,q7⟩:=q7;exact⟨x7,σ7,H7,I7.unpinned,r7,q7⟩
end
theorem nB{K:af}{a:Addr}{xs:List V}{g:TG}{tb:TS}{D:Ends}{σ:St}{H:Hp}(Pv:Nat ->St ->Hp ->Prop)(h0:Pv 0 σ H)(hl:∀i σ H,i<=xs.length ->Pv i σ H ->SqL K H a xs)
  (hs:∀i x σ H,xs[i]? =some x ->Pv i σ H ->g x σ H fun σ2 H2=>tb {D with nx:=Pv (i+1),ct:=Pv (i+1),bk:=D.nx} σ2 H2) (hd:∀σ H,Pv xs.length σ H ->D.nx σ H):
  ∃W:Nat ->Nat ->St ->Hp ->Prop,(∃m,W 0 m σ H) /\ ∀i m σ H,W i m σ H ->
   ((Itl K a).stop i H /\ D.nx σ H)∨((Itl K a).go i H /\ ∃N:St ->Hp ->Prop,(∀σ' H',N σ' H' -> ∃m',m'<m /\ W (i+1) m' σ' H') /\ ∀x H',(Itl K a).yld i H x H' ->g x σ H' fun σ2 H2=>tb {D with nx:=N,ct:=N,bk:=D.nx} σ2 H2):=by
 refine⟨fun i m σ H=>m=xs.length-i /\ i<=xs.length /\ Pv i σ H,⟨xs.length,by simp,aN _,h0⟩,?_⟩;rintro i m σ H ⟨rfl,hi,p⟩;have q:=hl i σ H hi p
 by_cases hlt:i<xs.length
 ·refine .inr ⟨⟨xs,xs[i],q,by simp[hlt]⟩,Pv (i+1),fun σ' H' p'=>⟨xs.length-(i+1),by omega,rfl,hlt,p'⟩,fun x H' y=> ?_⟩;obtain⟨e,y⟩:=y
  subst e;exact hs i x σ _ (y xs q) p
 ·have e:i=xs.length:=by omega
  subst e;exact .inl ⟨⟨xs,q,ak _⟩,hd σ H p⟩
theorem iE{lo:Int}{n:Nat}{g:TG}{tb:TS}{D:Ends}{σ:St}{H:Hp}(Pv:Nat ->St ->Hp ->Prop)(h0:Pv 0 σ H)
  (hs:∀i σ H,i<n ->Pv i σ H ->g (.int (lo+i)) σ H fun σ2 H2=>tb {D with nx:=Pv (i+1),ct:=Pv (i+1),bk:=D.nx} σ2 H2) (hd:∀σ H,Pv n σ H ->D.nx σ H):
  ∃W:Nat ->Nat ->St ->Hp ->Prop,(∃m,W 0 m σ H) /\ ∀i m σ H,W i m σ H ->
   ((Itr lo n).stop i H /\ D.nx σ H)∨((Itr lo n).go i H /\ ∃N:St ->Hp ->Prop,(∀σ' H',N σ' H' -> ∃m',m'<m /\ W (i+1) m' σ' H') /\ ∀x H',(Itr lo n).yld i H x H' ->g x σ H' fun σ2 H2=>tb {D with nx:=N,ct:=N,bk:=D.nx} σ2 H2):=by
 refine⟨fun i m σ H=>m=n-i /\ i<=n /\ Pv i σ H,⟨n,by simp,aN _,h0⟩,?_⟩;rintro i m σ H ⟨rfl,hi,p⟩
 by_cases hlt:i<n
 ·refine .inr ⟨hlt,Pv (i+1),fun σ' H' p'=>⟨n-(i+1),by omega,rfl,hlt,p'⟩,fun x H' y=> ?_⟩;obtain⟨e,y⟩:=y
  subst e y;exact hs i σ _ hlt p
 ·have e:i=n:=by omega
  subst e;exact .inl ⟨ak _,hd σ H p⟩
end L2
namespace L2
open PySem PySem.Spec PyProof.Rows
noncomputable abbrev R2:=V ->V ->Hp ->VK ->Prop
noncomputable def OpR(X:Cx)(f:Value ->Value ->Sem Value)(r:R2):Prop:=
 ∀(pins:List (Addr×Obj)) (s:Shared) (σ:St) (H:Hp) (x y:V) (v u:Value) (Q:VK),Inv X pins σ H s ->RelV x v ->RelV y u ->r x y H Q ->
  wpAny (model X.prog X.w) X.A (f v u) (EP X pins σ Q) X.xe s
noncomputable def UnR(X:Cx)(f:Value ->Sem Value)(r:V ->Hp ->VK ->Prop):Prop:=
 ∀(pins:List (Addr×Obj)) (s:Shared) (σ:St) (H:Hp) (x:V) (v:Value) (Q:VK),Inv X pins σ H s ->RelV x v ->r x H Q ->
  wpAny (model X.prog X.w) X.A (f v) (EP X pins σ Q) X.xe s
noncomputable def gz(X:Cx)(f:Value)(r:List V ->Hp ->VK ->Prop):Prop:=
 ∀(pins:List (Addr×Obj)) (s:Shared) (σ:St) (H:Hp) (xs:List V) (us:List Value) (Q:VK),Inv X pins σ H s ->Vals xs us ->r xs H Q ->
  wpAny (model X.prog X.w) X.A (call f us) (EP X pins σ Q) X.xe s
noncomputable def tOp(r:R2)(ta tb:TE):TE:=fun σ H Q=>ta σ H fun x H1=>tb σ H1 fun y H2=>r x y H2 Q
noncomputable def tUn(r:V ->Hp ->VK ->Prop)(ta:TE):TE:=fun σ H Q=>ta σ H fun x H1=>r x H1 Q
noncomputable def rI(C:Int ->Int ->Prop)(g:Int ->Int ->V):R2:=fun x y H Q=>∃i j,x= .int i /\ y= .int j /\ C i j /\ Q (g i j) H
noncomputable def rI0(g:Int ->Int ->V):R2:=fun x y H Q=>∃i j,x= .int i /\ y= .int j /\ Q (g i j) H
noncomputable def rU(g:Int ->V):V ->Hp ->VK ->Prop:=fun x H Q=>∃i,x= .int i /\ Q (g i) H
section
variable {X:Cx} {a b c:Expr} {ta tb tc:TE} {pos:Pos}
theorem rL(ha:PE X a ta)(hb:PE X b tb){pins:List (Addr×Obj)}{s:Shared}{σ:St}{H:Hp}{R:V ->V ->Hp ->Prop}(I:Inv X pins σ H s)
  (h:ta σ H fun x H1=>tb σ H1 fun y H2=>R x y H2) {Q:Value ->Shared ->Prop} {f:Value ->Value ->Sem Value}
  (hf:∀v u s2 x y H2,Inv X pins σ H2 s2 ->RelV x v ->RelV y u ->R x y H2 ->wpAny (model X.prog X.w) X.A (f v u) Q X.xe s2):
  wpAny (model X.prog X.w) X.A (eval a X.env) (fun v s₁=>wpAny (model X.prog X.w) X.A (eval b X.env) (fun u s₂=>wpAny (model X.prog X.w) X.A (f v u) Q X.xe s₂) X.xe s₁) X.xe s:=by
 refine thn (ha pins s σ H _ I h) fun v s1 ⟨x,H1,I1,r1,q1⟩=> ?_
 refine thn (hb pins s1 σ H1 _ I1 q1) fun u s2 ⟨y,H2,I2,r2,q2⟩=> ?_
 exact hf v u s2 x y H2 I2 r1 r2 q2
theorem fv{op:Operator}{r:R2}(ho:OpR X (binaryOp op) r)(ha:PE X a ta)(hb:PE X b tb):PE X (.BinOp a op b pos) (tOp r ta tb):=by
 intro pins s σ H Q I h;exact wpAny_BinOp (rL ha hb I h fun v u s2 x y H2 I2 rx ry q=>ho pins s2 σ H2 x y v u Q I2 rx ry q)
theorem i8{op:UnaryOp}{r:V ->Hp ->VK ->Prop}(ho:UnR X (unaryOp op) r)(ha:PE X a ta):PE X (.UnaryOp op a pos) (tUn r ta):=by
 intro pins s σ H Q I h;exact UnaryOp_ (thn (ha pins s σ H _ I h) fun v s1 ⟨x,H1,I1,r1,q1⟩=>ho pins s1 σ H1 x v Q I1 r1 q1)
theorem opI{f:Value ->Value ->Sem Value}{C:Int ->Int ->Prop}{g:Int ->Int ->Int}
  (rule:∀(i j:Int) (t u:Tok) (s:Shared) (Q:Value ->Shared ->Prop) (E:Value ->Shared ->Prop),C i j ->Q (.int (g i j) s.toks) {s with toks:=s.toks+1} ->wpAny (model X.prog X.w) X.A (f (.int i t) (.int j u)) Q E s):
  OpR X f (rI C fun i j=> .int (g i j)):=by
 intro pins s σ H x y v u Q I rx ry h;obtain⟨i,j,rfl,rfl,hc,q⟩:=h
 obtain⟨t,rfl⟩:=rx
 obtain⟨t',rfl⟩:=ry
 exact rule i j t t' s _ _ hc ⟨.int (g i j),H,I.tok _,⟨_,rfl⟩,q⟩
theorem rS{f:Value ->Value ->Sem Value}{g:Int ->Int ->Int}
  (rule:∀(i j:Int) (t u:Tok) (s:Shared) (Q:Value ->Shared ->Prop) (E:Value ->Shared ->Prop),Q (.int (g i j) s.toks) {s with toks:=s.toks+1} ->wpAny (model X.prog X.w) X.A (f (.int i t) (.int j u)) Q E s):
  OpR X f (rI0 fun i j=> .int (g i j)):=by
 intro pins s σ H x y v u Q I rx ry h;obtain⟨i,j,rfl,rfl,q⟩:=h
 obtain⟨t,rfl⟩:=rx
 obtain⟨t',rfl⟩:=ry
 exact rule i j t t' s _ _ ⟨.int (g i j),H,I.tok _,⟨_,rfl⟩,q⟩
theorem qx{f:Value ->Value ->Sem Value}{g:Int ->Int ->Bool}
  (rule:∀(i j:Int) (t u:Tok) (s:Shared) (Q:Value ->Shared ->Prop) (E:Value ->Shared ->Prop),Q (.bool (g i j)) s ->wpAny (model X.prog X.w) X.A (f (.int i t) (.int j u)) Q E s):
  OpR X f (rI0 fun i j=> .bl (g i j)):=by
 intro pins s σ H x y v u Q I rx ry h;obtain⟨i,j,rfl,rfl,q⟩:=h
 obtain⟨t,rfl⟩:=rx
 obtain⟨t',rfl⟩:=ry
 exact rule i j t t' s _ _ ⟨.bl (g i j),H,I,rfl,q⟩
noncomputable def CMul(i j:Int):Prop:=(-(2^64)<i /\ i<2^64)∨(-(2^64)<j /\ j<2^64)
theorem CMul.ok{i j:Int}(h:CMul i j):IntMulOk i j:=by
 rcases h with⟨h1,h2⟩|⟨h1,h2⟩
 ·exact .of_left (intBits_le_64 h1 h2)
 ·exact .of_right (intBits_le_64 h1 h2)
theorem fV:OpR X (binaryOp .Add) (rI0 fun i j=> .int (i+j)):=rS fun _ _ _ _ _ _ _ q=>add_int q
theorem gk:OpR X (binaryOp .Sub) (rI0 fun i j=> .int (i-j)):=rS fun _ _ _ _ _ _ _ q=>sub_int q
theorem gS:OpR X (binaryOp .Mod) (rI (fun _ j=>0<j) fun i j=> .int (i%j)):=opI fun i j _ _ _ _ _ hc q=>by
 have h1:(0:Int)<j:=hc
 exact mod_int' (by omega) (by rw[Int.fmod_eq_emod_of_nonneg i (by omega)];exact q)
theorem unI{f:Value ->Sem Value}{g:Int ->Int}
  (rule:∀(i:Int) (t:Tok) (s:Shared) (Q:Value ->Shared ->Prop) (E:Value ->Shared ->Prop),Q (.int (g i) s.toks) {s with toks:=s.toks+1} ->wpAny (model X.prog X.w) X.A (f (.int i t)) Q E s):
  UnR X f (rU fun i=> .int (g i)):=by
 intro pins s σ H x v Q I rx h;obtain⟨i,rfl,q⟩:=h
 obtain⟨t,rfl⟩:=rx
 exact rule i t s _ _ ⟨.int (g i),H,I.tok _,⟨_,rfl⟩,q⟩
theorem gW:UnR X (unaryOp .USub) (rU fun i=> .int (-i)):=unI fun _ _ _ _ _ q=>neg_int q
end
noncomputable def pI:V ->V ->Bool
 | .non,.non=>true| .non,.int _=>true| .int _,.non=>true| .non,.bl _=>true| .bl _,.non=>true| .non,.str _=>true| .str _,.non=>true
 | .int _,.int _=>true| .bl _,.bl _=>true| .str _,.str _=>true| .byt _,.byt _=>true
 | .int _,.str _=>true| .str _,.int _=>true| .bl _,.str _=>true| .str _,.bl _=>true
 |_,_=>false
noncomputable def rEq:R2:=fun x y H Q=>pI x y=true /\ Q (.bl (decide (x=y))) H
noncomputable def rNe:R2:=fun x y H Q=>pI x y=true /\ Q (.bl (!decide (x=y))) H
section
variable {X:Cx} {a b c:Expr} {ta tb tc:TE} {pos:Pos}
theorem lX:OpR X (compareOp .Lt) (rI0 fun i j=> .bl (decide (i<j))):=qx fun _ _ _ _ _ _ _ q=>lt_int q
theorem m9:OpR X (compareOp .Gt) (rI0 fun i j=> .bl (decide (j<i))):=qx fun _ _ _ _ _ _ _ q=>gt_int q
theorem qu:OpR X (compareOp .GtE) (rI0 fun i j=> .bl (decide (j<=i))):=qx fun _ _ _ _ _ _ _ q=>ge_int q
theorem fR(b:Expr){op:CmpOp}(h:op≠ .In:=by decide)(h2:op≠ .NotIn:=by decide):behindInMarks op b=false:=by
 have e1:(op==CmpOp.In)=false:=by cases op<;>first|rfl|exact absurd rfl h
 have e2:(op==CmpOp.NotIn)=false:=by cases op<;>first|rfl|exact absurd rfl h2
 cases b<;>simp[behindInMarks,e1,e2]
theorem lS{op:CmpOp}{r:R2}(ho:OpR X (compareOp op) r)(ha:PE X a ta)(hb:PE X b tb)(hm:behindInMarks op b=false):PE X (.Compare a [op] [b] pos) (tOp r ta tb):=by
 intro pins s σ H Q I h;exact wpAny_Compare1 (rL ha hb I h fun v u s2 x y H2 I2 rx ry q=>ho pins s2 σ H2 x y v u Q I2 rx ry q) hm
noncomputable def mP(t:TE):TT:=fun σ H Q=>t σ H fun x H'=>∃k,x= .bl k /\ Q k H'
theorem ku:(sizeLine:Nat)<2^63:=by rw[sizeLine_eq];decide
theorem vals1{x:V}{us:List Value}(r:Vals [x] us):∃u,us=[u] /\ RelV x u:=by
 cases r with
 |cons r1 r2=>cases r2;exact⟨_,rfl,r1⟩
theorem vals2{x y:V}{us:List Value}(r:Vals [x,y] us):∃u w',us=[u,w'] /\ RelV x u /\ RelV y w':=by
 cases r with
 |cons r1 r2=>
  cases r2 with
  |cons r3 r4=>cases r4;exact⟨_,_,rfl,r1,r3⟩
theorem kK:gz X (.builtin "abs") (fun xs H Q=>∃i,xs=[.int i] /\ Q (.int (if i<0 then -i else i)) H):=by
 intro pins s σ H xs us Q I r h;obtain⟨i,rfl,q⟩:=h
 obtain⟨u,rfl,t,rfl⟩:=vals1 r
 exact call_abs_int fun u tk=>⟨.int (if i<0 then -i else i),H,I.tok _,⟨_,rfl⟩,q⟩
theorem mE(hc:X.calm=true):gz X (.builtin "min") (fun xs H Q=>∃i j,xs=[.int i,.int j] /\ Q (.int (if j<i then j else i)) H):=by
 intro pins s σ H xs us Q I r h;obtain⟨i,j,rfl,q⟩:=h
 obtain⟨u,w',rfl,⟨t,rfl⟩,⟨t',rfl⟩⟩:=vals2 r
 refine min_two_ints (I.ok.hd hc) fun h' tk k=>⟨_,H,I.kept k,?_,q⟩
 by_cases hj:j<i
 ·rw[if_pos hj,if_pos hj];exact⟨_,rfl⟩
 ·rw[if_neg hj,if_neg hj];exact⟨_,rfl⟩
end
end L2
namespace L2
open PySem PySem.Spec PyProof.Rows
structure ObjM(h:Heap)(x dx C:Addr)(mA:Str ->Option Value):Prop where
 obj:h.get? x=some (dg C dx)
 ns:h.Ns1 dx mA
 ne:dx≠x
theorem l5{h:Heap}{dx:Addr}{mA:Str ->Option Value}(n:h.Ns1 dx mA):∃od,h.get? dx=some od /\ ∀name,dE name od=some (mA name):=by
 obtain⟨o,es,ep,ho,hd,hk,_,hm⟩:=n
 refine⟨o,ho,fun name=> ?_⟩;have e:=hm name
 unfold nsFind findBy at e;rw[<-Array.find?_toList] at e;unfold dE;rw[hd];dsimp only;split
 ·rename_i y q
  rw[q] at e;exact congrArg some e
 ·rename_i q
  rw[q] at e;have a:es.toList.any (·.refKey)=false:=by
   rw[dY];intro y hy;obtain⟨z,t,hkey⟩:=hk y (Array.mem_toList_iff.mp hy)
   simp[DictEntry.refKey,hkey]
  have a':¬es.toList.any (·.refKey)=true:=by rw[a];exact cM
  rw[if_neg a'];exact congrArg some e
theorem ObjM.look{h:Heap}{x dx C:Addr}{mA:Str ->Option Value}(I:ObjM h x dx C mA):∃od,PySem.W.InstAt h x (dg C dx) C (some od) /\ ∀name,dE name od=some (mA name):=
 let⟨od,ho,hl⟩:=l5 I.ns
 ⟨od,⟨I.obj,rfl,rfl,ho⟩,hl⟩
section
variable {P:Program} {w:World} {H H':Hp} {h h':Heap} {a C dx:Addr} {fs fs':List (Str×V)}
theorem oY(hok:HOk P w H h)(e:H a=some (.ins C dx fs)):∃mA,ObjM h a dx C mA /\ (∀f,RelO (fs.lookup f) (mA f)) /\ eZ mA (fs.map (·.1)) /\ fs.length<=1000 /\ H dx=some (.own a):=by
 obtain⟨d,z,ne,ob,mA,n,r,q⟩:=(show ObjOk P w H h a (.ins C dx fs) from hok a _ e)
 exact⟨mA,⟨ob,n,ne⟩,r,q,z,d⟩
end
structure Cls(K:af)(C:Addr):Prop where
 pg:ef K C Str.empty=true
 hd:PySem.W.hasDictIn K C=true
 po:PySem.W.plainOver K C=true
 sa:bC K (.ref C) "__setattr__"=some (some (.builtin "object.__setattr__"))
theorem Cls.get{K:af}{C:Addr}(c:Cls K C)(f:Str):ef K C f=true:=c.pg
section
variable {X:Cx} {pins:List (Addr×Obj)} {σ:St} {H:Hp} {s:Shared} {A:Around} {E:Value ->Shared ->Prop} {Q:Value ->Shared ->Prop} {c:Value} {b:Bool}
inductive TyOf(K:af)(H:Hp):V ->Value ->Prop where
 |non:TyOf K H .non (.type "NoneType")
 |bl (x:Bool):TyOf K H (.bl x) (.type "bool")
 |int (i:Int):TyOf K H (.int i) (.type "int")
 |str (x:Str):TyOf K H (.str x) (.type "str")
 |flt (x:UInt64):TyOf K H (.flt x) (.type "float")
 |lst {a:Addr} {xs:List V} (e:H a=some (.lst xs)):TyOf K H (.ref a) (.type "list")
 |frz {a:Addr} {o:Obj} {xs:List V} (e:H a=some (.frz o (.lst xs))):TyOf K H (.ref a) (.type "list")
 |tup {a:Addr} {xs:List V} (e:H a=some (.tup xs)):TyOf K H (.ref a) (.type "tuple")
 |dK {a:Addr} {kvs:List (Key×V)} (e:H a=some (.dK kvs)):TyOf K H (.ref a) (.type "dict")
 |dT {a:Addr} {kvs:List (List Key×V)} (e:H a=some (.dT kvs)):TyOf K H (.ref a) (.type "dict")
 |ins {a C dx:Addr} {fs:List (Str×V)} (e:H a=some (.ins C dx fs)) (cl:Cls K C) (ha:bC K (.ref C) "__class__"=some (some (.builtin "object.__class__")))
   (hn:cR K (.builtin "object.__class__") "__get__"=some (some (.builtin "getset_descriptor.__get__"))) (htk:dk K (.builtin "object.__class__")=some true)
   (hm:cF K C (.type "object")=some true):TyOf K H (.ref a) (.ref C)
theorem mf{x:V}{u t:Value}(I:Inv X pins σ H s)(rx:RelV x u)(ty:TyOf X.K H x t)(e:cN X.K t c=some b)(h:∀tk,Q (.bool b) {s with toks:=tk}):
  wpAny (model X.prog X.w) A (call (.builtin "isinstance") [u,c]) Q E s:=by
 cases ty with
 |non=>cases(show u=Value.none from rx);exact aW PySem.W.kitx_none I.kIn True.intro e (fun z=>nomatch z) h
 |bl y=>cases(show u=Value.bool y from rx);exact aW PySem.W.kitx_bool I.kIn True.intro e (fun z=>nomatch z) h
 |int i=>obtain⟨t,q⟩:=(show∃t,u=Value.int i t from rx);cases q;exact aW PySem.W.kitx_int I.kIn True.intro e (fun z=>nomatch z) h
 |str y=>obtain⟨t,q⟩:=(show∃t,u=Value.str y t from rx);cases q;exact aW PySem.W.kitx_str I.kIn True.intro e (fun z=>nomatch z) h
 |flt y=>obtain⟨t,q⟩:=(show∃t,u=Value.float y t from rx);cases q;exact aW PySem.W.kitx_float I.kIn True.intro e (fun z=>nomatch z) h
 | @lst a xs ea=>
  cases(show u=Value.ref a from rx);obtain⟨_,_,n,_,h1⟩:=(show ObjOk X.prog X.w H s.heap a (.lst xs) from I.hok a _ ea)
  exact aW dZ I.kIn ⟨_,h1,rfl⟩ e (fun z=>nomatch z) h
 | @frz a ob xs ea=>
  cases(show u=Value.ref a from rx);obtain⟨_,_,_,n,_,h1⟩:=(show ObjOk X.prog X.w H s.heap a (.frz ob (.lst xs)) from I.hok a _ ea)
  exact aW dZ I.kIn ⟨_,h1,rfl⟩ e (fun z=>nomatch z) h
 | @tup a xs ea=>
  cases(show u=Value.ref a from rx);obtain⟨_,_,_,p⟩:=(show ObjOk X.prog X.w H s.heap a (.tup xs) from I.hok a _ ea)
  obtain⟨o,h1,h2,_⟩:=p
  exact aW PySem.W.kitx_tuple I.kIn ⟨o,h1,h2⟩ e (fun z=>nomatch z) h
 | @dK a kvs ea=>
  cases(show u=Value.ref a from rx);obtain⟨_,_,vs,_,p⟩:=(show ObjOk X.prog X.w H s.heap a (.dK kvs) from I.hok a _ ea)
  obtain⟨o,es,ep,h1,h2,_⟩:=p
  exact aW d4 I.kIn ⟨o,h1,h2.1⟩ e (fun z=>nomatch z) h
 | @dT a kvs ea=>
  cases(show u=Value.ref a from rx);obtain⟨_,_,xs,_,o,es,ep,h1,h2,_⟩:=(show ObjOk X.prog X.w H s.heap a (.dT kvs) from I.hok a _ ea)
  exact aW d4 I.kIn ⟨o,h1,h2.1⟩ e (fun z=>nomatch z) h
 | @ins a C dx fs ea cl ha hn htk hm=>
  cases(show u=Value.ref a from rx);obtain⟨mA,O,_⟩:=oY I.hok ea
  obtain⟨od,J,_⟩:=O.look
  exact aW (PySem.W.kitx_own (cl.get _) cl.hd ha hn htk hm) I.kIn J e (fun z=>nomatch z) h
end
end L2
namespace L2
open PySem PySem.Spec PyProof.Rows
theorem Room.mono{j k:Nat}{A:Around}(r:Room k A)(h:j<=k):Room j A:=⟨r.hd,by have:=r.dp;omega,by have:=r.un;omega⟩
theorem Room.deeper{k:Nat}{A:Around}(r:Room (k+1) A)(env:Env):Room k (A.deeper env):=
 ⟨r.hd,by have:=r.dp;show A.depth+1+3*k+5<_;omega,by have:=r.un;show A.units+3+16*k+200<_;omega⟩
theorem Room.in1{k:Nat}{A:Around}(r:Room (k+1) A):Room k A.in1:=
 ⟨r.hd,by have:=r.dp;show A.depth+3*k+5<_;omega,by have:=r.un;show A.units+1+16*k+200<_;omega⟩
theorem Room.depth{k:Nat}{A:Around}(r:Room k A):A.depth<recursionLimit:=by have:=r.dp;omega
theorem Room.units{k:Nat}{A:Around}(r:Room k A):A.units+64<cLine:=by have:=r.un;omega
noncomputable def pT:TA:=fun _ H Q=>Q [] H
noncomputable def lG(ta:TE)(tr:TA):TA:=fun σ H Q=>ta σ H fun x H1=>tr σ H1 fun xs H2=>Q (x::xs) H2
section
variable {X:Cx} {e:Expr} {es:List Expr} {te:TE} {t:TA} {pos:Pos}
theorem fk:PA X [] pT:=fun _ _ _ _ H Q I h=>Calls.spliced_nil ⟨[],H,I,.nil,h⟩
theorem fi(ha:PE X e te)(hr:PA X es t)(hs:starEach (e::es) X.env=(false,eval e X.env)::starEach es X.env:=by rfl):PA X (e::es) (lG te t):=by
 intro pos pins s σ H Q I h;rw[hs];show wpAny _ _ (spliced ((false,eval e X.env)::backTo pos (starEach es X.env))) _ _ s
 refine Calls.spliced_cons (thn (ha pins s σ H _ I h) fun u s1 ⟨x,H1,I1,r1,q1⟩=> ?_);exact thn (hr pos pins s1 σ H1 _ I1 q1) fun us s2 ⟨xs,H2,I2,r2,q2⟩=>⟨x::xs,H2,I2,.cons r1 r2,q2⟩
noncomputable def pP(t:TA):TE:=fun σ H Q=>t σ H fun xs H1=>xs.length<=sizeLine /\ ∀p,H1 p=none ->Q (.ref p) (upd H1 p (.tup xs))
noncomputable def pY(t:TA):TE:=fun σ H Q=>t σ H fun xs H1=>xs.length<=sizeLine /\ ∀p,H1 p=none ->Q (.ref p) (upd H1 p (.lst xs))
theorem fT{x1}(h:PA X es t):PE X (.Tuple es x1 pos) (pP t):=by
 intro pins s σ H Q I hq;refine wpAny_Tuple_spliced (thn (h pos pins s σ H _ I hq) fun us s1 ⟨xs,H1,I1,r,z,q⟩=>⟨by rw[<-r.length];exact z,?_⟩);have hf:H1 s1.heap.objs.size=none:=I1.hok.fresh (ak _)
 refine⟨.ref s1.heap.objs.size,upd H1 s1.heap.objs.size (.tup xs),I1.laid (t':=s1.toks) (fun b u e=>Heap.get?_push_of_some _ e) (ak _) ?_,rfl,q _ hf⟩;exact⟨z,us,r,⟨_,Heap.get?_push_size _ rfl,rfl,_,rfl⟩⟩
theorem jA(h:PA X es t):PE X (.List es pos) (pY t):=by
 intro pins s σ H Q I hq;refine wpAny_List_spliced (thn (h pos pins s σ H _ I hq) fun us s1 ⟨xs,H1,I1,r,z,q⟩=>⟨by rw[<-r.length];exact z,?_⟩);have hf:H1 s1.heap.objs.size=none:=I1.hok.fresh (ak _)
 refine⟨.ref s1.heap.objs.size,upd H1 s1.heap.objs.size (.lst xs),I1.laid (t':=s1.toks) (fun b u e=>Heap.get?_push_of_some _ e) (ak _) ?_,rfl,q _ hf⟩;exact⟨z,us,0,r,Heap.get?_push_size _ rfl⟩
end
theorem FnOk.mono{P:Program}{w:World}{K:af}{mg:Str ->Option Value}{base:Heap}{CX:CXT}{j k:Nat}{f:Addr}{fd:FuncData}{ps:List Str}{sp:Sp}(F:FnOk P w K mg base CX j f fd ps sp)(h:j<=k):
  FnOk P w K mg base CX k f fd ps sp:=⟨F.len,fun A outer s H args us vs Q E hr=>F.run A outer s H args us vs Q E (hr.mono h)⟩
theorem FnOk.imp{P:Program}{w:World}{K:af}{mg:Str ->Option Value}{base:Heap}{CX:CXT}{k:Nat}{f:Addr}{fd:FuncData}{ps:List Str}{sp sp':Sp}(F:FnOk P w K mg base CX k f fd ps sp)
  (h:∀vs H Q E,sp' vs H Q E ->sp vs H Q E):FnOk P w K mg base CX k f fd ps sp':=
 ⟨fun vs H Q E q=>F.len vs H Q E (h _ _ _ _ q),fun A outer s H args us vs Q E hr he hb hv hs=>F.run A outer s H args us vs Q E hr he hb hv (h _ _ _ _ hs)⟩
theorem Env0.in1{P:Program}{w:World}{K:af}{mg:Str ->Option Value}{base:Heap}{A:Around}{outer:List Env}{s:Shared}{H:Hp}(e:Env0 P w K mg base A outer s H):
  Env0 P w K mg base A.in1 outer s H:=⟨e.frames,e.mod,e.bs,e.bsz,e.funs,e.frf,e.hok,e.bare⟩
section
variable {X:Cx} {pins:List (Addr×Obj)} {σ:St} {H:Hp} {s s':Shared}
theorem Inv.env0(I:Inv X pins σ H s):Env0 X.prog X.w X.K X.mg X.base X.A X.stack s H:=
 ⟨I.ok.frames,I.ok.mod,I.bs,bj I.ok.bsz I.sz,I.stack,I.stkFree,I.hok,I.bare⟩
theorem Inv.after{Q:VK}{u:Value}(I:Inv X pins σ H s)(h:CE X.stack X.prog X.w H s Q u s'):EP X pins σ Q u s':=by
 obtain⟨v,H',os,bare,un,hok,r,q⟩:=h
 obtain⟨hh,g,d,t,os'⟩:=s'
 obtain rfl:os'=s.os:=os
 exact⟨v,H',I.call (h':=hh) (g':=g) (d':=d) (t':=t) (ch:=[]) un hok bare (fun b z=>absurd z (by simp)),r,q⟩
end
noncomputable def kN(sp:Sp)(dvs:List V)(E:XK)(t:TA):TE:=fun σ H Q=>t σ H fun vs H1=>sp (vs++dvs) H1 Q E
noncomputable def Binds(K:af)(fd:FuncData)(ps:List Str)(ds:List Value):Prop:=
 ∀(s:Shared) (us:List Value),K.In s.heap ->(us++ds).length=ps.length ->BindsTo s fd ⟨us,[]⟩ (ps.zip (us++ds))
theorem Binds.all{K:af}{fd:FuncData}{ps:List Str}(h:∀us:List Value,us.length=ps.length ->bindArgs fd ⟨us,[]⟩=pure (ps.zip us)):Binds K fd ps []:=fun s us _ hl=>by
 rw[bU] at hl⊢;exact .of_eq (h us hl)
noncomputable def kL(CX:CXT)(X:Cx)(E:XK):Prop:=∀(pins:List (Addr×Obj)) (σ:St) (H:Hp) (s:Shared) (e:Value) (s':Shared),Inv X pins σ H s ->CX X.stack H s E e s' ->X.xe e s'
section
variable {X:Cx} {CX:CXT} {k:Nat} {f C:Addr} {fd:FuncData} {ps:List Str} {sp:Sp} {dvs:List V} {ds:List Value} {E:XK} {x m:Str} {p pos apos:Pos} {e o:Expr} {es:List Expr} {ta:TE} {t:TA}
theorem qd{pins:List (Addr×Obj)}{σ:St}{H:Hp}{s:Shared}{Q:VK}{us:List Value}{vs:List V}(F:FnOk X.prog X.w X.K X.mg X.base CX k f fd ps sp)(hr:Room k X.A)(hb:Binds X.K fd ps ds)(hd:Vals dvs ds)(hx:kL CX X E)
  (I:Inv X pins σ H s) (r:Vals vs us) (h:sp (vs++dvs) H Q E):wpAny (model X.prog X.w) X.A (call (.ref f) us) (EP X pins σ Q) X.xe s:=by
 have r2:Vals (vs++dvs) (us++ds):=r.append hd
 have hl:(us++ds).length=ps.length:=by rw[<-r2.length];exact F.len _ _ _ _ h
 refine wpAny_call (codeAny_mono (F.run X.A X.stack s H ⟨us,[]⟩ (us++ds) (vs++dvs) Q E hr I.env0 (hb s us I.kIn hl) r2 h) fun r s' hq=> ?_);cases r with
 |error e=>exact hx pins σ H s e s' I hq
 |ok fl=>
  cases fl with
  |ret u=>exact I.after hq
  |next=>exact False.elim hq
  |brk=>exact False.elim hq
  |cont=>exact False.elim hq
theorem oM(F:FnOk X.prog X.w X.K X.mg X.base CX k f fd ps sp)(hr:Room k X.A)(hg:Gl X x)(hm:X.mg x=some (.ref f))(hk:av X.K (.ref f)=true)(hb:Binds X.K fd ps ds)(hd:Vals dvs ds)(hx:kL CX X E)
  (ha:PA X (e::es) t) (hdb:(x==("__debug__":Str))=false:=by decide) (he:starEach (e::es) X.env=(false,eval e X.env)::starEach es X.env:=by rfl) (hpl:(backTo pos (starEach es X.env)).any (·.1)=false:=by rfl):
  PE X (.Call (.Name x p) (e::es) [] pos) (kN sp dvs E t):=by
 intro pins s σ H Q I h;refine wpAny_Call_Name_kw (l7 I hg hm ?_ hdb);refine PySem.W.callWith_K (h₀:=X.base) I.ok.mod.kin hk (thn (ha pos pins s σ H _ I h) fun us s1 ⟨vs,H1,I1,r,q⟩=>⟨I1.kIn,?_⟩) he hpl;exact qd F hr hb hd hx I1 r q
end
structure FnScope(N P:List Str)(sc:Scope):Prop where
 kind:sc.kind= .function
 co:sc.isCoroutine=false
 gen:sc.isGenerator=false
 nd:N.Nodup
 pre:N.take P.length=P
 par:∀x∈P,sc.names.lookup x=some .local∨sc.names.lookup x=some .cell
 nofree:∀y∈sc.names,y.2≠ .free
theorem jM{kindOf:Str ->Option NameKind}{x:Str}:∀{binds:List (Str×Value)} {m:Str ->Option Value},(∀v,(x,v)∉binds) ->bindL kindOf binds m x=m x
 |[],_,_=>rfl
 |(n,v)::r,m,h=>by
  unfold bindL;rw[jM fun w hw=>h w (aF _ hw)];split
  ·have:x≠n:=by rintro rfl;exact h v aP
   simp[this]
  ·rfl
theorem jO{kindOf:Str ->Option NameKind}{x:Str}:∀{binds:List (Str×Value)} {m:Str ->Option Value},(∀v,(x,v)∉binds) ->bindC kindOf binds m x=m x
 |[],_,_=>rfl
 |(n,v)::r,m,h=>by
  unfold bindC;rw[jO fun w hw=>h w (aF _ hw)];split
  ·rfl
  ·have:x≠n:=by rintro rfl;exact h v aP
   simp[this]
theorem jN{kindOf:Str ->Option NameKind}{x:Str}{v:Value}:∀{P:List Str} {vs:List Value} {i:Nat} {m:Str ->Option Value},P.Nodup ->P[i]? =some x ->vs[i]? =some v ->kindOf x=some .local ->
  bindL kindOf (P.zip vs) m x=some v
 |[],_,_,_,_,h,_,_=>by simp at h
 |_::_,[],_,_,_,_,h,_=>by simp at h
 |p::P,w::vs,0,m,nd,h1,h2,hk=>by
  simp at h1 h2;subst h1;subst h2;show bindL kindOf ((p,w)::P.zip vs) m p=_
  unfold bindL;rw[jM fun v hv=>(aX.mp nd).1 (dm hv).1,if_pos hk];simp
 |p::P,w::vs,i+1,m,nd,h1,h2,hk=>by
  show bindL kindOf ((p,w)::P.zip vs) m x=_
  unfold bindL;exact jN (i:=i) (aX.mp nd).2 (by simpa using h1) (by simpa using h2) hk
theorem jP{kindOf:Str ->Option NameKind}{x:Str}{v:Value}:∀{P:List Str} {vs:List Value} {i:Nat} {m:Str ->Option Value},P.Nodup ->P[i]? =some x ->vs[i]? =some v ->kindOf x≠some .local ->
  bindC kindOf (P.zip vs) m x=some v
 |[],_,_,_,_,h,_,_=>by simp at h
 |_::_,[],_,_,_,_,h,_=>by simp at h
 |p::P,w::vs,0,m,nd,h1,h2,hk=>by
  simp at h1 h2;subst h1;subst h2;show bindC kindOf ((p,w)::P.zip vs) m p=_
  unfold bindC;rw[jO fun v hv=>(aX.mp nd).1 (dm hv).1,if_neg hk];simp
 |p::P,w::vs,i+1,m,nd,h1,h2,hk=>by
  show bindC kindOf ((p,w)::P.zip vs) m x=_
  unfold bindC;exact jP (i:=i) (aX.mp nd).2 (by simpa using h1) (by simpa using h2) hk
noncomputable def start(N:List Str)(vs:List V):St:=vs.map some++dF (N.length-vs.length) none
noncomputable def n8(CX:CXT)(P:Program)(w:World)(K:af)(mg:Str ->Option Value)(base:Heap)(N:List Str)(qual:Str)(scope:Scope)(f:Addr)(cd:Value)(A:Around)(outer:List Env)(s:Shared)(H:Hp)(E:XK):Cx where
 prog:=P
 w:=w
 K:=K
 mg:=mg
 base:=base
 A:=A.deeper (envOfC qual scope s.heap.objs.size f cd)
 N:=N
 s₀:=s
 H₀:=H
 env:=envOfC qual scope s.heap.objs.size f cd
 outer:=outer
 stack:=envOfC qual scope s.heap.objs.size f cd::outer
 ex:=[]
 calm:=true
 fn:=fun _=>true
 pn:=[]
 xe:=fun e s'=>wpAny (model P w) (A.deeper (envOfC qual scope s.heap.objs.size f cd)) (leaving (envOfC qual scope s.heap.objs.size f cd) e) (fun _ s''=>CX outer H s E e s'') (fun e' s''=>CX outer H s E e' s'') s'
theorem kJ{sc:Scope}{n:Nat}{x:Str}(h:sc.names.lookup x=some .cell):∃c,(cellsFrom n sc.names []).lookup x=some c:=by
 have q:=dc sc.names n [] (.inl h)
 exact bH.mp q
theorem mi{CX:CXT}{P:Program}{w:World}{K:af}{mg:Str ->Option Value}{base:Heap}{N ps:List Str}{qual:Str}{scope:Scope}{f:Addr}{cd:Value}{A:Around}{outer:List Env}{s s1:Shared}{H:Hp}{E:XK}{us:List Value}{vs:List V}
  (S:FnScope N ps scope) (hd:A.handled=none) (e0:Env0 P w K mg base A outer s H) (hl:vs.length=ps.length) (r:Vals vs us)
  (x:InCallC s s.heap.objs.size (bindL (envOfC qual scope s.heap.objs.size f cd).kindOf (ps.zip us) fun _=>none) (cellsFrom (s.heap.objs.size+1) scope.names []) (bindC (envOfC qual scope s.heap.objs.size f cd).kindOf (ps.zip us) fun _=>none) s1):
  Inv (n8 CX P w K mg base N qual scope f cd A outer s H E) [] (start N vs) H s1:=by
 have hpl:ps.length<=N.length:=by have:=congrArg List.length S.pre;rw[aZ] at this;omega
 obtain⟨h1,tk,rfl,hk⟩:=x.done
 have noA:∀b:Addr,b∉(n8 CX P w K mg base N qual scope f cd A outer s H E).ex:=fun b z=>absurd (show b∈([]:List Addr) from z) (by simp)
 refine⟨⟨e0.mod,S.kind,rfl,rfl,ak _,fun y z c h1 h2=> ?_,fun y hy=> ?_,fun y c _ h=> ?_,fun _=>hd,Around.frames_deeper e0.frames,.inr ⟨rfl,rfl⟩,fun b z=>absurd z (noA b),e0.bs,e0.bsz,fun b _ _=>noA b,fun b z=>absurd z (noA b),e0.funs,e0.frf⟩,
  rfl,e0.bare,Un.kept hk,⟨_,x.toInCall.ns,fun i y v h1 h2 h3=> ?_⟩,fun y c h=>⟨_,x.cell y c h⟩,e0.hok.fresh (ak _),fun y c h=> ?_,fun p hp=>absurd (show p∈([]:List (Addr×Obj)) from hp) (by simp),e0.hok.kept hk,?_⟩
 ·exact name_of_addr x.apart (bL h1) (bL h2)
 ·have hy:scope.names.lookup y=some .cell∨scope.names.lookup y=some .free:=hy
  rcases hy with hy|hy
  ·exact kJ hy
  ·exact absurd rfl (S.nofree _ (bL hy))
 ·exact bt (x.above y c (bL h))
 ·have hi:i<vs.length:=by
   unfold start at h2
   by_cases hi:i<vs.length
   ·exact hi
   ·rw[aI (by simpa using hi)] at h2;rw[ck] at h2;split at h2<;>cases h2
  have ha:vs[i]? =some v:=by
   unfold start at h2;rw[aL (by simpa using hi),ar] at h2;cases e:vs[i]? with
   |none=>rw[e] at h2;cases h2
   |some a=>rw[e] at h2;cases h2;rfl
  obtain⟨u,hu,rv⟩:=r.get ha
  have hp:ps[i]? =some y:=by
   rw[<-S.pre,cf (by omega)];exact h1
  have ndP:ps.Nodup:=by rw[<-S.pre];exact S.nd.sublist (List.take_sublist _ _)
  refine⟨u,rv,?_⟩;rcases S.par y (aK hp) with k|k
  ·exact .inl ⟨k,jN ndP hp hu k⟩
  ·obtain⟨c,e⟩:=kJ (n:=s.heap.objs.size+1) k
   refine .inr ⟨.inl k,c,e,?_⟩;have q:=x.cell y c e
   rw[jP ndP hp hu (by show scope.names.lookup y≠_;rw[k];decide)] at q
   exact q
 ·exact e0.hok.fresh (bt (x.above y c (bL h)))
 ·unfold start;show _=N.length
  rw[aE,ag,cz];omega
theorem qP{CX:CXT}{P:Program}{w:World}{K:af}{mg:Str ->Option Value}{base:Heap}{k:Nat}{f:Addr}{name qual:Str}{params:Arguments}{body:List Stmt}{scope:Scope}{dV kV doc pm cdv ct oc:Value}{an od:Option Addr}
  {osl:Array (Option Value)} {N ps:List Str} {sp:Sp} (lk:K.lookup f=some ⟨oc,od,.func (aB name qual params body scope dV kV doc pm an cdv ct),osl⟩) (hcd:az K cdv qual=true) (S:FnScope N ps scope)
  (len:∀vs H Q E,sp vs H Q E ->vs.length=ps.length)
  (hbody:∀(A:Around) (outer:List Env) (s:Shared) (H:Hp) (vs:List V) (Q:VK) (E:XK),Room k (A.deeper (envOfC qual scope s.heap.objs.size f cdv)) ->sp vs H Q E ->
   ∃t,PSs (n8 CX P w K mg base N qual scope f cdv A outer s H E) body t /\ t {nx:=fun _ H'=>Q .non H',rt:=Q} (start N vs) H):
  FnOk P w K mg base CX (k+1) f (aB name qual params body scope dV kV doc pm an cdv ct) ps sp:=by
 refine⟨len,fun A outer s H args us vs Q E hr e0 hb r hsp=> ?_⟩;have hl:=len _ _ _ _ hsp
 have KX:K.In s.heap:=e0.mod.kin.keeps fun b o e=>(e0.bs b o e).1
 have lim:s.heap.NoLimit:=e0.mod.nolimit.keeps fun b o e=>(e0.bs b o e).1
 have hkind:∀y∈ps.zip us,scope.names.lookup y.1=some .local∨(scope.names.lookup y.1=some .cell /\ ((cellsFrom (s.heap.objs.size+1) scope.names []).lookup y.1).isSome=true):=fun⟨n,v⟩ hy=>by
  rcases S.par n (dm hy).1 with q|q
  ·exact .inl q
  ·exact .inr ⟨q,dc _ _ _ (.inl q)⟩
 refine codeAny_call_function hr.depth (KX _ _ lk) rfl S.co S.gen rfl (PySem.W.codeRec_of KX hcd) (hb _ _ _ _ ?_);refine wpAny_newFunctionEnv_cells S.kind hkind fun env he s1 x=> ?_
 subst he;refine⟨lim.keeps x.toInCall.keep,codeAny_func ?_⟩;obtain⟨t,ht,hq⟩:=hbody A outer s H vs Q E (hr.deeper _) hsp
 have I:Inv (n8 CX P w K mg base N qual scope f cdv A outer s H E) [] (start N vs) H s1:=mi S hr.hd e0 hl r x
 refine wpAny_mono (ht [] s1 (start N vs) H _ I hq) (fun fl s' hs=> ?_) fun e s' hs=>hs
 have fin:∀{σ':St} {H':Hp} {v:V} {u:Value},Inv (n8 CX P w K mg base N qual scope f cdv A outer s H E) [] σ' H' s' ->RelV v u ->Q v H' ->CE outer P w H s Q u s':=
  fun {σ' H' v u} J rv q=>⟨v,H',J.os,J.bare,J.base,J.hok,rv,q⟩
 cases fl with
 |ret u=>
  obtain⟨v,σ',H',J,rv,q⟩:=hs
  exact fin J rv q
 |next=>
  obtain⟨σ',H',J,q⟩:=hs
  exact fin (v:=V.non) (u:=Value.none) J rfl q
 |brk=>
  obtain⟨_,_,_,q⟩:=hs
  exact False.elim q
 |cont=>
  obtain⟨_,_,_,q⟩:=hs
  exact False.elim q
end L2
namespace L2
open PySem PySem.Spec PyProof.Rows
section
variable {X:Cx} {x:Str} {p pos:Pos} {e:Expr} {es:List Expr} {t:TA} {id T:String} {r:List V ->Hp ->VK ->Prop}
noncomputable def tCB(r:List V ->Hp ->VK ->Prop)(t:TA):TE:=fun σ H Q=>t σ H fun vs H1=>r vs H1 Q
theorem fK(hc:gz X (.builtin id) r)(hg:Gl X x)(hm:X.mg x=none)(hv:bootBuiltins x=some (.builtin id))(ha:PA X (e::es) t)(hn:x≠"__name__":=by decide)(hdb:(x==("__debug__":Str))=false:=by decide)
  (he:starEach (e::es) X.env=(false,eval e X.env)::starEach es X.env:=by rfl) (hpl:(backTo pos (starEach es X.env)).any (·.1)=false:=by rfl):PE X (.Call (.Name x p) (e::es) [] pos) (tCB r t):=by
 intro pins s σ H Q I h;refine wpAny_Call_Name_kw (iO I hg hm hv ?_ hn hdb);exact PyProof.Rows.callWith_builtin1 (thn (ha pos pins s σ H _ I h) fun us s1 ⟨vs,H1,I1,r1,q1⟩=>hc pins s1 σ H1 vs us Q I1 r1 q1) he hpl
theorem gJ(hc:gz X (.type T) r)(hg:Gl X x)(hm:X.mg x=none)(hv:bootBuiltins x=some (.type T))(ha:PA X (e::es) t)(hn:x≠"__name__":=by decide)(hdb:(x==("__debug__":Str))=false:=by decide)
  (he:starEach (e::es) X.env=(false,eval e X.env)::starEach es X.env:=by rfl) (hpl:(backTo pos (starEach es X.env)).any (·.1)=false:=by rfl):PE X (.Call (.Name x p) (e::es) [] pos) (tCB r t):=by
 intro pins s σ H Q I h;refine wpAny_Call_Name_kw (iO I hg hm hv ?_ hn hdb);exact bv (thn (ha pos pins s σ H _ I h) fun us s1 ⟨vs,H1,I1,r1,q1⟩=>hc pins s1 σ H1 vs us Q I1 r1 q1) he hpl
end
end L2
namespace HT
open PySem PyProof.Rows
noncomputable def lexLt:List Int ->List Int ->Bool
 |[],[]=>false
 |[],_::_=>true
 |_::_,[]=>false
 |x::xs,y::ys=>if x=y then lexLt xs ys else decide (x<y)
theorem lexLt_cons(x y:Int)(xs ys:List Int):lexLt (x::xs) (y::ys)=if x=y then lexLt xs ys else decide (x<y):=rfl
theorem lexLt_nil_nil:lexLt [] []=false:=rfl
section
variable {prog:Program} {w:World} {A:Around} {E:Value ->Shared ->Prop} {s:Shared}
noncomputable def sIx(n d:Nat):Option Int ->Nat
 |none=>d
 |some v=>if v<0 then(v+(n:Int)).toNat else min v.toNat n
theorem sIx_none(n d:Nat):sIx n d none=d:=rfl
theorem sIx_nat(n d k:Nat):sIx n d (some (k:Int))=min k n:=by
 show(if(k:Int)<0 then((k:Int)+(n:Int)).toNat else min (k:Int).toNat n)=min k n
 rw[if_neg (by omega),cS]
end
end HT
namespace L2
open PySem PySem.Spec PyProof.Rows
noncomputable abbrev TO:=St ->Hp ->(Option Int ->Hp ->Prop) ->Prop
noncomputable def PO(X:Cx)(e:Option Expr)(t:TO):Prop:=
 ∀(pins:List (Addr×Obj)) (s:Shared) (σ:St) (H:Hp) (Q:Option Int ->Hp ->Prop),Inv X pins σ H s ->t σ H Q ->
  wpAny (model X.prog X.w) X.A (evalPart e X.env) (fun u s'=>∃o H',Inv X pins σ H' s' /\ IsPart u o /\ Q o H') X.xe s
noncomputable def iu:TO:=fun _ H Q=>Q none H
noncomputable def lB(t:TE):TO:=fun σ H Q=>t σ H fun x H1=>∃i,x= .int i /\ Q (some i) H1
theorem intsAre_of{ns:List Int}:∀{us:List Value},Vals (ns.map V.int) us ->IntsAre us ns:=by
 induction ns with
 |nil=>intro us r;rw[bT] at r;cases r;exact .nil
 |cons n ns ih=>
  intro us r;rw[aO] at r;cases r with
  |cons r1 r2=>
   obtain⟨t,e⟩:=r1
   subst e;exact .cons n t (ih r2)
section
variable {X:Cx} {e:Expr} {te:TE} {lo hi:Option Expr} {tl th:TO} {pos p2:Pos}
theorem oE:PO X none iu:=by
 intro pins s σ H Q I h;rw[evalPart_none];exact wpAny_pure ⟨none,H,I,.none,h⟩
theorem oD(h:PE X e te):PO X (some e) (lB te):=by
 intro pins s σ H Q I hw;rw[evalPart_some];refine thn (h pins s σ H _ I hw) fun u s1 ⟨x,H1,I1,r1,q1⟩=> ?_
 obtain⟨i,rfl,q⟩:=q1
 obtain⟨t,rfl⟩:=r1
 exact⟨some i,H1,I1,.int i t,q⟩
noncomputable def SlR(X:Cx)(r:V ->Option Int ->Option Int ->Hp ->VK ->Prop):Prop:=
 ∀(pins:List (Addr×Obj)) (s:Shared) (σ:St) (H:Hp) (x:V) (v vl vu:Value) (lo hi:Option Int) (sl:Addr) (Q:VK),Inv X pins σ H s ->RelV x v ->s.heap.IsSliceOf sl vl vu .none ->IsPart vl lo ->IsPart vu hi ->r x lo hi H Q ->
  ∃T id,typeLookup (.type T) "__getitem__"=pure (some (.builtin id)) /\ s.TypeIs v T /\ wpAny (model X.prog X.w) X.A (getItem v (.ref sl)) (EP X pins σ Q) X.xe s
noncomputable def tSl(r:V ->Option Int ->Option Int ->Hp ->VK ->Prop)(te:TE)(tl th:TO):TE:=fun σ H Q=>te σ H fun x H1=>tl σ H1 fun l H2=>th σ H2 fun u H3=>r x l u H3 Q
theorem m4{r:V ->Option Int ->Option Int ->Hp ->VK ->Prop}(hr:SlR X r)(he:PE X e te)(hl:PO X lo tl)(hu:PO X hi th):PE X (.Subscript e (.Slice lo hi none p2) pos) (tSl r te tl th):=by
 intro pins s σ H Q I h;refine Subscript_ (thn (he pins s σ H _ I h) fun v s1 ⟨x,H1,I1,r1,q1⟩=> ?_);refine wpAny_Slice (thn (hl pins s1 σ H1 _ I1 q1) fun vl s2 ⟨l,H2,I2,pl,q2⟩=>thn (hu pins s2 σ H2 _ I2 q2) fun vu s3 ⟨u,H3,I3,pu,q3⟩=> ?_);rw[evalPart_none];refine wpAny_pure ?_;have I4:Inv X pins σ H3 {s3 with heap:=s3.heap.push {cls:= .type "slice",data:= .fields #[vl,vu,.none]}}:=I3.kept (t':=s3.toks) fun b ob q=>Heap.get?_push_of_some _ q
 obtain⟨T,id,hT,ht,hg⟩:=hr pins {s3 with heap:=s3.heap.push {cls:= .type "slice",data:= .fields #[vl,vu,.none]}} σ H3 x v vl vu l u s3.heap.objs.size Q I4 r1 (Heap.IsSliceOf.new ..) pl pu q3
 show wpAny (model X.prog X.w) X.A (subscriptTail e (.Slice lo hi none p2) v (.ref s3.heap.objs.size)) (EP X pins σ Q) X.xe {s3 with heap:=s3.heap.push {cls:= .type "slice",data:= .fields #[vl,vu,.none]}}
 exact tail_any (ops:=[.ref s3.heap.objs.size,v]) ht hT hg (by with_unfolding_all rfl)
noncomputable def pq(xs:List V)(lo hi:Option Int):List V:=(xs.drop (HT.sIx xs.length 0 lo)).take (HT.sIx xs.length xs.length hi-HT.sIx xs.length 0 lo)
theorem j7(xs:List V)(lo hi:Option Int):(pq xs lo hi).length<=xs.length:=by
 unfold pq;rw[aZ,cW];omega
end
end L2
namespace L2
open PySem PySem.Spec PyProof.Rows
noncomputable def ixN(n:Nat)(i:Int):Option Nat:=if 0<=i then(if i<n then some i.toNat else none) else if -(n:Int)<=i then some (i+n).toNat else none
noncomputable def atI{α:Type}(xs:List α)(i:Int):Option α:=(ixN xs.length i).bind fun j=>xs[j]?
theorem me{n:Nat}{i:Int}{j:Nat}(h:ixN n i=some j):seqIndex? i n=some j /\ j<n /\ -(n:Int)<=i /\ i<n:=by
 unfold ixN at h
 by_cases h0:0<=i
 ·rw[if_pos h0] at h
  by_cases h1:i<n
  ·rw[if_pos h1] at h;have e:i.toNat=j:=aH.inj h
   exact⟨by rw[seqIndex_of h0 h1,e],by omega,by omega,h1⟩
  ·rw[if_neg h1] at h;cases h
 ·rw[if_neg h0] at h
  by_cases h1: -(n:Int)<=i
  ·rw[if_pos h1] at h;have e:(i+n).toNat=j:=aH.inj h
   exact⟨by rw[seqIndex_neg (by omega) h1,e],by omega,h1,by omega⟩
  ·rw[if_neg h1] at h;cases h
theorem mG{α:Type}{xs:List α}{i:Int}{v:α}(h:atI xs i=some v):∃j,seqIndex? i xs.length=some j /\ xs[j]? =some v /\ j<xs.length /\ -(xs.length:Int)<=i /\ i<xs.length:=by
 unfold atI at h;cases e:ixN xs.length i with
 |none=>rw[e] at h;cases h
 |some j=>
  rw[e] at h;obtain⟨h1,h2,h3,h4⟩:=me e
  exact⟨j,h1,h,h2,h3,h4⟩
theorem gw{α:Type}{xs:List α}{j:Nat}{v:α}(h:xs[j]? =some v):atI xs (j:Int)=some v:=by
 have hj:j<xs.length:=(ah.mp h).1
 have e:ixN xs.length (j:Int)=some j:=by
  unfold ixN;rw[if_pos (by omega),if_pos (by omega)];simp
 unfold atI;rw[e];exact h
noncomputable def pC(b:Expr):Prop:=∀o i,subscripted b false o i=operate [o,i] (getItem o i)
noncomputable def IxR(X:Cx)(r:R2):Prop:=
 ∀(value slice:Expr) (pins:List (Addr×Obj)) (s:Shared) (σ:St) (H:Hp) (x y:V) (v u:Value) (Q:VK),Inv X pins σ H s ->RelV x v ->RelV y u ->r x y H Q ->
  subscripted slice false v u=operate [v,u] (getItem v u) ->wpAny (model X.prog X.w) X.A (subscriptTail value slice v u) (EP X pins σ Q) X.xe s
noncomputable def MtR(X:Cx)(id:String)(r:V ->List V ->Hp ->VK ->Prop):Prop:=
 ∀(pins:List (Addr×Obj)) (s:Shared) (σ:St) (H:Hp) (x:V) (xs:List V) (v:Value) (us:List Value) (Q:VK),Inv X pins σ H s ->RelV x v ->Vals xs us ->r x xs H Q ->
  wpAny (model X.prog X.w) X.A (call (.builtin id) (v::us)) (EP X pins σ Q) X.xe s
section
variable {X:Cx} {a b:Expr} {ta tb:TE} {pos:Pos}
theorem gI{r:R2}(hr:IxR X r)(ha:PE X a ta)(hb:PE X b tb)(hs:pC b):PE X (.Subscript a b pos) (tOp r ta tb):=by
 intro pins s σ H Q I h;exact Subscript_ (rL ha hb I h fun v u s2 x y H2 I2 rx ry q=>hr a b pins s2 σ H2 x y v u Q I2 rx ry q (hs _ _))
noncomputable def rQ(K:af):R2:=fun x y H Q=>∃p xs i v,x= .ref p /\ y= .int i /\ SqL K H p xs /\ atI xs i=some v /\ Q v H
noncomputable def sA(K:af):R2:=fun x y H Q=>∃p xs i v,x= .ref p /\ y= .int i /\ SqT K H p xs /\ atI xs i=some v /\ Q v H
theorem md:IxR X (rQ X.K):=by
 intro value slice pins s σ H x y v u Q I rx ry h hs;obtain⟨p,xs,i,z,rfl,rfl,hq,he,q⟩:=h
 cases rx;obtain⟨t,rfl⟩:=ry
 obtain⟨its,r,pl,hz⟩:=I.list hq
 obtain⟨j,h1,h2,h3,h4,h5⟩:=mG he
 obtain⟨w,ew,rw'⟩:=r.get h2
 have hl:=r.length
 have hn:=ku
 have fin:EP X pins σ Q w s:=⟨z,H,I,rw',q⟩
 by_cases h0:0<=i
 ·have hj:i.toNat=j:=by
   rw[seqIndex_of h0 h5] at h1;exact aH.inj h1
  exact item_listR pl.isList h0 (by omega) (by rw[hj];simpa using ew) fin hs
 ·have hj:(i+(its.toArray.size:Int)).toNat=j:=by
   rw[seqIndex_neg (by omega) h4] at h1;rw[ao, <-hl];exact aH.inj h1
  exact subscriptTail_builtinR (x:=w) pl.isList.typeIs slot_list_getitem.lookup
   (wpAny_getItem_list_neg (Q:=fun r s'=>r=w /\ EP X pins σ Q r s') pl.isList (by omega) (by rw[ao]<;>omega) (by omega) (by rw[hj];simpa using ew) ⟨rfl,fin⟩) hs
theorem qH:IxR X (sA X.K):=by
 intro value slice pins s σ H x y v u Q I rx ry h hs;obtain⟨p,xs,i,z,rfl,rfl,hq,he,q⟩:=h
 cases rx;obtain⟨t,rfl⟩:=ry
 obtain⟨its,r,pl,hz⟩:=I.tuple hq
 obtain⟨j,h1,h2,h3,h4,h5⟩:=mG he
 obtain⟨w,ew,rw'⟩:=r.get h2
 have hl:=r.length
 have hn:=ku
 have fin:EP X pins σ Q w s:=⟨z,H,I,rw',q⟩
 exact subscriptTail_builtinR (x:=w) pl.typeIs slot_tuple_getitem.lookup
  (getItem_tuple (j:=j) (Q:=fun r s'=>r=w /\ EP X pins σ Q r s') pl (by omega) (by omega) (by rw[ao, <-hl];exact h1) (by simpa using ew) ⟨rfl,fin⟩) hs
theorem kS(its:List Value)(n j:Nat)(u:Value):Obj.mapSeq (·.setIfInBounds j u) {cls:= .type "list",data:= .seq its.toArray n}={cls:= .type "list",data:= .seq (its.set j u).toArray n}:=by
 simp[Obj.mapSeq]
theorem Inv.lst{pins:List (Addr×Obj)}{σ:St}{H:Hp}{s:Shared}{p:Addr}{xs:List V}(I:Inv X pins σ H s)(h:H p=some (.lst xs)):
  ∃(its:List Value) (n:Nat),Vals xs its /\ s.heap.get? p=some {cls:= .type "list",data:= .seq its.toArray n} /\ xs.length<=sizeLine:=by
 obtain⟨z,its,n,r,e⟩:=I.hok p _ h
 exact⟨its,n,r,e,z⟩
theorem Inv.lstUpd{pins:List (Addr×Obj)}{σ:St}{H:Hp}{s:Shared}{p:Addr}{xs ys:List V}{its its':List Value}{n n':Nat}{f:Obj ->Obj}(I:Inv X pins σ H s)(h:H p=some (.lst xs))
  (ho:s.heap.get? p=some {cls:= .type "list",data:= .seq its.toArray n}) (hf:f {cls:= .type "list",data:= .seq its.toArray n}={cls:= .type "list",data:= .seq its'.toArray n'}) (r:Vals ys its') (hz:ys.length<=sizeLine) (t:Nat):
  Inv X pins σ (upd H p (.lst ys)) {s with heap:=s.heap.update p f,toks:=t}:=by
 have e:(s.heap.update p f).get? p=some {cls:= .type "list",data:= .seq its'.toArray n'}:=by
  rw[Heap.get?_update_self f ho (by rw[hf]<;>rfl),hf]
 refine I.write (x:=p) (e:=p) (by rw[h];trivial) (.inl rfl) (fun b u hb q=>(Heap.get?_update_other _ _ (Ne.symm hb)).trans q) ⟨_,e⟩ ?_;exact⟨hz,its',n',r,e⟩
noncomputable def rA:V ->V ->V ->Hp ->(Hp ->Prop) ->Prop:=fun o i v H Q=>∃p xs k j,o= .ref p /\ i= .int k /\ H p=some (.lst xs) /\ ixN xs.length k=some j /\ Q (upd H p (.lst (xs.set j v)))
theorem set_list:rN X rA:=by
 intro pins s σ H o i v ov iv u Q I ro ri rv h;obtain⟨p,xs,k,j,rfl,rfl,hp,hj,q⟩:=h
 cases ro;obtain⟨t,rfl⟩:=ri
 obtain⟨its,n,r,ho,hz⟩:=I.lst hp
 obtain⟨h1,h2,h3,h4⟩:=me hj
 have hl:=r.length
 have hn:=ku
 have I':Inv X pins σ (upd H p (.lst (xs.set j v))) {s with heap:=s.heap.update p (Obj.mapSeq (·.setIfInBounds j u))}:=
  I.lstUpd hp ho (kS its n j u) (r.set rv j) (by rw[List.length_set];exact hz) s.toks
 by_cases h0:0<=k
 ·have hk:k.toNat=j:=by
   rw[seqIndex_of h0 h4] at h1;exact aH.inj h1
  exact PySem.W.ki_setAt ho h0 (by omega) (by rw[ao, <-hl];exact h4) (by rw[hk];exact⟨_,I',q⟩)
 ·have hk:(k+(its.toArray.size:Int)).toNat=j:=by
   rw[seqIndex_neg (by omega) h3] at h1;rw[ao, <-hl];exact aH.inj h1
  exact PySem.W.ki_setBack ho (by omega) (by rw[ao, <-hl];exact h3) (by omega) (by rw[hk];exact⟨_,I',q⟩)
theorem jr(lo hi:Option Int)(n:Nat):(sliceBounds lo hi none n).1=((HT.sIx n 0 lo:Nat):Int) /\ (sliceBounds lo hi none n).2.1=((HT.sIx n n hi:Nat):Int) /\ (sliceBounds lo hi none n).2.2=1:=by
 refine⟨?_,?_,rfl⟩
 ·cases lo with
  |none=>simp[sliceBounds,HT.sIx]
  |some i=>
   simp only[sliceBounds,HT.sIx,eh,show(1:Int)>0 by decide,if_true]
   by_cases h:i<0
   ·simp only[h,if_true]<;>omega
   ·simp only[h,if_false]<;>omega
 ·cases hi with
  |none=>simp[sliceBounds,HT.sIx]
  |some i=>
   simp only[sliceBounds,HT.sIx,eh,show(1:Int)>0 by decide,if_true]
   by_cases h:i<0
   ·simp only[h,if_true]<;>omega
   ·simp only[h,if_false]<;>omega
theorem iZ(its:List Value)(lo hi:Option Int):slicePick its.toArray lo hi none=((its.drop (HT.sIx its.length 0 lo)).take (HT.sIx its.length its.length hi-HT.sIx its.length 0 lo)).toArray:=by
 obtain⟨h1,h2,h3⟩:=jr lo hi its.toArray.size
 unfold slicePick;rw[h1,h2,h3];simp only[sliceRange_one,pick_run,ao]<;>rfl
noncomputable def sx(K:af):V ->Option Int ->Option Int ->Hp ->VK ->Prop:=fun x lo hi H Q=>∃a xs,x= .ref a /\ SqL K H a xs /\ ∀p,H p=none ->Q (.ref p) (upd H p (.lst (pq xs lo hi)))
theorem oo:SlR X (sx X.K):=by
 intro pins s σ H x v vl vu lo hi sl Q I rx hs pl pu h;obtain⟨a,xs,rfl,hx,q⟩:=h
 cases rx;obtain⟨its,r,ht,hz⟩:=I.list hx
 have hlen:=r.length
 refine⟨"list",_,slot_list_getitem.lookup,ht.isList.typeIs,?_⟩;refine wpAny_getItem_list_slice ht.isList hs pl pu .none (by simp) ?_ (by rw[ao]<;>omega)
 rw[iZ, <-hlen];refine⟨.ref s.heap.objs.size,_,I.laid (t':=s.toks) (o:= .lst (pq xs lo hi)) (fun b ob q=>Heap.get?_push_of_some _ q) (ak _) ?_,rfl,q _ (I.hok.fresh (ak _))⟩;exact⟨bj (j7 xs lo hi) hz,_,0,(r.drop (HT.sIx xs.length 0 lo)).take (HT.sIx xs.length xs.length hi-HT.sIx xs.length 0 lo),Heap.get?_push_size _ rfl⟩
theorem ig:gz X (.builtin "len") (fun xs H Q=>∃p ys,xs=[.ref p] /\ (SqL X.K H p ys∨SqT X.K H p ys) /\ Q (.int ys.length) H):=by
 intro pins s σ H xs us Q I r h;obtain⟨p,ys,rfl,hq,q⟩:=h
 obtain⟨u,rfl,rx⟩:=vals1 r
 cases rx;have hn:=ku
 rcases hq with hq|hq
 ·obtain⟨its,r',pl,hz⟩:=I.list hq
  have hlen:=r'.length
  exact Calls.call_len_list pl.isList (by simp only[ao]<;>omega) ⟨.int ys.length,H,I.tok _,⟨s.toks+1,by rw[ao,hlen]⟩,q⟩
 ·obtain⟨its,r',pl,hz⟩:=I.tuple hq
  have hlen:=r'.length
  exact len_tuple pl (by simp only[ao]<;>omega) ⟨.int ys.length,H,I.tok _,⟨s.toks+1,by rw[ao,hlen]⟩,q⟩
theorem jJ:gz X (.type "list") (fun xs H Q=>∃p ys,xs=[.ref p] /\ (SqL X.K H p ys∨SqT X.K H p ys) /\ ∀l,H l=none ->Q (.ref l) (upd H l (.lst ys))):=by
 intro pins s σ H xs us Q I r h;obtain⟨p,ys,rfl,hq,q⟩:=h
 obtain⟨u,rfl,rx⟩:=vals1 r
 cases rx;have fin:∀(its:List Value),Vals ys its ->ys.length<=sizeLine -> ∀(h':Heap) (c':Nat),(∀b o',s.heap.get? b=some o' ->h'.get? b=some o') ->
   h'.get? s.heap.objs.size=some {cls:= .type "list",dict:=none,data:= .seq its.toArray c',slots:= #[]} ->EP X pins σ Q (.ref s.heap.objs.size) {s with heap:=h'}:=fun its r' hz h' c' kp e=>
  ⟨.ref s.heap.objs.size,_,I.laid (t':=s.toks) kp (ak _) (show ObjOk X.prog X.w _ h' _ (.lst ys) from⟨hz,its,c',r',e⟩),rfl,q _ (I.hok.fresh (ak _))⟩
 rcases hq with hq|hq
 ·obtain⟨its,r',pl,hz⟩:=I.list hq
  have hlen:=r'.length
  obtain⟨o,ho,hc,n,hd⟩:=pl.isList
  exact call_list_seq p (.inl rfl) ho hc hd (fun h' c' kp e=>fin its r' hz h' c' kp e) (by simp only[ao]<;>omega)
 ·obtain⟨its,r',pl,hz⟩:=I.tuple hq
  have hlen:=r'.length
  obtain⟨o,ho,hc,n,hd⟩:=pl
  exact call_list_seq p (.inr rfl) ho hc hd (fun h' c' kp e=>fin its r' hz h' c' kp e) (by simp only[ao]<;>omega)
theorem jn:gz X (.type "tuple") (fun xs H Q=>∃p ys,xs=[.ref p] /\ ((SqL X.K H p ys /\ ∀l,H l=none ->Q (.ref l) (upd H l (.tup ys)))∨(SqT X.K H p ys /\ Q (.ref p) H))):=by
 intro pins s σ H xs us Q I r h;obtain⟨p,ys,rfl,h⟩:=h
 obtain⟨u,rfl,rx⟩:=vals1 r
 cases rx;rcases h with⟨hq,q⟩|⟨hq,q⟩
 ·obtain⟨its,r',pl,hz⟩:=I.list hq
  have hlen:=r'.length
  refine call_tuple_list pl.isList (fun h' kp=> ?_) (by simp only[ao]<;>omega)
  have I1:Inv X pins σ H {s with heap:=h'}:=I.kept (t':=s.toks) kp
  have I2:Inv X pins σ (upd H h'.objs.size (.tup ys)) {s with heap:=h'.push {cls:= .type "tuple",data:= .seq its.toArray}}:=
   I1.laid (t':=s.toks) (fun b o e=>Heap.get?_push_of_some _ e) (ak _) (show ObjOk X.prog X.w _ _ _ (.tup ys) from⟨hz,its,r',IsTup.new _ _⟩)
  exact⟨.ref h'.objs.size,_,I2,rfl,q _ (I1.hok.fresh (ak _))⟩
 ·obtain⟨its,r',pl,hz⟩:=I.tuple hq
  exact call_tuple_same pl ⟨.ref p,H,I,rfl,q⟩
noncomputable def tyV(K:af)(T:String)(x:V)(H:Hp):Prop:=match x with
 | .str _=>T="str"
 | .int _=>T="int"
 | .ref p=>(T="list" /\ ∃xs,SqL K H p xs)∨(T="tuple" /\ ∃o,K.lookup p=some o /\ o.cls= .type "tuple" /\ o.dict=none)∨
   (T="dict" /\ ((∃kvs,H p=some (.dK kvs))∨∃kvs,H p=some (.dT kvs)))∨(T="set" /\ ∃S n,H p=some (.set S n))
 |_=>False
theorem nR{pins:List (Addr×Obj)}{σ:St}{H:Hp}{s:Shared}{T:String}{x:V}{v:Value}(I:Inv X pins σ H s)(r:RelV x v)(ty:tyV X.K T x H):
  s.TypeIs v T /\ ∀a,v= .ref a -> ∃ob,s.heap.get? a=some ob /\ ob.dict=none:=by
 cases x with
 |str z=>
  obtain⟨t,rfl⟩:=r
  cases(show T="str" from ty);exact⟨typeIs_str s z t,fun _ e=>nomatch e⟩
 |int i=>
  obtain⟨t,rfl⟩:=r
  cases(show T="int" from ty);exact⟨typeIs_int s i t,fun _ e=>nomatch e⟩
 |ref p=>
  cases r;rcases ty with⟨rfl,xs,hq⟩|⟨rfl,o,hk,hc,hd⟩|⟨rfl,hk⟩|⟨rfl,S,n,hk⟩
  ·obtain⟨its,_,pl,_⟩:=I.list hq
   refine⟨pl.isList.typeIs,fun a e=> ?_⟩;cases e;obtain⟨o,n,e,c,hd,_⟩:=pl
   exact⟨o,e,hd⟩
  ·refine⟨⟨o,I.kIn p o hk,hc⟩,fun a e=> ?_⟩;cases e;exact⟨o,I.kIn _ o hk,hd⟩
  ·have z:∃o,s.heap.get? p=some o /\ o.ExactDict:=by
    rcases hk with⟨kvs,hk⟩|⟨kvs,hk⟩
    ·obtain⟨_,_,_,_,o,_,_,e,ex,_⟩:=I.hok p _ hk
     exact⟨o,e,ex⟩
    ·obtain⟨_,_,_,_,o,_,_,e,ex,_⟩:=I.hok p _ hk
     exact⟨o,e,ex⟩
   obtain⟨o,e,ex⟩:=z
   refine⟨⟨o,e,ex.1⟩,fun a e2=> ?_⟩;cases e2;exact⟨o,e,ex.2.1⟩
  ·obtain⟨o,_,_,_,e,ex,_⟩:=I.hok p _ hk
   refine⟨⟨o,e,ex.1⟩,fun a e2=> ?_⟩;cases e2;exact⟨o,e,ex.2.1⟩
 |_=>exact False.elim ty
noncomputable def su(K:af)(T:String)(r:V ->List V ->Hp ->VK ->Prop)(to:TE):TE:=fun σ H Q=>to σ H fun x H1=>tyV K T x H1 /\ r x [] H1 Q
noncomputable def tBM(K:af)(T:String)(r:V ->List V ->Hp ->VK ->Prop)(to:TE)(t:TA):TE:=fun σ H Q=>to σ H fun x H1=>tyV K T x H1 /\ t σ H1 fun xs H2=>r x xs H2 Q
variable {o e:Expr} {es:List Expr} {to:TE} {t:TA} {name:Str} {apos cpos:Pos} {T id:String} {r:V ->List V ->Hp ->VK ->Prop}
theorem qp(pa:PlainAttrs T)(slot:Slot T name id)(hty:typeOf (.builtin id)=pure (.type "method_descriptor"))(hm:MtR X id r)(ho:PE X o to)
  (hbase:attributeBase o name X.env (eval o X.env)=eval o X.env:=by rfl) (hline:(apos.endLine==cpos.line)=true:=by rfl):PE X (.Call (.Attribute o name apos) [] [] cpos) (su X.K T r to):=by
 intro pins s σ H Q I h;refine wpAny_Call_method0_late hbase hline (thn (ho pins s σ H _ I h) fun v s1 ⟨x,H1,I1,r1,ty,q1⟩=> ?_);obtain⟨h1,h2⟩:=nR I1 r1 ty
 exact⟨T,id,pa,slot,hty,h1,h2,Calls.callWith_builtin rfl (PySem.evalArgs_none (hm pins s1 σ H1 x [] v [] Q I1 r1 .nil q1))⟩
theorem qq(pa:PlainAttrs T)(slot:Slot T name id)(hty:typeOf (.builtin id)=pure (.type "method_descriptor"))(hm:MtR X id r)(ho:PE X o to)(ha:PA X (e::es) t)
  (hbase:attributeBase o name X.env (eval o X.env)=eval o X.env:=by rfl)
  (hfew:((backTo cpos (starEach (e::es) X.env)).all (fun x=> !x.1)&&(backToKw cpos (keywordEach [] X.env)).all (fun x=>x.1.isSome)
   &&decide ((e::es).length+([]:List Keyword).length+(if([]:List Keyword).isEmpty then 0 else 1)<30))=true:=by rfl)
  (hline:(apos.endLine==cpos.line)=true:=by rfl) (hs:starEach (e::es) X.env=(false,eval e X.env)::starEach es X.env:=by rfl) (hplain:(backTo cpos (starEach es X.env)).any (·.1)=false:=by rfl):
  PE X (.Call (.Attribute o name apos) (e::es) [] cpos) (tBM X.K T r to t):=by
 intro pins s σ H Q I h;refine wpAny_Call_method_late hbase hfew hline rfl (thn (ho pins s σ H _ I h) fun v s1 ⟨x,H1,I1,r1,ty,q1⟩=> ?_);obtain⟨h1,h2⟩:=nR I1 r1 ty
 refine⟨T,id,pa,slot,hty,h1,h2,?_⟩;have hA:=ha cpos pins s1 σ H1 _ I1 q1
 rw[hs] at hA⊢;refine Calls.callWith_builtin (by show(false||(backTo cpos (starEach es X.env)).any (·.1))=false;rw[hplain]<;>rfl) (Calls.evalArgs_plain ?_)
 exact thn hA fun us s2 ⟨vs,H2,I2,r2,q2⟩=>hm pins s2 σ H2 x vs v us Q I2 r1 r2 q2
end
end L2
namespace L2
open PySem PySem.Spec PyProof.Rows
noncomputable def MtM(X:Cx)(id:String)(r:V ->List V ->Hp ->VK ->Prop):Prop:=
 ∀(pins:List (Addr×Obj)) (s:Shared) (σ:St) (H:Hp) (x:V) (xs:List V) (v:Value) (us:List Value) (Q:VK),Inv X pins σ H s ->RelV x v ->Vals xs us ->r x xs H Q ->
  wpAny (model X.prog X.w) X.A (call (.builtin id) (v::us)) (EP X pins σ Q) X.xe s
theorem Vals.one:∀{x:V} {us:List Value},Vals [x] us -> ∃u,us=[u] /\ RelV x u
 |_,_,.cons r .nil=>⟨_,rfl,r⟩
theorem Vals.two:∀{x y:V} {us:List Value},Vals [x,y] us -> ∃u v,us=[u,v] /\ RelV x u /\ RelV y v
 |_,_,_,.cons r (.cons q .nil)=>⟨_,_,rfl,r,q⟩
theorem Vals.zero:∀{us:List Value},Vals [] us ->us=[]
 |_,.nil=>rfl
theorem Vals.dropLast{xs:List V}{us:List Value}(h:Vals xs us):Vals xs.dropLast us.dropLast:=by
 induction h with
 |nil=>exact .nil
 |cons r t ih=>
  cases t with
  |nil=>exact .nil
  |cons q t'=>exact .cons r ih
theorem Vals.eraseIdx:∀{xs:List V} {us:List Value} (i:Nat),Vals xs us ->Vals (xs.eraseIdx i) (us.eraseIdx i)
 |_,_,_,.nil=> .nil
 |_,_,0,.cons _ t=>t
 |_,_,i+1,.cons r t=> .cons r (Vals.eraseIdx i t)
theorem Vals.reverse{xs:List V}{us:List Value}(h:Vals xs us):Vals xs.reverse us.reverse:=by
 induction h with
 |nil=>exact .nil
 |cons r t ih=>rw[d5,d5];exact Vals.append ih (.cons r .nil)
theorem lg{α:Type}(l:List α):l.eraseIdx (l.length-1)=l.dropLast:=by
 induction l with
 |nil=>rfl
 |cons a r ih=>
  cases r with
  |nil=>rfl
  |cons b r=>
   have e:(a::b::r).length-1=((b::r).length-1)+1:=by
    have h1:(a::b::r).length=r.length+2:=rfl
    have h2:(b::r).length=r.length+1:=rfl
    omega
   rw[e,List.eraseIdx_cons_succ,ih]
   all_goals rfl
section
variable {X:Cx} {pins:List (Addr×Obj)} {σ:St} {H:Hp} {s:Shared} {l b:Addr} {xs ys zs:List V}
theorem Inv.lset{its its':List Value}{n:Nat}{f:Array Value ->Array Value}{t':Nat}(I:Inv X pins σ H s)(hH:H l=some (.lst xs))
  (e:s.heap.get? l=some {cls:= .type "list",data:= .seq its.toArray n}) (hf:f its.toArray=its'.toArray) (hv:Vals ys its') (hz:ys.length<=sizeLine):
  Inv X pins σ (upd H l (.lst ys)) {s with heap:=s.heap.update l (Obj.mapSeq f),toks:=t'}:=by
 have q:=PySem.IsL.update e f
 rw[hf] at q;refine I.write (x:=l) (e:=l) (by rw[hH];exact trivial) (.inl rfl) (fun b' u hb hu=>(Heap.get?_update_other s.heap (Obj.mapSeq f) (Ne.symm hb)).trans hu) ⟨_,q⟩ ?_;exact⟨hz,its',_,hv,q⟩
theorem Inv.lnew{its:List Value}{t':Nat}(I:Inv X pins σ H s)(hv:Vals ys its)(hz:ys.length<=sizeLine):
  Inv X pins σ (upd H s.heap.objs.size (.lst ys)) {s with heap:=s.heap.push {cls:= .type "list",data:= .seq its.toArray},toks:=t'}:=
 I.laid (fun _ _ q=>Heap.get?_push_of_some _ q) (ak _) ⟨hz,its,0,hv,Heap.get?_push_size _ rfl⟩
theorem Inv.fresh(I:Inv X pins σ H s):H s.heap.objs.size=none:=I.hok.fresh (ak _)
theorem Inv.lstM(I:Inv X pins σ H s)(hH:H l=some (.lst xs)):xs.length<=sizeLine /\ ∃(its:List Value) (n:Nat),Vals xs its /\ xs.length=its.length /\ s.heap.get? l=some {cls:= .type "list",data:= .seq its.toArray n}:=by
 obtain⟨z,its,n,r,e⟩:=I.hok l _ hH
 exact⟨z,its,n,r,r.length,e⟩
end
section
variable {X:Cx}
noncomputable def oB:V ->List V ->Hp ->VK ->Prop:=fun x vs H Q=>∃l xs y,x= .ref l /\ vs=[y] /\ H l=some (.lst xs) /\ xs.length<sizeLine /\ Q .non (upd H l (.lst (xs++[y])))
theorem jC:MtM X "list.append" oB:=by
 intro pins s σ H x vs v us Q I rx rv h;obtain⟨l,xs,y,rfl,rfl,hH,hz,q⟩:=h
 cases rx;obtain⟨u,rfl,ru⟩:=rv.one
 obtain⟨z,its,n,r,hl,e⟩:=I.lstM hH
 refine call_meets F.slot_list_append ⟨_,e,rfl⟩ F.entry_list_append (F.args_list_append_2 _ _) (PySem.list_append l its.toArray n u (by rw[ao];omega)) ⟨e,?_⟩;refine⟨.non,_,I.lset (its':=its++[u]) hH e (by simp) (r.append (.cons ru .nil)) ?_,rfl,q⟩;rw[aE,dn];omega
noncomputable def sy:V ->List V ->Hp ->VK ->Prop:=fun x vs H Q=>∃l xs y,x= .ref l /\ vs=[] /\ H l=some (.lst xs) /\ xs[xs.length-1]? =some y /\ Q y (upd H l (.lst xs.dropLast))
theorem qy:MtM X "list.pop" sy:=by
 intro pins s σ H x vs v us Q I rx rv h;obtain⟨l,xs,y,rfl,rfl,hH,hy,q⟩:=h
 cases rx;have hus:=rv.zero
 subst hus;obtain⟨z,its,n,r,hl,e⟩:=I.lstM hH
 obtain⟨u,hu,ru⟩:=r.get hy
 have hy':its.toArray[its.toArray.size-1]? =some u:=by
  show its.toArray[its.length-1]? =some u
  rw[<-bA, <-hl];exact hu
 refine call_meets F.slot_list_pop ⟨_,e,rfl⟩ F.entry_list_pop (F.args_list_pop_1 _) (MeetsSeq.list_pop_last l its.toArray n u hy' (by rw[ao];omega)) ⟨e,?_⟩;refine⟨y,_,I.lset (its':=its.dropLast) hH e ?_ r.dropLast ?_,ru,q⟩
 ·show its.toArray.eraseIdxIfInBounds (its.toArray.size-1)=its.dropLast.toArray
  rw[ao,List.eraseIdxIfInBounds_toArray,lg]
 ·rw[List.length_dropLast];omega
end
end L2
namespace L2
open PySem PySem.Spec PyProof.Rows
noncomputable abbrev CX0:CXT:=fun _ _ _ _ _ _=>False
noncomputable abbrev E0:XK:=fun _ _ _=>False
structure Fun(K:af)(x qual:Str)(st:Stmt)(f:Addr)(fd:FuncData):Prop where
 ex:∃(oc:Value) (od:Option Addr) (kV doc pm:Value) (an:Option Addr) (cdv ct:Value) (osl:Array (Option Value)),
  fd=aB x qual (fM st) (fG st) (fm st) .none kV doc pm an cdv ct /\ K.lookup f=some ⟨oc,od,.func fd,osl⟩ /\ az K cdv qual=true
 kp:av K (.ref f)=true
section
variable {P:Program} {w:World} {K:af} {mg:Str ->Option Value} {base:Heap}
theorem Fun.ok{x qual:Str}{st:Stmt}{f:Addr}{fd:FuncData}{N ps:List Str}{k:Nat}{sp:Sp}(F:Fun K x qual st f fd)(S:FnScope N ps (fm st))(len:∀vs H Q E,sp vs H Q E ->vs.length=ps.length)
  (hbody:∀(cdv:Value) (A:Around) (outer:List Env) (s:Shared) (H:Hp) (vs:List V) (Q:VK) (E:XK),Room k (A.deeper (envOfC qual (fm st) s.heap.objs.size f cdv)) ->sp vs H Q E ->
   ∃t,PSs (n8 CX0 P w K mg base N qual (fm st) f cdv A outer s H E).nox (fG st) t /\ t {nx:=fun _ H'=>Q .non H',rt:=Q} (start N vs) H):FnOk P w K mg base CX0 (k+1) f fd ps sp:=by
 obtain⟨oc,od,kV,doc,pm,an,cdv,ct,osl,rfl,lk,hcd⟩:=F.ex
 refine qP lk hcd S len fun A outer s H vs Q E hr hsp=> ?_
 obtain⟨t,h,q⟩:=hbody cdv A outer s H vs Q E hr hsp
 exact⟨t,h.nox,q⟩
theorem Fun.binds{x qual:Str}{st:Stmt}{f:Addr}{fd:FuncData}{ps:List Str}(F:Fun K x qual st f fd)
  (h:∀(kV doc pm:Value) (an:Option Addr) (cdv ct:Value) (us:List Value),us.length=ps.length ->bindArgs (aB x qual (fM st) (fG st) (fm st) .none kV doc pm an cdv ct) ⟨us,[]⟩=pure (ps.zip us)):Binds K fd ps []:=by
 obtain⟨oc,od,kV,doc,pm,an,cdv,ct,osl,rfl,lk,hcd⟩:=F.ex
 exact .all (h kV doc pm an cdv ct)
theorem fX{x qual:Str}{st:Stmt}{f:Addr}{oc:Value}{od an:Option Addr}{osl:Array (Option Value)}{kV doc pm cdv ct:Value}(l:K.lookup f=some ⟨oc,od,.func (aB x qual (fM st) (fG st) (fm st) .none kV doc pm an cdv ct),osl⟩)
  (c:az K cdv qual=true) (k:av K (.ref f)=true):Fun K x qual st f (aB x qual (fM st) (fG st) (fm st) .none kV doc pm an cdv ct):=⟨⟨oc,od,kV,doc,pm,an,cdv,ct,osl,rfl,l,c⟩,k⟩
end
theorem rE{A:Around}{k:Nat}(hr:Room k A):A.units+1<cLine:=bp (Nat.add_le_add_left (by decide:1<=64) _) hr.units
section
variable {X:Cx}
theorem pv(i:Nat){x:Str}{pos:Pos}(hN:X.N[i]? =some x:=by rfl)(hv:Vis X.env.scope x:=by first|exact aJ rfl|exact ee (aJ rfl)|exact ee (ee rfl))(hd:(x==("__debug__":Str))=false:=by decide)
  (hcd:(x==("__classdict__":Str))=false:=by decide):PE X (.Name x pos) (pE i):=qo hN hv hd hcd
end
noncomputable def Same(H H':Hp):Prop:=∀b o,H b=some o ->H' b=some o
theorem Same.refl(H:Hp):Same H H:=fun _ _ h=>h
theorem Same.trans{H H1 H2:Hp}(a:Same H H1)(b:Same H1 H2):Same H H2:=fun c o h=>b c o (a c o h)
theorem Same.free{H H':Hp}(e:Same H H'){l:Addr}(h:H' l=fh):H l=fh:=by
 cases q:H l with
 |none=>rfl
 |some o=>
  rw[e l o q] at h;cases h
theorem Same.seq{K:af}{H H':Hp}{a:Addr}{xs:List V}(e:Same H H')(h:SqL K H a xs):SqL K H' a xs:=by
 rcases h with(h|⟨o,h⟩)|h
 ·exact .inl (.inl (e _ _ h))
 ·exact .inl (.inr ⟨o,e _ _ h⟩)
 ·exact .inr h
end L2
namespace L2
open PySem PySem.Spec PyProof.Rows
section
variable {κ:Type} [DecidableEq κ]
noncomputable def iS(kvs:List (κ×V))(k:κ):Option V:=(kvs.find? fun kv=>decide (kv.1=k)).map (·.2)
noncomputable def putK(kvs:List (κ×V))(k:κ)(v:V):List (κ×V):=
 if(kvs.any fun kv=>decide (kv.1=k))=true then kvs.map (fun kv=>if kv.1=k then(kv.1,v) else kv) else kvs++[(k,v)]
noncomputable def qS(kvs:List (κ×V))(k:κ):List (κ×V):=kvs.filter fun kv=>decide (kv.1≠k)
theorem iQ{p:κ×V}{r:List (κ×V)}{k:κ}(e:p.1=k):iS (p::r) k=some p.2:=by simp[iS,bV,e]
theorem iR{p:κ×V}{r:List (κ×V)}{k:κ}(e:¬p.1=k):iS (p::r) k=iS r k:=by simp[iS,bV,e]
theorem gV(k:κ):∀kvs:List (κ×V),(kvs.any fun kv=>decide (kv.1=k))=(iS kvs k).isSome
 |[]=>rfl
 |p::r=>by
  rw[dR]
  by_cases e:p.1=k
  ·simp only[iQ e,decide_eq_true e,Bool.true_or,bS]
  ·rw[iR e,decide_eq_false e,eS];exact gV k r
theorem gU(kvs:List (κ×V))(k:κ)(v:V):(putK kvs k v).length<=kvs.length+1:=by
 unfold putK;split
 ·rw[ag];omega
 ·rw[aE,a9,bw];omega
theorem i6{kvs:List (κ×V)}{k:κ}(v:V)(h:iS kvs k=none):putK kvs k v=kvs++[(k,v)]:=by
 unfold putK;rw[gV,h];exact if_neg (by decide)
theorem RelO.isSome_eq{o:Option V}{u:Option Value}(r:RelO o u):o.isSome=u.isSome:=by
 cases o with
 |none=>cases u with
  |none=>rfl
  |some _=>exact(show False from r).elim
 |some _=>cases u with
  |none=>exact(show False from r).elim
  |some _=>rfl
theorem RelO.getD{o:Option V}{u:Option Value}{d:V}{d':Value}(r:RelO o u)(rd:RelV d d'):RelV (o.getD d) (u.getD d'):=by
 cases o with
 |none=>cases u with
  |none=>exact rd
  |some _=>exact(show False from r).elim
 |some _=>cases u with
  |none=>exact(show False from r).elim
  |some _=>exact r
theorem KV.val{kvs:List (κ×V)}{vs:List (κ×Value)}(r:KV kvs vs)(k:κ):RelO (iS kvs k) (valueAt vs k):=by
 unfold KV at r
 induction r with
 |nil=>exact True.intro
 | @cons p q ps qs h t ih=>
  obtain⟨h1,h2⟩:=h
  by_cases e:p.1=k
  ·have e':q.1=k:=h1.symm.trans e
   have b:valueAt (q::qs) k=some q.2:=by simp[valueAt,bV,e']
   rw[iQ e,b];exact h2
  ·have e':¬q.1=k:=fun z=>e (h1.trans z)
   have b:valueAt (q::qs) k=valueAt qs k:=by simp[valueAt,bV,e']
   rw[iR e,b];exact ih
theorem KV.any{kvs:List (κ×V)}{vs:List (κ×Value)}(r:KV kvs vs)(k:κ):(kvs.any fun kv=>decide (kv.1=k))=vs.any fun kv=>decide (kv.1=k):=by
 unfold KV at r
 induction r with
 |nil=>rfl
 |cons h t ih=>rw[dR,dR,ih,h.1]
theorem KV.repl{kvs:List (κ×V)}{vs:List (κ×Value)}(r:KV kvs vs)(k:κ){y:V}{u:Value}(ry:RelV y u):
  KV (kvs.map fun kv=>if kv.1=k then(kv.1,y) else kv) (vs.map fun kv=>if kv.1=k then(kv.1,u) else kv):=by
 unfold KV at r⊢
 induction r with
 |nil=>exact .nil
 | @cons p q ps qs h t ih=>
  rw[aO,aO];refine .cons ?_ ih;obtain⟨h1,h2⟩:=h
  by_cases e:p.1=k
  ·rw[if_pos e,if_pos (h1.symm.trans e)];exact⟨h1,ry⟩
  ·rw[if_neg e,if_neg (fun z=>e (h1.trans z))];exact⟨h1,h2⟩
theorem KV.put{kvs:List (κ×V)}{vs:List (κ×Value)}(r:KV kvs vs)(k:κ){y:V}{u:Value}(ry:RelV y u):KV (putK kvs k y) (stored vs k u):=by
 unfold putK stored;rw[r.any k]
 by_cases e:(vs.any fun kv=>decide (kv.1=k))=true
 ·rw[if_pos e,if_pos e];exact r.repl k ry
 ·rw[if_neg e,if_neg e];exact Paired.snoc r ⟨rfl,ry⟩
theorem KV.drop{kvs:List (κ×V)}{vs:List (κ×Value)}(r:KV kvs vs)(k:κ):KV (qS kvs k) (without vs k):=by
 unfold KV at r⊢;unfold qS without
 induction r with
 |nil=>exact .nil
 | @cons p q ps qs h t ih=>
  obtain⟨h1,h2⟩:=h
  rw[ei,ei]
  by_cases e:p.1=k
  ·have a:¬decide (p.1≠k)=true:=by simp[e]
   have b:¬decide (q.1≠k)=true:=by simp[h1.symm.trans e]
   rw[if_neg a,if_neg b];exact ih
  ·have e':¬q.1=k:=fun z=>e (h1.trans z)
   have a:decide (p.1≠k)=true:=by simp[e]
   have b:decide (q.1≠k)=true:=by simp[e']
   rw[if_pos a,if_pos b];exact .cons ⟨h1,h2⟩ ih
theorem KV.keys{kvs:List (κ×V)}{vs:List (κ×Value)}(r:KV kvs vs):kvs.map (·.1)=vs.map (·.1):=by
 unfold KV at r
 induction r with
 |nil=>rfl
 |cons h t ih=>rw[aO,aO,ih,h.1]
theorem KV.length{kvs:List (κ×V)}{vs:List (κ×Value)}(r:KV kvs vs):kvs.length=vs.length:=Paired.length r
end
theorem qG{P:Program}{w:World}{k:Key}{u:Value}(r:RelV (kV k) u):(gc P w).is k u=true:=by
 cases k with
 |inl i=>obtain⟨t,e⟩:=(show∃t,u=Value.int i t from r);subst e;exact jY P w i t
 |inr x=>obtain⟨t,e⟩:=(show∃t,u=Value.str x t from r);subst e;exact jX P w x t
theorem jF{P:Program}{w:World}:∀{ks:List Key} {us:List Value},Vals (ks.map kV) us ->ItemsAre (gc P w) ks us
 |[],_,r=>by rw[bT] at r;cases r;exact .nil
 |k::ks,_,r=>by
  rw[aO] at r;cases r with
  |cons h t=>exact .cons (qG h) (jF t)
noncomputable abbrev KT(H:Hp):List (List Key×V) ->List (List Key×Addr×Value) ->Prop:=Paired fun p q=>p.1=q.1 /\ H q.2.1=some (.tup (p.1.map kV)) /\ RelV p.2 q.2.2
theorem KT.val{H:Hp}{kvs:List (List Key×V)}{xs:List (List Key×Addr×Value)}(r:KT H kvs xs)(k:List Key):RelO (iS kvs k) ((atKey xs k).map (·.2)):=by
 induction r with
 |nil=>exact True.intro
 | @cons p q ps qs h t ih=>
  obtain⟨h1,_,h2⟩:=h
  by_cases e:p.1=k
  ·have e':q.1=k:=h1.symm.trans e
   have b:atKey (q::qs) k=some q.2:=by simp[atKey,bV,e']
   rw[iQ e,b];exact h2
  ·have e':¬q.1=k:=fun z=>e (h1.trans z)
   have b:atKey (q::qs) k=atKey qs k:=by simp[atKey,bV,e']
   rw[iR e,b];exact ih
theorem KT.repl{H:Hp}{kvs:List (List Key×V)}{xs:List (List Key×Addr×Value)}(r:KT H kvs xs)(k:List Key){y:V}{u:Value}(ry:RelV y u):
  KT H (kvs.map fun kv=>if kv.1=k then(kv.1,y) else kv) (xs.map (putAt k u)):=by
 induction r with
 |nil=>exact .nil
 | @cons p q ps qs h t ih=>
  rw[aO,aO];refine .cons ?_ ih;obtain⟨h1,h2,h3⟩:=h
  unfold putAt
  by_cases e:p.1=k
  ·rw[if_pos e,if_pos (h1.symm.trans e)];exact⟨h1,h2,ry⟩
  ·rw[if_neg e,if_neg (fun z=>e (h1.trans z))];exact⟨h1,h2,h3⟩
theorem KT.put{H:Hp}{kvs:List (List Key×V)}{xs:List (List Key×Addr×Value)}(r:KT H kvs xs)(k:List Key){b:Addr}{y:V}{u:Value}(hb:H b=some (.tup (k.map kV)))(ry:RelV y u):
  KT H (putK kvs k y) (storedH xs k b u):=by
 have e:(kvs.any fun kv=>decide (kv.1=k))=(atKey xs k).isSome:=by
  rw[gV,(r.val k).isSome_eq,Option.isSome_map]
 unfold putK storedH;rw[e]
 by_cases q:(atKey xs k).isSome=true
 ·rw[if_pos q,if_pos q];exact r.repl k ry
 ·rw[if_neg q,if_neg q];exact Paired.snoc r ⟨rfl,hb,ry⟩
theorem KT.keeps{H H':Hp}{kvs:List (List Key×V)}{xs:List (List Key×Addr×Value)}(r:KT H kvs xs)(ht:∀b ys,H b=some (.tup ys) ->H' b=some (.tup ys)):KT H' kvs xs:=
 Paired.mapP r fun _ _ z=>⟨z.1,ht _ _ z.2.1,z.2.2⟩
section
variable {P:Program} {w:World} {H:Hp} {h:Heap} {a:Addr}
theorem qe{u:HO}(ok:HOk P w H h)(e:Rd H a u):ObjOk P w H h a u:=e.ok ok
theorem rH{kvs:List (Key×V)}(ok:HOk P w H h)(e:Rd H a (.dK kvs)):kvs.length<=sizeLine /\ (a==sysModules)=false /\ ∃vs,KV kvs vs /\ h.DictOf (gc P w) a vs:=
 show ObjOk P w H h a (.dK kvs) from qe ok e
theorem rJ{kvs:List (Key×V)}(ok:HOk P w H h)(e:H a=some (.dK kvs)):kvs.length<=sizeLine /\ (a==sysModules)=false /\ ∃vs,KV kvs vs /\ h.DictOf (gc P w) a vs:=rH ok (.inl e)
theorem n5{ks:List Key}(ok:HOk P w H h)(e:H a=some (.tup (ks.map kV))):(tupleKind (gc P w)).is h ks a:=by
 obtain⟨_,its,r,o,h1,h2,n,h3⟩:=(show ObjOk P w H h a (.tup (ks.map kV)) from ok a _ e)
 exact⟨o,its.toArray,n,h1,h2,h3,by simpa using jF r⟩
theorem rG{kvs:List (List Key×V)}(ok:HOk P w H h)(e:Rd H a (.dT kvs)):kvs.length<=sizeLine /\ (a==sysModules)=false /\
  ∃xs,KT H kvs xs /\ h.DictOfH (tupleKind (gc P w)) a xs:=by
 obtain⟨z,y,xs,r,o,es,ep,h1,h2,h3,h4,h5⟩:=(show ObjOk P w H h a (.dT kvs) from qe ok e)
 refine⟨z,y,xs,r,o,es,ep,h1,h2,h3,h4,fun x hx=> ?_,h5⟩;have all:∀{l:List (List Key×V)} {m:List (List Key×Addr×Value)},KT H l m -> ∀x∈m,(tupleKind (gc P w)).is h x.1 x.2.1:=by
  intro l m q
  induction q with
  |nil=>intro x hx;exact nomatch hx
  | @cons p q ps qs hq t ih=>
   intro x hx;rcases aD.mp hx with e|hx
   ·subst e;exact n5 ok (by rw[<-hq.1];exact hq.2.1)
   ·exact ih x hx
 exact all r x hx
theorem qR{kvs:List (List Key×V)}(ok:HOk P w H h)(e:H a=some (.dT kvs)):kvs.length<=sizeLine /\ (a==sysModules)=false /\
  ∃xs,KT H kvs xs /\ h.DictOfH (tupleKind (gc P w)) a xs:=rG ok (.inl e)
end
noncomputable def DGet(H:Hp)(a:Addr)(y:V)(r:Option V):Prop:=
 (∃kvs k,Rd H a (.dK kvs) /\ y=kV k /\ r=iS kvs k)∨∃kvs k b,Rd H a (.dT kvs) /\ y= .ref b /\ H b=some (.tup (k.map kV)) /\ r=iS kvs k
noncomputable def DPut(H:Hp)(a:Addr)(y v:V)(H':Hp):Prop:=
 (∃kvs k,H a=some (.dK kvs) /\ y=kV k /\ kvs.length<sizeLine /\ H'=upd H a (.dK (putK kvs k v)))∨
 ∃kvs k b,H a=some (.dT kvs) /\ y= .ref b /\ H b=some (.tup (k.map kV)) /\ kvs.length<sizeLine /\ H'=upd H a (.dT (putK kvs k v))
theorem DGet.k{H:Hp}{a:Addr}{kvs:List (Key×V)}{k:Key}(e:H a=some (.dK kvs)):DGet H a (kV k) (iS kvs k):= .inl ⟨kvs,k,.inl e,rfl,rfl⟩
theorem DGet.t{H:Hp}{a b:Addr}{kvs:List (List Key×V)}{k:List Key}(e:H a=some (.dT kvs))(eb:H b=some (.tup (k.map kV))):DGet H a (.ref b) (iS kvs k):= .inr ⟨kvs,k,b,.inl e,rfl,eb,rfl⟩
theorem DPut.k{H:Hp}{a:Addr}{kvs:List (Key×V)}{k:Key}{v:V}(e:H a=some (.dK kvs))(hl:kvs.length<sizeLine):DPut H a (kV k) v (upd H a (.dK (putK kvs k v))):= .inl ⟨kvs,k,e,rfl,hl,rfl⟩
theorem DPut.t{H:Hp}{a b:Addr}{kvs:List (List Key×V)}{k:List Key}{v:V}(e:H a=some (.dT kvs))(eb:H b=some (.tup (k.map kV)))(hl:kvs.length<sizeLine):
  DPut H a (.ref b) v (upd H a (.dT (putK kvs k v))):= .inr ⟨kvs,k,b,e,rfl,eb,hl,rfl⟩
section
variable {X:Cx} {pins:List (Addr×Obj)} {σ:St} {H:Hp} {s:Shared} {a:Addr} {y v:V} {u r:Value} {o:Option V} {A:Around} {E:Value ->Shared ->Prop}
theorem Inv.big(I:Inv X pins σ H s):sysModules<s.heap.objs.size:=by
 have h:mainGlobals<s.heap.objs.size:=(I.mod.glob.keeps I.bk).lt
 exact dq (by decide) h
theorem mr{h':Heap}{t':Nat}{ob:HO}(I:Inv X pins σ H s)(mu:Mut (H a))(hs:Heap.SameBut a s.heap h')(he:∃q,h'.get? a=some q)(new:ObjOk X.prog X.w (upd H a ob) h' a ob):
  Inv X pins σ (upd H a ob) {s with heap:=h',toks:=t'}:=
 I.write (x:=a) (e:=a) mu (.inl rfl) (fun b q hb z=>(hs.2 b hb).trans z) he new
theorem qU{P:Program}{w:World}{H':Hp}{h':Heap}{kvs:List (Key×V)}{vs:List (Key×Value)}(z:kvs.length<=sizeLine)(hd:(a==sysModules)=false)(rel:KV kvs vs)(dd:h'.DictOf (gc P w) a vs):
  ObjOk P w H' h' a (.dK kvs):=⟨z,hd,vs,rel,dd⟩
theorem mv{H':Hp}{Q:Unit ->Shared ->Prop}(hu:A.units+1<cLine)(I:Inv X pins σ H s)(g:DPut H a y v H')(ry:RelV y u)(rv:RelV v r)(h:∀s',Inv X pins σ H' s' ->Q () s'):
  wpAny (model X.prog X.w) A (setItem (.ref a) u r) Q E s:=by
 rcases g with⟨kvs,k,e,ey,l,eH⟩|⟨kvs,k,b,e,ey,eb,l,eH⟩
 ·subst ey eH;obtain⟨z,hd,vs,rel,dd⟩:=rJ I.hok e
  have hz:vs.length<=sizeLine:=by rw[<-rel.length];exact z
  have hl:(putK kvs k v).length<=sizeLine:=by have:=gU kvs k v;omega
  refine wpAny_setItem_pairs (hsz:=hz) (qG ry) dd fun h' dd' hs=>h _ ?_
  have he:∃q,h'.get? a=some q:=let⟨q,_,_,hq,_⟩:=dd';⟨q,hq⟩
  exact mr I (by rw[e];exact True.intro) hs he (qU hl hd (rel.put k rv) dd')
 ·subst ey eH;cases(show u=Value.ref b from ry);obtain⟨z,hd,xs,rel,dd⟩:=qR I.hok e
  have hz:xs.length<=sizeLine:=by rw[<-Paired.length rel];exact z
  have hl:(putK kvs k v).length<=sizeLine:=by have:=gU kvs k v;omega
  refine wpAny_setItem_heap (hsz:=hz) (tupleKind_room_in1 hu) (n5 I.hok eb) dd fun h' dd' hs=>h _ ?_
  obtain⟨q,es,ep,hq,h2,h3,h4,_,h5⟩:=dd'
  refine mr I (by rw[e];exact True.intro) hs ⟨q,hq⟩ ⟨hl,hd,_,(rel.put k eb rv).keeps fun c ys ec=> ?_,q,es,ep,hq,h2,h3,h4,h5⟩;rw[fy (lZ ec e (fun z=>nomatch z))];exact ec
end
theorem nC{P:Program}{w:World}{H:Hp}(h:Heap)(hb:sysModules<h.objs.size):ObjOk P w H (h.push {cls:= .type "dict",data:= .dict #[]}) h.objs.size (.dT []):=
 ⟨aN _,beq_eq_false_iff_ne.mpr (Ne.symm (ax hb)),[],.nil,_,#[],0,Heap.get?_push_size _ rfl,⟨rfl,rfl,rfl⟩,rfl,rfl,dG⟩
noncomputable def kh:TE:=fun _ H Q=>∀p,H p=none ->Q (.ref p) (upd H p (.dK []))
noncomputable def jq:TE:=fun _ H Q=>∀p,H p=none ->Q (.ref p) (upd H p (.dT []))
section
variable {X:Cx} {pos:Pos}
theorem m8:PE X (.Dict [] [] pos) jq:=fun pins s σ H Q I h=>
 wpAny_Dict_empty ⟨.ref s.heap.objs.size,_,I.laid (a:=s.heap.objs.size) (o:= .dT []) (t':=s.toks) (fun _ _ q=>Heap.get?_push_of_some _ q) (ak _) (nC s.heap I.big),rfl,h _ (I.hok.fresh (ak _))⟩
end
noncomputable def iL:List (TE×TE) ->St ->Hp ->(List (V×V) ->Hp ->Prop) ->Prop
 |[],_,H,Q=>Q [] H
 |(tk,tv)::r,σ,H,Q=>tk σ H fun x H1=>tv σ H1 fun y H2=>iL r σ H2 fun ps H3=>Q ((x,y)::ps) H3
noncomputable def qA(kvs more:List (Key×V)):List (Key×V):=more.foldl (fun acc kv=>putK acc kv.1 kv.2) kvs
noncomputable def mT(trs:List (TE×TE)):TE:=fun σ H Q=>∀p,H p=none ->iL trs σ (upd H p (.dK [])) fun ps H2=>H2 p=some (.dK []) /\ ∃kvs:List (Key×V),ps=kvs.map (fun kv=>(kV kv.1,kv.2)) /\ kvs.length<=15 /\ Q (.ref p) (upd H2 p (.dK (qA [] kvs)))
end L2
namespace L2
open PySem PySem.Spec PyProof.Rows
section
variable {κ:Type} [DecidableEq κ]
theorem mM{kvs:List (κ×V)}{k:κ}(h:iS kvs k=none):¬k∈kvs.map (·.1):=by
 intro m;obtain⟨p,hp,e⟩:=bu.mp m
 have q:(kvs.any fun kv=>decide (kv.1=k))=true:=List.any_eq_true.mpr ⟨p,hp,decide_eq_true e⟩
 rw[gV,h] at q;exact absurd q (by simp)
theorem l0:∀{l:List κ} {k:κ},l.Nodup -> ¬k∈l ->(l++[k]).Nodup
 |[],k,_,_=>by simp
 |a::r,k,h,hk=>by
  obtain⟨h1,h2⟩:=aX.mp h
  show(a::(r++[k])).Nodup
  refine aX.mpr ⟨fun m=> ?_,l0 h2 fun m=>hk (aD.mpr (ee m))⟩;rcases bG.mp m with q|q
  ·exact h1 q
  ·exact hk (aD.mpr (aJ (bq.mp q).symm))
theorem oR{kvs:List (κ×V)}{k:κ}(v:V)(hn:(kvs.map (·.1)).Nodup)(h:iS kvs k=none):((putK kvs k v).map (·.1)).Nodup:=by
 rw[i6 v h,aM];exact l0 hn (mM h)
end
end L2
namespace L2
open PySem PySem.Spec PyProof.Rows
noncomputable def Bd(n:Nat)(i:Int):Prop:=i.natAbs<2^n
theorem Bd.mono{m n:Nat}{i:Int}(h:Bd m i)(hm:m<=n):Bd n i:=aq h (cE (by decide) hm)
theorem Bd.mul{m n:Nat}{i j:Int}(h:Bd m i)(k:Bd n j):Bd (m+n) (i*j):=by
 unfold Bd at*;rw[dH,Nat.pow_add];exact Nat.mul_lt_mul'' h k
theorem iN(m n:Nat):2^m+2^n<=2^(m+n+1):=by
 have h1:2^m<=2^(m+n):=cE (by decide) (Nat.le_add_right _ _)
 have h2:2^n<=2^(m+n):=cE (by decide) (Nat.le_add_left _ _)
 have h3:2^(m+n+1)=2^(m+n)*2:=Nat.pow_succ _ _
 omega
theorem Bd.add{m n:Nat}{i j:Int}(h:Bd m i)(k:Bd n j):Bd (m+n+1) (i+j):=by
 have e:=iN m n
 unfold Bd at*;omega
theorem Bd.sub{m n:Nat}{i j:Int}(h:Bd m i)(k:Bd n j):Bd (m+n+1) (i-j):=by
 have e:=iN m n
 unfold Bd at*;omega
theorem Bd.neg{m:Nat}{i:Int}(h:Bd m i):Bd m (-i):=by
 unfold Bd at*;omega
theorem Bd.abs{m:Nat}{i:Int}(h:Bd m i):Bd m (if i<0 then -i else i):=by
 split
 ·exact h.neg
 ·exact h
theorem Bd.of_le{n:Nat}{i:Int}(b:Int)(h1: -b<=i)(h2:i<=b)(hb:b.natAbs<2^n):Bd n i:=by
 unfold Bd;omega
theorem Bd.bits{n:Nat}{i:Int}(h:Bd n i):Builtin.Int.intBits i<=n:=by
 unfold Bd at h;unfold Builtin.Int.intBits;split
 ·exact aN _
 ·rename_i z
  have:i.natAbs≠0:=by
   intro e;apply z;have:i=0:=by omega
   subst this;rfl
  have:=(Nat.log2_lt this).mpr h
  omega
theorem Bd.log{n:Nat}{i:Int}(h:Bd n i)(h0:0<n):i.natAbs.log2<n:=by
 by_cases e:i.natAbs=0
 ·rw[e];exact bp (by decide) h0
 ·exact(Nat.log2_lt e).mpr h
theorem Bd.sq{m:Nat}{i:Int}(h:Bd m i):Bd (m+m) (i^2):=by
 have e:i^2=i*i:=by grind
 rw[e];exact h.mul h
section
variable {X:Cx}
noncomputable def CMulA(i j:Int):Prop:=CMul i j∨(Bd 100000 i /\ Bd 100000 j)
theorem CMulA.ok{i j:Int}(h:CMulA i j):IntMulOk i j:=by
 rcases h with h|⟨h1,h2⟩
 ·exact h.ok
 ·exact .of_bits (bj h1.bits (by decide)) (bj h2.bits (by decide))
theorem fF:OpR X (binaryOp .Mult) (rI CMulA fun i j=> .int (i*j)):=opI fun _ _ _ _ _ _ _ hc q=>mul_int q hc.ok
theorem gC:OpR X (binaryOp .FloorDiv) (rI (fun _ j=>j≠0 /\ Bd 9000 j) fun i j=> .int (i.fdiv j)):=opI fun _ _ _ _ _ _ _ hc q=>floordiv_int hc.1 q (.inl (PyProof.noPylong_of_log2 (hc.2.log (by decide))))
theorem iC:OpR X (binaryOp .Pow) (rI (fun i j=>0<=j /\ j<=100 /\ Bd 100000 i) fun i j=> .int (i^j.toNat)):=opI fun i j _ _ _ _ _ hc q=>by
 obtain⟨h1,h2,h3⟩:=hc
 refine pow_int h1 ?_ q;have hb:Builtin.Int.intBits i<=100000:=h3.bits
 have e:((Builtin.Int.intBits i:Nat):Int)*j<=100000*100:=Int.mul_le_mul (by omega) h2 h1 (by decide)
 exact Int.le_trans e (by decide)
end
end L2
namespace L2
open PySem PySem.Spec PyProof.Rows
section
variable {prog:Program} {w:World} {A:Around} {E:Value ->Shared ->Prop} {s:Shared}
theorem iP{it l:Addr}{items:Array Value}(hne:l≠it):∀(n i:Nat) (s:Shared) (Q:List Value ->Shared ->Prop),s.heap.IsListIter it l i ->s.heap.IsList l items ->i+n<=items.size ->
  (∀h',h'.IsListIter it l (i+n) ->Heap.SameBut it s.heap h' ->Q ((items.toList.drop i).take n) {s with heap:=h'}) ->wpAny (model prog w) A (draw (.ref it) n) Q E s
 |0,i,s,Q,hit,_,_,hQ=>by
  show wpAny _ _ (pure []) Q E s
  exact wpAny_pure (by simpa using hQ s.heap hit (Heap.SameBut.refl ..))
 |n+1,i,s,Q,hit,ht,hle,hQ=>by
  have hlt:i<items.size:=by omega
  show wpAny _ _ (pyNext (.ref it)>>=_) Q E s
  refine wpAny_bind (wpAny_pyNext_list_item hit ht (x:=items[i]) (by simp[hlt]) fun h₁ hit₁ hs₁=> ?_);refine wpAny_bind (wpAny_holding (iP hne n (i+1) _ _ hit₁ (ht.extBut hs₁.extBut hne) (by omega) fun h₂ hit₂ hs₂=>wpAny_pure ?_));have hd:items.toList.drop i=items[i]::items.toList.drop (i+1):=by simp[List.drop_eq_getElem_cons,hlt]
  have:=hQ h₂ (by rw[show i+(n+1)=i+1+n by omega];exact hit₂) (hs₁.trans hs₂)
  rw[hd,List.take_succ_cons] at this;exact this
theorem g7{t:Addr}{items:Array Value}{Q:List Value ->Shared ->Prop}(hh:A.handled=none)(ht:s.heap.IsList t items)
  (hQ:∀h',Heap.ExtBut s.heap.objs.size s.heap h' ->Q items.toList {s with heap:=h'}):wpAny (model prog w) A (unpackItems (.ref t) items.size none) Q E s:=by
 have hlt:t≠s.heap.objs.size:=by obtain⟨o,ho,_⟩:=ht;exact ax (Heap.lt_size ho)
 unfold unpackItems;refine wpAny_bind ?_
 ·unfold notIterableAtAll;refine wpAny_bind (wpAny_specialOf ht.typeIs slot_list_iter.lookup ?_);refine wpAny_pure ?_;simp only[aV,if_false];refine wpAny_bind (wpAny_holding (wpAny_pyIter_list ht ?_));have ht0:(s.heap.push {cls:= .type "list_iterator",data:= .fields #[.ref t,.int 0 0]}).IsList t items:=ht.at fun o e=>Heap.get?_push_of_some _ e
  refine wpAny_bind (wpAny_holding (iP hlt items.size 0 _ _ ⟨_,Heap.get?_push_size _ rfl,rfl,rfl⟩ ht0 (by omega) fun h₁ hit₁ hs₁=> ?_));have hall:List.take items.size (List.drop 0 items.toList)=items.toList:=by
   rw[b5];exact bR (by simp)
  rw[hall];rw[if_neg (by simp)];have ht₁:h₁.IsList t items:=ht0.extBut hs₁.extBut hlt
  refine wpAny_bind (wpAny_holding (wpAny_pyNext_list_end hh hit₁ ht₁ (by simp) fun h₂ he₂=> ?_));simp only[Option.isSome_none,aV,if_false];refine wpAny_pure (hQ h₂ fun b o hb e=>he₂ b o hb (hs₁.extBut b o hb (Heap.get?_push_of_some _ e)))
theorem g6{env:Env}{elts:List Expr}{x1}{pos:Pos}{t:Addr}{items:Array Value}{Q:Unit ->Shared ->Prop}(hh:A.handled=none)(ht:s.heap.IsList t items)
  (hn:(assignEach elts env).length=items.size) (hstar:(assignEach elts env).findIdx? (·.1)=none)
  (h:∀h',Heap.ExtBut s.heap.objs.size s.heap h' ->wpAny (model prog w) A (assignInOrder ((assignEach elts env).map (·.2)) items.toList) Q E {s with heap:=h'}):
  wpAny (model prog w) A (assign (.Tuple elts x1 pos) env (.ref t)) Q E s:=by
 rw[assign_Tuple];refine wpAny_bind (wpAny_standAt ?_);unfold unpack;rw[hn,hstar];exact wpAny_bind (wpAny_holding (g7 hh ht h))
end
section
variable {X:Cx} {pos:Pos}
noncomputable def rW(K:af)(n:Nat)(t:TGs):TG:=fun v σ H Q=>∃a xs,v= .ref a /\ SqL K H a xs /\ xs.length=n /\ t xs σ H Q
theorem qm{es:List Expr}{k:Nat}{t:TGs}{n:Nat}(hc:X.calm=true)(h:PGs X es t)
  (hn:(assignEach es X.env).length=n:=by rfl) (hst:(assignEach es X.env).findIdx? (·.1)=none:=by rfl):PG X (.Tuple es k pos) (rW X.K n t):=by
 intro pins s σ H v u Q I r hw;obtain⟨a,xs,e1,hq,hl,hw⟩:=hw
 subst e1;cases r;obtain⟨its,rv,ht,hz⟩:=I.list hq
 refine g6 (I.ok.hd hc) ht.isList (by simp[hn, <-hl,rv.length]) hst fun h' hx=> ?_
 have I1:Inv X pins σ H {s with heap:=h'}:=I.kept (t':=s.toks) fun b o e=>hx b o (ax (Heap.lt_size e)) e
 exact h pins _ σ H xs _ Q I1 (by simpa using rv) hw
noncomputable def sG(K:af)(n:Nat)(t:TGs):TG:=fun v σ H Q=>rV K n t v σ H Q∨rW K n t v σ H Q
theorem nX{es:List Expr}{k:Nat}{t:TGs}{n:Nat}(hc:X.calm=true)(h:PGs X es t)
  (hn:(assignEach es X.env).length=n:=by rfl) (hst:(assignEach es X.env).findIdx? (·.1)=none:=by rfl):PG X (.Tuple es k pos) (sG X.K n t):=by
 intro pins s σ H v u Q I r hw;rcases hw with hw|hw
 ·exact qk hc h hn hst pins s σ H v u Q I r hw
 ·exact qm hc h hn hst pins s σ H v u Q I r hw
end
theorem gE{env:Env}:∀(names:List (Str×NameKind)) (acc:List (Str×Addr)),(∀y∈names,y.2= .free -> ∃c,env.cells.lookup y.1=some c) ->(∀x c,acc.lookup x=some c ->env.cells.lookup x=some c) ->
  ∃cl,(forIn (m:=Sem) names acc fun y cs=>(match y with|(name,kind)=>do
    let mut cs:=cs
    if kind== .free then cs:=(name, <-cellOf env name)::cs
    pure (ForInStep.yield cs):Sem (ForInStep (List (Str×Addr)))))=pure cl /\ (∀x c,cl.lookup x=some c ->env.cells.lookup x=some c) /\ (∀y∈names,y.2= .free -> ∃c,cl.lookup y.1=some c) /\ (∀x c,acc.lookup x=some c -> ∃c',cl.lookup x=some c')
 |[],acc,_,ha=>⟨acc,rfl,ha,fun _ z=>absurd z bP,fun x c h=>⟨c,h⟩⟩
 |(n,k)::r,acc,hf,ha=>by
  by_cases hk:k= .free
  ·subst hk;obtain⟨c,hc⟩:=hf (n,.free) aP rfl
   obtain⟨cl,e,h1,h2,h3⟩:=gE r ((n,c)::acc) (fun y hy=>hf y (aF _ hy)) (fun x d hx=>by
    rw[br] at hx;split at hx
    ·rename_i z
     have:x=n:=by simpa using z
     subst this;cases hx;exact hc
    ·exact ha x d hx)
   refine⟨cl,?_,h1,fun y hy hyf=> ?_,fun x d hx=> ?_⟩
   ·rw[eG];simp only[beq_self_eq_true,if_true,cellOf,hc,pure_bind,bind_pure_comp,map_pure];simp only[cellOf] at e
    simpa using e
   ·rcases aD.mp hy with z|z
    ·subst z;exact h3 n c (by simp)
    ·exact h2 y z hyf
   ·by_cases z:x=n
    ·subst z;exact h3 x c (by simp)
    ·refine h3 x d ?_;rw[br];have:(x==n)=false:=by simpa using z
     rw[this];exact hx
  ·obtain⟨cl,e,h1,h2,h3⟩:=gE r acc (fun y hy=>hf y (aF _ hy)) ha
   have hb:(k==NameKind.free)=false:=by simpa using hk
   refine⟨cl,?_,h1,fun y hy hyf=> ?_,h3⟩
   ·rw[eG];simp only[hb,aV,if_false,pure_bind]
    simpa using e
   ·rcases aD.mp hy with z|z
    ·subst z;exact absurd hyf hk
    ·exact h2 y z hyf
theorem jm{scope:Scope}{env:Env}(hf:∀y∈scope.names,y.2= .free -> ∃c,env.cells.lookup y.1=some c):
  ∃cl,closureFor scope env=pure cl /\ (∀x c,cl.lookup x=some c ->env.cells.lookup x=some c) /\ (∀y∈scope.names,y.2= .free -> ∃c,cl.lookup y.1=some c):=by
 obtain⟨cl,e,h1,h2,_⟩:=gE (env:=env) scope.names [] hf (fun x c h=>by simp at h)
 refine⟨cl,?_,h1,h2⟩;unfold closureFor;have e':=e
 simp only[bind_pure] at*
 first|exact e|(rw[e];rfl)|simpa using e
end L2
namespace L2
open PySem PySem.Spec PyProof.Rows
noncomputable def mw(X:Cx)(scope:Scope)(cl:List (Str×Addr))(N:List Str)(C:Addr)(s:Shared)(H:Hp)(ex:List Addr)(pn:List (Addr×Obj)):Cx where
 prog:=X.prog
 w:=X.w
 K:=X.K
 mg:=X.mg
 base:=X.base
 A:=X.A
 N:=N
 s₀:=s
 H₀:=H
 env:=compEnvC scope cl C X.env
 outer:=X.stack
 stack:=X.stack
 ex:=ex
 fn:=fun _=>false
 calm:=X.calm
 pn:=pn
 xe:=fun _ _=>False
structure CScope(X:Cx)(scope:Scope)(N:List Str)(k:Nat)(js:List Nat):Prop where
 kind:scope.kind= .function
 nocell:∀y∈scope.names,y.2≠ .cell
 names:∀y∈scope.names,y.2= .local ->scope.names.lookup y.1=some .local
 frees:∀y∈scope.names,y.2= .free ->X.env.kindOf y.1=some .cell∨X.env.kindOf y.1=some .free
 len:N.length=k+js.length
 look:∀i j,js[i]? =some j -> ∃x,N[k+i]? =some x /\ X.N[j]? =some x /\ scope.names.lookup x=some .free
theorem iI{scope:Scope}{env:Env}(x:Str):(relabel scope env).names.lookup x=(scope.names.lookup x).map fun k=>if(k== .free&&env.scope.kind== .function&&env.kindOf x==some .cell) then .cell else k:=by
 unfold relabel;dsimp only;generalize scope.names=l
 induction l with
 |nil=>rfl
 |cons y r ih=>
  obtain⟨n,k⟩:=y
  rw[aO,br]
  by_cases hx:x=n
  ·subst hx;dsimp only
   by_cases hc:(k==NameKind.free&&env.scope.kind==ScopeKind.function&&env.kindOf x==some NameKind.cell)=true
   ·rw[if_pos hc];simp only[br,beq_self_eq_true,cm];rw[if_pos hc]
   ·rw[if_neg hc];simp only[br,beq_self_eq_true,cm];rw[if_neg hc]
  ·have hb:(x==n)=false:=by simpa using hx
   dsimp only
   by_cases hc:(k==NameKind.free&&env.scope.kind==ScopeKind.function&&env.kindOf n==some NameKind.cell)=true
   ·rw[if_pos hc];simp only[br,hb];exact ih
   ·rw[if_neg hc];simp only[br,hb];exact ih
theorem lookup_mem{α:Type}:∀{l:List (Str×α)} {x:Str} {v:α},l.lookup x=some v ->(x,v)∈l
 |[],_,_,h=>by simp at h
 |(n,k)::r,x,v,h=>by
  rw[br] at h;split at h
  ·rename_i z
   have:x=n:=by simpa using z
   subst this;cases h;exact aP
  ·exact aF _ (lookup_mem h)
noncomputable def frV(σ:St)(js:List Nat):St:=js.map fun j=>(σ[j]?).join
noncomputable def stLC(σ:St)(k:Nat)(js:List Nat):St:=dF k none++frV σ js
section
variable {X:Cx} {pins:List (Addr×Obj)} {σ:St} {H:Hp} {s:Shared} {scope:Scope} {N:List Str} {k:Nat} {js:List Nat} {cl:List (Str×Addr)} {fp:List Addr}
theorem Inv.block{h1:Heap}{tk:Nat}(I:Inv X pins σ H s)(S:CScope X scope N k js)
  (hcl1:∀x c,cl.lookup x=some c ->X.env.cells.lookup x=some c) (hcl2:∀y∈scope.names,y.2= .free -> ∃c,cl.lookup y.1=some c)
  (hns:h1.Ns s.heap.objs.size (fun _=>none)) (hk:∀b o,s.heap.get? b=some o ->h1.get? b=some o)
  (hf:∀b∈fp,mK X pins H b) (hfp:∀b∈fp,∃o,s.heap.get? b=some o /\ ∀v,o.data≠ .cell v):
  Inv (mw X scope cl N s.heap.objs.size s H fp (X.pn++pins)) [] (stLC σ k js) H {s with heap:=h1,toks:=tk}:=by
 have hxc:∀x c,cl.lookup x=some c ->c<s.heap.objs.size:=fun x c h=>by
  obtain⟨v,q⟩:=I.cell x c (hcl1 x c h)
  exact q.lt
 have lkL:∀x,(compEnvC scope cl s.heap.objs.size X.env).kindOf x=(scope.names.lookup x).map fun k=>if(k== .free&&X.env.scope.kind== .function&&X.env.kindOf x==some .cell) then .cell else k:=fun x=>iI x
 refine⟨⟨I.ok.mod,S.kind,I.ok.glob,I.ok.blt,ak _,fun x y c h1 h2=>I.ok.inj x y c (hcl1 x c h1) (hcl1 y c h2),fun x hx=> ?_,fun x c h _=>absurd (show false=true from h) (by decide),I.ok.hd,I.ok.frames,.inl rfl,fun b hb=> ?_,I.bs,
  bj I.ok.bsz I.sz,fun b o e z=> ?_,fun b hb z=> ?_,I.stack,I.stkFree⟩,rfl,I.bare,Un.kept hk,⟨_,hns,fun i x v e1 e2 e3=> ?_⟩,fun x c h=> ?_,?_,fun x c h=>I.freeC x c (hcl1 x c h),fun p hp=> ?_,I.hok.kept hk,?_⟩
 ·--has
  have hx:((scope.names.lookup x).map fun k=>if(k== .free&&X.env.scope.kind== .function&&X.env.kindOf x==some .cell) then NameKind.cell else k)=some .cell∨((scope.names.lookup x).map fun k=>if(k== .free&&X.env.scope.kind== .function&&X.env.kindOf x==some .cell) then NameKind.cell else k)=some .free:=by
   rcases hx with hx|hx
   ·exact .inl ((lkL x).symm.trans hx)
   ·exact .inr ((lkL x).symm.trans hx)
  have:scope.names.lookup x=some .free:=by
   cases e:scope.names.lookup x with
   |none=>rw[e] at hx;rcases hx with hx|hx<;>cases hx
   |some q=>
    rw[e] at hx
    by_cases hq:q= .free
    ·rw[hq]
    ·have hb:(q==NameKind.free)=false:=by simpa using hq
     simp only[cm,hb,eM,aV,if_false,aH.injEq] at hx;rcases hx with hx|hx
     ·exact absurd hx (S.nocell _ (lookup_mem e))
     ·exact absurd hx hq
  obtain⟨c,hc⟩:=hcl2 _ (lookup_mem this) rfl
  exact⟨c,hc⟩
 ·obtain⟨f0,f1,f2,f3,f4,f5⟩:=hf b hb
  obtain⟨o,ho,_⟩:=hfp b hb
  exact⟨ax (Heap.lt_size ho),fun x c h=>f4 x c (hcl1 x c h)⟩
 ·obtain⟨f0,f1,f2,f3,f4,f5⟩:=hf b z
  rcases f3 with f3|f3
  ·exact I.ok.noex b o e f3
  ·exact absurd (aq (Heap.lt_size (I.ok.bs b o e).1) f3) (bf _)
 ·obtain⟨f0,f1,f2,f3,f4,f5⟩:=hf b hb
  rcases aD.mp (I.stkSub b z) with q|q
  ·exact f1 q
  ·exact f2 q
 ·--the values
  by_cases hi:i<k
  ·have:(stLC σ k js)[i]? =some none:=by
    unfold stLC;rw[aL (by simpa using hi),ck,if_pos hi]
   rw[this] at e2;cases e2
  ·obtain⟨d,rfl⟩:∃d,i=k+d:=⟨i-k,by omega⟩
   have e2':(frV σ js)[d]? =some (some v):=by
    unfold stLC at e2;rw[aI (by simp)] at e2
    simpa using e2
   unfold frV at e2';rw[ar] at e2';cases ej:js[d]? with
   |none=>rw[ej] at e2';cases e2'
   |some j=>
    rw[ej] at e2';have ev:(σ[j]?).join=some v:=aH.inj e2'
    have ev':σ[j]? =some (some v):=by
     cases q:σ[j]? with
     |none=>rw[q] at ev;cases ev
     |some z=>rw[q] at ev;rw[show z=some v from ev]
    obtain⟨x',n1,n2,n3⟩:=S.look d j ej
    have:x'=x:=aH.inj (n1.symm.trans e1)
    subst this;obtain⟨m,hn,hl⟩:=I.loc
    have hkx:=S.frees _ (lookup_mem n3) rfl
    have hvis:Vis X.env.scope x':=by
     rcases hkx with q|q
     ·exact .inr (.inl q)
     ·exact .inr (.inr q)
    obtain⟨u,r,l⟩:=hl j x' v n2 ev' hvis
    refine⟨u,r,?_⟩;obtain⟨c,hc⟩:=hcl2 _ (lookup_mem n3) rfl
    rcases l with⟨l1,_⟩|⟨l1,c',l2,l3⟩
    ·rcases hkx with q|q
     ·exact absurd (l1.symm.trans q) (by decide)
     ·exact absurd (l1.symm.trans q) (by decide)
    ·have:c'=c:=aH.inj (l2.symm.trans (hcl1 _ c hc))
     subst this;refine .inr ⟨?_,c',hc,?_⟩
     ·have q:=lkL x'
      rw[n3] at q
      by_cases hb:((NameKind.free==NameKind.free&&X.env.scope.kind== .function&&X.env.kindOf x'==some .cell))=true
      ·left
       show(compEnvC scope cl s.heap.objs.size X.env).kindOf x'=_
       rw[q];simp only[cm];rw[if_pos hb]
      ·right
       show(compEnvC scope cl s.heap.objs.size X.env).kindOf x'=_
       rw[q];simp only[cm];rw[if_neg hb]
     ·obtain⟨o,ho,hd⟩:=l3
      exact⟨o,hk _ o ho,hd⟩
 ·obtain⟨v,o,ho,hd⟩:=I.cell x c (hcl1 x c h)
  exact⟨v,o,hk _ o ho,hd⟩
 ·exact I.hok.fresh (ak _)
 ·have hp':p∈X.pn++pins:=by simpa[mw] using hp
  obtain⟨e,n,ne,nf,d⟩:=I.pin p hp'
  exact⟨hk _ _ e,n,ax (Heap.lt_size e),fun z=>(aD.mp (I.stkSub _ z)).elim ne nf,d⟩
 ·show(stLC σ k js).length=N.length
  unfold stLC frV;rw[S.len];simp
end
end L2
namespace L2
open PySem PySem.Spec PyProof.Rows
noncomputable def rO(X:Cx)(ifs:List Expr)(t:TT):Prop:=
 ∀(pins:List (Addr×Obj)) (s:Shared) (σ:St) (H:Hp) (Q:Bool ->Hp ->Prop),Inv X pins σ H s ->t σ H Q ->
  wpAny (model X.prog X.w) X.A (forIn ifs true fun c r=>if r=true then do let ok<-isTrue c X.env (eval c X.env);pure (ForInStep.yield ok) else pure (ForInStep.yield r)) (TP X pins σ Q) X.xe s
noncomputable def pN:TT:=fun _ H Q=>Q true H
theorem ip{X:Cx}:rO X [] pN:=fun _ _ _ H _ I h=>wpAny_tests_nil ⟨H,I,h⟩
noncomputable def tLC(wi:TI)(k:Nat)(js:List Nat)(g:TG)(tt:TT)(te:TE):TE:=fun σ H Q=>wi σ H fun J H1=>∀D,H1 D=none ->
 ∃W:Nat ->Nat ->List V ->Hp ->Prop,(∃m,W 0 m [] (upd H1 D (.lst []))) /\ ∀i m ys H,W i m ys H ->H D=some (.lst ys) /\
  ((J.stop i H /\ Q (.ref D) H)∨(J.go i H /\ ys.length<sizeLine /\ ∃N:List V ->Hp ->Prop,(∀ys' H',N ys' H' -> ∃m',m'<m /\ W (i+1) m' ys' H') /\
   ∀x H',J.yld i H x H' ->g x (stLC σ k js) H' fun σ2 H2=>(σ2.drop k=frV σ js /\ σ2.length=k+js.length) /\ tt σ2 H2 fun b H3=>if b=true then te σ2 H3 fun y H4=>H4 D=some (.lst ys) /\ N (ys++[y]) (upd H4 D (.lst (ys++[y]))) else N ys H3))
section
variable {X:Cx} {scope:Scope} {N:List Str} {k:Nat} {js:List Nat} {elt iter tg:Expr} {ifs:List Expr} {pos:Pos} {wi:TI} {g:TG} {tt:TT} {te:TE}
theorem oV{σ σ2:St}(h1:σ2.drop k=frV σ js)(h2:σ2.length=k+js.length)(i:Nat)(v:V)(h:(stLC σ k js)[i]? =some (some v)):σ2[i]? =some (some v):=by
 unfold stLC at h
 by_cases hi:i<k
 ·rw[aL (by simpa using hi),ck,if_pos hi] at h;cases h
 ·rw[aI (by simpa using hi), <-h1,List.getElem?_drop] at h;simp only[cz] at h;rw[show k+(i-k)=i by omega] at h;exact h
theorem nj{pins:List (Addr×Obj)}{σ:St}{H:Hp}{s:Shared}{cl:List (Str×Addr)}{Q:VK}{it:Addr}{fp:List Addr}{tn:Nat ->Heap ->Prop}{J:It}{RR:Value ->Addr ->Result ->Shared ->Prop}
  (S:CScope X scope N k js) (hc:X.calm=true)
  (hg:∀cl C s H ex pn,PG (mw X scope cl N C s H ex pn) tg g) (ht:∀cl C s H ex pn,rO (mw X scope cl N C s H ex pn) ifs tt) (he:∀cl C s H ex pn,PE (mw X scope cl N C s H ex pn) elt te)
  (hcl1:∀x c,cl.lookup x=some c ->X.env.cells.lookup x=some c) (hcl2:∀y∈scope.names,y.2= .free -> ∃c,cl.lookup y.1=some c)
  (I:Inv X pins σ H s) (T:Turn X.prog X.w X.K tg J fp it tn) (hst:tn 0 s.heap) (hf:∀b∈fp,mK X pins H b)
  (hr:∀D,H D=none ->
   ∃W:Nat ->Nat ->List V ->Hp ->Prop,(∃m,W 0 m [] (upd H D (.lst []))) /\ ∀i m ys H,W i m ys H ->H D=some (.lst ys) /\
    ((J.stop i H /\ Q (.ref D) H)∨(J.go i H /\ ys.length<sizeLine /\ ∃N:List V ->Hp ->Prop,(∀ys' H',N ys' H' -> ∃m',m'<m /\ W (i+1) m' ys' H') /\
     ∀x H',J.yld i H x H' ->g x (stLC σ k js) H' fun σ2 H2=>(σ2.drop k=frV σ js /\ σ2.length=k+js.length) /\ tt σ2 H2 fun b H3=>if b=true then te σ2 H3 fun y H4=>H4 D=some (.lst ys) /\ N (ys++[y]) (upd H4 D (.lst (ys++[y]))) else N ys H3)))
  (hend:∀D C H' s' m,Inv X pins σ H' s' ->s'.heap.Ns C m ->H' C=none ->C≠X.env.locals ->C∉frs X.stack ->X.s₀.heap.objs.size<=C ->(∀x c,X.env.cells.lookup x=some c ->c≠C) ->(∀p∈X.pn++pins,p.1≠C) ->D≠C ->Q (.ref D) H' ->RR (.ref D) C (.ok .next) s')
  {E:Value ->Shared ->Prop}:
  wpAny (model X.prog X.w) X.A (newList []) (fun acc s₃=>wpAny (model X.prog X.w) X.A (newFunctionEnv scope X.env.globals cl [] X.env.qual none .none (some X.env)) (fun cenv s₄=>
   codeAny (model X.prog X.w) X.A (.compStart (.ListComp elt [⟨tg,iter,ifs,0⟩] scope pos) 0 (.ref it) acc {cenv with scope:=relabel scope X.env}) (RR acc cenv.locals) s₄) E s₃) E s:=by
 refine wpAny_newObj_type (wpAny_newFunctionEnv S.nocell (by intro y hy;simp at hy) (fun h₁ hns₁ hsb₁=> ?_) S.kind);dsimp only at hns₁ hsb₁⊢;have hD:H s.heap.objs.size=none:=I.fresh
 obtain⟨W,⟨m0,w0⟩,turn⟩:=hr s.heap.objs.size hD
 have I2:Inv X pins σ (upd H s.heap.objs.size (.lst [])) {s with heap:=s.heap.push {cls:= .type "list",dict:=none,data:= .seq ([]:List Value).toArray},toks:=s.toks}:=I.lnew (its:=[]) .nil (aN _)
 generalize hH2:s.heap.push {cls:= .type "list",dict:=none,data:= .seq ([]:List Value).toArray}=H2 at hns₁ hsb₁ I2⊢;have hsz:H2.objs.size=s.heap.objs.size+1:=by rw[<-hH2,Heap.size_push]
 generalize hs3:({s with heap:=H2,toks:=s.toks}:Shared)=s3 at I2;have hs3h:s3.heap=H2:=by rw[<-hs3]
 have old:∀b o,s.heap.get? b=some o ->H2.get? b=some o:=fun b o e=>by rw[<-hH2];exact Heap.get?_push_of_some _ e
 have old1:∀b o,H2.get? b=some o ->h₁.get? b=some o:=fun b o e=>hsb₁.extBut b o (ax (Heap.lt_size e)) (Heap.get?_push_of_some _ e)
 have hfH:∀b∈fp,∃o,s.heap.get? b=some o /\ ∀v,o.data≠ .cell v:=T.obj 0 _ hst
 have ff:∀b∈fp,mK X pins (upd H s.heap.objs.size (.lst [])) b:=fun b hb=>by
  obtain⟨f0,fr⟩:=hf b hb
  obtain⟨o,ho,_⟩:=hfH b hb
  exact⟨by rw[fy (ax (Heap.lt_size ho))];exact f0,fr⟩
 have hns':h₁.Ns s3.heap.objs.size (fun _=>none):=by
  rw[hs3h]
  simpa using hns₁
 have J0:Inv (mw X scope cl N s3.heap.objs.size s3 (upd H s.heap.objs.size (.lst [])) fp (X.pn++pins)) [] (stLC σ k js) (upd H s.heap.objs.size (.lst [])) {s3 with heap:=h₁,toks:=s.toks+([]:List (Str×Value)).length}:=
  I2.block (fp:=fp) (tk:=s.toks+([]:List (Str×Value)).length) S hcl1 hcl2 hns' (fun b o e=>old1 b o (by rw[<-hs3h];exact e)) ff (fun b hb=>by
   obtain⟨o,ho,hd⟩:=hfH b hb
   exact⟨o,by rw[hs3h];exact old b o ho,hd⟩)
 have es3:({s3 with heap:=h₁,toks:=s.toks+([]:List (Str×Value)).length}:Shared)={s with heap:=h₁,toks:=s.toks+([]:List (Str×Value)).length}:=by rw[<-hs3]
 rw[es3] at J0;have hst1:tn 0 h₁:=T.keep 0 _ _ hst fun b hb o e=>old1 b o (old b o e)
 generalize hY:mw X scope cl N s3.heap.objs.size s3 (upd H s.heap.objs.size (.lst [])) fp (X.pn++pins)=Y at J0;have eA:Y.A=X.A:=by rw[<-hY];rfl
 have eP:Y.prog=X.prog:=by rw[<-hY];rfl
 have eW:Y.w=X.w:=by rw[<-hY];rfl
 have eK:Y.K=X.K:=by rw[<-hY];rfl
 have eE:Y.env=compEnvC scope cl H2.objs.size X.env:=by rw[<-hY, <-hs3h];rfl
 have eX:Y.xe=fun _ _=>False:=by rw[<-hY];rfl
 have eC:Y.calm=true:=by rw[<-hY];exact hc
 have stat:∀{H':Hp},(∀b∈fp,H' b=none) -> ∀b∈fp,mK Y [] H' b:=fun hn b hb=>by
  obtain⟨f0,f1,f2,f3,f4,f5⟩:=hf b hb
  obtain⟨o,ho,_⟩:=hfH b hb
  refine⟨hn b hb,?_,?_,.inl (by rw[<-hY];exact hb),fun x c h=> ?_,fun p hp=> ?_⟩
  ·rw[eE];exact ax (aq (Heap.lt_size ho) (by rw[hsz];exact eI _))
  ·rw[<-hY];intro z;rcases aD.mp (I.stkSub b z) with q|q
   ·exact f1 q
   ·exact f2 q
  ·rw[eE] at h;exact f4 x c (hcl1 x c h)
  ·rw[<-hY] at hp;exact f5 p (by simpa[mw] using hp)
 have loop:∀s₂:Shared,s₂={s with heap:=h₁,toks:=s.toks+([]:List (Str×Value)).length} ->
   codeAny (model X.prog X.w) X.A (.compLoop (.ListComp elt [⟨tg,iter,ifs,0⟩] scope pos) 0 (.ref it) (.ref s.heap.objs.size) (compEnvC scope cl H2.objs.size X.env)) (RR (.ref s.heap.objs.size) H2.objs.size) s₂:=by
  rintro s₂ rfl;have noE:∀(e:Value) (s':Shared),False ->notedBy (model X.prog X.w) X.A (compEnvC scope cl H2.objs.size X.env) (fun e s'=>RR (.ref s.heap.objs.size) H2.objs.size (.error e) s') e s':=fun _ _ z=>z.elim
  --one turn,by hand:the step ahead of the store is the iterator's
  refine codeAny_loop rfl (fun n s'=>∃i H' ys,Inv Y [] (stLC σ k js) H' s' /\ tn i s'.heap /\ (∀b∈fp,H' b=none) /\ W i n ys H') (fun n s5 hI=> ?_) m0 ⟨0,_,[],J0,hst1,fun b hb=>(ff b hb).1,w0⟩;obtain⟨i,H5,ys,I5,st5,fr5,w5⟩:=hI
  show wpAny _ X.A ((compTurn (.ListComp elt [⟨tg,iter,ifs,0⟩] scope pos) 0 (.ref it) (.ref s.heap.objs.size) (compEnvC scope cl H2.objs.size X.env)).onRaise (fun x=>do noteFrame x (compEnvC scope cl H2.objs.size X.env);theTreesLotGoes x)) _ _ s5
  refine wpAny_noted ?_;rw[compTurn_list];refine wpAny_bind (wpAny_standAt (wpAny_bind ?_));obtain⟨hDy,tr⟩:=turn i n ys H5 w5
  rcases tr with⟨stop,q⟩|⟨go,hlen,NN,hN,step⟩
  ·have h6:=T.done Y eP eW eK eC i [] s5 _ H5 (fun _ _=>False) I5 (stat fr5) st5 stop
   rw[eA] at h6;refine wpAny_mono h6 (fun r s6 h=> ?_) noE;obtain⟨rfl,I6⟩:=h
   refine wpAny_pure ?_;obtain⟨m6,hn6,_⟩:=I6.loc
   rw[eE] at hn6;have hu:Un (frs X.stack) fp (upd H s.heap.objs.size (.lst [])) H5 s3.heap s6.heap:=by
    have:=I6.base
    rw[<-hY] at this;exact this
   have hok6:HOk X.prog X.w H5 s6.heap:=by
    have:=I6.hok
    rw[eP,eW] at this;exact this
   have I7:Inv X pins σ H5 s6:=I2.call' (ch:=fp) (by have:=I6.os;rw[<-hY] at this;exact this) hu hok6 I6.bare fun b hb=>by
    obtain⟨f0,f1,f2,f3,f4,f5⟩:=hf b hb
    exact⟨f3,f1,f4,f5⟩
   have hfree:H5 H2.objs.size=none:=by
    have:=I6.free
    rw[eE] at this;exact this
   refine hend _ _ H5 s6 m6 I7 hn6 hfree ?_ ?_ ?_ ?_ ?_ ?_ q
   ·rw[<-hs3h];exact dj I2.lt
   ·rw[<-hs3h];intro z;rcases aD.mp (I2.stkSub _ z) with q|q
    ·exact absurd q (dj I2.lt)
    ·exact I2.nofs (ak _) q
   ·rw[<-hs3h];exact I2.sz
   ·intro x c h z;obtain⟨v,hv⟩:=I2.cell x c h
    have:=hv.lt
    rw[hs3h,z] at this;exact absurd this (bf _)
   ·intro p hp z;have:=Heap.lt_size (I2.pin p hp).1
    rw[hs3h,z] at this;exact absurd this (bf _)
   ·rw[hsz];exact ax (Nat.lt_succ_self _)
  ·have h6:=T.item Y eP eW eK eC i [] s5 _ H5 (fun _ _=>False) I5 (stat fr5) st5 go
   rw[eA] at h6;refine wpAny_mono h6 (fun r s6 h=> ?_) noE;obtain⟨u,rfl,h7⟩:=h
   refine wpAny_bind (wpAny_mono h7 (fun _ s7 h=> ?_) noE);obtain⟨x,H7,I7,rx,y7,st7,fr7⟩:=h
   have I7':=I7.pinned (stat fr7) (T.obj _ _ st7)
   have h8:=hg cl s3.heap.objs.size s3 (upd H s.heap.objs.size (.lst [])) fp (X.pn++pins)
   rw[hY] at h8;have h8:=h8 _ s7 _ H7 x u _ I7' rx (step x H7 y7)
   rw[eP,eW,eA,eE,eX] at h8;refine wpAny_bind (wpAny_mono h8 (fun _ s8 h=> ?_) noE);obtain⟨σ8,H8,I8,⟨k1,k2⟩,q8⟩:=h
   have h9:=ht cl s3.heap.objs.size s3 (upd H s.heap.objs.size (.lst [])) fp (X.pn++pins)
   rw[hY] at h9;have h9:=h9 _ s8 σ8 H8 _ I8 q8
   rw[eP,eW,eA,eE,eX] at h9;refine wpAny_bind (wpAny_mono h9 (fun ok s9 h=> ?_) noE);obtain⟨H9,I9,q9⟩:=h
   have again:∀{H':Hp} {ys':List V} {s':Shared},Inv Y ([]++jx fp s7.heap) σ8 H' s' ->NN ys' H' -> ∃m,m<n /\ ∃i H' ys,Inv Y [] (stLC σ k js) H' s' /\ tn i s'.heap /\ (∀b∈fp,H' b=none) /\ W i m ys H':=fun {H' ys' s'} I' n'=>by
    obtain⟨m',hm,w'⟩:=hN ys' H' n'
    refine⟨m',hm,i+1,H',ys',(I'.unpinned).weak (by unfold stLC frV;rw[k2];simp) (fun j v h=>oV k1 k2 j v h),T.keep _ _ _ st7 fun b hb o e=>(I'.pin (b,o) (aC _ (aC _ (gP hb e)))).1,fun b hb=> ?_,w'⟩;obtain⟨o,e,d⟩:=T.obj _ _ st7 b hb
    exact(I'.pin (b,o) (aC _ (aC _ (gP hb e)))).2.1
   cases ok with
   |false=>
    rw[if_neg cM] at q9;exact wpAny_pure ⟨rfl,again I9 q9⟩
   |true=>
    rw[if_pos rfl] at q9;have h10:=he cl s3.heap.objs.size s3 (upd H s.heap.objs.size (.lst [])) fp (X.pn++pins)
    rw[hY] at h10;have h10:=h10 _ s9 σ8 H9 _ I9 q9
    rw[eP,eW,eA,eE,eX] at h10;refine wpAny_bind (wpAny_bind (wpAny_mono h10 (fun y s10 h=> ?_) noE));obtain⟨yv,H10,I10,ry,e10,n10⟩:=h
    have h11:=jC (X:=Y) _ s10 σ8 H10 (.ref s.heap.objs.size) [yv] (.ref s.heap.objs.size) [y] (fun _ H'=>NN (ys++[yv]) H') I10 rfl (.cons ry .nil) ⟨_,ys,yv,rfl,rfl,e10,hlen,n10⟩
    rw[eP,eW,eA,eX] at h11;refine wpAny_bind (wpAny_mono h11 (fun _ s11 h=> ?_) noE);obtain⟨_,H11,I11,_,n11⟩:=h
    exact wpAny_pure (wpAny_pure ⟨rfl,again I11 n11⟩)
 exact codeAny_compStart_list (loop _ rfl) (T.self X.A 0 _ _ _ hst1 (loop _ rfl))
end
end L2
namespace L2
open PySem PySem.Spec PyProof.Rows
section
variable {X:Cx} {scope:Scope} {N:List Str} {k:Nat} {js:List Nat} {elt iter tg:Expr} {ifs:List Expr} {pos:Pos} {wi:TI} {g:TG} {tt:TT} {te:TE}
theorem CScope.closure{pins:List (Addr×Obj)}{σ:St}{H:Hp}{s:Shared}(S:CScope X scope N k js)(I:Inv X pins σ H s):
  ∃cl,closureFor scope X.env=pure cl /\ (∀x c,cl.lookup x=some c ->X.env.cells.lookup x=some c) /\ (∀y∈scope.names,y.2= .free -> ∃c,cl.lookup y.1=some c):=
 jm fun y hy hf=>I.ok.has y.1 (S.frees y hy hf)
theorem m5(S:CScope X scope N k js)(hc:X.calm=true)(hi:PI X tg iter wi)
  (hg:∀cl C s H ex pn,PG (mw X scope cl N C s H ex pn) tg g) (ht:∀cl C s H ex pn,rO (mw X scope cl N C s H ex pn) ifs tt) (he:∀cl C s H ex pn,PE (mw X scope cl N C s H ex pn) elt te)
  (hs:∀x,foldedSetIterable iter X.env x=pure x:=by intro _;rfl):PE X (.ListComp elt [⟨tg,iter,ifs,0⟩] scope pos) (tLC wi k js g tt te):=by
 intro pins s σ H Q I h;obtain⟨cl,hclos,hcl1,hcl2⟩:=S.closure I
 rw[eval_ListComp];refine wpAny_comprehension_free (use:=none) rfl hs hclos S.kind S.names (thn (hi pins s σ H _ I h) fun v s1 h1=>thn h1 fun itv s2 h2=> ?_);obtain⟨it,fp,tn,J,H2,rfl,I2,T,st2,f2,hr⟩:=h2
 refine nj (Q:=Q) (RR:=fun acc C=>compPost (model X.prog X.w) X.A X.xe none (EP X pins σ Q) acc C) S hc hg ht he hcl1 hcl2 I2 T st2 f2 hr ?_;intro D C H' s' m I' hn h0 hL hF hz hcell hpin hDC q;refine⟨m,hn,fun h' sb=>⟨.ref D,H',?_,rfl,q⟩⟩;exact I'.turned (t':=s'.toks) (fun b o hb e=>(sb.2 b hb).trans e) h0 hL (.inr hz) hcell hpin
end
end L2
namespace L2
open PySem PySem.Spec PyProof.Rows
section
variable {X:Cx}
noncomputable def rR(K:af):List V ->Hp ->VK ->Prop:=fun xs H Q=>∃x T t b,xs=[x,.ty T] /\ TyOf K H x t /\ cN K t (.type T)=some b /\ Q (.bl b) H
theorem nF:gz X (.builtin "isinstance") (rR X.K):=by
 intro pins s σ H xs us Q I r h;obtain⟨x,T,t,b,rfl,ty,e,q⟩:=h
 obtain⟨u,v,rfl,ru,rv⟩:=r.two
 obtain rfl:v=Value.type T:=rv
 exact mf I ru ty e fun tk=>⟨.bl b,H,I.tok tk,rfl,q⟩
theorem jZ(K:af):cN K (.type "tuple") (.type "tuple")=some true:=rfl
theorem j0(K:af):cN K (.type "list") (.type "list")=some true:=rfl
theorem lu:∀{bs:List Bool} {us:List Value},Vals (bs.map V.bl) us ->us=bs.map Value.bool
 |[],_,.nil=>rfl
 |b::r,_,.cons h t=>by
  rw[show _=Value.bool b from h,lu t];rfl
theorem mO{prog:Program}{w:World}{A:Around}(bs:List Bool):TruthOf prog w A (fun i v=>(bs.map Value.bool).toArray[i]? =some v) (fun i=>bs.getD i false):=by
 intro i v s Q E hP hQ;have hP':(bs.map Value.bool)[i]? =some v:=by simpa using hP
 rw[ar] at hP';cases e:bs[i]? with
 |none=>rw[e] at hP';cases hP'
 |some b=>
  rw[e] at hP';have:v=Value.bool b:=(aH.inj hP').symm
  subst this;refine wpAny_truthy_bool ?_;have hb:bs.getD i false=b:=by simp[fg,e]
  have hQ':Q (bs.getD i false) s:=hQ
  rw[hb] at hQ';exact hQ'
theorem all_range(bs:List Bool):(aw bs.length).all (fun i=>bs.getD i false)=bs.all id:=by
 rw[eJ,cX,cX];constructor
 ·intro h x hx;obtain⟨i,hi,rfl⟩:=List.mem_iff_getElem.mp hx
  have:=h i (by simpa using hi)
  simpa[fg,hi] using this
 ·intro h i hi;have hi':i<bs.length:=by simpa using hi
  have:=h bs[i] (el hi')
  simpa[fg,hi'] using this
noncomputable def qh(K:af)(f:List Bool ->Bool):List V ->Hp ->VK ->Prop:=fun xs H Q=>∃p bs,xs=[.ref p] /\ SqL K H p (bs.map V.bl) /\ Q (.bl (f bs)) H
theorem nG(hc:X.calm=true):gz X (.builtin "all") (qh X.K fun bs=>bs.all id):=by
 intro pins s σ H xs us Q I r h;obtain⟨p,bs,rfl,hq,q⟩:=h
 obtain⟨u,rfl,ru⟩:=r.one
 obtain rfl:u=Value.ref p:=ru
 obtain⟨its,rv,hl,hz⟩:=I.list hq
 have e:=lu rv
 subst e;obtain⟨o,ho,_⟩:=id hl.isList
 refine call_all_walk (wpAny_pyIter_list hl.isList ?_);refine⟨_,_,_,_,_,_,_,rfl,Walks.list (A:=X.A.in1) (I.ok.hd hc) _ p (ax (Heap.lt_size ho)) _,⟨⟨_,Heap.get?_push_size _ rfl,rfl,rfl⟩,hl.isList.at fun o e=>Heap.get?_push_of_some _ e⟩,mO bs,fun h' tk hk=> ?_⟩;have ea:(aw (bs.map Value.bool).toArray.size).all (fun i=>bs.getD i false)=bs.all id:=by
  rw[ao,ag];exact all_range bs
 rw[ea];exact⟨.bl _,H,I.kept (t':=tk) fun b o e=>hk b o (fun z=>by
  have z':b=s.heap.objs.size:=by simpa using z
  exact absurd (Heap.lt_size e) (by rw[z'];exact bf _)) (Heap.get?_push_of_some _ e),rfl,q⟩
end
mutual
inductive Rdy(K:af)(H:Hp):V ->PyData ->Prop
 |non:Rdy K H .non .none
 |bl (b:Bool):Rdy K H (.bl b) (.bool b)
 |int (i:Int):Rdy K H (.int i) (.int i)
 |str (x:Str):Rdy K H (.str x) (.str x)
 |tup {a:Addr} {xs:List V} {ds:List PyData}:SqT K H a xs ->RdyAll K H xs ds ->Rdy K H (.ref a) (.tuple ds)
 |lst {a:Addr} {xs:List V} {ds:List PyData}:SqL K H a xs ->RdyAll K H xs ds ->Rdy K H (.ref a) (.list ds)
inductive RdyAll(K:af)(H:Hp):List V ->List PyData ->Prop
 |nil:RdyAll K H [] []
 |cons {x:V} {xs:List V} {d:PyData} {ds:List PyData}:Rdy K H x d ->RdyAll K H xs ds ->RdyAll K H (x::xs) (d::ds)
end
section
variable {X:Cx} {pins:List (Addr×Obj)} {σ:St} {H:Hp} {s:Shared}
mutual
theorem Rdy.reads(I:Inv X pins σ H s):∀{x:V} {d:PyData},Rdy X.K H x d -> ∀{u:Value},RelV x u -> ∃as,Reads s.heap u d as
 |_,_,.non,u,r=>by cases(show u=Value.none from r);exact⟨_,.none⟩
 |_,_,.bl b,u,r=>by cases(show u=Value.bool b from r);exact⟨_,.bool b⟩
 |_,_,.int i,u,r=>by obtain⟨t,rfl⟩:=(show∃t,u=Value.int i t from r);exact⟨_,.int i t⟩
 |_,_,.str x,u,r=>by obtain⟨t,rfl⟩:=(show∃t,u=Value.str x t from r);exact⟨_,.str x t⟩
 |_,_, @Rdy.tup _ _ a xs ds hq ha,u,r=>by
  cases(show u=Value.ref a from r);obtain⟨its,rv,⟨o,ho,hc,n,hd⟩,hz⟩:=I.tuple hq
  obtain⟨as,ra⟩:=RdyAll.reads I ha rv
  exact⟨_,.tuple ho hc hd (by simpa using ra)⟩
 |_,_, @Rdy.lst _ _ a xs ds hq ha,u,r=>by
  cases(show u=Value.ref a from r);obtain⟨its,rv,⟨o,n,ho,hc,_,hd⟩,hz⟩:=I.list hq
  obtain⟨as,ra⟩:=RdyAll.reads I ha rv
  exact⟨_,.list ho hc hd (by simpa using ra)⟩
theorem RdyAll.reads(I:Inv X pins σ H s):∀{xs:List V} {ds:List PyData},RdyAll X.K H xs ds -> ∀{us:List Value},Vals xs us -> ∃as,ReadsAll s.heap us ds as
 |_,_,.nil,_,.nil=>⟨_,.nil⟩
 |_,_,.cons h t,_,.cons r rs=>by
  obtain⟨as,h1⟩:=Rdy.reads I h r
  obtain⟨bs,h2⟩:=RdyAll.reads I t rs
  exact⟨_,.cons h1 h2⟩
end
end
section
variable {X:Cx}
open PySem.SeqAt in
noncomputable def rg(K:af)(f:Bool ->Bool):R2:=fun x y H Q=>∃d e,Rdy K H x d /\ Rdy K H y e /\ shaped d=true /\ shaped e=true /\ Q (.bl (f (PyData.eqv d e))) H
theorem qw(hu:X.A.units+64<cLine):OpR X (compareOp .Eq) (rg X.K id):=by
 intro pins s σ H x y v u Q I rx ry h;obtain⟨d,e,hd,he,sd,se,q⟩:=h
 obtain⟨as,ra⟩:=hd.reads I rx
 obtain⟨bs,rb⟩:=he.reads I ry
 exact eq_dataH ra rb sd se hu ⟨.bl _,H,I,rfl,q⟩
theorem qt(hu:X.A.units+64<cLine):OpR X (compareOp .NotEq) (rg X.K not):=by
 intro pins s σ H x y v u Q I rx ry h;obtain⟨d,e,hd,he,sd,se,q⟩:=h
 obtain⟨as,ra⟩:=hd.reads I rx
 obtain⟨bs,rb⟩:=he.reads I ry
 exact ne_dataH ra rb sd se hu ⟨.bl _,H,I,rfl,q⟩
end
noncomputable def Ext(H H':Hp):Prop:=∀b o,H b=some o ->H' b=some o
theorem Ext.refl(H:Hp):Ext H H:=fun _ _ h=>h
theorem Ext.trans{H H1 H2:Hp}(a:Ext H H1)(b:Ext H1 H2):Ext H H2:=fun c o h=>b c o (a c o h)
theorem Ext.upd{H:Hp}{p:Addr}{o:HO}(h:H p=none):Ext H (upd H p o):=fun b u e=>by rw[fy (fu e h)];exact e
theorem Ext.then{H H1:Hp}{p:Addr}{o:HO}(a:Ext H H1)(h:H1 p=none):Ext H (L2.upd H1 p o):=a.trans (Ext.upd h)
theorem Ext.none{H H':Hp}(e:Ext H H'){l:Addr}(h:H' l= .none):H l= .none:=by
 cases q:H l with
 |none=>rfl
 |some o=>rw[e l o q] at h;cases h
theorem Ext.sqT{K:af}{H H':Hp}{a:Addr}{xs:List V}(e:Ext H H')(h:SqT K H a xs):SqT K H' a xs:=by
 rcases h with(h|⟨o,h⟩)|h
 ·exact .inl (.inl (e _ _ h))
 ·exact .inl (.inr ⟨o,e _ _ h⟩)
 ·exact .inr h
theorem Ext.sqL{K:af}{H H':Hp}{a:Addr}{xs:List V}(e:Ext H H')(h:SqL K H a xs):SqL K H' a xs:=by
 rcases h with(h|⟨o,h⟩)|h
 ·exact .inl (.inl (e _ _ h))
 ·exact .inl (.inr ⟨o,e _ _ h⟩)
 ·exact .inr h
mutual
theorem Rdy.ext{K:af}{H H':Hp}(e:Ext H H'):∀{x:V} {d:PyData},Rdy K H x d ->Rdy K H' x d
 |_,_,.non=> .non
 |_,_,.bl b=> .bl b
 |_,_,.int b=> .int b
 |_,_,.str b=> .str b
 |_,_,.tup h t=> .tup (e.sqT h) (RdyAll.ext e t)
 |_,_,.lst h t=> .lst (e.sqL h) (RdyAll.ext e t)
theorem RdyAll.ext{K:af}{H H':Hp}(e:Ext H H'):∀{xs:List V} {ds:List PyData},RdyAll K H xs ds ->RdyAll K H' xs ds
 |_,_,.nil=> .nil
 |_,_,.cons h t=> .cons (Rdy.ext e h) (RdyAll.ext e t)
end
end L2
namespace L2
open PySem PySem.Spec PyProof.Rows
structure FnB(P:Program)(w:World)(K:af)(mg:Str ->Option Value)(base:Heap)(CX:CXT)(k:Nat)(x:Str)(ps:List Str)(sp:Sp):Prop where
 ex:∃f fd,FnOk P w K mg base CX k f fd ps sp /\ mg x=some (.ref f) /\ av K (.ref f)=true /\ Binds K fd ps []
section
variable {X:Cx} {CX:CXT} {k:Nat} {ps:List Str} {sp:Sp} {E:XK} {x:Str} {p pos:Pos} {e:Expr} {es:List Expr} {t:TA}
theorem fQ(F:FnB X.prog X.w X.K X.mg X.base CX k x ps sp)(hr:Room k X.A)(hg:Gl X x)(hx:kL CX X E)
  (ha:PA X (e::es) t) (hdb:(x==("__debug__":Str))=false:=by decide) (he:starEach (e::es) X.env=(false,eval e X.env)::starEach es X.env:=by rfl) (hpl:(backTo pos (starEach es X.env)).any (·.1)=false:=by rfl):
  PE X (.Call (.Name x p) (e::es) [] pos) (kN sp [] E t):=by
 obtain⟨f,fd,h1,h2,h3,h4⟩:=F.ex
 exact oM h1 hr hg h2 h3 h4 .nil hx ha hdb he hpl
end
theorem FnB.of{P:Program}{w:World}{K:af}{mg:Str ->Option Value}{base:Heap}{CX:CXT}{k:Nat}{x:Str}{ps:List Str}{sp:Sp}{f:Addr}{fd:FuncData}(h:FnOk P w K mg base CX k f fd ps sp)(m:mg x=some (.ref f))(kp:av K (.ref f)=true)(b:Binds K fd ps []):FnB P w K mg base CX k x ps sp:=⟨f,fd,h,m,kp,b⟩
noncomputable def gG{α:Type}(o:Option α)(k:α ->Prop):Prop:=match o with|some v=>k v|none=>False
noncomputable def ju(o:Option HO):Option (List V):=match o with
 |some (.lst xs)=>some xs
 |some (.tup xs)=>some xs
 |_=>none
theorem ix(xs:List V):ju (some (.lst xs))=some xs:=rfl
theorem i4(xs:List V):ju (some (.tup xs))=some xs:=rfl
noncomputable def ixF:R2:=fun x y H Q=>match x,y with
 | .ref p,.int i=>gG (ju (H p)) fun xs=>gG (atI xs i) fun v=>Q v H
 |_,_=>False
theorem jE{X:Cx}:IxR X ixF:=by
 intro value slice pins s σ H x y v u Q I rx ry q hs;unfold ixF at q;split at q
 ·rename_i p i
  cases e:H p with
  |none=>rw[e] at q;exact q.elim
  |some o=>
   rw[e] at q;cases o with
   |lst xs=>
    have q:gG (atI xs i) fun v=>Q v H:=q
    unfold gG at q;split at q
    ·rename_i w hw
     exact md value slice pins s σ H _ _ v u Q I rx ry ⟨p,xs,i,w,rfl,rfl,SqL.of e,hw,q⟩ hs
    ·exact q.elim
   |tup xs=>
    have q:gG (atI xs i) fun v=>Q v H:=q
    unfold gG at q;split at q
    ·rename_i w hw
     exact qH value slice pins s σ H _ _ v u Q I rx ry ⟨p,xs,i,w,rfl,rfl,SqT.of e,hw,q⟩ hs
    ·exact q.elim
   |_=>exact q.elim
 ·exact q.elim
theorem nL{α:Type}(a:α)(l:List α):atI (a::l) 0=some a:=gw (j:=0) rfl
theorem nK{α:Type}(a b:α)(l:List α):atI (a::b::l) 1=some b:=gw (j:=1) rfl
theorem nJ{α:Type}(a b c:α)(l:List α):atI (a::b::c::l) 2=some c:=gw (j:=2) rfl
theorem nI{α:Type}(a b c d:α)(l:List α):atI (a::b::c::d::l) 3=some d:=gw (j:=3) rfl
theorem fO{α:Type}(a:α)(k:α ->Prop):gG (some a) k=k a:=rfl
noncomputable def pH:V ->V ->V ->Hp ->(Hp ->Prop) ->Prop:=fun o i v H Q=>match o,i with
 | .ref p,.int k=>(match H p with
  |some (.lst xs)=>gG (ixN xs.length k) fun j=>Q (upd H p (.lst (xs.set j v)))
  |_=>False)
 |_,_=>False
theorem qc{X:Cx}:rN X pH:=by
 intro pins s σ H o i v ov iv u Q I ro ri rv q;unfold pH at q;split at q
 ·rename_i p k
  split at q
  ·rename_i xs e
   unfold gG at q;split at q
   ·rename_i j hj
    exact set_list pins s σ H _ _ v ov iv u Q I ro ri rv ⟨p,xs,k,j,rfl,rfl,e,hj,q⟩
   ·exact q.elim
  ·exact q.elim
 ·exact q.elim
noncomputable def qW(dsc scope:Scope)(N0 N:List Str)(k:Nat)(js:List Nat):Bool:=
 scope.kind== .function&&scope.names.all (fun y=>y.2 != .cell)&&scope.names.all (fun y=>y.2 != .local||scope.names.lookup y.1==some .local)&&
 scope.names.all (fun y=>y.2 != .free||dsc.names.lookup y.1==some .cell||dsc.names.lookup y.1==some .free)&&N.length==k+js.length&&
 (aw js.length).all (fun i=>match js[i]? with|some j=>(match N[k+i]? with|some x=>N0[j]? ==some x&&scope.names.lookup x==some .free|none=>false)|none=>false)
theorem CScope.of_ok{X:Cx}{dsc scope:Scope}{N0 N:List Str}{k:Nat}{js:List Nat}(e:X.env.scope=dsc)(n:X.N=N0)(h:qW dsc scope N0 N k js=true):CScope X scope N k js:=by
 subst e n;unfold qW at h;simp only[b6,cX] at h;obtain⟨⟨⟨⟨⟨h1,h2⟩,h3⟩,h4⟩,h5⟩,h6⟩:=h
 refine⟨by simpa using h1,fun y hy=>by simpa using h2 y hy,fun y hy hl=> ?_,fun y hy hl=> ?_,by simpa using h5,fun i j hj=> ?_⟩
 ·have:=h3 y hy
  simpa[hl] using this
 ·have:=h4 y hy
  simp only[hl,bne_self_eq_false,eS,Bool.or_eq_true,beq_iff_eq] at this;exact this
 ·have hi:i<js.length:=(ah.mp hj).1
  have:=h6 i (by simpa using hi)
  rw[hj] at this;dsimp only at this;cases q:N[k+i]? with
  |none=>rw[q] at this;cases this
  |some x=>
   rw[q] at this;simp only[b6,beq_iff_eq] at this;exact⟨x,rfl,this.1,this.2⟩
theorem l8{K:af}{a:Addr}{xs:List V}{g:TG}{tt:TT}{te:TE}{k:Nat}{js:List Nat}{σ:St}{D:Addr}{Q:VK}{H:Hp}(Pv:Nat ->List V ->Hp ->Prop)(h0:Pv 0 [] (upd H D (.lst [])))
  (hn:xs.length<sizeLine) (hl:∀i ys H,i<=xs.length ->Pv i ys H ->H D=some (.lst ys) /\ ys.length<=i /\ SqL K H a xs)
  (hs:∀i x ys H,xs[i]? =some x ->Pv i ys H ->g x (stLC σ k js) H fun σ2 H2=>(σ2.drop k=frV σ js /\ σ2.length=k+js.length) /\ tt σ2 H2 fun b H3=>if b=true then te σ2 H3 fun y H4=>H4 D=some (.lst ys) /\ Pv (i+1) (ys++[y]) (upd H4 D (.lst (ys++[y]))) else Pv (i+1) ys H3)
  (hd:∀ys H,Pv xs.length ys H ->Q (.ref D) H):
  ∃W:Nat ->Nat ->List V ->Hp ->Prop,(∃m,W 0 m [] (upd H D (.lst []))) /\ ∀i m ys H,W i m ys H ->H D=some (.lst ys) /\
  (((Itl K a).stop i H /\ Q (.ref D) H)∨((Itl K a).go i H /\ ys.length<sizeLine /\ ∃N:List V ->Hp ->Prop,(∀ys' H',N ys' H' -> ∃m',m'<m /\ W (i+1) m' ys' H') /\
   ∀x H',(Itl K a).yld i H x H' ->g x (stLC σ k js) H' fun σ2 H2=>(σ2.drop k=frV σ js /\ σ2.length=k+js.length) /\ tt σ2 H2 fun b H3=>if b=true then te σ2 H3 fun y H4=>H4 D=some (.lst ys) /\ N (ys++[y]) (upd H4 D (.lst (ys++[y]))) else N ys H3)):=by
 refine⟨fun i m ys H=>m=xs.length-i /\ i<=xs.length /\ Pv i ys H,⟨xs.length,by simp,aN _,h0⟩,?_⟩;rintro i m ys H ⟨rfl,hi,p⟩;obtain⟨e1,e2,q⟩:=hl i ys H hi p
 refine⟨e1,?_⟩
 by_cases hlt:i<xs.length
 ·refine .inr ⟨⟨xs,xs[i],q,by simp[hlt]⟩,by omega,Pv (i+1),fun ys' H' p'=>⟨xs.length-(i+1),by omega,rfl,hlt,p'⟩,fun x H' y=> ?_⟩;obtain⟨e,y⟩:=y
  subst e;exact hs i x ys _ (y xs q) p
 ·have e:i=xs.length:=by omega
  subst e;exact .inl ⟨⟨xs,q,ak _⟩,hd ys H p⟩
end L2
namespace L2
open PySem PySem.Spec PyProof.Rows
section
variable {X:Cx} {st:Stmt} {rest:List Stmt} {t u:TS}
noncomputable def sr(t u:TS):TS:=fun D σ H=>∃Pv:St ->Hp ->Prop,t {D with nx:=Pv} σ H /\ ∀σ H,Pv σ H ->u D σ H
theorem fP(h1:PS X st t)(h2:PSs X rest u):PSs X (st::rest) (sr t u):=by
 intro pins s σ H D I h;obtain⟨Pv,ha,hb⟩:=h
 refine wpAny_execs_cons (thn (h1 pins s σ H {D with nx:=Pv} I ha) fun f s1 q=> ?_);cases f with
 |next=>
  obtain⟨σ',H',I',q⟩:=q
  exact h2 pins s1 σ' H' D I' (hb σ' H' q)
 |ret v=>exact q
 |brk=>exact q
 |cont=>exact q
end
theorem CMulA.of{m n:Nat}{i j:Int}(h:Bd m i)(k:Bd n j)(hm:m<=100000)(hn:n<=100000):CMulA i j:= .inr ⟨h.mono hm,k.mono hn⟩
theorem CMulA.left{i j:Int}(h1: -(2^64)<i)(h2:i<2^64):CMulA i j:= .inl (.inl ⟨h1,h2⟩)
theorem CMulA.right{i j:Int}(h1: -(2^64)<j)(h2:j<2^64):CMulA i j:= .inl (.inr ⟨h1,h2⟩)
noncomputable def Feed(H:Hp)(p:Addr):Prop:=∃a b c:Int,H p=some (.lst [.int a,.int b,.int c])
structure FX(p:Addr)(H H':Hp):Prop where
 feed:Feed H' p
 keep:∀b o,b≠p ->H b=some o ->H' b=some o
theorem FX.trans{p:Addr}{H H1 H2:Hp}(a:FX p H H1)(b:FX p H1 H2):FX p H H2:=⟨b.feed,fun c o hc h=>b.keep c o hc (a.keep c o hc h)⟩
theorem FX.refl{p:Addr}{H:Hp}(h:Feed H p):FX p H H:=⟨h,fun _ _ _ h=>h⟩
theorem FX.upd{p q:Addr}{H H1:Hp}{o:HO}(a:FX p H H1)(h:H1 q=none):FX p H (L2.upd H1 q o):=by
 obtain⟨x,y,z,e⟩:=a.feed
 exact⟨⟨x,y,z,by rw[fy (fu e h)];exact e⟩,fun b u hb hu=>by rw[fy (fu (a.keep b u hb hu) h)];exact a.keep b u hb hu⟩
theorem FX.set{p q:Addr}{H H1:Hp}{o:HO}(a:FX p H H1)(hn:H q=none)(hq:q≠p):FX p H (L2.upd H1 q o):=by
 obtain⟨x,y,z,e⟩:=a.feed
 refine⟨⟨x,y,z,by rw[fy (Ne.symm hq)];exact e⟩,fun b u hb hu=> ?_⟩;rw[fy (fu hu hn)];exact a.keep b u hb hu
theorem FX.ext{p:Addr}{H H':Hp}{o:HO}(h:H p=none)(a:FX p (L2.upd H p o) H'):Ext H H':=fun b u e=>a.keep b u (fu e h) (by rw[fy (fu e h)];exact e)
theorem Feed.upd{p q:Addr}{H:Hp}{o:HO}(a:Feed H p)(h:H q=none):Feed (L2.upd H q o) p:=by
 obtain⟨x,y,z,e⟩:=a
 exact⟨x,y,z,by rw[fy (fu e h)];exact e⟩
theorem fw{H:Hp}{q b:Addr}{o u:HO}(h:H q=none)(e:H b=some u):upd H q o b=some u:=by rw[fy (fu e h)];exact e
end L2
namespace L2
open PySem PySem.Spec PyProof.Rows
theorem Bd.lit{n:Nat}{i:Int}(h:i.natAbs<2^64)(hn:64<=n):Bd n i:=Bd.mono (m:=64) h hn
theorem rq:Bd 100000 10=True:=eq_true (Bd.lit (by decide) (by decide))
theorem rp:Bd 9000 64=True:=eq_true (Bd.lit (by decide) (by decide))
theorem bd2:Bd 9000 2=True:=eq_true (Bd.lit (by decide) (by decide))
theorem bd4:Bd 9000 4=True:=eq_true (Bd.lit (by decide) (by decide))
theorem bd3:Bd 9000 3=True:=eq_true (Bd.lit (by decide) (by decide))
theorem CMulA.mod{x m y:Int}(h0:0<m)(h:m<=2^64):CMulA (x%m) y:=by
 have h1:=bW x (by omega:m≠0)
 have h2:=bB x h0
 exact .left (by omega) (by omega)
theorem jh:ixN 3 0=some 0:=rfl
theorem jg:ixN 3 1=some 1:=rfl
theorem jf:ixN 3 2=some 2:=rfl
theorem jj:ixN 2 0=some 0:=rfl
theorem ji:ixN 2 1=some 1:=rfl
theorem je:ixN 4 0=some 0:=rfl
theorem jd:ixN 4 1=some 1:=rfl
theorem jc:ixN 4 2=some 2:=rfl
theorem jb:ixN 4 3=some 3:=rfl
theorem pz{xs:List Int}{k:Int}(h:0<xs.length):∃x,atI (xs.map V.int) (k%(xs.length:Int))=some (.int x) /\ x∈xs:=by
 have h1:=bW k (by omega:(xs.length:Int)≠0)
 have h2:=bB k (by omega:0<(xs.length:Int))
 obtain⟨j,hj⟩:∃j:Nat,k%(xs.length:Int)=(j:Int):=⟨(k%(xs.length:Int)).toNat,by omega⟩
 rw[hj] at h2⊢;have hjl:j<xs.length:=by omega
 exact⟨xs[j],gw (by rw[ar];simp[hjl]),el hjl⟩
end L2
namespace L2
open PySem PySem.Spec PyProof.Rows
section
variable {g:TG} {tt:TT} {te tl:TE} {ta:TA} {k:Nat} {js:List Nat} {σ:St} {Q:VK} {H:Hp} {tb:TS} {Dn:Ends} {K:af} {a:Addr} {xs:List V}
theorem iT(ha:∀R:VK,R (.ref a) H ->tl σ H R)(hq:SqL K H a xs)(hn:xs.length<1000000)(Pv:Addr ->Nat ->List V ->Hp ->Prop)(h0:∀D,H D=none ->Pv D 0 [] (upd H D (.lst [])))
  (hl:∀D i ys H,i<=xs.length ->Pv D i ys H ->H D=some (.lst ys) /\ ys.length<=i /\ SqL K H a xs)
  (hs:∀D i x ys H1,H D=none ->xs[i]? =some x ->Pv D i ys H1 ->g x (L2.stLC σ k js) H1 fun σ2 H2=>(σ2.drop k=frV σ js /\ σ2.length=k+js.length) /\ tt σ2 H2 fun b H3=>if b=true then te σ2 H3 fun y H4=>H4 D=some (.lst ys) /\ Pv D (i+1) (ys++[y]) (upd H4 D (.lst (ys++[y]))) else Pv D (i+1) ys H3)
  (hd:∀D ys H1,H D=none ->Pv D xs.length ys H1 ->Q (.ref D) H1):tLC (ml K tl) k js g tt te σ H Q:=
 ha _ ⟨a,rfl,⟨xs,hq⟩,fun D hD=>l8 (Pv D) (h0 D hD) (dq hn (by decide)) (fun i ys H hi p=>hl D i ys H hi p) (fun i x ys H hi p=>hs D i x ys H hD hi p) (fun ys H p=>hd D ys H hD p)⟩
theorem gx(n:Nat)(ha:∀R:List V ->Hp ->Prop,R [.int n] H ->ta σ H R)(hn:n<1000000)(Pv:Nat ->St ->Hp ->Prop)(h0:Pv 0 σ H)
  (hs:∀i σ H,i<n ->Pv i σ H ->g (.int (0+(i:Int))) σ H fun σ2 H2=>tb {Dn with nx:=Pv (i+1),ct:=Pv (i+1),bk:=Dn.nx} σ2 H2) (hd:∀σ H,Pv n σ H ->Dn.nx σ H):p5 (qK ta) g tb Dn σ H:=
 ha _ ⟨n,rfl,by omega,by omega,iE (lo:=0) (n:=(n:Int).toNat) Pv h0 (fun i σ H hi p=>hs i σ H (by simpa using hi) p) (fun σ H p=>hd σ H (by simpa using p))⟩
theorem lz(ha:∀R:VK,R (.ref a) H ->tl σ H R)(Pv:Nat ->St ->Hp ->Prop)(h0:Pv 0 σ H)(hl:∀i σ H,i<=xs.length ->Pv i σ H ->SqL K H a xs)
  (hs:∀i x σ H,xs[i]? =some x ->Pv i σ H ->g x σ H fun σ2 H2=>tb {Dn with nx:=Pv (i+1),ct:=Pv (i+1),bk:=Dn.nx} σ2 H2) (hd:∀σ H,Pv xs.length σ H ->Dn.nx σ H):p5 (ml K tl) g tb Dn σ H:=
 ha _ ⟨a,rfl,⟨xs,hl 0 σ H (aN _) h0⟩,nB (xs:=xs) Pv h0 hl hs hd⟩
end
end L2
namespace L2
open PySem PySem.Spec PyProof.Rows
section
variable {X:Cx} {K:af}
theorem jL(hK:X.K=K):gz X (.builtin "isinstance") (rR K):=by subst hK;exact nF
noncomputable def lN(K:af):List V ->Hp ->VK ->Prop:=fun xs H Q=>∃p ys,xs=[.ref p] /\ (SqL K H p ys∨SqT K H p ys) /\ Q (.int ys.length) H
theorem jK(hK:X.K=K):gz X (.builtin "len") (lN K):=by subst hK;exact ig
theorem nu(hK:X.K=K):IxR X (rQ K):=by subst hK;exact md
theorem mF(hK:X.K=K)(hc:X.calm=true):gz X (.builtin "all") (qh K fun bs=>bs.all id):=by subst hK;exact nG hc
theorem oP(hK:X.K=K)(hu:X.A.units+64<cLine):OpR X (compareOp .Eq) (rg K id):=by subst hK;exact qw hu
theorem lW(hK:X.K=K)(hu:X.A.units+64<cLine):OpR X (compareOp .NotEq) (rg K not):=by subst hK;exact qt hu
theorem g4{tg l:Expr}{tl:TE}(hK:X.K=K)(hl:PE X l tl):PI X tg l (ml K tl):=by subst hK;exact oF hl
end
end L2
namespace L2
open PySem
theorem Feed.ne{p t:Addr}{H:Hp}(h:Feed H p)(ht:H t=none):t≠p:=by
 obtain⟨a,b,c,e⟩:=h
 exact(fu e ht).symm
end L2
namespace L2
open PySem PySem.Spec PyProof.Rows
noncomputable def hX(o:Option HO):Option (List V):=match o with
 |some (.lst xs)=>some xs
 |_=>none
theorem gL(xs:List V):hX (some (.lst xs))=some xs:=rfl
theorem gD{o:Option HO}{xs:List V}(h:hX o=some xs):o=some (.lst xs):=by
 cases o with
 |none=>cases h
 |some o=>
  cases o with
  |lst ys=>rw[show ys=xs from aH.inj h]
  |_=>cases h
theorem gj{α:Type}{o:Option α}{k:α ->Prop}(h:gG o k):∃v,o=some v /\ k v:=by
 unfold gG at h;split at h
 ·exact⟨_,rfl,h⟩
 ·exact h.elim
theorem i5{K:af}{H:Hp}{p:Addr}{xs:List V}(h:ju (H p)=some xs):SqL K H p xs∨SqT K H p xs:=by
 cases e:H p with
 |none=>rw[e] at h;cases h
 |some o=>
  rw[e] at h;cases o with
  |lst ys=>rw[show ys=xs from aH.inj h] at e;exact .inl (SqL.of e)
  |tup ys=>rw[show ys=xs from aH.inj h] at e;exact .inr (SqT.of e)
  |_=>cases h
section
variable {X:Cx} {e:Expr}
theorem PE.imp{t t':TE}(h:PE X e t)(i:∀σ H Q,t' σ H Q ->t σ H Q):PE X e t':=fun pins s σ H Q I hw=>h pins s σ H Q I (i σ H Q hw)
noncomputable def tUp(t:TE):TE:=fun σ H Q=>∃R:VK,t σ H R /\ ∀x H1,R x H1 ->Q x H1
theorem PE.up{t:TE}(h:PE X e t):PE X e (tUp t):=fun pins s σ H Q I ⟨R,hw,hq⟩=>thn (h pins s σ H R I hw) fun v s1 ⟨x,H1,I1,r1,q1⟩=>⟨x,H1,I1,r1,hq x H1 q1⟩
end
theorem nS{n:Nat}(h:n<1000000):n<sizeLine:=dq h (by decide)
noncomputable def pA:V ->List V ->Hp ->VK ->Prop:=fun x vs H Q=>match x,vs with
 | .ref l,[y]=>gG (hX (H l)) fun xs=>xs.length<1000000 /\ Q .non (upd H l (.lst (xs++[y])))
 |_,_=>False
noncomputable def oC:V ->List V ->Hp ->VK ->Prop:=fun x vs H Q=>match x,vs with
 | .ref l,[]=>gG (hX (H l)) fun xs=>gG xs.getLast? fun y=>Q y (upd H l (.lst xs.dropLast))
 |_,_=>False
section
variable {X:Cx}
theorem qz:MtM X "list.append" pA:=by
 intro pins s σ H x vs v us Q I rx rv h;unfold pA at h;split at h
 ·rename_i l y
  obtain⟨xs,e,hz,q⟩:=gj h
  exact jC pins s σ H _ _ v us Q I rx rv ⟨l,xs,y,rfl,rfl,gD e,nS hz,q⟩
 ·exact h.elim
theorem oS:MtM X "list.pop" oC:=by
 intro pins s σ H x vs v us Q I rx rv h;unfold oC at h;split at h
 ·rename_i l
  obtain⟨xs,e,h⟩:=gj h
  obtain⟨y,ey,q⟩:=gj h
  refine qy pins s σ H _ _ v us Q I rx rv ⟨l,xs,y,rfl,rfl,gD e,?_,q⟩;rw[List.getLast?_eq_getElem?] at ey;exact ey
 ·exact h.elim
noncomputable def tML(r:V ->List V ->Hp ->VK ->Prop)(to:TE)(t:TA):TE:=fun σ H Q=>to σ H fun x H1=>match x with
 | .ref l=>(hX (H1 l)).isSome=true /\ t σ H1 fun vs H2=>r x vs H2 Q
 |_=>False
end
section
variable {X:Cx} {K:af} {a b:Expr} {ta tb:TE} {pos:Pos}
noncomputable def rn:R2:=fun x y H Q=>match x,y with
 | .ref a,.ref b=>gG (hX (H a)) fun xs=>gG (hX (H b)) fun ys=>xs.length+ys.length<1000000 /\ ∀p,H p=none ->Q (.ref p) (upd H p (.lst (xs++ys)))
 |_,_=>False
noncomputable def kT:List V ->Hp ->VK ->Prop:=fun vs H Q=>match vs with
 |[.ref p]=>gG (ju (H p)) fun ys=>∀l,H l=none ->Q (.ref l) (upd H l (.lst ys))
 |_=>False
theorem lm:gz X (.type "list") kT:=by
 intro pins s σ H xs us Q I r h;unfold kT at h;split at h
 ·rename_i p
  obtain⟨ys,e,h⟩:=gj h
  exact jJ pins s σ H _ us Q I r ⟨p,ys,rfl,i5 e,h⟩
 ·exact h.elim
noncomputable def pK:List V ->Hp ->VK ->Prop:=fun vs H Q=>match vs with
 |[.ref p]=>gG (ju (H p)) fun ys=>Q (.int ys.length) H
 |_=>False
theorem fW:gz X (.builtin "len") pK:=by
 intro pins s σ H xs us Q I r h;unfold pK at h;split at h
 ·rename_i p
  obtain⟨ys,e,h⟩:=gj h
  exact ig pins s σ H _ us Q I r ⟨p,ys,rfl,i5 e,h⟩
 ·exact h.elim
noncomputable def slF:V ->Option Int ->Option Int ->Hp ->VK ->Prop:=fun x lo hi H Q=>match x with
 | .ref a=>gG (hX (H a)) fun xs=>∀p,H p=none ->Q (.ref p) (upd H p (.lst (pq xs lo hi)))
 |_=>False
theorem sv:SlR X slF:=by
 intro pins s σ H x v vl vu lo hi sl Q I rx hs pl pu h;unfold slF at h;split at h
 ·rename_i p
  obtain⟨ys,e,h⟩:=gj h
  exact oo pins s σ H _ v vl vu lo hi sl Q I rx hs pl pu ⟨p,ys,rfl,SqL.of (gD e),h⟩
 ·exact h.elim
noncomputable def tyN(H:Hp):V ->Option String
 | .non=>some "NoneType"
 | .bl _=>some "bool"
 | .int _=>some "int"
 | .str _=>some "str"
 | .ref a=>(match H a with
  |some (.lst _)=>some "list"
  |some (.tup _)=>some "tuple"
  |_=>none)
 |_=>none
noncomputable def n6:String ->String ->Option Bool
 | "int","int"=>some true| "int","bool"=>some false| "bool","int"=>some true| "bool","bool"=>some true
 | "tuple","tuple"=>some true| "list","list"=>some true| "list","tuple"=>some false| "tuple","list"=>some false|_,_=>none
noncomputable def rj:List V ->Hp ->VK ->Prop:=fun vs H Q=>match vs with
 |[x,.ty T]=>gG (tyN H x) fun n=>gG (n6 n T) fun b=>Q (.bl b) H
 |_=>False
end
section
variable {X:Cx} {o e:Expr} {to:TE} {t:TA} {apos cpos:Pos}
theorem lU(ho:PE X o to)(ha:PA X [e] t)
  (hbase:attributeBase o "append" X.env (eval o X.env)=eval o X.env:=by rfl)
  (hfew:((backTo cpos (starEach [e] X.env)).all (fun x=> !x.1)&&(backToKw cpos (keywordEach [] X.env)).all (fun x=>x.1.isSome)
   &&decide ([e].length+([]:List Keyword).length+(if([]:List Keyword).isEmpty then 0 else 1)<30))=true:=by rfl)
  (hline:(apos.endLine==cpos.line)=true:=by rfl) (hs:starEach [e] X.env=(false,eval e X.env)::starEach [] X.env:=by rfl) (hplain:(backTo cpos (starEach [] X.env)).any (·.1)=false:=by rfl):
  PE X (.Call (.Attribute o "append" apos) [e] [] cpos) (tML pA to t):=by
 intro pins s σ H Q I h;refine qq cn PySem.F.slot_list_append PySem.F.type_list_append qz ho.up ha hbase hfew hline hs hplain pins s σ H Q I ⟨_,h,fun x H1 q=> ?_⟩;cases x with
 |ref l=>
  obtain⟨h1,h2⟩:=q
  obtain⟨xs,e⟩:=bH.mp h1
  exact⟨.inl ⟨rfl,xs,SqL.of (gD e)⟩,h2⟩
 |_=>exact q.elim
noncomputable def pX(r:V ->List V ->Hp ->VK ->Prop)(to:TE):TE:=fun σ H Q=>to σ H fun x H1=>match x with
 | .ref l=>(hX (H1 l)).isSome=true /\ r x [] H1 Q
 |_=>False
theorem oI(ho:PE X o to)(hbase:attributeBase o "pop" X.env (eval o X.env)=eval o X.env:=by rfl)(hline:(apos.endLine==cpos.line)=true:=by rfl):PE X (.Call (.Attribute o "pop" apos) [] [] cpos) (pX oC to):=by
 intro pins s σ H Q I h;refine qp cn PySem.F.slot_list_pop PySem.F.type_list_pop oS ho.up hbase hline pins s σ H Q I ⟨_,h,fun x H1 q=> ?_⟩;cases x with
 |ref l=>
  obtain⟨h1,h2⟩:=q
  obtain⟨xs,e⟩:=bH.mp h1
  exact⟨.inl ⟨rfl,xs,SqL.of (gD e)⟩,h2⟩
 |_=>exact q.elim
end
theorem kG:n6 "int" "int"=some true:=rfl
theorem kF:n6 "int" "bool"=some false:=rfl
theorem kE:n6 "bool" "int"=some true:=rfl
theorem kD:n6 "bool" "bool"=some true:=rfl
theorem kC:n6 "tuple" "tuple"=some true:=rfl
theorem kB:n6 "list" "list"=some true:=rfl
theorem kA:n6 "list" "tuple"=some false:=rfl
end L2
namespace L2
open PySem
theorem Ext.set{H H2:Hp}{D:Addr}{o:HO}(x:Ext H H2)(hD:H D= .none):Ext H (L2.upd H2 D o):=fun b u e=>by rw[fy (fu e hD)];exact x b u e
theorem FX.more{p:Addr}{H H1 H2:Hp}(f:FX p H H1)(x:Ext H1 H2):FX p H H2:=by
 obtain⟨a,b,c,e⟩:=f.feed
 exact⟨⟨a,b,c,x _ _ e⟩,fun b u hb e=>x _ _ (f.keep b u hb e)⟩
end L2
namespace L2
open PySem
noncomputable def sf(o:Option HO):Option (Int×Int×Int):=match o with
 |some (.tup [.int a,.int b,.int c])=>some (a,b,c)
 |_=>none
theorem gX(a b c:Int):sf (some (.tup [.int a,.int b,.int c]))=some (a,b,c):=rfl
noncomputable def sh(o:Option HO):Option (Int×Int):=match o with
 |some (.tup [.int a,.int b])=>some (a,b)
 |_=>none
theorem gY(a b:Int):sh (some (.tup [.int a,.int b]))=some (a,b):=rfl
noncomputable def B2(n:Nat)(x:Int×Int):Prop:=Bd n x.1 /\ Bd n x.2
end L2
namespace L2
open PySem
section
variable {X:Cx} {pos:Pos}
noncomputable def jH(n:Nat)(t:TGs):TG:=fun v σ H Q=>match v with
 | .ref a=>gG (ju (H a)) fun xs=>xs.length=n /\ t xs σ H Q
 |_=>False
theorem mL{es:List Expr}{k:Nat}{t:TGs}{n:Nat}(hc:X.calm=true)(h:PGs X es t)
  (hn:(assignEach es X.env).length=n:=by rfl) (hst:(assignEach es X.env).findIdx? (·.1)=none:=by rfl):PG X (.Tuple es k pos) (jH n t):=by
 intro pins s σ H v u Q I r hw;unfold jH at hw;split at hw
 ·rename_i a
  obtain⟨xs,e,hl,q⟩:=gj hw
  rcases i5 (K:=X.K) e with e|e
  ·exact nX hc h hn hst pins s σ H _ u Q I r (.inr ⟨a,xs,rfl,e,hl,q⟩)
  ·exact nX hc h hn hst pins s σ H _ u Q I r (.inl ⟨a,xs,rfl,e,hl,q⟩)
 ·exact hw.elim
end
end L2
namespace L2
open PySem
theorem Ext.fx{p:Addr}{H H1 H2:Hp}(x:Ext H H1)(hp:H p= .none)(f:FX p H1 H2):Ext H H2:=fun b o e=>f.keep b o (fu e hp) (x b o e)
end L2
namespace L2
open PySem
theorem qQ(a b c d:Int):PyData.eqv (.tuple [.int a,.int b]) (.tuple [.int c,.int d])=decide (a=c /\ b=d):=by
 rw[eJ];simp[PyData.eqv,PyData.eqvAll]
theorem nT{K:af}{H:Hp}{q:Addr}{a b:Int}(e:H q=some (.tup [.int a,.int b])):Rdy K H (.ref q) (.tuple [.int a,.int b]):= .tup (SqT.of e) (.cons (.int a) (.cons (.int b) .nil))
end L2
namespace L2
open PySem PySem.Spec PyProof.Rows
structure ExcC(K:af)(C:Addr):Prop where
 exc:PySem.W.excIn K C [.type "ValueError",.type "Exception",.type "BaseException",.type "object"] "ValueError.__new__"=true
 ga:bC K (.ref C) "__getattribute__"=some (some (.builtin "BaseException.__getattribute__"))
 nog:bC K (.ref C) "__getattr__"=some none
 cl:bC K (.ref C) "__class__"=some (some (.builtin "object.__class__"))
 hn:cR K (.builtin "object.__class__") "__get__"=some (some (.builtin "getset_descriptor.__get__"))
 htk:dk K (.builtin "object.__class__")=some true
 isc:(eU K C).isSome=true
 sube:cF K C (.type "BaseException")=some true
 subo:cF K C (.type "object")=some true
noncomputable def rZ(K:af)(C:Addr):Prop:=
 bC K (.ref C) "__getattribute__"=some (some (.builtin "BaseException.__getattribute__")) /\ bC K (.ref C) "__getattr__"=some none /\
 bC K (.ref C) "__class__"=some (some (.builtin "object.__class__")) /\ cR K (.builtin "object.__class__") "__get__"=some (some (.builtin "getset_descriptor.__get__")) /\
 dk K (.builtin "object.__class__")=some true /\ (eU K C).isSome=true /\ cF K C (.type "BaseException")=some true /\ cF K C (.type "object")=some true
noncomputable def IsExc(a C:Addr)(h:Heap):Prop:=∃(o:Obj) (vs:Array Value),h.get? a=some o /\ o.cls= .ref C /\ o.data= .fields vs
section
open PySem.W PySem.Builtin PySem.Builtin.ObjectAttr PySem.Builtin.Getset_descriptor
variable {prog:Program} {w:World} {A:Around} {E:Value ->Shared ->Prop} {h:Heap} {g:Array GenState} {d:Drawn} {t:Nat} {os:OsState} {a:Addr} {o:Obj} {vs:Array Value} {C:Addr} {K:af}
theorem IsExc.type{M:Model}(I:IsExc a C h):Looks M h (typeOf (.ref a)) (.ref C):=by
 obtain⟨o,vs,h1,h2,h3⟩:=I
 exact h2▸(Looks.ld h1).andThen .now
end
theorem ExcC.b{K:af}{C:Addr}(T:ExcC K C):rZ K C:=⟨T.ga,T.nog,T.cl,T.hn,T.htk,T.isc,T.sube,T.subo⟩
noncomputable def IsExcD(a C:Addr)(od:Option Addr)(h:Heap):Prop:=∃(o:Obj) (vs:Array Value),h.get? a=some o /\ o.cls= .ref C /\ o.data= .fields vs /\ ∀dx,od=some dx ->o.dict=some dx
theorem IsExcD.e{a C:Addr}{od:Option Addr}{h:Heap}(x:IsExcD a C od h):IsExc a C h:=by
 obtain⟨o,vs,h1,h2,h3,_⟩:=x
 exact⟨o,vs,h1,h2,h3⟩
noncomputable def sH(a C:Addr)(od:Option Addr):HO:= .ext (IsExcD a C od)
end L2
namespace L2
open PySem PySem.Spec PyProof.Rows
noncomputable def DKept(h h':Heap):Prop:=∀a o,h.get? a=some o -> ∃o',h'.get? a=some o' /\ o'.dict=o.dict
theorem DKept.refl{h:Heap}:DKept h h:=fun a o e=>⟨o,e,rfl⟩
theorem DKept.trans{h1 h2 h3:Heap}(x:DKept h1 h2)(y:DKept h2 h3):DKept h1 h3:=fun a o e=>by
 obtain⟨o1,e1,d1⟩:=x a o e
 obtain⟨o2,e2,d2⟩:=y a o1 e1
 exact⟨o2,e2,d2.trans d1⟩
inductive KD{α:Type}:Sem α ->Prop
 |pure (a:α):KD (.pure a)
 |raise (e:Value):KD (.raise e)
 |uns (x:String):KD (.unsupported x)
 |rule {t:String} {k:Unit ->Sem α}:KD (k ()) ->KD (.rule t k)
 |at {p:Pos} {k:Unit ->Sem α}:KD (k ()) ->KD (.at p k)
 |load {a:Addr} {p:Option Value} {k:Obj ->Sem α}:(∀o,KD (k o)) ->KD (.load a p k)
 |upd {a:Addr} {p:Option Value} {f:Obj ->Obj} {k:Unit ->Sem α}:(∀o,(f o).dict=o.dict /\ (o.isFreed=false ->(f o).isFreed=false)) ->KD (k ()) ->KD (.update a p f k)
 |alloc {o:Obj} {k:Addr ->Sem α}:(∀a,KD (k a)) ->KD (.alloc o k)
 |stack {k:List (Code×Pos) ->Sem α}:(∀l,KD (k l)) ->KD (.stack k)
 |ask {k:Setting ->Sem α}:(∀l,KD (k l)) ->KD (.ask k)
 |fresh {k:Tok ->Sem α}:(∀l,KD (k l)) ->KD (.fresh k)
theorem KD.bind{α β:Type}{t:Sem α}{f:α ->Sem β}(h:KD t)(g:∀a,KD (f a)):KD (t>>=f):=by
 induction h with
 |pure a=>exact g a
 |raise e=>exact .raise e
 |uns x=>exact .uns x
 |rule _ ih=>exact .rule ih
 |«at» _ ih=>exact .at ih
 |load _ ih=>exact .load ih
 |upd c _ ih=>exact .upd c ih
 |alloc _ ih=>exact .alloc ih
 |stack _ ih=>exact .stack ih
 |ask _ ih=>exact .ask ih
 |fresh _ ih=>exact .fresh ih
theorem qT{h:Heap}{a:Addr}{f:Obj ->Obj}(c:∀o,(f o).dict=o.dict /\ (o.isFreed=false ->(f o).isFreed=false)):DKept h (h.update a f):=by
 intro b o e
 by_cases hb:b=a
 ·subst hb;obtain⟨e1,e2⟩:=Heap.get?_some_iff.mp e
  refine⟨f o,Heap.get?_some_iff.mpr ⟨?_,(c o).2 e2⟩,(c o).1⟩;cases h with
  |mk objs l=>
   show(objs.modify b f)[b]? =_
   rw[Array.getElem?_modify,if_pos rfl];show Option.map f objs[b]? =_
   rw[show objs[b]? =some o from e1];rfl
 ·exact⟨o,Heap.get?_update_of_ne f (Ne.symm hb) e,rfl⟩
theorem KD.wp{α:Type}{M:Model}{Γ:PySem.Ctx}{t:Sem α}(h:KD t){h0:Heap}:∀{Q:α ->Pos ->Shared ->Prop} {E:Value ->Pos ->Shared ->Prop} {p:Pos} {s:Shared},DKept h0 s.heap ->Sem.wp M Γ t Q E p s ->
  Sem.wp M Γ t (fun a p' s'=>Q a p' s' /\ DKept h0 s'.heap) (fun e p' s'=>E e p' s' /\ DKept h0 s'.heap) p s:=by
 induction h with
 |pure a=>intro Q E p s d q;exact⟨q,d⟩
 |raise e=>intro Q E p s d q;exact⟨q,d⟩
 |uns x=>intro Q E p s d q;exact q
 |rule _ ih=>intro Q E p s d q;exact ih d q
 |«at» _ ih=>intro Q E p s d q;exact ih d q
 |load _ ih=>intro Q E p s d q;obtain⟨o,e,q⟩:=q;exact⟨o,e,ih o d q⟩
 |upd c _ ih=>intro Q E p s d q;obtain⟨e,q⟩:=q;exact⟨e,ih (d.trans (qT c)) q⟩
 |alloc _ ih=>intro Q E p s d q;exact ih _ (d.trans fun b o e=>⟨o,Heap.get?_push_of_some _ e,rfl⟩) q
 |stack _ ih=>intro Q E p s d q;exact ih _ d q
 |ask _ ih=>intro Q E p s d q;exact ih _ d q
 |fresh _ ih=>intro Q E p s d q;exact ih _ d q
theorem KD.any{α:Type}{M:Model}{A:Around}{t:Sem α}(h:KD t){Q:α ->Shared ->Prop}{E:Value ->Shared ->Prop}{s:Shared}(q:wpAny M A t Q E s):
  wpAny M A t (fun a s'=>Q a s' /\ DKept s.heap s'.heap) (fun e s'=>E e s' /\ DKept s.heap s'.heap) s:=fun Γ p hΓ=>h.wp .refl (q Γ p hΓ)
end L2
namespace L2
open PySem PySem.Spec PyProof.Rows
theorem ObjOk.there{P:Program}{w:World}{H:Hp}{h:Heap}{a:Addr}{o:HO}(x:ObjOk P w H h a o):∃u,h.get? a=some u:=by
 cases o with
 |lst xs=>obtain⟨_,_,_,_,e⟩:=x;exact⟨_,e⟩
 |tup xs=>obtain⟨_,_,_,ob,e,_⟩:=x;exact⟨_,e⟩
 |dK kvs=>obtain⟨_,_,_,_,ob,_,_,e,_⟩:=x;exact⟨_,e⟩
 |dT kvs=>obtain⟨_,_,_,_,ob,_,_,e,_⟩:=x;exact⟨_,e⟩
 |set S n=>obtain⟨ob,_,_,_,e,_⟩:=x;exact⟨_,e⟩
 |ins C dx fs=>obtain⟨_,_,_,e,_⟩:=x;exact⟨_,e⟩
 |own y=>exact x
 |xd fs=>obtain⟨_,⟨ob,_,_,e,_⟩,_⟩:=x;exact⟨_,e⟩
 |rng lo hi=>obtain⟨_,_,_,e⟩:=x;exact⟨_,e⟩
 |frz ob u=>exact⟨_,x.1⟩
 |tbl ps=>obtain⟨_,e,_⟩:=x;exact⟨_,e⟩
 |met f y=>exact⟨_,(show h.get? a=some _ from x)⟩
 |ext φ=>exact x.2.1
theorem fE{X:Cx}{P:Program}{w:World}:kL (CXE P w) X E0:=fun _ _ _ _ _ _ _ h=>by
 obtain⟨_,_,_,_,_,_,_,_,_,_,_,_,_,_,_,hE⟩:=h
 exact hE.elim
noncomputable def ke(C:Addr)(E:XK)(t:TA):TS:=fun _ σ H=>t σ H fun vs H1=>vs.length<=3 /\ E (.ref C) none H1
end L2
namespace L2
open PySem PySem.Spec PyProof.Rows
noncomputable def ki(σ0:St)(sp:Sp)(E:XK)(t:TA):TE:=fun σ H Q=>t σ H fun vs H1=>σ=σ0 /\ sp vs H1 Q E
noncomputable abbrev Cx.suite(X:Cx)(ev:Value):Cx:={X with A:=X.A.mark (some ev),calm:=false,xe:=fun _ _=>False}
section
variable {X:Cx} {pins pins' pn:List (Addr×Obj)} {σ:St} {H:Hp} {s:Shared} {W:Value ->Shared ->Prop} {ev:Value} {D:Ends} {f:Flow}
theorem Cx.Ok.suite(ok:X.Ok):(X.suite ev).Ok:=
 ⟨ok.mod,ok.kind,ok.glob,ok.blt,ok.above,ok.inj,ok.has,ok.cab,(fun z=>nomatch z),ok.frames,ok.stk,ok.exf,ok.bs,ok.bsz,ok.noex,ok.exfs,ok.funs,ok.frf⟩
theorem Inv.suite(I:Inv X pins σ H s):Inv (X.suite ev) pins σ H s:=⟨I.ok.suite,I.os,I.bare,I.base,I.loc,I.cell,I.free,I.freeC,I.pin,I.hok,I.len⟩
theorem Inv.track{a:Addr}{o:HO}(I:Inv X pins σ H s)(hn:H a=none)(h0:∀b u,X.s₀.heap.get? b=some u ->b∉X.ex ->b≠a)(hl:X.env.locals≠a)(hc:∀x c,X.env.cells.lookup x=some c ->c≠a)
  (hp:∀p∈X.pn++pins,p.1≠a) (new:ObjOk X.prog X.w (upd H a o) s.heap a o):Inv X pins σ (upd H a o) s:=by
 refine⟨I.ok,I.os,I.bare,⟨I.base.keep,I.base.slot,fun b u q n hx=> ?_,I.base.there,fun b xs q=> ?_,fun b u xs q=> ?_,fun b ps q=> ?_⟩,I.loc,I.cell,?_,fun x c e=> ?_,fun p hq=> ?_,fun b u q=> ?_,I.len⟩
 ·rw[fy (h0 b u q hx)];exact I.base.free b u q n hx
 ·have z:=I.base.tups b xs q
  rw[fy (fu z hn)];exact z
 ·have z:=I.base.frzs b u xs q
  rw[fy (fu z hn)];exact z
 ·obtain⟨more,z⟩:=I.base.tbls b ps q
  exact⟨more,by rw[fy (fu z hn)];exact z⟩
 ·rw[fy hl];exact I.free
 ·rw[fy (hc x c e)];exact I.freeC x c e
 ·obtain⟨e1,e2,e3,e4,e5⟩:=I.pin p hq
  exact⟨e1,by rw[fy (hp p hq)];exact e2,e3,e4,e5⟩
 ·by_cases hb:b=a
  ·subst hb;rw[fq] at q;cases q;exact new
  ·rw[fy hb] at q;exact(I.hok b u q).stay (fun c v _ z=>z) (fun c z=>by rw[fy (fu z hn)];exact z) fun c xs z=>by rw[fy (fu z hn)];exact z
end
noncomputable def g5(D:Ends)(i:Nat):Ends:={nx:=fun σ H=>D.nx (σ.set i none) H,rt:=D.rt,bk:=fun σ H=>D.bk (σ.set i none) H,ct:=fun σ H=>D.ct (σ.set i none) H}
noncomputable def si(K:af)(cD:Addr)(i:Nat)(th:TS)(D:Ends)(σ:St):XK:=fun cls od H'=>∃C,cls= .ref C /\ rZ K C /\ PySem.W.exmOne K (.ref C) (.ref cD)=some true /\
 ∀e,H' e=none ->th (g5 D i) (σ.set i (some (.ref e))) (upd H' e (sH e C od))
noncomputable def qX(K:af)(cD:Addr)(i:Nat)(tb:XK ->St ->TS)(th:TS):TS:=fun D σ H=>tb (si K cD i th D σ) σ D σ H
end L2
namespace L2
open PySem PySem.Spec PyProof.Rows
theorem FnB.imp{P:Program}{w:World}{K:af}{mg:Str ->Option Value}{base:Heap}{CX:CXT}{k:Nat}{x:Str}{ps:List Str}{sp sp':Sp}(F:FnB P w K mg base CX k x ps sp)(h:∀vs H Q E,sp' vs H Q E ->sp vs H Q E):FnB P w K mg base CX k x ps sp':=by
 obtain⟨f,fd,h1,h2,h3,h4⟩:=F.ex
 exact⟨f,fd,h1.imp h,h2,h3,h4⟩
section
variable {P:Program} {w:World} {K:af} {mg:Str ->Option Value} {base:Heap} {x qual:Str} {st:Stmt} {f:Addr} {fd:FuncData} {N ps:List Str} {k:Nat} {sp:Sp}
theorem okE(F:Fun K x qual st f fd)(S:FnScope N ps (fm st))(len:∀vs H Q E,sp vs H Q E ->vs.length=ps.length)
  (hb:∀(cdv:Value) (A:Around) (outer:List Env) (s:Shared) (H:Hp) (vs:List V) (Q:VK) (E:XK),Room k (A.deeper (envOfC qual (fm st) s.heap.objs.size f cdv)) ->sp vs H Q E ->
   ∃t,PSs (n8 (CXE P w) P w K mg base N qual (fm st) f cdv A outer s H E) (fG st) t /\ t {nx:=fun _ H'=>Q .non H',rt:=Q} (start N vs) H):FnOk P w K mg base (CXE P w) (k+1) f fd ps sp:=by
 have e:=F.ex
 obtain⟨oc,od,kV,doc,pm,an,cdv,ct,osl,e,lk,hcd⟩:=e
 subst e;exact qP lk hcd S len (hb cdv)
theorem okN(F:Fun K x qual st f fd)(S:FnScope N ps (fm st))(len:∀vs H Q E,sp vs H Q E ->vs.length=ps.length)
  (hb:∀(cdv:Value) (A:Around) (outer:List Env) (s:Shared) (H:Hp) (vs:List V) (Q:VK) (E:XK),Room k (A.deeper (envOfC qual (fm st) s.heap.objs.size f cdv)) ->sp vs H Q E ->
   ∃t,PSs (n8 (CXE P w) P w K mg base N qual (fm st) f cdv A outer s H E).nox (fG st) t /\ t {nx:=fun _ H'=>Q .non H',rt:=Q} (start N vs) H):FnOk P w K mg base (CXE P w) (k+1) f fd ps sp:=
 okE F S len fun cdv A outer s H vs Q E hr h=>by
  obtain⟨t,h1,h2⟩:=hb cdv A outer s H vs Q E hr h
  exact⟨t,h1.nox,h2⟩
end
end L2
namespace L2
open PySem PySem.Spec PyProof.Rows
section
variable {X:Cx}
theorem og{X:Cx}{pins:List (Addr×Obj)}{σ:St}{H:Hp}{s:Shared}{h':Heap}{tk:Nat}{wr:List Addr}{T:Addr}{x y:V}{u v:Value}(I:Inv X pins σ H s)(hf:∀b∈wr,mK X pins H b)(hT:s.heap.objs.size<=T)
  (ht:h'.IsTuple T #[u,v]) (rx:RelV x u) (ry:RelV y v) (k:∀b o,b∉wr ->s.heap.get? b=some o ->h'.get? b=some o):Inv X pins σ (upd H T (.tup [x,y])) {s with heap:=h',toks:=tk}:=by
 have hn:H T=none:=I.hok.fresh hT
 have tr:∀b w,H b=some w ->b∉wr:=fun b w e z=>by rw[(hf b z).1] at e;cases e
 refine I.step (g':=s.gens) (d':=s.drawn) (ch:=wr) (fun b hb=> ?_) (fun b o _ _ hc e _=>k b o hc e) (fun b o _ _ hc e _=>⟨o.slots,k b o hc e⟩) (fun b o hc e n=> ?_) (fun b o hc e=>⟨o,k b o hc e⟩) (fun b xs e=> ?_) (fun b o w e=> ?_) (fun b ps e=> ?_) (fun m hm=> ?_) (fun b w e=> ?_) I.bare
 ·obtain⟨f0,f1,f2,f3,f4,f5⟩:=hf b hb
  exact⟨f3,f1,f4,f5⟩
 ·rw[fy (ax (aq (Heap.lt_size e) hT))];exact n
 ·rw[fy (fu e hn)];exact e
 ·rw[fy (fu e hn)];exact e
 ·exact⟨#[],by rw[fy (fu e hn),e];simp⟩
 ·obtain⟨o,es,ep,ho,r⟩:=hm
  exact⟨o,es,ep,k _ o (fun z=>(hf _ z).2.1 rfl) ho,r⟩
 ·by_cases hb:b=T
  ·subst hb;rw[fq] at e;cases e;exact⟨show 2<=sizeLine by decide,[u,v],.cons rx (.cons ry .nil),ht⟩
  ·rw[fy hb] at e;refine(I.hok b w e).stay (fun c z hc q=>k c z ?_ q) (fun c q=>by rw[fy (fu q hn)];exact q) fun c xs q=>by rw[fy (fu q hn)];exact q
   rcases hc with rfl|hc
   ·exact tr _ _ e
   ·exact tr _ _ hc
end
end L2
namespace L2
open PySem PySem.Spec PyProof.Rows
noncomputable def iW(C:Addr)(E:XK):TS:=fun _ _ H=>E (.ref C) none H
end L2
namespace L2
open PySem PySem.Spec PyProof.Rows
section
variable {X:Cx} {pos:Pos}
noncomputable def mR(i j k:Nat)(ta:TA):TS:=fun D σ H=>ta σ H fun vs H1=>∃v w u,vs=[v,w,u] /\ D.nx (((σ.set i (some v)).set j (some w)).set k (some u)) H1
end
end L2
namespace L2
open PySem PySem.Spec PyProof.Rows
noncomputable def ph(o:Option HO):Option (List (Key×V)):=match o with
 |some (.dK kvs)=>some kvs
 |_=>none
theorem kH(kvs:List (Key×V)):ph (some (.dK kvs))=some kvs:=rfl
noncomputable def tDg(k:Str)(td:TE):TE:=fun σ H Q=>td σ H fun x H1=>match x with
 | .ref a=>gG (ph (H1 a)) fun kvs=>gG (iS kvs (Sum.inr k)) fun v=>Q v H1
 |_=>False
noncomputable def tDp(k:Str)(td tv:TE):TS:=fun D σ H=>tv σ H fun v H1=>td σ H1 fun x H2=>match x with
 | .ref a=>gG (ph (H2 a)) fun kvs=>kvs.length<1000000 /\ D.nx σ (upd H2 a (.dK (putK kvs (Sum.inr k) v)))
 |_=>False
end L2
namespace L2
open PySem PySem.Spec PyProof.Rows
theorem ni{prog:Program}{w:World}{A:Around}{E:Value ->Shared ->Prop}{s:Shared}{it d:Addr}{i ep:Nat}{o:Obj}{es:Array DictEntry}{e:DictEntry}{Q:Option Value ->Shared ->Prop}
  (hI:s.heap.IsKeyIter it d i es.size ep) (ho:s.heap.get? d=some o) (hd:o.data= .dict es ep) (he:es[i]? =some e)
  (h:∀h':Heap,h'.IsKeyIter it d (i+1) es.size ep ->Heap.SameBut it s.heap h' ->Q (some e.key) {s with heap:=h'}):
  wpAny (model prog w) A (pyNext (.ref it)) Q E s:=by
 unfold pyNext;refine wpAny_bind (wpAny_attempt (wpAny_callSpecial?_slot hI.typeIs F.slot_dict_keyiterator_next (wpAny_call_entry F.slot_dict_keyiterator_next hI.typeIs F.entry_dict_keyiterator_next ?_ (F.args_dict_keyiterator_next_1 _))));have hI':=hI
 obtain⟨oi,hoi,hcls,hdata⟩:=hI
 show wpAny (model prog w) A.in1 (Builtin.Dict_items.slot0 "__next__" {pos:=[.ref it]}>>=fun it'=>_) _ _ _
 refine wpAny_bind ?_;show wpAny (model prog w) A.in1 (pure (Value.ref it)) _ _ _
 refine wpAny_pure ?_;refine wpAny_bind ?_;refine wpAny_bind ?_;refine wpAny_bind ?_;refine wpAny_typeNameOfWhole_keyiter hI'.typeIs (wpAny_pure ?_);have hown:Builtin.Dict_items.ownsTuple "dict_keyiterator"=false:=by decide
 rw[hown,if_neg (by decide)];refine wpAny_bind (wpAny_fieldsOf hoi hdata ?_);show wpAny (model prog w) A.in1 (if(Value.ref d==Value.none)=true then _ else _) _ _ _
 rw[if_neg (show¬(Value.ref d==Value.none)=true from fun z=>nomatch (show false=true from z))];refine wpAny_bind ?_;show wpAny (model prog w) A.in1 (pure d) _ _ _
 refine wpAny_pure (wpAny_bind (wpAny_dictEntries ho hd ?_));dsimp only;rw[if_neg (by simp)];refine wpAny_bind ?_;show wpAny (model prog w) A.in1 (pure d) _ _ _
 refine wpAny_pure (wpAny_bind (wpAny_dictEpoch ho hd ?_));rw[if_neg (by simp)];refine wpAny_pure ?_;dsimp only;rw[if_neg (by omega),cS,he];dsimp only;refine wpAny_bind ?_;refine wpAny_bind ?_;refine wpAny_typeNameOfWhole_keyiter hI'.typeIs (wpAny_pure ?_);rw[hown,if_neg (by decide)];refine wpAny_bind (wpAny_isOneOf_keyiter hI'.typeIs ?_);refine wpAny_bind (wpAny_setField hoi hdata (show 0+1<4 by decide) ?_);refine wpAny_bind (wpAny_holding ?_);have hS:=Heap.SameBut.update s.heap it (Obj.mapFields fun x=>x.setIfInBounds (0+1) (rawInt ((i:Int)+1)))
 have hK:(s.heap.update it (Obj.mapFields fun x=>x.setIfInBounds (0+1) (rawInt ((i:Int)+1)))).IsKeyIter it d (i+1) es.size ep:=by
  refine⟨_,Heap.get?_update_self _ hoi ?_,?_,?_⟩
  ·obtain⟨c,dd,dt,sl⟩:=oi
   cases hdata;cases hcls;rfl
  ·obtain⟨c,dd,dt,sl⟩:=oi
   cases hdata;exact hcls
  ·obtain⟨c,dd,dt,sl⟩:=oi
   cases hdata;rfl
 show wpAny (model prog w) A.in1 (Builtin.Dict_items.isOneOf (Value.ref it) ["dict_keyiterator","dict_reversekeyiterator"]>>=fun b=>_) _ _ {s with heap:=s.heap.update it (Obj.mapFields fun x=>x.setIfInBounds (0+1) (rawInt ((i:Int)+1)))}
 refine wpAny_bind (wpAny_isOneOf_keyiter hK.typeIs ?_);show wpAny (model prog w) A.in1 (pure e.key) _ _ _
 exact wpAny_pure (wpAny_pure ⟨e.key,rfl,wpAny_pure (h _ hK hS)⟩)
theorem pe{prog:Program}{w:World}{A:Around}{E:Value ->Shared ->Prop}{s:Shared}{it d:Addr}{i ep:Nat}{o:Obj}{es:Array DictEntry}{Q:Option Value ->Shared ->Prop}
  (hh:A.handled=none) (hI:s.heap.IsKeyIter it d i es.size ep) (ho:s.heap.get? d=some o) (hd:o.data= .dict es ep) (he:es[i]? =none)
  (h:∀h':Heap,Heap.ExtBut it s.heap h' ->Q none {s with heap:=h'}):
  wpAny (model prog w) A (pyNext (.ref it)) Q E s:=by
 unfold pyNext;refine wpAny_bind (wpAny_attempt (wpAny_callSpecial?_slot hI.typeIs F.slot_dict_keyiterator_next (wpAny_call_entry F.slot_dict_keyiterator_next hI.typeIs F.entry_dict_keyiterator_next ?_ (F.args_dict_keyiterator_next_1 _))));have hI':=hI
 obtain⟨oi,hoi,hcls,hdata⟩:=hI
 show wpAny (model prog w) A.in1 (Builtin.Dict_items.slot0 "__next__" {pos:=[.ref it]}>>=fun it'=>_) _ _ _
 refine wpAny_bind ?_;show wpAny (model prog w) A.in1 (pure (Value.ref it)) _ _ _
 refine wpAny_pure ?_;refine wpAny_bind ?_;refine wpAny_bind ?_;refine wpAny_bind ?_;refine wpAny_typeNameOfWhole_keyiter hI'.typeIs (wpAny_pure ?_);have hown:Builtin.Dict_items.ownsTuple "dict_keyiterator"=false:=by decide
 rw[hown,if_neg (by decide)];refine wpAny_bind (wpAny_fieldsOf hoi hdata ?_);show wpAny (model prog w) A.in1 (if(Value.ref d==Value.none)=true then _ else _) _ _ _
 rw[if_neg (show¬(Value.ref d==Value.none)=true from fun z=>nomatch (show false=true from z))];refine wpAny_bind ?_;show wpAny (model prog w) A.in1 (pure d) _ _ _
 refine wpAny_pure (wpAny_bind (wpAny_dictEntries ho hd ?_));dsimp only;rw[if_neg (by simp)];refine wpAny_bind ?_;show wpAny (model prog w) A.in1 (pure d) _ _ _
 refine wpAny_pure (wpAny_bind (wpAny_dictEpoch ho hd ?_));rw[if_neg (by simp)];refine wpAny_pure ?_;dsimp only;rw[if_neg (by omega),cS,he];dsimp only;refine wpAny_bind ?_;refine wpAny_bind ?_;refine wpAny_typeNameOfWhole_keyiter hI'.typeIs (wpAny_pure ?_);rw[hown,if_neg (by decide)];refine wpAny_bind (wpAny_setField hoi hdata (show 0<4 by decide) ?_);refine wpAny_bind ?_;unfold newExc;refine wpAny_bind (wpAny_newTuple ?_ (aN _));refine wpAny_bind ?_;show wpAny (model prog w) A.in1 (do let has<-pure ((Manifest.find? "StopIteration").elim false fun t=>t.mro.contains "StopIteration"||t.mro.contains "SystemExit");pure (if has=true then([]:List Value).headD Value.none else Value.none)) _ _ _
 refine wpAny_bind (wpAny_pure (wpAny_pure ?_));refine wpAny_newObj_type ?_ (show 6<=sizeLine+2 by decide);refine wpAny_raiseNew_none hh ?_;refine wpAny_bind (wpAny_isInstance (T:="StopIteration") (b:=true) ⟨_,Heap.get?_push_size _ rfl,rfl⟩ rfl ?_);rw[if_pos rfl];refine wpAny_pure (h _ fun b o' hb q=> ?_);refine Heap.get?_push_of_some _ (Heap.get?_push_of_some _ ?_);rw[(Heap.SameBut.update s.heap it _).2 b hb];exact q
theorem nv{prog:Program}{w:World}{A:Around}{E:Value ->Shared ->Prop}{s:Shared}{d:Addr}{ep:Nat}{o:Obj}{es:Array DictEntry}{Q:Value ->Shared ->Prop}
  (hs:(d==sysModules)=false) (ho:s.heap.get? d=some o) (hc:o.ExactDict) (hd:o.data= .dict es ep)
  (h:Q (.ref s.heap.objs.size) {s with heap:=s.heap.push {cls:= .type "dict_keyiterator",data:= .fields #[.ref d,.int 0 0,.int es.size 0,.int ep 0]}}):
  wpAny (model prog w) A (pyIter (.ref d)) Q E s:=by
 have ht:s.TypeIs (.ref d) "dict":=⟨o,ho,hc.1⟩
 refine wpAny_pyIter_slot ht F.slot_dict_iter (wpAny_call_entry F.slot_dict_iter ht F.entry_dict_iter ?_ (F.args_dict_iter_1 _));refine wpAny_bind ?_;unfold Builtin.Dict.dictSlotNone;refine wpAny_bind ?_;unfold Builtin.Dict.notOrdered;rw[if_pos (by decide)];refine wpAny_bind (wpAny_typeOf ht ?_);rw[if_neg (by decide)];refine wpAny_pure ?_;show wpAny (model prog w) A.in1 (do let __do_lift<-(pure (Value.ref d,[]):Sem (Value×List Value));pure __do_lift.fst) _ _ _
 refine wpAny_bind (wpAny_pure (wpAny_pure ?_));refine wpAny_bind ?_;show wpAny (model prog w) A.in1 (pure d) _ _ _
 refine wpAny_pure (wpAny_bind ?_);unfold Builtin.Dict.showsAll;rw[if_neg (by rw[hs];decide)]
 refine wpAny_pure (wpAny_bind (wpAny_dictEntries ho hd (wpAny_bind (wpAny_dictEpoch ho hd (wpAny_bind ?_)))));refine wpAny_newObj_type (T:="dict_keyiterator") ?_ (show 4<=sizeLine+2 by decide);exact wpAny_pure ⟨_,rfl,"dict_keyiterator",_,⟨_,Heap.get?_push_size _ rfl,rfl⟩,F.slot_dict_keyiterator_next.lookup,h⟩
theorem ls{prog:Program}{w:World}{A:Around}(hh:A.handled=none)(I d:Addr)(hne:d≠I)(o:Obj)(es:Array DictEntry)(ep:Nat)(hd:o.data= .dict es ep):
  Walks prog w A I [I,d] [I] es.size (fun i v=>∃e,es[i]? =some e /\ v=e.key) fun i h=>h.IsKeyIter I d i es.size ep /\ h.get? d=some o where
 sub:=fun b hb=>by simp only[aD,bP,or_false] at hb⊢;exact .inl hb
 frame:=fun i h h' ⟨h1,h2⟩ k=>⟨h1.at fun o q=>k I (by simp) o q,k d (by simp) o h2⟩
 item:=fun i s Q E hi ⟨h1,h2⟩ k=>by
  obtain⟨e,he⟩:∃e,es[i]? =some e:=⟨es[i],bE hi⟩
  refine ni h1 h2 hd he fun h' k1 k2=>k e.key h' s.toks ⟨e,he,rfl⟩ ⟨k1,?_⟩ fun b ob hb q=> ?_
  ·rw[k2.2 d hne];exact h2
  ·rw[k2.2 b (by simpa using hb)];exact q
 done:=fun s Q E ⟨h1,h2⟩ k=>pe hh h1 h2 hd (by simp) fun h' k2=>k h' s.toks fun b ob hb q=>k2 b ob (by simpa using hb) q
 self:=fun i s Q E ⟨h1,h2⟩ k=>wpAny_pyIter_keyiter h1 k
theorem oj{prog:Program}{w:World}{d:Addr}{o:Obj}{es:Array DictEntry}{ep:Nat}(hs:(d==sysModules)=false)(hc:o.ExactDict)(hd:o.data= .dict es ep):
  PySem.W.KdlSrc prog w "dict" d d es.size (fun i v=>∃e,es[i]? =some e /\ v=e.key) fun h=>h.get? d=some o where
 type:=fun s h=>⟨o,h,hc.1⟩
 there:=fun h k=>⟨Heap.lt_size k,Heap.lt_size k⟩
 keep:=fun h h' k q=>q d (.inl rfl) o k
 notList:=by decide
 notTuple:=by decide
 hint:=fun A E s Q k q=>PySem.W.kdl_hint_dict ⟨o,k,hc.1⟩ q
 iter:=fun A s hh k=>⟨{cls:= .type "dict_keyiterator",data:= .fields #[.ref d,.int 0 0,.int es.size 0,.int ep 0]},_,fun E Q q=>nv hs k hc hd q,ls hh s.heap.objs.size d (ax (Heap.lt_size k)) o es ep hd,⟨_,Heap.get?_push_size _ rfl,rfl,rfl⟩,Heap.get?_push_of_some _ k⟩
section
variable {X:Cx} {pos pos':Pos}
theorem kt_at{H:Hp}:∀{kvs:List (List Key×V)} {xs:List (List Key×Addr×Value)},KT H kvs xs ->xs.length=kvs.length /\ ∀(i:Nat) (a:List Key×V) (b:List Key×Addr×Value),kvs[i]? =some a ->xs[i]? =some b ->H b.2.1=some (.tup (a.1.map kV)):=by
 intro kvs xs r
 induction r with
 |nil=>exact⟨rfl,fun i a b h=>by simp at h⟩
 | @cons p q ps qs h t ih=>
  refine⟨by simp[ih.1],fun i a b h1 h2=> ?_⟩;cases i with
  |zero=>cases h1;cases h2;exact h.2.1
  |succ i=>exact ih.2 i a b h1 h2
theorem jv:∀ks:List (List Key×Addr×Value),Vals ((ks.map fun x=>x.2.1).map V.ref) (ks.map fun x=>Value.ref x.2.1)
 |[]=> .nil
 |_::ks=> .cons rfl (jv ks)
theorem lp(hcalm:X.calm=true):gz X (.type "list") (fun vs H Q=>∃d kvs,vs=[.ref d] /\ H d=some (.dT kvs) /\ ∀(l:Addr) (as:List Addr),H l=none ->as.length=kvs.length ->(∀(i:Nat) (a:Addr) (k:List Key×V),as[i]? =some a ->kvs[i]? =some k ->H a=some (.tup (k.1.map kV))) ->Q (.ref l) (upd H l (.lst (as.map V.ref)))):=by
 intro pins s σ H xs us Q I r h;obtain⟨d,kvs,rfl,hd,q⟩:=h
 obtain⟨u,rfl,rx⟩:=vals1 r
 cases rx;obtain⟨hz,hs,ks,kt,o,es,ep,ho,hc,hdat,hes,_,_⟩:=qR I.hok hd
 obtain⟨hl,hk⟩:=kt_at kt
 have hsz:es.size=kvs.length:=by
  have:=congrArg List.length hes
  rw[ag,hl,bK] at this;exact this
 refine PySem.W.kdl_call (oj hs hc hdat) (I.ok.hd hcalm) ho (by rw[hsz];exact hz) fun h' tk acc c kp e hi=> ?_
 have hacc:acc.toList=(ks.map fun x=>Value.ref x.2.1):=by
  apply d6;intro j;rw[bA,ar]
  by_cases hj:j<acc.size
  ·have e1:=bE hj
   obtain⟨en,he,hv⟩:=hi.2 j _ e1
   rw[e1,hv];rw[<-bA,hes,ar] at he;cases hx:ks[j]? with
   |none=>rw[hx] at he;cases he
   |some x=>
    rw[hx] at he;cases he;rfl
  ·rw[Array.getElem?_eq_none (by omega),bX (by rw[hl, <-hsz, <-hi.1];omega)];rfl
 have hv:Vals ((ks.map fun x=>x.2.1).map V.ref) acc.toList:=by
  rw[hacc];exact jv _
 refine⟨.ref s.heap.objs.size,_,I.laid (a:=s.heap.objs.size) (o:= .lst ((ks.map fun x=>x.2.1).map V.ref)) (t':=tk) kp (ak _) ⟨?_,acc.toList,c,hv,?_⟩,rfl,q _ _ (I.hok.fresh (ak _)) ?_ ?_⟩
 ·rw[ag,ag,hl];exact hz
 ·rw[e]
 ·rw[ag,hl]
 ·intro i a k h1 h2;rw[ar] at h1;cases hx:ks[i]? with
  |none=>rw[hx] at h1;cases h1
  |some x=>
   rw[hx] at h1;cases h1;exact hk i k x h2 hx
noncomputable def qF:List V ->Option (List Key)
 |[]=>some []
 | .int i::r=>(qF r).map (Sum.inl i:: ·)
 |_=>none
theorem ky:∀{xs:List V} {k:List Key},qF xs=some k ->xs=k.map kV
 |[],k,h=>by cases h;rfl
 | .int i::r,k,h=>by
  simp only[qF] at h;cases e:qF r with
  |none=>rw[e] at h;cases h
  |some k'=>
   rw[e] at h;cases h;rw[ky e];rfl
noncomputable def p6(td ty tv:TE):TS:=fun D σ H=>tv σ H fun v H1=>td σ H1 fun x H2=>ty σ H2 fun y H3=>∃a b kvs xs k,x= .ref a /\ y= .ref b /\ H3 a=some (.dT kvs) /\ H3 b=some (.tup xs) /\ qF xs=some k /\ kvs.length<1000000 /\ D.nx σ (upd H3 a (.dT (putK kvs k v)))
theorem qj{o i value:Expr}{td ty tv:TE}(hu:X.A.units+1<cLine)(ho:PE X o td)(hi:PE X i ty)(hv:PE X value tv)(hs:swapsWith value (some (.Subscript o i pos')) pos.line X.env=pure false):
  PS X (.Assign [.Subscript o i pos'] value pos) (p6 td ty tv):=by
 intro pins s σ H D I h;refine wpAny_Assign_Subscript (thn (hv pins s σ H _ I h) fun r s1 ⟨v,H1,I1,rv,q1⟩=>thn (ho pins s1 σ H1 _ I1 q1) fun u s2 ⟨x,H2,I2,rx,q2⟩=>thn (hi pins s2 σ H2 _ I2 q2) fun iv s3 ⟨y,H3,I3,ry,a,b,kvs,xs,k,ex,ey,e1,e2,ek,hl,q3⟩=> ?_) hs;subst ex;subst ey;obtain rfl:u=Value.ref a:=rx
 rw[ky ek] at e2;exact mv hu I3 (DPut.t e1 e2 (nS hl)) ry rv fun s4 I4=>⟨σ,_,I4,q3⟩
end
end L2
namespace L2
open PySem PySem.Spec PyProof.Rows
noncomputable def Ite(K:af)(a:Addr):It:=
 ⟨fun i H=>∃xs,SqL K H a xs /\ i<xs.length,
  fun i H v H'=>∃t,v= .ref t /\ H t=none /\ ∀xs x,SqL K H a xs ->xs[i]? =some x ->H'=upd H t (.tup [.int (i:Int),x]),
  fun i H=>∃xs,SqL K H a xs /\ i=xs.length⟩
noncomputable def qL(K:af)(ta:TA):TI:=fun σ H R=>ta σ H fun vs H1=>∃a,vs=[.ref a] /\ (∃xs,SqL K H1 a xs) /\ R (Ite K a) H1
section
variable {X:Cx}
theorem ly{P:Program}{w:World}{K:af}{elts:List Expr}{kk:Nat}{pos:Pos}(n l:Addr)(h1:l<n):Turn P w K (.Tuple elts kk pos) (Ite K l) [n+1,n] (n+1)
  (fun i h=>(∃old,IsEnum h (n+1) n (↑i) old) /\ h.IsListIter n l i) where
 mem:=by simp
 obj:=fun i h st b hb=>by
  obtain⟨⟨old,z1⟩,⟨o1,e1,c1,d1⟩⟩:=st
  simp only[aD,bP,or_false] at hb;rcases hb with rfl|rfl
  ·exact⟨_,z1,fun v q=>by cases q⟩
  ·exact⟨_,e1,fun v q=>by rw[d1] at q;cases q⟩
 keep:=fun i h h' st k=>by
  obtain⟨⟨old,z1⟩,z4⟩:=st
  exact⟨⟨old,k _ (by simp) _ z1⟩,z4.at fun o e=>k _ (by simp) o e⟩
 item:=by
  intro X hP hw hK hc i pins s σ H E I hf st hg;subst hP hw hK;obtain⟨xs,q1,hi⟩:=hg
  obtain⟨us,r1,p1,_⟩:=I.list q1
  obtain⟨z1,z4⟩:=st
  have W:=WalksT.enumerate (prog:=X.prog) (w:=X.w) (I.ok.hd hc) (n+1) n l (em n) (ax (d7 h1)) (ax h1) us.toArray
  have len1:=r1.length
  refine W.item i s _ _ (by simp only[ao];omega) ⟨z1,z4,p1.isList⟩ fun T vals h' tk hPt hT hTup hMid hk=> ?_
  obtain⟨t,u,hu,rfl⟩:=hPt
  refine⟨.ref T,rfl,W.go elts kk pos i T _ _ _ hMid fun h'' st' hk'=> ?_⟩;obtain⟨x,hx⟩:∃x,xs[i]? =some x:=⟨_,aj hi⟩
  obtain⟨u',eu,rx⟩:=r1.get hx
  have e1:u'=u:=by
   have z:us[i]? =some u:=by simpa using hu
   rw[eu] at z;exact aH.inj z
  subst e1;have ap:=W.apart i T h' hMid
  have ht2:h''.IsTuple T #[.int (i:Int) t,u']:=hTup.at fun o e=>hk' T o ap e
  have J:=og (x:= .int (i:Int)) (tk:=tk) (h':=h'') I (wr:=[n+1,n]) hf hT ht2 ⟨t,rfl⟩ rx (fun b o hb e=>hk' b o hb (hk b o hb e))
  refine⟨.ref T,_,J,rfl,⟨T,rfl,I.hok.fresh hT,fun xs' x' a1 a3=> ?_⟩,⟨st'.1,st'.2.1⟩,fun b hb=> ?_⟩
  ·rw[I.list_inj a1 q1,hx] at a3;cases a3;rfl
  ·have hb0:=(hf b hb).1
   have hlt:b<s.heap.objs.size:=by
    obtain⟨old,z1⟩:=z1
    obtain⟨o1,e1,_⟩:=z4
    simp only[aD,bP,or_false] at hb;rcases hb with rfl|rfl
    ·exact Heap.lt_size z1
    ·exact Heap.lt_size e1
   rw[fy (ax (aq hlt hT))];exact hb0
 done:=by
  intro X hP hw hK hc i pins s σ H E I hf st hg;subst hP hw hK;obtain⟨xs,q1,hi⟩:=hg
  obtain⟨us,r1,p1,_⟩:=I.list q1
  obtain⟨z1,z4⟩:=st
  have W:=WalksT.enumerate (prog:=X.prog) (w:=X.w) (I.ok.hd hc) (n+1) n l (em n) (ax (d7 h1)) (ax h1) us.toArray
  have e:i=us.toArray.size:=by
   simp only[ao];rw[<-r1.length];exact hi
  subst e;refine W.done s _ _ ⟨z1,z4,p1.isList⟩ fun h' tk hk=>⟨rfl,?_⟩
  have tr:∀b w,H b=some w ->b∉[n+1,n]:=fun b w e z=>by
   rw[(hf b z).1] at e;cases e
  refine I.step (g':=s.gens) (d':=s.drawn) (ch:=[n+1,n]) (fun b hb=> ?_) (fun b o _ _ hc e _=>hk b o hc e) (fun b o _ _ hc e _=>⟨o.slots,hk b o hc e⟩) (fun b o hc e n=>n) (fun b o hc e=>⟨o,hk b o hc e⟩) (fun b xs e=>e) (fun b o w e=>e) (fun b ps e=>⟨#[],by rw[e];simp⟩) (fun m hm=> ?_) (fun b w e=> ?_) I.bare
  ·obtain⟨f0,f1,f2,f3,f4,f5⟩:=hf b hb
   exact⟨f3,f1,f4,f5⟩
  ·obtain⟨o,es,ep,ho,r⟩:=hm
   exact⟨o,es,ep,hk _ o (fun z=>(hf _ z).2.1 rfl) ho,r⟩
  ·refine(I.hok b w e).stay (fun c z hc q=>hk c z ?_ q) (fun _ q=>q) fun _ _ q=>q
   rcases hc with rfl|hc
   ·exact tr _ _ e
   ·exact tr _ _ hc
 self:=fun A i s Q E st q=>by
  obtain⟨⟨old,z1⟩,_⟩:=st
  exact wpAny_pyIter_enum z1 q
theorem oG{a:Expr}{ta:TA}{p pos tpos:Pos}{elts:List Expr}{kk:Nat}{K:af}(hK:X.K=K)(hg:Gl X "enumerate")(hm:X.mg "enumerate"=none)(ha:PA X [a] ta)(hs:starEach [a] X.env=[(false,eval a X.env)]:=by rfl):
  PI X (.Tuple elts kk tpos) (.Call (.Name "enumerate" p) [a] [] pos) (qL K ta):=by
 subst hK;intro pins s σ H R I h;refine Call_ (iO I hg hm boot_enumerate (bv (thn (ha pos pins s σ H _ I h) fun us s1 z=> ?_) hs rfl));obtain⟨vs,H1,I1,r1,l,rfl,⟨xs,q1⟩,q⟩:=z
 obtain⟨u,rfl,ru⟩:=r1.one
 obtain rfl:u=Value.ref l:=ru
 obtain⟨is1,s1',p1,_⟩:=I1.list q1
 have b1:l<s1.heap.objs.size:=by
  obtain⟨o,e,_⟩:=p1.isList
  exact Heap.lt_size e
 refine call_enumerate_list p1.isList fun h' hz hi1 hsz hk=> ?_
 refine wpAny_pyIter_enum hz ?_;refine⟨_,_,_,_,H1,rfl,I1.kept (t':=s1.toks) hk,ly s1.heap.objs.size l b1,⟨⟨_,hz⟩,hi1⟩,fun b hb=> ?_,q⟩;simp only[aD,bP,or_false] at hb;have hle:s1.heap.objs.size<=b:=by
  rcases hb with rfl|rfl<;>omega
 exact I1.fpOk hle (I1.hok.fresh hle)
end
section
variable {K:af} {a:Addr} {xs:List V} {ta:TA} {g:TG} {tb:TS} {Dn:Ends} {σ:St} {H:Hp}
theorem lA(Ra:Addr ->Hp ->Prop)(ha:∀R:List V ->Hp ->Prop,(∀a H1,Ra a H1 ->R [.ref a] H1) ->ta σ H R)
  (hb:∀a H1,Ra a H1 -> ∃xs,∃Pv:Nat ->St ->Hp ->Prop,Pv 0 σ H1 /\ (∀i σ H,i<=xs.length ->Pv i σ H ->SqL K H a xs) /\
   (∀i x t σ H,xs[i]? =some x ->Pv i σ H ->H t=none ->g (.ref t) σ (upd H t (.tup [.int (i:Int),x])) fun σ2 H2=>tb {Dn with nx:=Pv (i+1),ct:=Pv (i+1),bk:=Dn.nx} σ2 H2) /\ ∀σ H,Pv xs.length σ H ->Dn.nx σ H):
  p5 (qL K ta) g tb Dn σ H:=by
 refine ha _ fun a H1 q=> ?_
 obtain⟨xs,Pv,h0,hq,hs,hd⟩:=hb a H1 q
 have s1:=hq 0 σ H1 (aN _) h0
 refine⟨a,rfl,⟨xs,s1⟩,fun i m σ H=>Pv i σ H /\ i<=xs.length /\ m=xs.length-i,⟨_,h0,aN _,rfl⟩,?_⟩;rintro i m σ H ⟨p,hi,rfl⟩;have s1:=hq i σ H hi p
 rcases Nat.lt_or_eq_of_le hi with hi|hi
 ·right
  refine⟨⟨xs,s1,by omega⟩,fun σ' H'=>Pv (i+1) σ' H',fun σ' H' p'=>⟨xs.length-(i+1),by omega,p',by omega,rfl⟩,?_⟩;rintro v H' ⟨t,rfl,hn,e⟩;obtain⟨x,hx⟩:∃x,xs[i]? =some x:=⟨_,aj hi⟩
  rw[e xs x s1 hx];exact hs i x t σ H hx p hn
 ·left
  exact⟨⟨xs,s1,by omega⟩,hd σ H (hi▸p)⟩
end
noncomputable def sC(K:af):R2:=fun x y H Q=>∃d ds,Rdy K H x d /\ Rdy K H y (.list ds) /\ SeqAt.shaped d=true /\ SeqAt.shaped (.list ds)=true /\ (∀y∈ds,SeqAt.noMix y d=true) /\ Q (.bl (decide (Spec.countIn d ds≠0))) H
theorem oO{X:Cx}{K:af}(hK:X.K=K)(hu:X.A.units+65<cLine):OpR X (compareOp .In) (sC K):=by
 subst hK;intro pins s σ H x y v u Q I rx ry h;obtain⟨d,ds,h1,h2,s1,s2,nm,q⟩:=h
 obtain⟨as,r1⟩:=h1.reads I rx
 obtain⟨bs,r2⟩:=h2.reads I ry
 exact in_list_dataH r2 r1 s2 s1 hu nm ⟨.bl _,H,I,rfl,q⟩
theorem m7{X:Cx}{x:Str}{i:Int}{pos:Pos}(hg:Gl X x)(hm:∃t,X.mg x=some (.int i t))(hd:(x==("__debug__":Str))=false:=by decide):PE X (.Name x pos) (tC (.int i)):=by
 obtain⟨t,hm⟩:=hm
 exact oK hg hm ⟨t,rfl⟩ hd
end L2
namespace L2
open PySem PySem.Spec PyProof.Rows
section
variable {X:Cx}
noncomputable def rm:V ->List V ->Hp ->VK ->Prop:=fun x vs H Q=>match x,vs with
 | .ref l,[]=>gG (hX (H l)) fun _=>Q .non (upd H l (.lst []))
 |_,_=>False
variable {o:Expr} {to:TE} {apos cpos:Pos}
end
end L2
namespace L2
open PySem
mutual
noncomputable def gF:PyData ->Bool
 | .int _=>true
 | .none=>true
 | .list xs=>hJ xs
 | .tuple xs=>hJ xs
 |_=>false
noncomputable def hJ:List PyData ->Bool
 |[]=>true
 |x::xs=>gF x&&hJ xs
end
mutual
theorem pd:∀(d e:PyData),gF d=true ->gF e=true ->(PyData.eqv d e=true↔d=e)
 | .int a,e,_,he=>by
  cases e<;>simp[PyData.eqv,gF] at he⊢
 | .none,e,_,he=>by
  cases e<;>simp[PyData.eqv,gF] at he⊢
 | .list xs,e,hd,he=>by
  cases e with
  |list ys=>
   simp only[gF] at hd he;simp only[PyData.eqv,PyData.list.injEq];exact ia xs ys hd he
  |_=>simp[PyData.eqv,gF] at he⊢
 | .tuple xs,e,hd,he=>by
  cases e with
  |tuple ys=>
   simp only[gF] at hd he;simp only[PyData.eqv,PyData.tuple.injEq];exact ia xs ys hd he
  |_=>simp[PyData.eqv,gF] at he⊢
 | .bool _,e,hd,_=>by simp[gF] at hd
 | .str _,e,hd,_=>by simp[gF] at hd
 | .dict _,e,hd,_=>by simp[gF] at hd
theorem ia:∀(xs ys:List PyData),hJ xs=true ->hJ ys=true ->(PyData.eqvAll xs ys=true↔xs=ys)
 |[],[],_,_=>by simp[PyData.eqvAll]
 |[],y::ys,_,_=>by simp[PyData.eqvAll]
 |x::xs,[],_,_=>by simp[PyData.eqvAll]
 |x::xs,y::ys,hx,hy=>by
  simp only[hJ,b6] at hx hy;simp only[PyData.eqvAll,b6,dU.injEq];rw[pd x y hx.1 hy.1,ia xs ys hx.2 hy.2]
end
end L2
namespace L2
open PySem PySem.Spec PyProof.Rows
section
variable {g:TG} {tt:TT} {te tl:TE} {k:Nat} {js:List Nat} {σ:St} {Q:VK} {H:Hp} {K:af}
theorem jR(R:VK)(h:tl σ H R)
  (hb:∀x H1,R x H1 -> ∃(a:Addr) (xs:List V),x= .ref a /\ SqL K H1 a xs /\ xs.length<1000000 /\ ∃Pv:Addr ->Nat ->List V ->Hp ->Prop,(∀D,H1 D=none ->Pv D 0 [] (upd H1 D (.lst []))) /\
   (∀D i ys H,i<=xs.length ->Pv D i ys H ->H D=some (.lst ys) /\ ys.length<=i /\ SqL K H a xs) /\
   (∀D i x ys H2,H1 D=none ->xs[i]? =some x ->Pv D i ys H2 ->g x (L2.stLC σ k js) H2 fun σ2 H3=>(σ2.drop k=frV σ js /\ σ2.length=k+js.length) /\ tt σ2 H3 fun b H4=>if b=true then te σ2 H4 fun y H5=>H5 D=some (.lst ys) /\ Pv D (i+1) (ys++[y]) (upd H5 D (.lst (ys++[y]))) else Pv D (i+1) ys H4) /\
   ∀D ys H2,H1 D=none ->Pv D xs.length ys H2 ->Q (.ref D) H2):tLC (ml K (tUp tl)) k js g tt te σ H Q:=by
 refine⟨R,h,fun x H1 q=> ?_⟩;obtain⟨a,xs,rfl,hq,hn,Pv,h0,hl,hs,hd⟩:=hb x H1 q
 exact⟨a,rfl,⟨xs,hq⟩,fun D hD=>l8 (Pv D) (h0 D hD) (dq hn (by decide)) (fun i ys H hi p=>hl D i ys H hi p) (fun i x ys H hi p=>hs D i x ys H hD hi p) (fun ys H p=>hd D ys H hD p)⟩
end
end L2
namespace L2
open PySem PyProof PyProof.Rows
noncomputable def qg(K:af):List V ->Hp ->VK ->Prop:=fun xs H Q=>∃(l:Addr) (ns:List Int),xs=[.ref l] /\ SqL K H l (ns.map V.int) /\ ns.length<64 /\ ∀(D:Addr) (ns':List Int),H D=none ->ns'.Perm ns ->ns'.Pairwise (· <= ·) ->Q (.ref D) (upd H D (.lst (ns'.map V.int)))
section
variable {X:Cx}
theorem ib:∀{us:List Value} {ns:List Int},IntsAre us ns ->Vals (ns.map V.int) us
 |_,_,.nil=> .nil
 |_,_,.cons n t h=> .cons ⟨t,rfl⟩ (ib h)
theorem ll{K:af}(hK:X.K=K):gz X (.builtin "sorted") (qg K):=by
 subst hK;intro pins s σ H xs us Q I r h;obtain⟨l,ns,rfl,hl,h64,q⟩:=h
 obtain⟨u,rfl,rx⟩:=vals1 r
 cases rx;obtain⟨its,r',pl,hz⟩:=I.list hl
 have hI:IntsAre its ns:=intsAre_of r'
 refine sorted_ints pl.isList hI (by have:=r'.length;rw[ag] at this;omega) fun out ns' a1 a2 a3=> ?_
 obtain⟨e,he⟩:=sortedAll_at s.heap its out
 refine⟨.ref _,_,I.laid (t':=s.toks) (o:= .lst (ns'.map V.int)) (fun b ob q=>sortedAll_old q) (eI _) ?_,rfl,q _ ns' (I.hok.fresh (eI _)) a2 a3⟩;refine⟨?_,out.toList,e,ib a1,?_⟩
 ·rw[ag,a2.length_eq];have:64<=sizeLine:=by decide
  omega
 ·exact he
end
end L2
namespace L2
open PySem PySem.Spec PyProof.Rows
section
variable {X:Cx} {a b:Expr} {ta tb:TE} {pos:Pos}
noncomputable def pL(i:Nat):TE:=fun σ H Q=>match σ[i]? with
 |some (some v)=>Q v H
 |_=>False
theorem pvF(i:Nat){x:Str}(hN:X.N[i]? =some x:=by rfl)(hv:Vis X.env.scope x:=by first|exact aJ rfl|exact ee (aJ rfl)|exact ee (ee rfl))(hd:(x==("__debug__":Str))=false:=by decide)
  (hcd:(x==("__classdict__":Str))=false:=by decide):PE X (.Name x pos) (pL i):=by
 intro pins s σ H Q I h;refine pv i hN hv hd hcd pins s σ H Q I ?_;unfold pL at h;split at h
 ·exact⟨_,‹_›,h⟩
 ·exact h.elim
noncomputable def fI(C:Int ->Int ->Prop)(g:Int ->Int ->V):R2:=fun x y H Q=>match x,y with
 | .int i,.int j=>C i j /\ Q (g i j) H
 |_,_=>False
noncomputable def fI0(g:Int ->Int ->V):R2:=fun x y H Q=>match x,y with
 | .int i,.int j=>Q (g i j) H
 |_,_=>False
noncomputable def fU(g:Int ->V):V ->Hp ->VK ->Prop:=fun x H Q=>match x with
 | .int i=>Q (g i) H
 |_=>False
theorem OpR.f{F:Value ->Value ->Sem Value}{C:Int ->Int ->Prop}{g:Int ->Int ->V}(h:OpR X F (rI C g)):OpR X F (fI C g):=by
 intro pins s σ H x y v u Q I r1 r2 q;refine h pins s σ H x y v u Q I r1 r2 ?_;unfold fI at q;split at q
 ·exact⟨_,_,rfl,rfl,q.1,q.2⟩
 ·exact q.elim
theorem OpR.f0{F:Value ->Value ->Sem Value}{g:Int ->Int ->V}(h:OpR X F (rI0 g)):OpR X F (fI0 g):=by
 intro pins s σ H x y v u Q I r1 r2 q;refine h pins s σ H x y v u Q I r1 r2 ?_;unfold fI0 at q;split at q
 ·exact⟨_,_,rfl,rfl,q⟩
 ·exact q.elim
theorem UnR.f{F:Value ->Sem Value}{g:Int ->V}(h:UnR X F (rU g)):UnR X F (fU g):=by
 intro pins s σ H x v Q I r1 q;refine h pins s σ H x v Q I r1 ?_;unfold fU at q;split at q
 ·exact⟨_,rfl,q⟩
 ·exact q.elim
noncomputable def fEq:R2:=fun x y H Q=>match x,y with
 | .int i,.int j=>Q (.bl (decide (i=j))) H
 |_,_=>rEq x y H Q
noncomputable def fNe:R2:=fun x y H Q=>match x,y with
 | .int i,.int j=>Q (.bl (!decide (i=j))) H
 |_,_=>rNe x y H Q
theorem OpR.e{F:Value ->Value ->Sem Value}(h:OpR X F rEq):OpR X F fEq:=by
 intro pins s σ H x y v u Q I r1 r2 q;refine h pins s σ H x y v u Q I r1 r2 ?_;unfold fEq at q;split at q
 ·refine⟨rfl,?_⟩
  simpa only[V.int.injEq] using q
 ·exact q
theorem OpR.n{F:Value ->Value ->Sem Value}(h:OpR X F rNe):OpR X F fNe:=by
 intro pins s σ H x y v u Q I r1 r2 q;refine h pins s σ H x y v u Q I r1 r2 ?_;unfold fNe at q;split at q
 ·refine⟨rfl,?_⟩
  simpa only[V.int.injEq] using q
 ·exact q
theorem gK:OpR X (compareOp .Eq) (fI0 fun i j=> .bl (decide (i=j))):=OpR.f0 (qx fun _ _ _ _ _ _ _ q=>eq_int q)
theorem qr:OpR X (compareOp .NotEq) (fI0 fun i j=> .bl (!decide (i=j))):=OpR.f0 (qx fun _ _ _ _ _ _ _ q=>ne_int q)
noncomputable def rl:R2:=fun x y H Q=>match x,y with
 | .bl i,.bl j=>Q (.bl (!decide (i=j))) H
 |_,_=>False
noncomputable def kY(t:TE):TT:=fun σ H Q=>t σ H fun x H'=>match x with
 | .bl k=>Q k H'
 |_=>False
theorem fL{op:CmpOp}{r:R2}(ho:OpR X (compareOp op) r)(ha:PE X a ta)(hb:PE X b tb)(hm:behindInMarks op b=false):PT X (.Compare a [op] [b] pos) (kY (tOp r ta tb)):=by
 intro pins s σ H Q I h;refine wpAny_isTrue_Compare1 (thn (ha pins s σ H _ I h) fun v s1 ⟨x,H1,I1,r1,q1⟩=>thn (hb pins s1 σ H1 _ I1 q1) fun u s2 ⟨y,H2,I2,r2,q2⟩=>
  thn (ho pins s2 σ H2 x y v u _ I2 r1 r2 q2) fun c s3 ⟨z,H3,I3,r3,q3⟩=> ?_) hm
 dsimp only at q3;split at q3
 ·cases r3;exact wpAny_truthy_bool ⟨H3,I3,q3⟩
 ·exact q3.elim
noncomputable def kZ(t:TG)(u:TGs):TGs:=fun vs σ H Q=>match vs with
 |v::r=>t v σ H fun σ' H'=>u r σ' H' Q
 |[]=>False
noncomputable def pM:TGs:=fun vs σ H Q=>match vs with
 |[]=>Q σ H
 |_=>False
theorem gg:PGs X [] pM:=by
 intro pins s σ H vs us Q I r h;refine oH pins s σ H vs us Q I r ?_;unfold pM at h;split at h
 ·exact⟨rfl,h⟩
 ·exact h.elim
theorem fA{e:Expr}{es:List Expr}{t:TG}{u:TGs}(h1:PG X e t)(h2:PGs X es u)
  (hs:(assignEach (e::es) X.env).map (·.2)=assign e X.env::(assignEach es X.env).map (·.2):=by rfl):PGs X (e::es) (kZ t u):=by
 intro pins s σ H vs us Q I r h;refine mZ h1 h2 hs pins s σ H vs us Q I r ?_;unfold kZ at h;split at h
 ·exact⟨_,_,rfl,h⟩
 ·exact h.elim
theorem iz{e:Expr}{t:TE}(h:PE X e t)(he:∀whole,isTrue e X.env whole=(do let v<-whole;standAt e.pos;holding [v] (truthy v)):=by intro _;rfl):PT X e (kY t):=by
 intro pins s σ H Q I hw;refine isTrue_plain (thn (h pins s σ H _ I hw) fun v s1 ⟨x,H1,I1,r1,q1⟩=> ?_) (he _);dsimp only at q1;split at q1
 ·cases r1;exact wpAny_truthy_bool ⟨H1,I1,q1⟩
 ·exact q1.elim
end
end L2
namespace L2
open PySem PySem.Spec PyProof.Rows
noncomputable def q0(td ti:TE):TE:=fun σ H Q=>td σ H fun x H1=>ti σ H1 fun y H2=>match x,y with
 | .ref a,.int i=>gG (ph (H2 a)) fun kvs=>gG (iS kvs (Sum.inl i)) fun v=>Q v H2
 |_,_=>False
noncomputable def qZ(td ti tv:TE):TS:=fun D σ H=>tv σ H fun v H1=>td σ H1 fun x H2=>ti σ H2 fun y H3=>match x,y with
 | .ref a,.int i=>gG (ph (H3 a)) fun kvs=>kvs.length<1000000 /\ D.nx σ (upd H3 a (.dK (putK kvs (Sum.inl i) v)))
 |_,_=>False
noncomputable def kf(td ti tx:TE):TE:=fun σ H Q=>td σ H fun x H1=>match x with
 | .ref a=>(ph (H1 a)).isSome=true /\ ti σ H1 fun y H2=>tx σ H2 fun z H3=>match y with
  | .int i=>gG (ph (H3 a)) fun kvs=>Q ((iS kvs (Sum.inl i)).getD z) H3
  |_=>False
 |_=>False
noncomputable def ko:V ->List V ->Hp ->VK ->Prop:=fun x vs H Q=>match x,vs with
 | .ref l,[.int i]=>gG (hX (H l)) fun xs=>xs.length<1000000 /\ gG (ixN xs.length i) fun k=>gG (xs[k]?) fun y=>Q y (upd H l (.lst (xs.eraseIdx k)))
 |_,_=>False
noncomputable def rf:V ->List V ->Hp ->VK ->Prop:=fun x vs H Q=>match x,vs with
 | .ref l,[]=>gG (hX (H l)) fun xs=>Q .non (upd H l (.lst xs.reverse))
 |_,_=>False
noncomputable def jG(n:Nat)(i:Int):Nat:=if i<0 then(i+(n:Int)).toNat else min i.toNat n
noncomputable def oZ:V ->List V ->Hp ->VK ->Prop:=fun x vs H Q=>match x,vs with
 | .ref l,[.int i,y]=>gG (hX (H l)) fun xs=>xs.length<1000000 /\ (-(2^63)<=i /\ i<2^63) /\ Q .non (upd H l (.lst (xs.take (jG xs.length i)++[y]++xs.drop (jG xs.length i))))
 |_,_=>False
section
variable {X:Cx}
theorem oT:MtM X "list.insert" oZ:=by
 intro pins s σ H x vs v us Q I rx rv h;unfold oZ at h;split at h
 ·rename_i l i y
  obtain⟨xs,e,hl,⟨hi1,hi2⟩,q⟩:=gj h
  replace e:=gD e
  cases rx;obtain⟨u,w,rfl,ru,rw'⟩:=rv.two
  obtain⟨t,rfl⟩:=ru
  obtain⟨z,its,n,r,hl',e'⟩:=I.lstM e
  have hz:its.toArray.size<=sizeLine:=by rw[ao];omega
  refine call_meets F.slot_list_insert ⟨_,e',rfl⟩ F.entry_list_insert (F.args_list_insert_3 _ _ _) (df l its.toArray n i t w (by simp[fitsIndex_both hi1 hi2]) hz) ⟨e',?_⟩;refine⟨.non,upd H l (.lst (xs.take (jG xs.length i)++[y]++xs.drop (jG xs.length i))),I.lset (its':=its.take (jG its.length i)++[w]++its.drop (jG its.length i)) e e' ?_ ?_ ?_,rfl,?_⟩
  ·show(its.toArray.extract 0 (if i<0 then(i+(its.toArray.size:Int)).toNat else min i.toNat its.toArray.size)).push w++its.toArray.extract (if i<0 then(i+(its.toArray.size:Int)).toNat else min i.toNat its.toArray.size)=_
   rw[ao];unfold jG;generalize(if i<0 then(i+(its.length:Int)).toNat else min i.toNat its.length)=k;simp[List.extract_eq_take_drop];exact bR (by rw[cW];exact ak _)
  ·rw[<-hl'];exact((r.take _).append (.cons rw' .nil)).append (r.drop _)
  ·simp only[aE,aZ,cW,dn];have:1000000+1<=sizeLine:=by decide
   omega
  ·exact q
 ·exact h.elim
variable {o e f:Expr} {to:TE} {t:TA} {apos cpos:Pos}
theorem oJ(ho:PE X o to)(ha:PA X [e,f] t)
  (hbase:attributeBase o "insert" X.env (eval o X.env)=eval o X.env:=by rfl)
  (hfew:((backTo cpos (starEach [e,f] X.env)).all (fun x=> !x.1)&&(backToKw cpos (keywordEach [] X.env)).all (fun x=>x.1.isSome)
   &&decide ([e,f].length+([]:List Keyword).length+(if([]:List Keyword).isEmpty then 0 else 1)<30))=true:=by rfl)
  (hline:(apos.endLine==cpos.line)=true:=by rfl) (hs:starEach [e,f] X.env=(false,eval e X.env)::starEach [f] X.env:=by rfl) (hplain:(backTo cpos (starEach [f] X.env)).any (·.1)=false:=by rfl):
  PE X (.Call (.Attribute o "insert" apos) [e,f] [] cpos) (tML oZ to t):=by
 intro pins s σ H Q I h;refine qq cn PySem.F.slot_list_insert PySem.F.type_list_insert oT ho.up ha hbase hfew hline hs hplain pins s σ H Q I ⟨_,h,fun x H1 q=> ?_⟩;cases x with
 |ref l=>
  obtain⟨h1,h2⟩:=q
  obtain⟨xs,e⟩:=bH.mp h1
  exact⟨.inl ⟨rfl,xs,SqL.of (gD e)⟩,h2⟩
 |_=>exact q.elim
end
end L2
namespace L2
open PySem PySem.Spec PyProof.Rows
noncomputable def rB:List V ->Hp ->VK ->Prop:=fun vs H Q=>∃n:Nat,vs=[.int (n:Int)] /\ n<=1000000 /\ ∀r,H r=none ->Q (.ref r) (upd H r (.rng 0 (n:Int)))
noncomputable def oA:List V ->Hp ->VK ->Prop:=fun vs H Q=>∃(r:Addr) (n:Nat),vs=[.ref r] /\ H r=some (.rng 0 (n:Int)) /\ n<=1000000 /\ ∀D,H D=none ->Q (.ref D) (upd H D (.lst ((aw n).map fun j:Nat=>V.int (j:Int))))
section
variable {X:Cx}
theorem mC:gz X (.type "range") rB:=by
 intro pins s σ H xs us Q I r h;obtain⟨n,rfl,hn,q⟩:=h
 obtain⟨u,rfl,ru⟩:=vals1 r
 obtain⟨t,rfl⟩:=ru
 refine call_range_1 ?_;refine⟨.ref s.heap.objs.size,_,I.laid (t':=s.toks+1+1) (o:= .rng 0 (n:Int)) (fun b ob e=>Heap.get?_push_of_some _ e) (ak _) ?_,rfl,q _ (I.hok.fresh (ak _))⟩;exact⟨_,_,_,Heap.get?_push_size _ rfl⟩
theorem j9(hcalm:X.calm=true):gz X (.type "list") oA:=by
 intro pins s σ H xs us Q I r h;obtain⟨a,n,rfl,hr,hn,q⟩:=h
 obtain⟨u,rfl,ru⟩:=vals1 r
 cases ru;obtain⟨t,u,v,e⟩:=I.hok a _ hr
 have hsz:Builtin.Range.rangeSize 0 (n:Int) 1=n:=by rw[rangeSize_one];split<;>omega
 refine call_list_range (n:=n) (I.ok.hd hcalm) (a:=0) (b:=(n:Int)) (c:=1) (t:=t) (u:=u) (v:=v) e (small_one (by omega) (by omega) (by omega) (by omega)) hsz (by omega) fun h' tk acc' c' kp hl hit=> ?_
 refine⟨.ref s.heap.objs.size,_,I.laid (t':=tk) (o:= .lst ((aw n).map fun j:Nat=>V.int (j:Int))) kp (ak _) ?_,rfl,q _ (I.hok.fresh (ak _))⟩;refine⟨?_,acc'.toList,c',?_,hl⟩
 ·rw[ag,aU];have:1000000<=sizeLine:=by decide
  omega
 ·have key:∀(k:Nat),k<=n ->Vals ((aw k).map fun j:Nat=>V.int (j:Int)) (acc'.toList.take k):=by
   intro k
   induction k with
   |zero=>intro _;exact .nil
   |succ k ih=>
    intro hk;have hlt:k<acc'.size:=by rw[hit.1];omega
    obtain⟨t,et⟩:=hit.2 k acc'[k] (bE hlt)
    rw[List.range_succ,aM,dI];have e3:acc'.toList[k]? =some acc'[k]:=by rw[bA,bE hlt]
    rw[e3];refine(ih (by omega)).append (.cons ?_ .nil);refine⟨t,?_⟩;rw[et]
    congr 1
    omega
  have:=key n (ak _)
  rwa [bR (by rw[bK,hit.1];exact ak _)] at this
end
end L2
namespace SR
open PySem PySem.W PyProof.Rows
noncomputable def evT(lt:Nat ->Nat ->Bool){α:Type}:KasT α ->α
 | .ret a=>a
 | .ask i j k=>evT lt (k (lt i j))
theorem gQ(lt:Nat ->Nat ->Bool){α β:Type}(f:α ->KasT β):∀t:KasT α,evT lt (t.bind f)=evT lt (f (evT lt t))
 | .ret _=>rfl
 | .ask i j k=>gQ lt f (k (lt i j))
noncomputable abbrev g(p:Array Nat)(i:Nat):Nat:=p.getD i 0
theorem qN{p q:Array Nat}{i j:Nat}(h:p[i]? =q[j]?):g p i=g q j:=by
 unfold g;rw[bY,bY,h]
structure Ord(lt:Nat ->Nat ->Bool):Prop where
 as:∀a b,lt a b=true ->lt b a=false
 tr:∀a b c,lt b a=false ->lt c b=false ->lt c a=false
noncomputable def sl(lt:Nat ->Nat ->Bool)(a b:Nat):Prop:=lt a b=true∨(lt b a=false /\ a<b)
section
variable {lt:Nat ->Nat ->Bool} (O:Ord lt)
include O
theorem oq{a b:Nat}(h:sl lt a b):lt b a=false:=h.elim (O.as a b) fun q=>q.1
theorem l4{a b c:Nat}(h1:lt a b=true)(h2:lt c b=false):lt a c=true:=by
 cases e:lt a c with
 |true=>rfl
 |false=>
  have:=O.tr _ _ _ h2 e
  rw[h1] at this;cases this
theorem le_lt{a b c:Nat}(h1:lt b a=false)(h2:lt b c=true):lt a c=true:=by
 cases e:lt a c with
 |true=>rfl
 |false=>
  have:=O.tr _ _ _ e h1
  rw[h2] at this;cases this
theorem mW{a b c:Nat}(h1:sl lt a b)(h2:sl lt b c):sl lt a c:=by
 rcases h1 with q|⟨q1,q2⟩
 ·exact .inl (l4 O q (oq O h2))
 ·rcases h2 with r|⟨r1,r2⟩
  ·exact .inl (le_lt O q1 r)
  ·exact .inr ⟨O.tr _ _ _ q1 r1,by omega⟩
end
noncomputable def Asc(lt:Nat ->Nat ->Bool)(p:Array Nat)(m:Nat):Prop:=∀i j,i<j ->j<m ->sl lt (g p i) (g p j)
noncomputable def Dsc(lt:Nat ->Nat ->Bool)(p:Array Nat)(m:Nat):Prop:=∀i j,i<j ->j<m ->sl lt (g p j) (g p i)
structure Pre(N:Nat)(p:Array Nat)(n:Nat):Prop where
 sz:p.size=N
 pm:p.Perm (aQ (aw N))
 hi:∀k,n<=k ->k<N ->g p k=k
 lo:∀k,k<n ->g p k<n
 le:n<=N
theorem iK{p:Array Nat}{i j:Nat}(hj:j<=p.size)(k:Nat):g (kas_rev p i j) k=if i<=k /\ k<j then g p (i+j-1-k) else g p k:=by
 have e:=getElem?_mirror_all (i:=i) hj k
 by_cases h:i<=k /\ k<j
 ·rw[if_pos h] at e⊢;exact qN e
 ·rw[if_neg h] at e⊢;exact qN e
theorem Pre.rev{N n:Nat}{p:Array Nat}(h:Pre N p n){i j:Nat}(hj:j<=n):Pre N (kas_rev p i j) n:=by
 have z:=h.sz
 have l:=h.le
 refine⟨(mirror_size _ _ _ _).trans h.sz,(mirror_perm _ _ _ _).trans h.pm,fun k h1 h2=> ?_,fun k hk=> ?_,h.le⟩
 ·rw[iK (by omega),if_neg (by omega)];exact h.hi k h1 h2
 ·rw[iK (by omega)];split
  ·exact h.lo _ (by omega)
  ·exact h.lo k hk
theorem Pre.succ{N n:Nat}{p:Array Nat}(h:Pre N p n)(hn:n<N):Pre N p (n+1):=by
 refine⟨h.sz,h.pm,fun k h1 h2=>h.hi k (by omega) h2,fun k hk=> ?_,hn⟩
 by_cases e:k=n
 ·rw[e,h.hi n (ak _) hn];omega
 ·have:=h.lo k (by omega)
  omega
section
variable {lt:Nat ->Nat ->Bool} (O:Ord lt) {N:Nat}
include O
theorem nN{p:Array Nat}{n:Nat}(h:Asc lt p n)(hP:Pre N p n)(hn:n<N)(h1:1<=n)(c:lt (g p n) (g p (n-1))=false):Asc lt p (n+1):=fun i j hij hj=>by
 by_cases e:j=n
 ·subst e;have last:sl lt (g p (j-1)) (g p j):= .inr ⟨c,by rw[hP.hi j (ak _) hn];exact hP.lo _ (by omega)⟩
  by_cases e2:i=j-1
  ·rw[e2];exact last
  ·exact mW O (h i (j-1) (by omega) (by omega)) last
 ·exact h i j hij (by omega)
theorem mJ{p:Array Nat}:∀(f n:Nat),Asc lt p n ->Pre N p n ->1<=n ->n+f=N -> ∃m,evT lt (kas_asc p f n)=m /\ n<=m /\ m<=N /\ Asc lt p m /\ Pre N p m /\ (m<N ->lt (g p m) (g p (m-1))=true)
 |0,n,h,hP,h1,e=>⟨n,rfl,ak _,by omega,h,hP,fun q=>by omega⟩
 |f+1,n,h,hP,h1,e=>by
  show∃m,evT lt (if lt (g p n) (g p (n-1))=true then KasT.ret n else kas_asc p f (n+1))=m /\ _
  by_cases c:lt (g p n) (g p (n-1))=true
  ·rw[if_pos c];exact⟨n,rfl,ak _,by omega,h,hP,fun _=>c⟩
  ·rw[if_neg c];have c':lt (g p n) (g p (n-1))=false:=by simpa using c
   obtain⟨m,e1,e2,e3,e4,e5,e6⟩:=mJ f (n+1) (nN O h hP (by omega) h1 c') (hP.succ (by omega)) (by omega) (by omega)
   exact⟨m,e1,by omega,e3,e4,e5,e6⟩
end
structure Dn(lt:Nat ->Nat ->Bool)(p:Array Nat)(n q:Nat):Prop where
 qn:q+1<=n
 d1:∀i j,i<j ->j<n-(q+1) ->sl lt (g p j) (g p i)
 d2:∀i j,i<n-(q+1) ->n-(q+1)<=j ->j<n ->lt (g p j) (g p i)=true
 d3:∀i j,n-(q+1)<=i ->i<j ->j<n ->lt (g p j) (g p i)=false /\ lt (g p i) (g p j)=false /\ g p i<g p j
section
variable {lt:Nat ->Nat ->Bool} (O:Ord lt) {N:Nat}
include O
theorem Dn.close{p:Array Nat}{n q:Nat}(h:Dn lt p n q)(hn:n<=p.size):Dsc lt (if q>0 then kas_rev p (n-(q+1)) n else p) n:=fun i j hij hj=>by
 have qn:=h.qn
 have val:∀k,k<n ->g (if q>0 then kas_rev p (n-(q+1)) n else p) k=if n-(q+1)<=k then g p (n-(q+1)+n-1-k) else g p k:=fun k hk=>by
  by_cases c:q>0
  ·rw[if_pos c,iK hn]
   by_cases c2:n-(q+1)<=k
   ·rw[if_pos ⟨c2,hk⟩,if_pos c2]
   ·rw[if_neg (fun z=>c2 z.1),if_neg c2]
  ·rw[if_neg c];split
   ·congr 1
    omega
   ·rfl
 rw[val i (by omega),val j hj]
 by_cases c:n-(q+1)<=i
 ·rw[if_pos c,if_pos (by omega)];obtain⟨a,b,e⟩:=h.d3 (n-(q+1)+n-1-j) (n-(q+1)+n-1-i) (by omega) (by omega) (by omega)
  exact .inr ⟨a,e⟩
 ·rw[if_neg c]
  by_cases c2:n-(q+1)<=j
  ·rw[if_pos c2];exact .inl (h.d2 i _ (by omega) (by omega) (by omega))
  ·rw[if_neg c2];exact h.d1 i j hij (by omega)
theorem Dn.eqs{p:Array Nat}{n q:Nat}(h:Dn lt p n q){i:Nat}(h1:n-(q+1)<=i)(h2:i<n):lt (g p i) (g p (n-1))=false /\ lt (g p (n-1)) (g p i)=false:=by
 by_cases e:i=n-1
 ·subst e;have:∀a,lt a a=false:=fun a=>by
   cases q:lt a a with
   |false=>rfl
   |true=>rw[O.as a a q] at q;cases q
  exact⟨this _,this _⟩
 ·obtain⟨a,b,_⟩:=h.d3 i (n-1) h1 (by omega) (by omega)
  exact⟨b,a⟩
theorem j6:∀(f:Nat) (p:Array Nat) (n q:Nat),Dn lt p n q ->Pre N p n ->n+f=N -> ∃p' n' q',evT lt (kas_desc f p n q)=(p',n',q') /\ Dn lt p' n' q' /\ Pre N p' n' /\ n<=n'
 |0,p,n,q,h,hP,e=>⟨p,n,q,rfl,h,hP,ak _⟩
 |f+1,p,n,q,h,hP,e=>by
  have qn:=h.qn
  have z:=hP.sz
  show∃p' n' q',evT lt (if lt (g p n) (g p (n-1))=true then(if q>0 then kas_desc f (kas_rev p (n-(q+1)) n) (n+1) 0 else kas_desc f p (n+1) 0) else .ask (p.getD (n-1) 0) (p.getD n 0) fun d=>if d=true then .ret (p,n,q) else kas_desc f p (n+1) (q+1))=(p',n',q') /\ _
  by_cases c:lt (g p n) (g p (n-1))=true
  ·rw[if_pos c];have ds:=Dn.close O h (by omega)
   have eq2:(if q>0 then kas_desc f (kas_rev p (n-(q+1)) n) (n+1) 0 else kas_desc f p (n+1) 0)=kas_desc f (if q>0 then kas_rev p (n-(q+1)) n else p) (n+1) 0:=by split<;>rfl
   rw[eq2];have hP':Pre N (if q>0 then kas_rev p (n-(q+1)) n else p) n:=by
    split
    ·exact hP.rev (ak _)
    ·exact hP
   have low:∀i,i<n ->lt (g p n) (g (if q>0 then kas_rev p (n-(q+1)) n else p) i)=true:=fun i hi=>by
    have key:∀k,k<n ->lt (g p n) (g p k)=true:=fun k hk=>by
     by_cases c2:n-(q+1)<=k
     ·exact l4 O c (Dn.eqs O h c2 hk).1
     ·exact l4 O c (O.as _ _ (h.d2 k (n-1) (by omega) (by omega) (by omega)))
    split
    ·rw[iK (by omega)];split
     ·exact key _ (by omega)
     ·exact key i hi
    ·exact key i hi
   have gn:g (if q>0 then kas_rev p (n-(q+1)) n else p) n=g p n:=by
    rw[hP'.hi n (ak _) (by omega),hP.hi n (ak _) (by omega)]
   generalize(if q>0 then kas_rev p (n-(q+1)) n else p)=p2 at ds hP' low gn;obtain⟨p',n',q',e1,e2,e3,e4⟩:=j6 f p2 (n+1) 0 ⟨by omega,fun i j h1 h2=>ds i j h1 (by omega),fun i j h1 h2 h3=>by
    have:j=n:=by omega
    rw[this,gn];exact low i (by omega),fun i j h1 h2 h3=>by omega⟩ (hP'.succ (by omega)) (by omega)
   exact⟨p',n',q',e1,e2,e3,by omega⟩
  ·rw[if_neg c];have c':lt (g p n) (g p (n-1))=false:=by simpa using c
   show∃p' n' q',evT lt (if lt (g p (n-1)) (g p n)=true then KasT.ret (p,n,q) else kas_desc f p (n+1) (q+1))=(p',n',q') /\ _
   by_cases d:lt (g p (n-1)) (g p n)=true
   ·rw[if_pos d];exact⟨p,n,q,rfl,h,hP,ak _⟩
   ·rw[if_neg d];have d':lt (g p (n-1)) (g p n)=false:=by simpa using d
    have gn:=hP.hi n (ak _) (by omega)
    obtain⟨p',n',q',e1,e2,e3,e4⟩:=j6 f p (n+1) (q+1) ⟨by omega,fun i j h1 h2=>h.d1 i j h1 (by omega),fun i j h1 h2 h3=>by
     by_cases ej:j=n
     ·rw[ej];exact le_lt O d' (h.d2 i (n-1) (by omega) (by omega) (by omega))
     ·exact h.d2 i j (by omega) (by omega) (by omega),fun i j h1 h2 h3=>by
     by_cases ej:j=n
     ·subst ej;have E:=Dn.eqs O h (i:=i) (by omega) h2
      refine⟨O.tr _ _ _ E.2 c',O.tr _ _ _ d' E.1,?_⟩;rw[gn];exact hP.lo i h2
     ·exact h.d3 i j (by omega) h2 (by omega)⟩ (hP.succ (by omega)) (by omega)
    exact⟨p',n',q',e1,e2,e3,by omega⟩
theorem pf{p:Array Nat}{n:Nat}(h:Dsc lt p n)(hn:n<=p.size):Asc lt (kas_rev p 0 n) n:=fun i j hij hj=>by
 rw[iK hn,iK hn,if_pos ⟨aN _,by omega⟩,if_pos ⟨aN _,hj⟩];exact h _ _ (by omega) (by omega)
theorem oh{p:Array Nat}{n:Nat}(h:Dsc lt p n)(hP:Pre N p n)(h1:1<=n):∃m p',evT lt (kas_tail3 n N p)=(m,p') /\ Asc lt p' m /\ Pre N p' m /\ 1<=m:=by
 unfold kas_tail3;rw[gQ];have l:=hP.le
 have z:=hP.sz
 obtain⟨m,e1,e2,e3,e4,e5,e6⟩:=mJ O (N-n) n (pf O h (by omega)) (hP.rev (ak _)) h1 (by omega)
 rw[e1];exact⟨m,_,rfl,e4,e5,by omega⟩
theorem iF{p:Array Nat}{n:Nat}(h:Dsc lt p n)(hP:Pre N p n)(h1:1<=n)(hn:n<N)(low:∀i,i<n ->lt (g p n) (g p i)=true):∃m p',evT lt (kas_descPart n N p)=(m,p') /\ Asc lt p' m /\ Pre N p' m /\ 1<=m:=by
 unfold kas_descPart;rw[gQ];obtain⟨p',n',q',e1,e2,e3,e4⟩:=j6 O (N-(n+1)) p (n+1) 0 ⟨by omega,fun i j a b=>h i j a (by omega),fun i j a b c=>by
  have:j=n:=by omega
  rw[this];exact low i (by omega),fun i j a b c=>by omega⟩ (hP.succ hn) (by omega)
 rw[e1];have z:=e3.sz
 have l:=e3.le
 have ds:=Dn.close O e2 (by omega)
 have hP':Pre N (if q'>0 then kas_rev p' (n'-(q'+1)) n' else p') n':=by
  split
  ·exact e3.rev (ak _)
  ·exact e3
 have:=oh O ds hP' (by omega)
 dsimp only;split
 ·rename_i c
  rw[if_pos c] at this;exact this
 ·rename_i c
  rw[if_neg c] at this;exact this
theorem nE(h2:2<=N):∃m p',evT lt (kas_count N (aQ (aw N)))=(m,p') /\ Asc lt p' m /\ Pre N p' m /\ 1<=m:=by
 have gr:∀k,k<N ->g (aQ (aw N)) k=k:=fun k hk=>by
  unfold g;rw[bY];simp[hk]
 have hP:∀n,n<=N ->Pre N (aQ (aw N)) n:=fun n hn=>⟨by simp,.refl _,fun k _ h=>gr k h,fun k hk=>by rw[gr k (by omega)];exact hk,hn⟩
 unfold kas_count;rw[gQ];obtain⟨n,e1,e2,e3,e4,e5,e6⟩:=mJ O (p:=aQ (aw N)) (N-1) 1 (fun i j a b=>by omega) (hP 1 (by omega)) (ak _) (by omega)
 rw[e1]
 by_cases c:(n==N)=true
 ·rw[if_pos c];exact⟨n,_,rfl,e4,e5,e2⟩
 ·rw[if_neg c];have hn:n<N:=by
   have:n≠N:=by simpa using c
   omega
  have st:=e6 hn
  by_cases c1:n>1
  ·rw[if_pos c1];show∃m p',evT lt (if lt (g _ 0) (g _ (n-1))=true then KasT.ret (n,_) else kas_descPart n N (kas_rev _ 0 n))=(m,p') /\ _
   by_cases c2:lt (g (aQ (aw N)) 0) (g (aQ (aw N)) (n-1))=true
   ·rw[if_pos c2];exact⟨n,_,rfl,e4,e5,e2⟩
   ·rw[if_neg c2];have c2':lt (g (aQ (aw N)) 0) (g (aQ (aw N)) (n-1))=false:=by simpa using c2
    have z:=(hP n e3).sz
    have irr:∀a,lt a a=false:=fun a=>by
     cases q:lt a a with
     |false=>rfl
     |true=>rw[O.as a a q] at q;cases q
    have up:∀i j,i<=j ->j<n ->lt (g (aQ (aw N)) j) (g (aQ (aw N)) i)=false:=fun i j h1 h2=>by
     by_cases e:i=j
     ·rw[e];exact irr _
     ·exact oq O (e4 i j (by omega) h2)
    have all:∀i j,i<n ->j<n ->lt (g (aQ (aw N)) i) (g (aQ (aw N)) j)=false:=fun i j h1 h2=>
     O.tr _ _ _ (O.tr _ _ _ (up j (n-1) (by omega) (by omega)) c2') (up 0 i (aN _) h1)
    refine iF O (fun i j h1 h2=> ?_) ((hP n e3).rev (ak _)) e2 hn fun i hi=> ?_
    ·rw[iK (by omega),iK (by omega),if_pos ⟨aN _,h2⟩,if_pos ⟨aN _,by omega⟩];refine .inr ⟨all _ _ (by omega) (by omega),?_⟩;rw[gr _ (by omega),gr _ (by omega)];omega
    ·rw[iK (by omega),iK (by omega),if_neg (by omega),if_pos ⟨aN _,hi⟩];exact l4 O st (all _ _ (by omega) (by omega))
  ·rw[if_neg c1];have:n=1:=by omega
   subst this;exact iF O (fun i j h1 h2=>by omega) (hP 1 e3) (ak _) hn fun i hi=>by
    have:i=0:=by omega
    rw[this];exact st
theorem i7{p:Array Nat}{k:Nat}(h:Asc lt p k):∀(f l r:Nat),l<=r ->r<=k ->r-l<=f ->(∀i,i<l ->lt (g p k) (g p i)=false) ->(∀i,r<=i ->i<k ->lt (g p k) (g p i)=true) ->
  ∃x,evT lt (kas_place p k f l r)=x /\ x<=k /\ (∀i,i<x ->lt (g p k) (g p i)=false) /\ ∀i,x<=i ->i<k ->lt (g p k) (g p i)=true
 |0,l,r,h1,h2,h3,h4,h5=>⟨l,rfl,by omega,h4,fun i a b=>h5 i (by omega) b⟩
 |f+1,l,r,h1,h2,h3,h4,h5=>by
  have irr:∀a,lt a a=false:=fun a=>by
   cases q:lt a a with
   |false=>rfl
   |true=>rw[O.as a a q] at q;cases q
  have up:∀i j,i<=j ->j<k ->lt (g p j) (g p i)=false:=fun i j h1 h2=>by
   by_cases e:i=j
   ·rw[e];exact irr _
   ·exact oq O (h i j (by omega) h2)
  show∃x,evT lt (if l≥r then KasT.ret l else .ask (p.getD k 0) (p.getD ((l+r) /2) 0) fun c=>if c=true then kas_place p k f l ((l+r) /2) else kas_place p k f ((l+r) /2+1) r)=x /\ _
  by_cases c:l≥r
  ·rw[if_pos c];exact⟨l,rfl,by omega,h4,fun i a b=>h5 i (by omega) b⟩
  ·rw[if_neg c];show∃x,evT lt (if lt (g p k) (g p ((l+r) /2))=true then kas_place p k f l ((l+r) /2) else kas_place p k f ((l+r) /2+1) r)=x /\ _
   by_cases d:lt (g p k) (g p ((l+r) /2))=true
   ·rw[if_pos d];exact i7 h f l ((l+r) /2) (by omega) (by omega) (by omega) h4 fun i a b=>l4 O d (up _ _ a b)
   ·rw[if_neg d];have d':lt (g p k) (g p ((l+r) /2))=false:=by simpa using d
    exact i7 h f ((l+r) /2+1) r (by omega) h2 (by omega) (fun i a=>O.tr _ _ _ (up i ((l+r) /2) (by omega) (by omega)) d') h5
theorem oa:∀(f:Nat) (p:Array Nat) (k:Nat),Asc lt p k ->Pre N p k ->k+f=N -> ∃p',evT lt (kas_bin f p k)=p' /\ Asc lt p' N /\ Pre N p' N
 |0,p,k,h,hP,e=>by
  have e':k=N:=e
  subst e';exact⟨p,rfl,h,hP⟩
 |f+1,p,k,h,hP,e=>by
  show∃p',evT lt ((kas_place p k k 0 k).bind fun l=>kas_bin f (bubble p k (k-l)) (k+1))=p' /\ _
  rw[gQ];obtain⟨x,e1,xk,q1,q2⟩:=i7 O h k 0 k (aN _) (ak _) (by omega) (fun i a=>absurd a (Nat.not_lt_zero _)) fun i a b=>by omega
  rw[e1];have z:=hP.sz
  have gb:∀i,g (bubble p k (k-x)) i=if i=x then g p k else if x<i /\ i<=k then g p (i-1) else g p i:=fun i=>by
   have e:=getElem?_bubble (xs:=p) (src:=k) (by omega) (k-x) (by omega) i
   rw[show k-(k-x)=x by omega] at e
   by_cases c1:i=x
   ·rw[if_pos c1] at e⊢;exact qN e
   ·rw[if_neg c1] at e⊢
    by_cases c2:x<i /\ i<=k
    ·rw[if_pos c2] at e⊢;exact qN e
    ·rw[if_neg c2] at e⊢;exact qN e
  have hk:=hP.hi k (ak _) (by omega)
  refine oa f (bubble p k (k-x)) (k+1) (fun i j hij hj=> ?_) ⟨(bubble_size _ _ _).trans z,(bubble_perm _ _ _).trans hP.pm,fun i h1 h2=> ?_,fun i hi=> ?_,by omega⟩ (by omega)
  ·rw[gb,gb]
   by_cases c1:i=x
   ·rw[if_pos c1,if_neg (by omega),if_pos (by omega)];exact .inl (q2 _ (by omega) (by omega))
   ·rw[if_neg c1]
    by_cases c2:j=x
    ·rw[if_pos c2,if_neg (by omega)];refine .inr ⟨q1 i (by omega),?_⟩;rw[hk];exact hP.lo i (by omega)
    ·rw[if_neg c2]
     by_cases c3:x<i /\ i<=k
     ·rw[if_pos c3,if_pos (by omega)];exact h _ _ (by omega) (by omega)
     ·rw[if_neg c3]
      by_cases c4:x<j /\ j<=k
      ·rw[if_pos c4];exact h _ _ (by omega) (by omega)
      ·rw[if_neg c4];exact h _ _ hij (by omega)
  ·rw[gb,if_neg (by omega),if_neg (by omega)];exact hP.hi i (by omega) h2
  ·rw[gb];split
   ·omega
   ·split
    ·have:=hP.lo (i-1) (by omega)
     omega
    ·have:=hP.lo i (by omega)
     omega
theorem ol(h2:2<=N):∃p,evT lt (kas_sort N)=p /\ p.size=N /\ p.Perm (aQ (aw N)) /\ Asc lt p N:=by
 unfold kas_sort;rw[gQ];obtain⟨m,p',e,h,hP,m1⟩:=nE O h2
 rw[e];dsimp only;have l:=hP.le
 by_cases c:m<N
 ·rw[if_pos c,cJ m1];obtain⟨p2,e2,h3,hP2⟩:=oa O (N-m) p' m h hP (by omega)
  exact⟨p2,e2,hP2.sz,hP2.pm,h3⟩
 ·rw[if_neg c];have:m=N:=by omega
  subst this;exact⟨p',rfl,hP.sz,hP.pm,h⟩
end
end SR
namespace L2
open PySem PySem.Spec PyProof.Rows PySem.W
noncomputable def rK(X:Cx)(A:Around)(qual:Str)(scope:Scope)(cl:List (Str×Addr))(N:List Str)(L f c:Addr)(s:Shared)(H:Hp)(pn:List (Addr×Obj)):Cx where
 prog:=X.prog
 w:=X.w
 K:=X.K
 mg:=X.mg
 base:=X.base
 A:=A.deeper (envX qual scope L f (.ref c) cl)
 N:=N
 s₀:=s
 H₀:=H
 env:=envX qual scope L f (.ref c) cl
 outer:=X.stack
 stack:=envX qual scope L f (.ref c) cl::X.stack
 ex:=[]
 fn:=fun _=>false
 calm:=X.calm
 pn:=pn
 xe:=fun _ _=>False
noncomputable def kO(σ:St)(js:List Nat)(v:V):St:=some v::frV σ js
end L2
namespace L2
open PySem PySem.Spec PyProof.Rows PySem.W
structure LamB(mg:Str ->Option Value)(base:Heap)(c P:Addr):Prop where
 hd:CodeHd base c P
 bm:base.BuiltinsAt mg P
 ne:mainGlobals≠P
 gl:base.Ns mainGlobals mg
noncomputable def sj(l d:Nat)(q:Str):Array Value:= #[rawInt l,rawInt d,.str q 0]
end L2
namespace SR
open PySem PySem.W PyProof.Rows
noncomputable def AskIn(N:Nat){α:Type}:KasT α ->(α ->Prop) ->Prop
 | .ret a,R=>R a
 | .ask i j k,R=>i<N /\ j<N /\ ∀b,AskIn N (k b) R
theorem AskIn.mono{N:Nat}{α:Type}{R R':α ->Prop}(h:∀a,R a ->R' a):∀{t:KasT α},AskIn N t R ->AskIn N t R'
 | .ret _,q=>h _ q
 | .ask _ _ _,q=>⟨q.1,q.2.1,fun b=>AskIn.mono h (q.2.2 b)⟩
theorem AskIn.bind{N:Nat}{α β:Type}{f:α ->KasT β}{R:β ->Prop}:∀{t:KasT α},AskIn N t (fun a=>AskIn N (f a) R) ->AskIn N (t.bind f) R
 | .ret _,q=>q
 | .ask _ _ _,q=>⟨q.1,q.2.1,fun b=>AskIn.bind (q.2.2 b)⟩
theorem kz{lt:Nat ->Nat ->Bool}{N:Nat}{cmp:Nat ->Nat ->(Bool ->Shared ->Prop) ->Shared ->Prop}{s:Shared}(hc:∀i j C,i<N ->j<N ->C (lt i j) s ->cmp i j C s){α:Type}{Q:α ->Shared ->Prop}{R:α ->Prop}:
  ∀(t:KasT α),AskIn N t R ->Q (evT lt t) s ->t.kasWp cmp Q s
 | .ret _,_,h=>h
 | .ask i j k,q,h=>hc i j _ q.1 q.2.1 (kz hc (k (lt i j)) (q.2.2 _) h)
noncomputable def Bn(N:Nat)(p:Array Nat):Prop:=∀i,p.getD i 0<N
theorem Bn.pos{N:Nat}{p:Array Nat}(h:Bn N p):0<N:=bp (aN _) (h 0)
theorem Bn.of{N:Nat}{p:Array Nat}(hN:0<N)(h:∀x∈p,x<N):Bn N p:=fun i=>by
 by_cases hi:i<p.size
 ·have e:p.getD i 0=p[i]:=by simp[dB,hi]
  rw[e];exact h _ (Array.getElem_mem hi)
 ·have e:p.getD i 0=0:=by simp[dB,hi]
  rw[e];exact hN
theorem Bn.mem{N:Nat}{p:Array Nat}(h:Bn N p):∀x∈p,x<N:=fun x hx=>by
 obtain⟨i,hi,rfl⟩:=Array.mem_iff_getElem.mp hx
 have:=h i
 have e:p.getD i 0=p[i]:=by simp[dB,hi]
 rwa [e] at this
theorem Bn.perm{N:Nat}{p q:Array Nat}(h:Bn N p)(e:q.Perm p):Bn N q:= .of h.pos fun x hx=>h.mem x (e.mem_iff.mp hx)
theorem Bn.rev{N:Nat}{p:Array Nat}(h:Bn N p)(i j:Nat):Bn N (kas_rev p i j):=h.perm (mirror_perm _ _ _ _)
section
variable {N:Nat}
theorem kc{p:Array Nat}(h:Bn N p):∀f n:Nat,AskIn N (kas_asc p f n) fun _=>True
 |0,_=>trivial
 |f+1,n=>⟨h _,h _,fun b=>by
  cases b
  ·exact kc h f (n+1)
  ·trivial⟩
theorem iq:∀(f:Nat) (p:Array Nat) (n q:Nat),Bn N p ->AskIn N (kas_desc f p n q) fun r=>Bn N r.1
 |0,p,n,q,h=>h
 |f+1,p,n,q,h=>⟨h _,h _,fun b=>by
  cases b
  ·exact⟨h _,h _,fun d=>by
    cases d
    ·exact iq f p (n+1) (q+1) h
    ·exact h⟩
  ·show AskIn N (if q>0 then _ else _) _
   by_cases c:q>0
   ·rw[if_pos c];exact iq f _ _ _ (h.rev _ _)
   ·rw[if_neg c];exact iq f _ _ _ h⟩
theorem jQ{n nrem:Nat}{p:Array Nat}(h:Bn N p):AskIn N (kas_tail3 n nrem p) fun r=>Bn N r.2:=
 AskIn.bind ((kc (h.rev _ _) _ _).mono fun _ _=>h.rev _ _)
theorem ii{n nrem:Nat}{p:Array Nat}(h:Bn N p):AskIn N (kas_descPart n nrem p) fun r=>Bn N r.2:=
 AskIn.bind ((iq _ _ _ _ h).mono fun r hr=>by
  by_cases c:r.2.2>0
  ·rw[if_pos c];exact jQ (hr.rev _ _)
  ·rw[if_neg c];exact jQ hr)
theorem mH{nrem:Nat}{p:Array Nat}(h:Bn N p):AskIn N (kas_count nrem p) fun r=>Bn N r.2:=
 AskIn.bind ((kc h _ _).mono fun n _=>by
  by_cases c:(n==nrem)=true
  ·rw[if_pos c];exact h
  ·rw[if_neg c]
   by_cases c2:n>1
   ·rw[if_pos c2];exact⟨h _,h _,fun b=>by
     cases b
     ·exact ii (h.rev _ _)
     ·exact h⟩
   ·rw[if_neg c2];exact ii h)
theorem iG{p:Array Nat}(h:Bn N p)(k:Nat):∀f l r:Nat,AskIn N (kas_place p k f l r) fun _=>True
 |0,_,_=>trivial
 |f+1,l,r=>by
  unfold kas_place
  by_cases c:l≥r
  ·rw[if_pos c];trivial
  ·rw[if_neg c];exact⟨h _,h _,fun b=>by
    cases b
    ·exact iG h k f _ _
    ·exact iG h k f _ _⟩
theorem mI:∀(f:Nat) (p:Array Nat) (k:Nat),Bn N p ->AskIn N (kas_bin f p k) fun _=>True
 |0,_,_,_=>trivial
 |f+1,p,k,h=>AskIn.bind ((iG h k _ _ _).mono fun l _=>mI f _ _ (h.perm (bubble_perm _ _ _)))
theorem nM(hN:0<N):AskIn N (kas_sort N) fun _=>True:=by
 have h0:Bn N (aQ (aw N)):= .of hN fun x hx=>by simpa using hx
 refine AskIn.bind ((mH h0).mono fun r hr=> ?_)
 by_cases c:r.1<N
 ·rw[if_pos c];exact mI _ _ _ hr
 ·rw[if_neg c];trivial
end
theorem sort_wp{lt:Nat ->Nat ->Bool}(O:Ord lt){N:Nat}(h2:2<=N){cmp:Nat ->Nat ->(Bool ->Shared ->Prop) ->Shared ->Prop}{s:Shared}(hc:∀i j C,i<N ->j<N ->C (lt i j) s ->cmp i j C s)
  {Q:Array Nat ->Shared ->Prop} (h:∀p:Array Nat,p.toList.Perm (aw N) ->p.toList.Pairwise (sl lt) ->Q p s):(kas_sort N).kasWp cmp Q s:=by
 refine kz hc (kas_sort N) (nM (by omega)) ?_;obtain⟨p,e,sz,pm,as⟩:=ol O h2
 rw[e];refine h p ?_ ?_
 ·have:=Array.perm_iff_toList_perm.mp pm
  simpa using this
 ·rw[cO];intro i j hi hj hij;have hi':i<p.size:=by simpa using hi
  have hj':j<p.size:=by simpa using hj
  have q:=as i j hij (by omega)
  have e1:g p i=p[i]:=by simp[g,dB,hi']
  have e2:g p j=p[j]:=by simp[g,dB,hj']
  rw[e1,e2] at q
  simpa using q
end SR
namespace L2
open PySem PySem.Spec PyProof.Rows PySem.W
section
variable {X:Cx} {pins:List (Addr×Obj)} {σ:St} {H:Hp} {s:Shared}
theorem Inv.more{a:Addr}{o:Obj}(I:Inv X pins σ H s)(e:s.heap.get? a=some o)(n:H a=none)(h1:a≠X.env.locals)(h2:a∉X.fs)(h3:∀v,o.data≠ .cell v):Inv X ((a,o)::pins) σ H s:=
 I.pins_of fun p hp=>by
  rcases aD.mp hp with rfl|hp
  ·exact⟨e,n,h1,h2,h3⟩
  ·exact I.pin p (aC _ hp)
structure Ours(X:Cx)(pins:List (Addr×Obj))(H:Hp)(s:Shared)(a:Addr):Prop where
 n:H a=none
 ge:X.s₀.heap.objs.size<=a
 nl:a≠X.env.locals
 nc:∀x c,X.env.cells.lookup x=some c ->c≠a
 np:∀p∈X.pn++pins,p.1≠a
 nf:a∉X.fs
theorem Inv.fresh_ours(I:Inv X pins σ H s){a:Addr}(h:s.heap.objs.size<=a):Ours X pins H s a:=
 ⟨I.hok.fresh h,bj I.sz h,dj (aq I.lt h),fun x c e z=>by
  obtain⟨v,o,ho,_⟩:=I.cell x c e
  rw[z] at ho;exact absurd (aq (Heap.lt_size ho) h) (bf _),fun p hp z=>by
  obtain⟨e,_⟩:=I.pin p hp
  rw[z] at e;exact absurd (aq (Heap.lt_size e) h) (bf _),I.nofs h⟩
theorem Inv.set_ours{a:Addr}{h':Heap}{tk:Nat}(I:Inv X pins σ H s)(O:Ours X pins H s a)(k:∀b o,b≠a ->s.heap.get? b=some o ->h'.get? b=some o):Inv X pins σ H {s with heap:=h',toks:=tk}:=
 I.turned k O.n O.nl (.inr O.ge) O.nc O.np
theorem Inv.take{a:Addr}{o:HO}(I:Inv X pins σ H s)(O:Ours X pins H s a)(new:ObjOk X.prog X.w (upd H a o) s.heap a o):Inv X pins σ (upd H a o) s:=
 I.track O.n (fun b u e _=>ax (aq (Heap.lt_size e) O.ge)) (Ne.symm O.nl) O.nc O.np new
end
noncomputable def sJ(X:Cx)(s:Shared)(u:Value)(xs:List V):Prop:=∀(A:Around) (E:Value ->Shared ->Prop) (Q:List Value ->Shared ->Prop),A.handled=none ->
 (∀us h' tk,(∀b o,s.heap.get? b=some o ->h'.get? b=some o) ->Vals xs us ->Q us {s with heap:=h',toks:=tk}) ->wpAny (model X.prog X.w) A (collect u) Q E s
section
variable {X:Cx} {pins:List (Addr×Obj)} {σ:St} {H:Hp} {s:Shared}
theorem mn{l:Addr}{xs:List V}(I:Inv X pins σ H s)(hl:SqL X.K H l xs)(h64:xs.length<64):sJ X s (.ref l) xs:=by
 intro A E Q _ h;obtain⟨its,r,pl,hz⟩:=I.list hl
 have hlen:=r.length
 refine collect_list pl.isList (h _ _ _ (fun b o e=> ?_) r) (by rw[sizeLine_eq];omega);have hlt:=Heap.lt_size e
 rw[Heap.get?_update_ne _ _ _ _ (ax hlt)];exact Heap.get?_push_of_some _ e
end
end L2
namespace L2
open PySem PySem.Spec PyProof.Rows PySem.W
noncomputable abbrev pJ(us:List Value)(n:Nat):Obj:=seqObj "list" us.toArray n
section
variable {X:Cx} {pins:List (Addr×Obj)} {σ:St} {H:Hp} {s:Shared} {A:Around}
theorem Ours.pin{a:Addr}{o:Obj}{own:List (Addr×Obj)}{H1:Hp}{s1:Shared}(O:Ours X pins H s a)(I:Inv X ((a,o)::pins) σ H1 s1):Ours X pins H1 s1 a:=by
 obtain⟨e,n,_⟩:=I.pin (a,o) (aC _ aP)
 exact⟨n,O.ge,O.nl,O.nc,O.np,O.nf⟩
structure KeyLt(X:Cx)(A:Around)(Rk:V ->V ->Hp ->Prop)(xs:List V)(lt:Nat ->Nat ->Bool)(pins:List (Addr×Obj))(σ:St)(H:Hp):Prop where
 ord:SR.Ord lt
 ask:∀own s1 H1 kvs ks,Ext H H1 ->Inv X (own++pins) σ H1 s1 ->Paired (fun x k=>Rk x k H1) xs kvs ->Vals kvs ks ->2<=xs.length ->
  ∃κ,(∀(Q:SortKind ->Shared ->Prop) E,Q κ s1 ->wpAny (model X.prog X.w) A (keyKind' ks.toArray) Q E s1) /\ ∀i j C,i<xs.length ->j<xs.length ->C (lt i j) s1 ->kas_ask X.prog X.w A κ ks i j C s1
noncomputable def gm(lt:Nat ->Nat ->Bool)(n:Nat)(q:List Nat):Prop:=q.Perm (aw n) /\ q.Pairwise (SR.sl lt)
noncomputable def atV(xs:List V)(i:Nat):V:=xs.getD i .non
theorem jo{xs:List V}{us:List Value}(r:Vals xs us):∀{q:List Nat},(∀i∈q,i<xs.length) ->Vals (q.map (atV xs)) (q.map fun i=>us.getD i Value.none)
 |[],_=> .nil
 |i::q,h=>by
  have hi:=h i aP
  refine .cons ?_ (jo r fun j hj=>h j (aF _ hj));obtain⟨u,hu,ru⟩:=r.get (aj hi)
  have e1:atV xs i=xs[i]:=by simp[atV,hi]
  have e2:us.getD i Value.none=u:=by rw[aA,hu];rfl
  rw[e1];show RelV _ (us.getD i Value.none)
  rw[e2];exact ru
end
end L2
namespace L2
open PySem PySem.Spec PyProof.Rows PySem.W
theorem nZ:∀a b:List Int,HT.lexLt a b=true ->HT.lexLt b a=false
 |[],[],h=>by cases h
 |[],_::_,_=>rfl
 |_::_,[],h=>by cases h
 |x::a,y::b,h=>by
  rw[HT.lexLt_cons] at h⊢
  by_cases e:x=y
  ·rw[if_pos e] at h;rw[if_pos e.symm];exact nZ a b h
  ·rw[if_neg e] at h;rw[if_neg (Ne.symm e)];simp only[decide_eq_true_eq,decide_eq_false_iff_not] at h⊢;omega
theorem nY:∀a b c:List Int,HT.lexLt b a=false ->HT.lexLt c b=false ->HT.lexLt c a=false
 |[],_,c,_,_=>by cases c<;>rfl
 |_::_,[],_,h,_=>by cases h
 |_::_,_::_,[],_,h=>by cases h
 |x::a,y::b,z::c,h1,h2=>by
  rw[HT.lexLt_cons] at h1 h2⊢
  by_cases e1:y=x
  ·rw[if_pos e1] at h1
   by_cases e2:z=y
   ·rw[if_pos e2] at h2;rw[if_pos (e2.trans e1)];exact nY a b c h1 h2
   ·rw[if_neg e2] at h2;rw[if_neg (fun q=>e2 (q.trans e1.symm))];rw[<-e1];exact h2
  ·rw[if_neg e1] at h1
   by_cases e2:z=y
   ·rw[if_neg (fun q=>e1 (e2.symm.trans q)),e2];exact h1
   ·rw[if_neg e2] at h2;simp only[decide_eq_false_iff_not] at h1 h2;rw[if_neg (by omega)];simp only[decide_eq_false_iff_not];omega
noncomputable def ltI(g:V ->Int)(xs:List V)(i j:Nat):Bool:=decide (g (atV xs i)<g (atV xs j))
noncomputable def ltT(g:V ->List Int)(xs:List V)(i j:Nat):Bool:=HT.lexLt (g (atV xs i)) (g (atV xs j))
theorem rD(g:V ->List Int)(xs:List V):SR.Ord (ltT g xs):=⟨fun a b h=>nZ _ _ h,fun a b c h1 h2=>nY _ _ _ h1 h2⟩
noncomputable def rh(g:V ->List Int):V ->V ->Hp ->Prop:=fun x k H=>∃t,k= .ref t /\ H t=some (.tup ((g x).map V.int))
theorem jB{α β:Type}{F:α ->β ->Prop}:∀{as:List α} {bs:List β},Paired F as bs -> ∀{i:Nat} {a:α},as[i]? =some a -> ∃b,bs[i]? =some b /\ F a b
 |_,_,.cons r t,0,a,h=>by cases h;exact⟨_,rfl,r⟩
 |_,_,.cons r t,i+1,a,h=>jB t (i:=i) (by simpa using h)
theorem kb{xs:List V}{i:Nat}(h:i<xs.length):xs[i]? =some (atV xs i):=by
 rw[aj h];simp[atV,h]
section
variable {X:Cx} {A:Around} {xs:List V} {pins:List (Addr×Obj)} {σ:St} {H:Hp}
theorem kx{s:Shared}{b:Bool}{C:Bool ->Shared ->Prop}:∀{us vs:List Value} {ns ms:List Int} {i:Nat},IntsAre us ns ->IntsAre vs ms ->ns.length=ms.length ->C (HT.lexLt ns ms) s ->
  KatLex X.prog X.w A b false C (us.zip vs) i s
 |_,_,_,_,_,.nil,.nil,_,h=>h
 |_,_,_,_,i,.cons x t hu,.cons y t' hv,hl,h=>by
  have hl':=hl
  simp only[a9,Nat.add_right_cancel_iff] at hl';rw[List.zip_cons_cons];refine kat_cons (wpAny_eqBool_int ?_);rw[HT.lexLt_cons] at h
  by_cases e:x=y
  ·rw[if_pos e] at h;have:(x==y)=true:=by simpa using e
   rw[this];exact kat_yes (kx hu hv hl' h)
  ·rw[if_neg e] at h;have:(x==y)=false:=by simpa using e
   rw[this];refine kat_no ?_
   by_cases c:(b&&i==0)=true
   ·rw[c];exact oneLt_int h
   ·have c':(b&&i==0)=false:=by simpa using c
    rw[c'];exact kat_one _ _ (lt_int h)
theorem mj{f:Value}{r:List Value}:∀{ns:List Int},IntsAre (f::r) ns -> ∃n t,f= .int n t
 |_,.cons n t _=>⟨n,t,rfl⟩
theorem oW(g:V ->List Int)(m:Nat)(hg:∀x∈xs,(g x).length=m+1):KeyLt X A (rh g) xs (ltT g xs) pins σ H:=⟨rD g xs,fun own s1 H1 kvs ks x1 J pr vk h2=>by
 have lk:ks.length=xs.length:=by
  have h1:=pr.length
  have h2:=vk.length
  omega
 have tup:∀{x k:V} {u:Value},rh g x k H1 ->RelV k u -> ∃t o its n,u= .ref t /\ s1.heap.get? t=some o /\ o.cls= .type "tuple" /\ o.data= .seq its n /\ IntsAre its.toList (g x):=by
  intro x k u rk ru;obtain⟨t,rfl,et⟩:=rk
  cases ru;obtain⟨its,r,ht,hz⟩:=J.tuple (SqT.of et)
  obtain⟨o,e1,e2,n,e3⟩:=ht
  exact⟨t,o,_,n,rfl,e1,e2,e3,by simpa using intsAre_of r⟩
 have at':∀i,i<xs.length -> ∃t o its n,ks.getD i Value.none= .ref t /\ s1.heap.get? t=some o /\ o.cls= .type "tuple" /\ o.data= .seq its n /\ IntsAre its.toList (g (atV xs i)):=fun i hi=>by
  obtain⟨k,ek,rk⟩:=jB pr (kb hi)
  obtain⟨u,eu,ru⟩:=vk.get ek
  obtain⟨t,o,its,n,rfl,q⟩:=tup rk ru
  exact⟨t,o,its,n,by rw[aA,eu];rfl,q⟩
 have firsts:∀{xs' kvs':List V} {ks':List Value},(∀x∈xs',(g x).length=m+1) ->Paired (fun x k=>rh g x k H1) xs' kvs' ->Vals kvs' ks' -> ∃fs,KatTups s1.heap ks' fs /\ fs.length=xs'.length /\ ∀v∈fs,Looks (model X.prog X.w) s1.heap (typeOf v) (.type "int"):=by
  intro xs' kvs' ks' hg' p
  induction p generalizing ks' with
  |nil=>intro v;cases v;exact⟨[],.nil,rfl,fun v hv=>absurd hv (by simp)⟩
  |cons r t ih=>
   intro v;cases v with
   |cons a b=>
    obtain⟨fs,k1,k2,k3⟩:=ih (fun x hx=>hg' x (aF _ hx)) b
    obtain⟨t,o,its,n,rfl,e1,e2,e3,hi⟩:=tup r a
    have hl:=hg' _ aP
    cases hits:its.toList with
    |nil=>
     have:=hi.length
     rw[hits] at this;simp at this;omega
    |cons f r'=>
     have hf:its[0]? =some f:=by
      rw[<-bA,hits];rfl
     rw[hits] at hi;refine⟨f::fs,KatTups.cons e1 e2 e3 hf k1,by simp[k2],fun v hv=> ?_⟩;rcases aD.mp hv with rfl|hv
     ·obtain⟨n,t,rfl⟩:=mj hi
      exact Looks.of_pure rfl
     ·exact k3 v hv
 obtain⟨fs,k1,k2,k3⟩:=firsts hg pr vk
 refine⟨tuples' (Value.type "int"!=Value.type "tuple"),fun Q E h=>kat_kind k1 (by omega) k3 (by decide) h,fun i j C hi' hj' hC=> ?_⟩;obtain⟨t,o,its,n,e0,e1,e2,e3,hi⟩:=at' i hi'
 obtain⟨t',o',its',n',f0,f1,f2,f3,hi2⟩:=at' j hj'
 have l1:=hg (atV xs i) (aK (kb hi'))
 have l2:=hg (atV xs j) (aK (kb hj'))
 show wpAny _ _ (keyLt' (tuples' _) (ks.getD i Value.none) (ks.getD j Value.none)) C _ s1
 rw[e0,f0];refine kat_lt e1 e3 f1 f3 ?_;have hs:decide (its.size<its'.size)=false:=by
  have q1:=hi.length
  have q2:=hi2.length
  rw[bK] at q1 q2;simp only[decide_eq_false_iff_not];omega
 rw[hs];exact kx hi hi2 (by omega) hC⟩
end
end L2
namespace L2
open PySem PySem.Spec PyProof.Rows PySem.W
noncomputable def rY(K:af)(H:Hp)(a:Addr)(xs:List V):Prop:=SqL K H a xs∨∃n:Nat,H a=some (.rng 0 (n:Int)) /\ xs=(aw n).map fun j:Nat=>V.int (j:Int)
noncomputable def iV(K:af)(P:Addr)(tag:Array Value)(js:List Nat)(te tk:TE):TE:=fun σ H Q=>te σ H fun v H1=>∃a xs,∃g:V ->Int,v= .ref a /\ rY K H1 a xs /\ xs.length<64 /\ H1 P=some (.tbl tag) /\
 (∀H2 x,Ext H1 H2 ->x∈xs ->tk (kO σ js x) H2 fun k H3=>Ext H2 H3 /\ k= .int (g x)) /\ ∀D H2 q,Ext H1 H2 ->H1 D=none ->gm (ltI g xs) xs.length q ->H2 D=some (.lst (q.map (atV xs))) ->Q (.ref D) H2
noncomputable def iU(K:af)(P:Addr)(tag:Array Value)(js:List Nat)(te tk:TE):TE:=fun σ H Q=>te σ H fun v H1=>∃a xs,∃(g:V ->List Int) (m:Nat),v= .ref a /\ rY K H1 a xs /\ xs.length<64 /\ (∀x∈xs,(g x).length=m+1) /\ H1 P=some (.tbl tag) /\
 (∀H2 x,Ext H1 H2 ->x∈xs ->tk (kO σ js x) H2 fun k H3=>Ext H2 H3 /\ ∃t,k= .ref t /\ H3 t=some (.tup ((g x).map V.int))) /\ ∀D H2 q,Ext H1 H2 ->H1 D=none ->gm (ltT g xs) xs.length q ->H2 D=some (.lst (q.map (atV xs))) ->Q (.ref D) H2
section
variable {X:Cx} {K:af} {k:Nat} {e body:Expr} {te tk:TE} {p pos lpos kpos:Pos} {scope:Scope} {params:Arguments} {N:List Str} {js:List Nat} {x:Str} {c0 P:Addr} {tag:Array Value}
variable (hK:X.K=K) (hc:X.calm=true) (hg:Gl X "sorted") (hm:X.mg "sorted"=none) (hv:bootBuiltins "sorted"=some (.builtin "sorted")) (hr:Room (k+1) X.A)
  (B:LamB X.mg X.base c0 P) (hcode:X.env.code= .ref c0) (hdef:defaultsOf params X.env=([],[])) (S:CScope X scope N 1 js) (hx:N[0]? =some x) (hl:scope.names.lookup x=some .local) (hco:scope.isCoroutine=false) (hgen:scope.isGenerator=false)
  (hbind:∀cl pm c ct u,bindArgs (kla_fn "<lambda>" (X.env.qual++"<lambda>") params body scope cl pm (.ref c) ct) ⟨[u],[]⟩=pure [(x,u)]) (htag:tag=sj lpos.line lpos.col (X.env.qual++"<lambda>"))
  (he:PE X e te) (hb:∀cl L f c s H pn,PE (rK X X.A.in1.in1 (X.env.qual++"<lambda>") scope cl N L f c s H pn) body tk)
  (hst:starEach [e] X.env=[(false,eval e X.env)]) (hkw:keywordEach [⟨some (Str.ofString "key"),.Lambda params body scope lpos,kpos⟩] X.env=[(some (Str.ofString "key"),eval (.Lambda params body scope lpos) X.env)])
include hK hc hg hm hv hr B hcode hdef S hx hl hco hgen hbind htag he hb hst hkw
end
end L2
namespace L2
open PySem PySem.Spec PyProof.Rows PySem.W
noncomputable def qf(K:af):List V ->Hp ->VK ->Prop:=fun vs H Q=>∃(l:Addr) (xs:List V) (g:V ->List Int) (m:Nat),vs=[.ref l] /\ SqL K H l xs /\ xs.length<64 /\ (∀x∈xs,(g x).length=m+1 /\ ∃t,x= .ref t /\ H t=some (.tup ((g x).map V.int))) /\
 ∀D q,H D=none ->gm (ltT g xs) xs.length q ->Q (.ref D) (upd H D (.lst (q.map (atV xs))))
section
variable {X:Cx} {pins:List (Addr×Obj)} {σ:St} {H:Hp} {s:Shared} {A:Around}
theorem iB{α:Type}{F:α ->α ->Prop}:∀{as:List α},(∀a∈as,F a a) ->Paired F as as
 |[],_=> .nil
 |a::as,h=> .cons (h a aP) (iB fun b hb=>h b (aF _ hb))
theorem mV{a:Addr}{n:Nat}{us:List Value}{xs:List V}{lt:Nat ->Nat ->Bool}{Rk:V ->V ->Hp ->Prop}{P:PySem.Fin ->Shared ->Prop}{E:Value ->Shared ->Prop}(I:Inv X pins σ H s)(O:Ours X pins H s a)(ha:s.heap.get? a=some (pJ us n))
  (r:Vals xs us) (h64:us.length<64) (hp:∀x∈xs,Rk x x H) (Kl:KeyLt X A Rk xs lt pins σ H)
  (h:∀q s1 c,gm lt xs.length q ->Inv X pins σ H s1 ->Ours X pins H s1 a ->s1.heap.get? a=some (pJ (q.map fun i=>us.getD i Value.none) c) ->P (.done (.ret .none)) s1):
  wpAny (model X.prog X.w) A (Builtin.«list.sort» ⟨[.ref a],[]⟩) P E s:=by
 have hlen:=r.length
 have sz64:∀k,k<64 ->k<=sizeLine:=fun k hk=>by rw[sizeLine_eq];omega
 have s1:=Heap.SameBut.update s.heap a (Obj.mapSeq fun _=>(#[]:Array Value))
 obtain⟨e1,ho1⟩:∃e1,(s.heap.update a (Obj.mapSeq fun _=>(#[]:Array Value))).get? a=some (seqObj "list" #[] e1):=⟨_,get?_update_seq ha fun _=> #[]⟩
 have I1:Inv X pins σ H {s with heap:=s.heap.update a (Obj.mapSeq fun _=>(#[]:Array Value))}:=I.set_ours (tk:=s.toks) O fun b o hb e=>(s1.2 b hb).trans e
 rw[list_sort_plain];refine wpAny_bind (listItems_at ha rfl (wpAny_bind (listUpdate_at ha rfl ?_ (by rw[ao];exact sz64 _ h64) (aN _))));refine wpAny_bind (seqEpoch_at ho1 rfl (wpAny_bind (wpAny_newTuple (wpAny_bind (wpAny_newList (wpAny_holding ?_) (aN _))) (by show us.length<=_;exact sz64 _ h64))));generalize hh1:s.heap.update a (Obj.mapSeq fun _=>(#[]:Array Value))=h1 at*;have I2:Inv X pins σ H {s with heap:=h1.push (seqObj "tuple" us.toArray 0)}:=I1.kept (t':=s.toks) fun b o e=>Heap.get?_push_of_some _ e
 have I3:Inv X pins σ H {s with heap:=(h1.push (seqObj "tuple" us.toArray 0)).push (seqObj "list" #[] 0)}:=I2.kept (t':=s.toks) fun b o e=>Heap.get?_push_of_some _ e
 have ea3:((h1.push (seqObj "tuple" us.toArray 0)).push (seqObj "list" #[] 0)).get? a=some (seqObj "list" #[] e1):=Heap.get?_push_of_some _ (Heap.get?_push_of_some _ ho1)
 show wpAny _ A _ P E {s with heap:=(h1.push (seqObj "tuple" us.toArray 0)).push (seqObj "list" #[] 0)}
 generalize hs3:({s with heap:=(h1.push (seqObj "tuple" us.toArray 0)).push (seqObj "list" #[] 0)}:Shared)=s3 at*;have ga:s3.heap.get? a=some (seqObj "list" #[] e1):=by rw[<-hs3];exact ea3
 dsimp only
 --the end
 have tail:∀(st:SortSt) (q:List Nat),gm lt xs.length q ->failedOf st=none ->(arrOf st).map (·.2)=aQ (q.map fun i=>us.getD i Value.none) ->wpAny (model X.prog X.w) A (do
   let touched:=(<-seqEpoch a)!=e1
   Builtin.List.listUpdate (.ref a) fun _=>(arrOf st).map (·.2)
   if let some e:=failedOf st then rule "list.sort.comparison-raised";throw e
   if touched then rule "list.sort.modified";raiseError "ValueError" "list modified during sort"
   ret .none) P E s3:=fun st q hq hfl hout=>by
  have ql:q.length=us.length:=by
   have:=hq.1.length_eq
   rw[aU] at this;omega
  have t2:=Heap.SameBut.update s3.heap a (Obj.mapSeq fun _=>(arrOf st).map (·.2))
  obtain⟨c2,hc2⟩:∃c2,(s3.heap.update a (Obj.mapSeq fun _=>(arrOf st).map (·.2))).get? a=some (seqObj "list" ((arrOf st).map (·.2)) c2):=⟨_,get?_update_seq ga fun _=>(arrOf st).map (·.2)⟩
  refine wpAny_bind (seqEpoch_at ga rfl (wpAny_bind (listUpdate_at ga rfl ?_ (aN _) (by
   show((arrOf st).map (·.2)).size<=_
   rw[hout,ao,ag,sizeLine_eq];omega))))
  rw[hfl];simp only[bne_self_eq_false,aV,if_false];have J2:Inv X pins σ H {s3 with heap:=s3.heap.update a (Obj.mapSeq fun _=>(arrOf st).map (·.2))}:=I3.set_ours (tk:=s3.toks) (a:=a) ⟨O.n,O.ge,O.nl,O.nc,O.np,O.nf⟩ fun b o hb g=>(t2.2 b hb).trans g
  refine wpAny_pure (h q _ c2 hq J2 ⟨O.n,O.ge,O.nl,O.nc,O.np,O.nf⟩ ?_);rw[hout] at hc2⊢;exact hc2
 by_cases h2:us.toArray.size<2
 ·rw[if_pos h2,if_pos h2];rw[ao] at h2;refine wpAny_bind (wpAny_pure ?_);rw[StateT.run_pure];refine wpAny_bind (wpAny_pure ?_)
  try dsimp only
  refine tail (SortSt.mk' general' (us.toArray.zip us.toArray) #[] 7 none) (aw xs.length) ⟨eN _,?_⟩ rfl ?_
  ·rw[cO];intro i j hi hj hij;rw[aU] at hi hj;omega
  ·show((us.toArray.zip us.toArray).map (·.2))=_
   apply Array.toList_inj.mp;rw[Array.toList_map,ksk_zip];rw[List.map_snd_zip (by simp)];rw[hlen];apply List.ext_getElem
   ·simp
   ·intro i h1 h3;simp at h1 h3;simp[h1]
 ·rw[if_neg h2,if_neg h2];rw[ao] at h2;obtain⟨κ,kk,ka⟩:=Kl.ask [] s3 H xs us (fun _ _ z=>z) I3 (iB hp) r (by omega)
  refine wpAny_bind (kk _ _ ?_);refine wpAny_bind (wpAny_mono (kat_run (κ:=κ) (vs:=us) (ks:=us) (Q:=fun st' s2=>s2=s3 /\ ∃q,gm lt xs.length q /\ failedOf st'=none /\ (arrOf st').map (·.2)=aQ (q.map fun i=>us.getD i Value.none))
   (G:=fun p s2=>s2=s3 /\ gm lt xs.length p.toList) rfl (by omega) h64 (fun p st' s2 a1 a2 a3 a4=>⟨a4.1,p.toList,a4.2,a3,kat_snds rfl a2⟩) ?_) ?_ fun _ _ e=>e)
  ·exact SR.sort_wp (N:=us.length) (cmp:=kas_ask X.prog X.w A κ us) (s:=s3) (Q:=fun p s2=>s2=s3 /\ gm lt xs.length p.toList) Kl.ord (by omega) (fun i j C hi hj hC=>ka i j C (by omega) (by omega) hC) fun p hp hs=>⟨rfl,by rw[hlen];exact hp,hs⟩
  ·rintro⟨⟨⟩,st'⟩ s2 ⟨rfl,q,hq,hf,ho⟩;exact tail st' q hq hf ho
theorem lh{K:af}(hK:X.K=K)(hc:X.calm=true):gz X (.builtin "sorted") (qf K):=by
 subst hK;intro pins s σ H vs us0 Q I r0 h;obtain⟨l,xs,g,m,rfl,hl,h64,hg,fin⟩:=h
 obtain⟨u,rfl,rx⟩:=vals1 r0
 cases rx;refine Calls.call_function_entry kind_sorted plain_sorted entry_sorted (args_sorted1 _) ?_;unfold Builtin.«sorted»;refine wpAny_bind (m:=checkCount "sorted" 1 1 _) (wpAny_pure ?_);refine wpAny_bind (mn I hl h64 _ _ _ (I.ok.hd hc) fun us h' tk kp r=> ?_);have hlen:=r.length
 refine wpAny_bind (wpAny_newList ?_ (by rw[sizeLine_eq];omega));have I1:Inv X pins σ H {s with heap:=h',toks:=tk}:=I.kept kp
 have I2:Inv X pins σ H {s with heap:=h'.push (pJ us 0),toks:=tk}:=I1.kept (t':=tk) fun b o e=>Heap.get?_push_of_some _ e
 have OD:=I1.fresh_ours (a:=h'.objs.size) (ak _)
 have eD:(h'.push (pJ us 0)).get? h'.objs.size=some (pJ us 0):=Heap.get?_push_size _ rfl
 have OD2:Ours X pins H {s with heap:=h'.push (pJ us 0),toks:=tk} h'.objs.size:=⟨OD.n,OD.ge,OD.nl,OD.nc,OD.np,OD.nf⟩
 refine wpAny_bind (wpAny_holding (wpAny_call_entry slot_list_sort ⟨_,eD,rfl⟩ entry_list_sort ?body (args_list_sort _)))
 case body=>
  refine mV (Rk:=rh g) (lt:=ltT g xs) I2 OD2 eD r (by omega) (fun x hx=>(hg x hx).2) (oW g m fun x hx=>(hg x hx).1) fun q s1 c hq J O ga=>⟨_,rfl,?_⟩
  refine wpAny_pure ⟨_,rfl,?_⟩;have hb:∀i∈q,i<xs.length:=fun i hi=>by
   have:=hq.1.mem_iff.mp hi
   simpa using this
  refine⟨.ref _,_,J.take O ?_,rfl,fin _ q OD.n hq⟩;refine⟨?_,_,c,jo r hb,ga⟩;rw[ag,hq.1.length_eq,aU,sizeLine_eq];omega
end
end L2
namespace MA
noncomputable def sgn(n:Int):Int:=if n<0 then -1 else if 0<n then 1 else 0
theorem i0{n:Int}(h:0<n):sgn n=1:=by unfold sgn;rw[if_neg (by omega),if_pos h]
theorem i1{n:Int}(h:n<0):sgn n= -1:=by unfold sgn;rw[if_pos h]
theorem jt(n:Int):sgn n= -1∨sgn n=0∨sgn n=1:=by unfold sgn;split<;>(try split)<;>simp
noncomputable def ab(i:Int):Int:=if i<0 then -i else i
theorem nQ(i:Int):ab i=(i.natAbs:Int):=by unfold ab;split<;>omega
theorem nA{a b:Int}(hb:0<b):ay b (a%b)=ay a b:=by
 rw[Int.gcd_comm a b];have h:ay b (a%b+b*(a /b))=ay b (a%b):=Int.gcd_add_mul_left_right ..
 rw[Int.emod_add_mul_ediv] at h;exact h.symm
theorem ie(a b:Int):ay (a.natAbs:Int) b=ay a b:=by
 rw[aR,aR];simp
theorem jk(a b:Int):ay a (b.natAbs:Int)=ay a b:=by
 rw[aR,aR];simp
theorem gcd_zero{a:Int}(ha:0<=a):(ay a 0:Int)=a:=by simp;omega
noncomputable def com(x y w:Int):Int:=(ay (ay w x) y:Int)*sgn w
structure IsPt(x y w a b c:Int):Prop where
 pos:0<c
 ex:a*w=x*c
 ey:b*w=y*c
 low:ay (ay a b) c=1
 la:a.natAbs<=x.natAbs
 lb:b.natAbs<=y.natAbs
 lc:c.natAbs<=w.natAbs
structure IsFr(x w a c:Int):Prop where
 pos:0<c
 ex:a*w=x*c
 low:ay a c=1
 la:a.natAbs<=x.natAbs
 lc:c.natAbs<=w.natAbs
theorem my{x y w:Int}(hw:w≠0):com x y w≠0:=by
 unfold com;have h1:ay (ay w x) y≠0:=by
  intro h;have:=dJ.mp h
  have h2:ay w x=0:=by have:=this.1;omega
  exact hw (dJ.mp h2).1
 intro h;rcases bI.mp h with h|h
 ·omega
 ·rcases bg hw with z|z
  ·rw[i1 z] at h;omega
  ·rw[i0 z] at h;omega
theorem j8(x y w:Int)(hw:w≠0):com x y w∣x /\ com x y w∣y /\ com x y w∣w:=by
 have key:∀z,(ay (ay w x) y:Int)∣z ->com x y w∣z:=by
  intro z hz;unfold com;rcases bg hw with q|q
  ·rw[i1 q];rw[show(ay (ay w x) y:Int)* -1= -(ay (ay w x) y:Int) by omega];exact Int.neg_dvd.mpr hz
  ·rw[i0 q,eF];exact hz
 have g1:(ay (ay w x) y:Int)∣(ay w x:Int):=eo _ _
 exact⟨key x (Int.dvd_trans g1 (d8 _ _)),key y (d8 _ _),key w (Int.dvd_trans g1 (eo _ _))⟩
theorem hZ{a b:Int}(h:b∣a):a.fdiv b=a /b:=by
 exact Int.fdiv_eq_ediv_of_dvd h
theorem gu(a b:Int)(h:b∣a):(a /b).natAbs<=a.natAbs:=by
 rw[Int.natAbs_ediv_of_dvd h];exact Nat.div_le_self _ _
theorem mh{x y w:Int}(hw:w≠0):IsPt x y w (x.fdiv (com x y w)) (y.fdiv (com x y w)) (w.fdiv (com x y w)):=by
 obtain⟨dx,dy,dw⟩:=j8 x y w hw
 have hc:=my (x:=x) (y:=y) hw
 rw[hZ dx,hZ dy,hZ dw];obtain⟨a,ha⟩:=dx
 obtain⟨b,hb⟩:=dy
 obtain⟨c,hcw⟩:=dw
 have ea:x /com x y w=a:=by
  have:=cg a hc
  rw[<-ha] at this;exact this
 have eb:y /com x y w=b:=by
  have:=cg b hc
  rw[<-hb] at this;exact this
 have ec:w /com x y w=c:=by
  have:=cg c hc
  rw[<-hcw] at this;exact this
 have la:=gu x _ (⟨a,ha⟩:com x y w∣x)
 have lb:=gu y _ (⟨b,hb⟩:com x y w∣y)
 have lc:=gu w _ (⟨c,hcw⟩:com x y w∣w)
 rw[ea] at la⊢;rw[eb] at lb⊢;rw[ec] at lc⊢;generalize hG:com x y w=G at*;have hgg:(ay (ay w x) y:Int)*sgn w=G:=by rw[<-hG];rfl
 have gpos:0<(ay (ay w x) y:Int):=by
  have:(ay (ay w x) y:Int)≠0:=by
   intro z;rw[z,Int.zero_mul] at hgg;exact hc hgg.symm
  omega
 refine⟨?_,by rw[ha,hcw];grind,by rw[hb,hcw];grind,?_,la,lb,lc⟩
 ·--c is above 0
  rcases bg hw with q|q
  ·rw[i1 q] at hgg;have hGn:G<0:=by omega
   have h1:G*c<0:=by rw[<-hcw];exact q
   exact Int.pos_of_mul_neg_right h1 hGn
  ·rw[i0 q,eF] at hgg;have h1:0<G*c:=by rw[<-hcw];exact q
   exact Int.pos_of_mul_pos_right h1 (by omega)
 ·--lowest terms
  have e1:ay (ay w x) y=G.natAbs:=by
   have:=congrArg Int.natAbs hgg
   rw[dH] at this;have h2:(sgn w).natAbs=1:=by
    rcases bg hw with q|q
    ·rw[i1 q];rfl
    ·rw[i0 q];rfl
   rw[h2,Nat.mul_one] at this
   simpa using this
  have e2:ay (ay w x) y=G.natAbs*ay (ay c a) b:=by
   rw[hcw,ha,hb];rw[Int.gcd_mul_left];have:((G.natAbs*ay c a:Nat):Int).gcd (G*b)=G.natAbs*ay (ay c a) b:=by
    rw[aR,dH];simp only[Int.natAbs_natCast];rw[Nat.gcd_mul_left,aR (ay c a:Int) b];simp
   exact this
  have gn:0<G.natAbs:=by omega
  have e3:ay (ay c a) b=1:=by
   rw[e1] at e2;have:G.natAbs*1=G.natAbs*ay (ay c a) b:=by omega
   exact(Nat.eq_of_mul_eq_mul_left gn this).symm
  have e4:ay (ay a b) c=ay (ay c a) b:=by
   rw[Int.gcd_comm (ay a b:Int) c,Int.gcd_assoc]
  rw[e4,e3]
theorem oX{x w:Int}(hw:w≠0):IsFr x w (x.fdiv ((ay w x:Int)*sgn w)) (w.fdiv ((ay w x:Int)*sgn w)):=by
 have h:=mh (x:=x) (y:=0) (w:=w) hw
 have e:com x 0 w=(ay w x:Int)*sgn w:=by
  unfold com;simp
 rw[e] at h;have h0:(0:Int).fdiv ((ay w x:Int)*sgn w)=0:=Int.zero_fdiv _
 rw[h0] at h;refine⟨h.pos,h.ex,?_,h.la,h.lc⟩;have:=h.low
 rw[Int.gcd_zero,ie] at this;exact this
end MA
namespace MC
open MA
noncomputable abbrev V3:=Int×Int×Int
noncomputable def dt(a b c:V3):Int:=a.1*(b.2.1*c.2.2-b.2.2*c.2.1)-a.2.1*(b.1*c.2.2-b.2.2*c.1)+a.2.2*(b.1*c.2.1-b.2.1*c.1)
noncomputable def ex(m p:V3):Int:=m.1*p.1+m.2.1*p.2.1-m.2.2*p.2.2
noncomputable def Sim(q v:V3):Prop:=∃s t:Int,0<s /\ 0<t /\ q.1*s=v.1*t /\ q.2.1*s=v.2.1*t /\ q.2.2*s=v.2.2*t
theorem Sim.dt{q v:V3}(h:Sim q v)(a b:V3):∃s t:Int,0<s /\ 0<t /\ dt a b q*s=dt a b v*t:=by
 obtain⟨s,t,hs,ht,e1,e2,e3⟩:=h
 refine⟨s,t,hs,ht,?_⟩;unfold MC.dt
 grind
theorem Sim.ex{q v:V3}(h:Sim q v)(m:V3):∃s t:Int,0<s /\ 0<t /\ ex m q*s=ex m v*t:=by
 obtain⟨s,t,hs,ht,e1,e2,e3⟩:=h
 refine⟨s,t,hs,ht,?_⟩;unfold MC.ex
 grind
noncomputable abbrev Vx:=V3×V3×Int
structure Edge(l:List Vx)(a b:Vx):Prop where
 ne:a.1≠b.1
 on1:ex a.2.1 a.1=0
 on2:ex a.2.1 b.1=0
 left:∀c∈l,c.1=a.1∨c.1=b.1∨0<dt a.1 b.1 c.1
 back:∀c∈l,c.1=a.1∨c.1=b.1∨ex a.2.1 c.1<0
theorem Edge.mem{l m:List Vx}{a b:Vx}(h:Edge l a b)(hm:∀c∈m,c∈l):Edge m a b:=⟨h.ne,h.on1,h.on2,fun c hc=>h.left c (hm c hc),fun c hc=>h.back c (hm c hc)⟩
end MC
namespace MC
noncomputable abbrev Z2:=Int×Int
noncomputable def slz(A B D:Z2):Int:=2*((A.2-B.2)*(A.1-D.1)+(B.1-A.1)*(A.2-D.2))
noncomputable def riz(A B D:Z2):Int:=(A.1+B.1)*(A.1-D.1)+(A.2+B.2)*(A.2-D.2)+D.1*D.1+D.2*D.2-A.1*A.1-A.2*A.2
noncomputable def o3(A B C:Z2):Int:=(B.1-A.1)*(C.2-A.2)-(B.2-A.2)*(C.1-A.1)
theorem sqn(n:Int):0<=n*n:=by
 rcases Int.le_total 0 n with h|h
 ·exact bQ h h
 ·have:=bQ (show 0<= -n by omega) (show 0<= -n by omega)
  rwa [dr] at this
theorem jU(A B D:Z2):slz A B D= -(2*o3 A B D):=by unfold slz o3;grind
theorem ox(A B D:Z2):riz A B D=(D.1-A.1)*(D.1-B.1)+(D.2-A.2)*(D.2-B.2):=by unfold riz;grind
theorem iM(A B D:Z2):slz B A D= -slz A B D:=by unfold slz;grind
theorem lM(A B D:Z2):riz B A D=riz A B D:=by unfold riz;grind
noncomputable def TTq(A B:Z2)(rs:List Z2):Prop:=(∀D∈rs,slz A B D=0 ->0<=riz A B D) /\ ∀D∈rs,∀E∈rs,0<slz A B D ->slz A B E<0 ->riz A B D*slz A B E<riz A B E*slz A B D
theorem TTq.sw{A B:Z2}{rs:List Z2}(h:TTq A B rs):TTq B A rs:=by
 refine⟨fun D hD e=>by rw[lM];exact h.1 D hD (by rw[iM] at e;omega),fun D hD E hE d e=> ?_⟩;rw[iM] at d e;have:=h.2 E hE D hD (by omega) (by omega)
 rw[lM A B D,lM A B E,iM A B D,iM A B E,dM,dM];omega
theorem qI(A B C D:Z2):riz A C B*slz A C D-riz A C D*slz A C B=riz B D A*slz B D C-riz B D C*slz B D A:=by unfold riz slz;grind
theorem kI{A B C D:Z2}{rs:List Z2}(hA:A∈rs)(hB:B∈rs)(hC:C∈rs)(hD:D∈rs)(t1:TTq A C rs)(t2:TTq B D rs)(h1:0<slz A C B)(h2:slz A C D<0)(h3:slz B D A<0)(h4:0<slz B D C):False:=by
 have e1:=t1.2 B hB D hD h1 h2
 have e2:=t2.2 C hC A hA h4 h3
 have:=qI A B C D
 omega
theorem mx{A B C D:Z2}{rs:List Z2}(hA:A∈rs)(hB:B∈rs)(hC:C∈rs)(hD:D∈rs)(t1:TTq A C rs)(t2:TTq B D rs)(h1:slz A C B<0)(h2:0<slz A C D)(h3:0<slz B D A)(h4:slz B D C<0):False:=
 kI hC hB hA hD t1.sw t2 (by rw[iM];omega) (by rw[iM];omega) h4 h3
theorem iJ{A B C:Z2}{rs:List Z2}(hA:A∈rs)(hB:B∈rs)(hC:C∈rs)(ab:A≠B)(ac:A≠C)(bc:B≠C)(t1:TTq A B rs)(t2:TTq A C rs)(t3:TTq B C rs):o3 A B C≠0:=by
 intro z;have z1:slz A B C=0:=by rw[jU,z];rfl
 have z2:slz A C B=0:=by rw[jU,show o3 A C B= -o3 A B C by unfold o3;grind,z];rfl
 have z3:slz B C A=0:=by rw[jU,show o3 B C A=o3 A B C by unfold o3;grind,z];rfl
 have r1:=t1.1 C hC z1
 have r2:=t2.1 B hB z2
 have r3:=t3.1 A hA z3
 rw[ox] at r1 r2 r3;unfold o3 at z;generalize e1:B.1-A.1=u1 at*;generalize e2:B.2-A.2=u2 at*;generalize e3:C.1-A.1=v1 at*;generalize e4:C.2-A.2=v2 at*;have f1:C.1-B.1=v1-u1:=by omega
 have f2:C.2-B.2=v2-u2:=by omega
 have f3:B.1-C.1=u1-v1:=by omega
 have f4:B.2-C.2=u2-v2:=by omega
 have f5:A.1-B.1= -u1:=by omega
 have f6:A.2-B.2= -u2:=by omega
 have f7:A.1-C.1= -v1:=by omega
 have f8:A.2-C.2= -v2:=by omega
 rw[f1,f2] at r1;rw[f3,f4] at r2;rw[f5,f6,f7,f8] at r3;have hU:0<u1*u1+u2*u2:=by
  have a1:=sqn u1
  have a2:=sqn u2
  refine eB fun q=>ab ?_
  have b1:u1*u1=0:=by omega
  have b2:u2*u2=0:=by omega
  have c1:u1=0:=by rcases bI.mp b1 with h|h<;>exact h
  have c2:u2=0:=by rcases bI.mp b2 with h|h<;>exact h
  exact dW (by omega) (by omega)
 have hV:0<v1*v1+v2*v2:=by
  have a1:=sqn v1
  have a2:=sqn v2
  refine eB fun q=>ac ?_
  have b1:v1*v1=0:=by omega
  have b2:v2*v2=0:=by omega
  have c1:v1=0:=by rcases bI.mp b1 with h|h<;>exact h
  have c2:v2=0:=by rcases bI.mp b2 with h|h<;>exact h
  exact dW (by omega) (by omega)
 have hp:0<=u1*v1+u2*v2:=by grind
 have pu:u1*v1+u2*v2<=u1*u1+u2*u2:=by grind
 have pv:u1*v1+u2*v2<=v1*v1+v2*v2:=by grind
 have sq:(u1*v1+u2*v2)*(u1*v1+u2*v2)=(u1*u1+u2*u2)*(v1*v1+v2*v2):=by
  have:(u1*v2-u2*v1)*(u1*v2-u2*v1)=0:=by rw[show u1*v2-u2*v1=0 from z];rfl
  grind
 have dd:(u1-v1)*(u1-v1)+(u2-v2)*(u2-v2)=(u1*u1+u2*u2)+(v1*v1+v2*v2)-2*(u1*v1+u2*v2):=by grind
 generalize u1*v1+u2*v2=p at*;generalize u1*u1+u2*u2=U at*;generalize v1*v1+v2*v2=V at*;have pU:p=U:=by
  refine du pu (Int.not_lt.mp fun l=> ?_);have g1:p*p<=p*V:=Int.mul_le_mul_of_nonneg_left pv hp
  have g2:p*V<U*V:=bZ l hV
  omega
 have pV:p=V:=by
  refine du pv (Int.not_lt.mp fun l=> ?_);have g1:p*p<=U*p:=bJ pu hp
  have g2:U*p<U*V:=Int.mul_lt_mul_of_pos_left l hU
  omega
 have a1:=sqn (u1-v1)
 have a2:=sqn (u2-v2)
 have b1:(u1-v1)*(u1-v1)=0:=by omega
 have b2:(u2-v2)*(u2-v2)=0:=by omega
 have c1:u1-v1=0:=by rcases bI.mp b1 with h|h<;>exact h
 have c2:u2-v2=0:=by rcases bI.mp b2 with h|h<;>exact h
 exact bc (dW (by omega) (by omega))
theorem rC(A B C D:Z2):o3 B C D-o3 A C D+o3 A B D-o3 A B C=0:=by unfold o3;grind
noncomputable def sg(n:Int):Bool:=decide (0<n)
theorem qi{A B C D:Z2}{rs:List Z2}(hA:A∈rs)(hB:B∈rs)(hC:C∈rs)(hD:D∈rs)(t1:TTq A B rs)(t2:TTq A C rs)(t3:TTq A D rs)(t4:TTq B C rs)(t5:TTq B D rs)(t6:TTq C D rs)
  (a0:o3 B C D≠0) (b0:o3 A C D≠0) (c0:o3 A B D≠0) (d0:o3 A B C≠0):(sg (o3 B C D)^^sg (o3 A C D)^^sg (o3 A B D)^^sg (o3 A B C))=true:=by
 have pk:=rC A B C D
 have p1:slz A C B=2*o3 A B C:=by unfold slz o3;grind
 have p2:slz A C D= -(2*o3 A C D):=jU _ _ _
 have p3:slz B D A= -(2*o3 A B D):=by unfold slz o3;grind
 have p4:slz B D C=2*o3 B C D:=by unfold slz o3;grind
 have q1:slz A B C= -(2*o3 A B C):=jU _ _ _
 have q2:slz A B D= -(2*o3 A B D):=jU _ _ _
 have q3:slz C D A= -(2*o3 A C D):=by unfold slz o3;grind
 have q4:slz C D B= -(2*o3 B C D):=by unfold slz o3;grind
 have r1:slz A D B=2*o3 A B D:=by unfold slz o3;grind
 have r2:slz A D C=2*o3 A C D:=by unfold slz o3;grind
 have r3:slz B C A= -(2*o3 A B C):=by unfold slz o3;grind
 have r4:slz B C D= -(2*o3 B C D):=jU _ _ _
 have k1:=fun x1 x2 x3 x4=>kI hA hB hC hD t2 t5 x1 x2 x3 x4
 have k2:=fun x1 x2 x3 x4=>mx hA hB hC hD t2 t5 x1 x2 x3 x4
 have k3:=fun x1 x2 x3 x4=>kI hA hC hB hD t1 t6 x1 x2 x3 x4
 have k4:=fun x1 x2 x3 x4=>mx hA hC hB hD t1 t6 x1 x2 x3 x4
 have k5:=fun x1 x2 x3 x4=>kI hA hB hD hC t3 t4 x1 x2 x3 x4
 have k6:=fun x1 x2 x3 x4=>mx hA hB hD hC t3 t4 x1 x2 x3 x4
 rw[p1,p2,p3,p4] at k1 k2;rw[q1,q2,q3,q4] at k3 k4;rw[r1,r2,r3,r4] at k5 k6;generalize o3 B C D=a at*;generalize o3 A C D=b at*;generalize o3 A B D=c at*;generalize o3 A B C=d at*;unfold sg;rcases bg a0 with x1|x1<;>rcases bg b0 with x2|x2<;>rcases bg c0 with x3|x3<;>rcases bg d0 with x4|x4
 all_goals first
  |(exfalso;omega)
  |(exact(k1 (by omega) (by omega) (by omega) (by omega)).elim)
  |(exact(k2 (by omega) (by omega) (by omega) (by omega)).elim)
  |(exact(k3 (by omega) (by omega) (by omega) (by omega)).elim)
  |(exact(k4 (by omega) (by omega) (by omega) (by omega)).elim)
  |(exact(k5 (by omega) (by omega) (by omega) (by omega)).elim)
  |(exact(k6 (by omega) (by omega) (by omega) (by omega)).elim)
  |(simp[show¬(0<a) by omega,show¬(0<b) by omega,show¬(0<c) by omega,x4])
  |(simp only[decide_eq_true x1,decide_eq_true x2,decide_eq_true x3,decide_eq_false (show¬(0<d) by omega)];rfl)
  |(simp only[decide_eq_true x1,decide_eq_true x2,decide_eq_false (show¬(0<c) by omega),decide_eq_true x4];rfl)
  |(simp only[decide_eq_true x1,decide_eq_false (show¬(0<b) by omega),decide_eq_true x3,decide_eq_true x4];rfl)
  |(simp only[decide_eq_false (show¬(0<a) by omega),decide_eq_true x2,decide_eq_true x3,decide_eq_true x4];rfl)
  |(simp only[decide_eq_true x1,decide_eq_false (show¬(0<b) by omega),decide_eq_false (show¬(0<c) by omega),decide_eq_false (show¬(0<d) by omega)];rfl)
  |(simp only[decide_eq_false (show¬(0<a) by omega),decide_eq_true x2,decide_eq_false (show¬(0<c) by omega),decide_eq_false (show¬(0<d) by omega)];rfl)
  |(simp only[decide_eq_false (show¬(0<a) by omega),decide_eq_false (show¬(0<b) by omega),decide_eq_true x3,decide_eq_false (show¬(0<d) by omega)];rfl)
  |(simp only[decide_eq_false (show¬(0<a) by omega),decide_eq_false (show¬(0<b) by omega),decide_eq_false (show¬(0<c) by omega),decide_eq_true x4];rfl)
theorem sD:∀p q r s t u v w x y:Bool,(y^^x^^w^^v)=true ->(y^^u^^t^^s)=true ->(x^^u^^r^^q)=true ->(w^^t^^r^^p)=true ->(v^^s^^q^^p)=true ->False:=by decide
theorem five{A B C D E:Z2}{rs:List Z2}(hA:A∈rs)(hB:B∈rs)(hC:C∈rs)(hD:D∈rs)(hE:E∈rs)(ab:A≠B)(ac:A≠C)(ad:A≠D)(ae:A≠E)(bc:B≠C)(bd:B≠D)(be:B≠E)(cd:C≠D)(ce:C≠E)(de:D≠E)
  (t1:TTq A B rs) (t2:TTq A C rs) (t3:TTq A D rs) (t4:TTq A E rs) (t5:TTq B C rs) (t6:TTq B D rs) (t7:TTq B E rs) (t8:TTq C D rs) (t9:TTq C E rs) (t0:TTq D E rs):False:=by
 have abc:=iJ hA hB hC ab ac bc t1 t2 t5
 have abd:=iJ hA hB hD ab ad bd t1 t3 t6
 have abe:=iJ hA hB hE ab ae be t1 t4 t7
 have acd:=iJ hA hC hD ac ad cd t2 t3 t8
 have ace:=iJ hA hC hE ac ae ce t2 t4 t9
 have ade:=iJ hA hD hE ad ae de t3 t4 t0
 have bcd:=iJ hB hC hD bc bd cd t5 t6 t8
 have bce:=iJ hB hC hE bc be ce t5 t7 t9
 have bde:=iJ hB hD hE bd be de t6 t7 t0
 have cde:=iJ hC hD hE cd ce de t8 t9 t0
 have e1:=qi hB hC hD hE t5 t6 t7 t8 t9 t0 cde bde bce bcd
 have e2:=qi hA hC hD hE t2 t3 t4 t8 t9 t0 cde ade ace acd
 have e3:=qi hA hB hD hE t1 t3 t4 t6 t7 t0 bde ade abe abd
 have e4:=qi hA hB hC hE t1 t2 t4 t5 t7 t9 bce ace abe abc
 have e5:=qi hA hB hC hD t1 t2 t3 t5 t6 t8 bcd acd abd abc
 exact sD _ _ _ _ _ _ _ _ _ _ e1 e2 e3 e4 e5
theorem sub_len{α:Type}[DecidableEq α]:∀{l m:List α},l.Nodup ->(∀x∈l,x∈m) ->l.length<=m.length
 |[],_,_,_=>aN _
 |x::l,m,nd,h=>by
  have hx:=h x aP
  have nd':=aX.mp nd
  have:=sub_len (m:=m.erase x) nd'.2 fun y hy=>(List.mem_erase_of_ne (fun e=>nd'.1 (by rw[<-e];exact hy))).mpr (h y (aF _ hy))
  rw[List.length_erase_of_mem hx] at this;have:=List.length_pos_of_mem hx
  show l.length+1<=_
  omega
noncomputable def prT(n:Nat):List (Nat×Nat):=(aw n).flatMap fun i=>((aw n).filter fun j=>decide (i<j)).map fun j=>(i,j)
theorem ja{n i j:Nat}(h:i<j)(k:j<n):(i,j)∈prT n:=
 List.mem_flatMap.mpr ⟨i,aT.mpr (by omega),bu.mpr ⟨j,dh.mpr ⟨aT.mpr k,decide_eq_true h⟩,rfl⟩⟩
theorem nV:∀n,n<=12 ->(prT n).length<=66 /\ (n<12 ->(prT n).length<=63):=by
 intro n h;have:∀n,n<13 ->(prT n).length<=66 /\ (n<12 ->(prT n).length<=63):=by decide+kernel
 exact this n (by omega)
theorem oU{n:Nat}{T:Nat ->Nat ->Prop}(h5:∀a b c d e,a<b ->b<c ->c<d ->d<e ->e<n ->T a b ->T a c ->T a d ->T a e ->T b c ->T b d ->T b e ->T c d ->T c e ->T d e ->False){a b c d e:Nat}(h1:a<b)(h2:b<c)(h3:c<d)(h4:d<e)(h:e<n):
  ∃i j,i<j /\ (i=a∨i=b∨i=c∨i=d∨i=e) /\ (j=a∨j=b∨j=c∨j=d∨j=e) /\ ¬T i j:=by
 refine Classical.byContradiction fun q=> ?_
 have al:∀i j,i<j ->(i=a∨i=b∨i=c∨i=d∨i=e) ->(j=a∨j=b∨j=c∨j=d∨j=e) ->T i j:=fun i j l p1 p2=>Classical.byContradiction fun z=>q ⟨i,j,l,p1,p2,z⟩
 exact h5 a b c d e h1 h2 h3 h4 h (al _ _ (by omega) (by simp) (by simp)) (al _ _ (by omega) (by simp) (by simp)) (al _ _ (by omega) (by simp) (by simp)) (al _ _ (by omega) (by simp) (by simp)) (al _ _ (by omega) (by simp) (by simp)) (al _ _ (by omega) (by simp) (by simp)) (al _ _ (by omega) (by simp) (by simp)) (al _ _ (by omega) (by simp) (by simp)) (al _ _ (by omega) (by simp) (by simp)) (al _ _ (by omega) (by simp) (by simp))
theorem ties_le{n:Nat}(n12:n<=12){T:Nat ->Nat ->Prop}(h5:∀a b c d e,a<b ->b<c ->c<d ->d<e ->e<n ->T a b ->T a c ->T a d ->T a e ->T b c ->T b d ->T b e ->T c d ->T c e ->T d e ->False)
  {ps:List (Nat×Nat)} (nd:ps.Nodup) (hp:∀p∈ps,p.1<p.2 /\ p.2<n /\ T p.1 p.2):ps.length<=63:=by
 have sub:∀p∈ps,p∈prT n:=fun p h=>ja (hp p h).1 (hp p h).2.1
 by_cases c:n<12
 ·exact bj (sub_len nd sub) ((nV n n12).2 c)
 obtain rfl:n=12:=by omega
 obtain⟨i,j,l,pi,pj,m1⟩:=oU h5 (show 0<1 by decide) (show 1<2 by decide) (show 2<3 by decide) (show 3<4 by decide) (by decide)
 obtain⟨i2,j2,l2,pi2,pj2,m2⟩:=oU h5 (show 5<6 by decide) (show 6<7 by decide) (show 7<8 by decide) (show 8<9 by decide) (by decide)
 have third:∃i3 j3,i3<j3 /\ j3<12 /\ ¬T i3 j3 /\ (i3,j3)≠(i,j) /\ (i3,j3)≠(i2,j2):=by
  have go:∀a b c:Nat,a<b ->b<c ->c<10 ->a≠i ->b≠i ->c≠i ->c<5 -> ∃i3 j3,i3<j3 /\ j3<12 /\ ¬T i3 j3 /\ (i3,j3)≠(i,j) /\ (i3,j3)≠(i2,j2):=by
   intro a b c ab bc c10 ai bi ci c5;obtain⟨i3,j3,l3,pi3,pj3,m3⟩:=oU h5 ab bc c10 (show 10<11 by decide) (by decide)
   refine⟨i3,j3,l3,by omega,m3,fun e=> ?_,fun e=> ?_⟩
   ·have e1:=congrArg eV e
    have e2:i3=i:=e1
    omega
   ·have e1:i3=i2:=congrArg eV e
    have e2:j3=j2:=congrArg Prod.snd e
    omega
  by_cases c0:i=0
  ·exact go 1 2 3 (by decide) (by decide) (by decide) (by omega) (by omega) (by omega) (by decide)
  by_cases c1:i=1
  ·exact go 0 2 3 (by decide) (by decide) (by decide) (by omega) (by omega) (by omega) (by decide)
  by_cases c2:i=2
  ·exact go 0 1 3 (by decide) (by decide) (by decide) (by omega) (by omega) (by omega) (by decide)
  ·exact go 0 1 2 (by decide) (by decide) (by decide) (by omega) (by omega) (by omega) (by decide)
 obtain⟨i3,j3,l3,lt3,m3,ne1,ne2⟩:=third
 have out:∀{a b:Nat},¬T a b ->(a,b)∉ps:=fun {a b} m h=>m (hp _ h).2.2
 have big:((i3,j3)::(i2,j2)::(i,j)::ps).Nodup:=by
  refine aX.mpr ⟨?_,aX.mpr ⟨?_,aX.mpr ⟨out m1,nd⟩⟩⟩
  ·intro h;rcases aD.mp h with h|h
   ·exact ne2 h
   rcases aD.mp h with h|h
   ·exact ne1 h
   exact out m3 h
  ·intro h;rcases aD.mp h with h|h
   ·have e1:i2=i:=congrArg eV h
    omega
   exact out m2 h
 have le:=sub_len (m:=prT 12) big fun p h=>by
  rcases aD.mp h with rfl|h
  ·exact ja l3 lt3
  rcases aD.mp h with rfl|h
  ·exact ja l2 (by omega)
  rcases aD.mp h with rfl|h
  ·exact ja l (by omega)
  exact sub p h
 have:=(nV 12 (ak _)).1
 simp only[a9] at le;omega
end MC
section
open PySem L2 MA PyProof.Rows MC
local macro_rules| `(tactic|walk_at "RD")=> `(tactic|simp only[pF,b9,lD,p0,mP,tOp,tUn,rI,rI0,rU,pE,tC,pG,kX,pQ,mQ,lE,kN,lG,pT,tCB,pP,pY,rEq,rNe,ixF,pH,qO,pR,pS,p7,tOr,tB,mS,mU,qY,tIf,bU,bM,bN,cp,cq,aH.injEq,V.int.injEq,V.bl.injEq,V.ref.injEq,exists_eq_left',exists_eq_left,exists_eq_right,exists_and_left,exists_and_right,and_true,true_and,and_assoc,dU.injEq,fO,ix,i4,pN,pZ,lC,lN,tML,pX,pA,oC,rm,rn,kT,pK,slF,tSl,lB,iu,tyN,rj,kG,kF,kE,kD,kC,kB,kA,gL,gX,gY,bS,cT,cU,L2.stLC,frV,aO,bT,bz,bO,b7,cu,cb,b5,cB,nL,nK,nJ,nI,pI,if_true,if_false,aV,cv,reduceIte,reduceCtorEq,decide_eq_true_eq,cx,decide_eq_false_iff_not,eq_self,a9,bw,dv,Nat.reduceAdd,Nat.reduceLT,fq,cw,Int.reduceToNat,Int.reducePow,Int.reduceLE,Int.reduceLT,Int.reduceSub,Int.reduceAdd,Int.reduceMul,Int.reduceNeg,rq,rp,bd2,bd3,bd4,jh,jg,jf,jj,ji,je,jd,jc,jb,ne_eq,Int.reduceEq,not_false_eq_true,not_true_eq_false,false_or,or_false,false_and,and_false,exists_false,exists_const,lF,ke,iW,qX,ki,g5,mR,pL,fI,fI0,fU,kY,kZ,pM,fEq,fNe,rl,tDg,tDp,kH,mT,iL,p6,jq,q0,qZ,kf,ko,oZ,rf,kh,kO,iV,iU])
local macro_rules| `(tactic|o_head ⟨$a0⟩)=> `(tactic|simp only[pF,b9,lD,p0,mP,tOp,tUn,rI,rI0,rU,pE,tC,pG,kX,pQ,mQ,lE,kN,lG,pT,tCB,pP,pY,rEq,rNe,ixF,pH,qO,pR,pS,p7,tOr,tB,mS,mU,qY,tIf,bU,bM,bN,cp,cq,aH.injEq,V.int.injEq,V.bl.injEq,V.ref.injEq,exists_eq_left',exists_eq_left,exists_eq_right,exists_and_left,exists_and_right,and_true,true_and,and_assoc,dU.injEq,fO,ix,i4,pN,pZ,lC,lN,tML,pX,pA,oC,rm,rn,kT,pK,slF,tSl,lB,iu,tyN,rj,kG,kF,kE,kD,kC,kB,kA,gL,gX,gY,bS,cT,cU,L2.stLC,frV,aO,bT,bz,bO,b7,cu,cb,b5,cB,nL,nK,nJ,nI,pI,if_true,if_false,aV,cv,reduceIte,reduceCtorEq,decide_eq_true_eq,cx,decide_eq_false_iff_not,eq_self,a9,bw,dv,Nat.reduceAdd,Nat.reduceLT,fq,cw,Int.reduceToNat,Int.reducePow,Int.reduceLE,Int.reduceLT,Int.reduceSub,Int.reduceAdd,Int.reduceMul,Int.reduceNeg,rq,rp,bd2,bd3,bd4,jh,jg,jf,jj,ji,je,jd,jc,jb,ne_eq,Int.reduceEq,not_false_eq_true,not_true_eq_false,false_or,or_false,false_and,and_false,exists_false,exists_const,lF,ke,iW,qX,ki,g5,mR,pL,fI,fI0,fU,kY,kZ,pM,fEq,fNe,rl,tDg,tDp,kH,mT,iL,p6,jq,q0,qZ,kf,ko,oZ,rf,kh,kO,iV,iU, $a0:term])
local macro_rules| `(tactic|o_head ⟨$a0, $a1, $a2, $a3⟩)=> `(tactic|simp only[pF,b9,lD,p0,mP,tOp,tUn,rI,rI0,rU,pE,tC,pG,kX,pQ,mQ,lE,kN,lG,pT,tCB,pP,pY,rEq,rNe,ixF,pH,qO,pR,pS,p7,tOr,tB,mS,mU,qY,tIf,bU,bM,bN,cp,cq,aH.injEq,V.int.injEq,V.bl.injEq,V.ref.injEq,exists_eq_left',exists_eq_left,exists_eq_right,exists_and_left,exists_and_right,and_true,true_and,and_assoc,dU.injEq,fO,ix,i4,pN,pZ,lC,lN,tML,pX,pA,oC,rm,rn,kT,pK,slF,tSl,lB,iu,tyN,rj,kG,kF,kE,kD,kC,kB,kA,gL,gX,gY,bS,cT,cU,L2.stLC,frV,aO,bT,bz,bO,b7,cu,cb,b5,cB,nL,nK,nJ,nI,pI,if_true,if_false,aV,cv,reduceIte,reduceCtorEq,decide_eq_true_eq,cx,decide_eq_false_iff_not,eq_self,a9,bw,dv,Nat.reduceAdd,Nat.reduceLT,fq,cw,Int.reduceToNat,Int.reducePow,Int.reduceLE,Int.reduceLT,Int.reduceSub,Int.reduceAdd,Int.reduceMul,Int.reduceNeg,rq,rp,bd2,bd3,bd4,jh,jg,jf,jj,ji,je,jd,jc,jb,ne_eq,Int.reduceEq,not_false_eq_true,not_true_eq_false,false_or,or_false,false_and,and_false,exists_false,exists_const,lF,ke,iW,qX,ki,g5,mR,pL,fI,fI0,fU,kY,kZ,pM,fEq,fNe,rl,tDg,tDp,kH,mT,iL,p6,jq,q0,qZ,kf,ko,oZ,rf,kh,kO,iV,iU, $a0:term, $a1:term, $a2:term, $a3:term])
local macro_rules| `(tactic|o_head ⟨$a0, $a1, $a2, $a3, $a4, $a5, $a6⟩)=> `(tactic|simp only[pF,b9,lD,p0,mP,tOp,tUn,rI,rI0,rU,pE,tC,pG,kX,pQ,mQ,lE,kN,lG,pT,tCB,pP,pY,rEq,rNe,ixF,pH,qO,pR,pS,p7,tOr,tB,mS,mU,qY,tIf,bU,bM,bN,cp,cq,aH.injEq,V.int.injEq,V.bl.injEq,V.ref.injEq,exists_eq_left',exists_eq_left,exists_eq_right,exists_and_left,exists_and_right,and_true,true_and,and_assoc,dU.injEq,fO,ix,i4,pN,pZ,lC,lN,tML,pX,pA,oC,rm,rn,kT,pK,slF,tSl,lB,iu,tyN,rj,kG,kF,kE,kD,kC,kB,kA,gL,gX,gY,bS,cT,cU,L2.stLC,frV,aO,bT,bz,bO,b7,cu,cb,b5,cB,nL,nK,nJ,nI,pI,if_true,if_false,aV,cv,reduceIte,reduceCtorEq,decide_eq_true_eq,cx,decide_eq_false_iff_not,eq_self,a9,bw,dv,Nat.reduceAdd,Nat.reduceLT,fq,cw,Int.reduceToNat,Int.reducePow,Int.reduceLE,Int.reduceLT,Int.reduceSub,Int.reduceAdd,Int.reduceMul,Int.reduceNeg,rq,rp,bd2,bd3,bd4,jh,jg,jf,jj,ji,je,jd,jc,jb,ne_eq,Int.reduceEq,not_false_eq_true,not_true_eq_false,false_or,or_false,false_and,and_false,exists_false,exists_const,lF,ke,iW,qX,ki,g5,mR,pL,fI,fI0,fU,kY,kZ,pM,fEq,fNe,rl,tDg,tDp,kH,mT,iL,p6,jq,q0,qZ,kf,ko,oZ,rf,kh,kO,iV,iU, $a0:term, $a1:term, $a2:term, $a3:term, $a4:term, $a5:term, $a6:term])
local macro_rules| `(tactic|walk_at "ST")=> `(tactic|simp only[L2.start,aO,bT,a9,bw,Nat.reduceAdd,Nat.reduceSub,bz,bO,b7,cu,bU])
local macro_rules| `(tactic|walk_at "CM")=> `(tactic|(first|exact CMulA.left (by decide) (by decide)|exact CMulA.right (by decide) (by decide)|(apply CMulA.of;(repeat(first|assumption|apply Bd.mul|apply Bd.sub|apply Bd.add|apply Bd.neg|apply Bd.sq));all_goals decide)))
set_option maxHeartbeats 0
namespace LW
open PySem L2 MA PyProof.Rows
theorem sF{A:Around}{k:Nat}(hr:Room k A):A.units+65<cLine:=by have:=hr.un;omega
theorem rF{A:Around}{k:Nat}(hr:Room k A):A.units+64<cLine:=hr.units
structure Cz where
structure Txt(K:af)(mg:Str ->Option Value)(C:Cz):Prop where
 b_abs:mg "abs"=none
 b_all:mg "all"=none
 b_enumerate:mg "enumerate"=none
 b_isinstance:mg "isinstance"=none
 b_len:mg "len"=none
 b_list:mg "list"=none
 b_min:mg "min"=none
 b_range:mg "range"=none
 b_sorted:mg "sorted"=none
 b_tuple:mg "tuple"=none
 n_MOST_SPOTS:∃t,mg "MOST_SPOTS"=some (.int 12 t)
end LW
namespace LW
open PySem L2 MA PyProof.Rows MC
noncomputable abbrev P2:=Int×Int
noncomputable def R2At(H:Hp)(qs:List Addr)(rs:List P2):Prop:=qs.length=rs.length /\ ∀(i:Nat) (q:Addr) (z:P2),qs[i]? =some q ->rs[i]? =some z ->H q=some (.tup [.int z.1,.int z.2])
theorem R2At.ext{H H':Hp}{qs:List Addr}{rs:List P2}(h:R2At H qs rs)(x:Ext H H'):R2At H' qs rs:=⟨h.1,fun i q z a b=>x _ _ (h.2 i q z a b)⟩
theorem R2At.at{H:Hp}{qs:List Addr}{rs:List P2}(h:R2At H qs rs){i:Nat}{q:Addr}(hq:qs[i]? =some q):∃r,rs[i]? =some r /\ H q=some (.tup [.int r.1,.int r.2]):=by
 have li:=(ah.mp hq).1
 have e:=aj (l:=rs) (i:=i) (by rw[<-h.1];exact li)
 exact⟨_,e,h.2 i q _ hq e⟩
theorem gN{qs:List Addr}{i:Nat}{v:V}(h:(qs.map V.ref)[i]? =some v):∃q,qs[i]? =some q /\ v= .ref q:=by
 rw[ar] at h;cases e:qs[i]? with
 |none=>rw[e] at h;cases h
 |some q=>rw[e] at h;exact⟨q,rfl,(aH.inj h).symm⟩
theorem oz{qs:List Addr}{r:Int}(h0:0<=r)(h1:r<qs.length):∃(i:Nat) (q:Addr),r=(i:Int) /\ qs[i]? =some q /\ atI (qs.map V.ref) r=some (.ref q):=by
 obtain⟨i,rfl⟩:=Int.eq_ofNat_of_zero_le h0
 have li:i<qs.length:=by omega
 exact⟨i,qs[i],rfl,aj li,gw (by rw[ar,aj li];rfl)⟩
theorem Ext.none{H H':Hp}{b:Addr}(f:Ext H H')(h:H' b=none):H b=none:=by
 cases q:H b with
 |none=>rfl
 |some o=>
  rw[f b o q] at h;cases h
theorem qV(xs:List V)(k:Nat):pq xs none (some (k:Int))=xs.take k:=by
 unfold pq;rw[HT.sIx_nat,HT.sIx_none,b5,Nat.sub_zero]
 by_cases h:k<=xs.length
 ·rw[cK h]
 ·rw[cC (by omega),b8,bR (by omega)]
structure SpOk(H:Hp)(b l:Addr)(x y u v:Int)(qs:List Addr)(rs:List P2):Prop where
 bx:H b=some (.tup [.int x,.int y,.int u,.int v])
 sp:H l=some (.lst (qs.map V.ref))
 at_:R2At H qs rs
 xu:x<u
 yv:y<v
 ins:∀r∈rs,x<=r.1 /\ r.1<=u /\ y<=r.2 /\ r.2<=v
 nd:rs.Nodup
 n0:0<rs.length
 n12:rs.length<=12
 sz:(-(4*10^30)<=x /\ u<=4*10^30) /\ (-(4*10^30)<=y /\ v<=4*10^30)
theorem SpOk.ext{H H':Hp}{b l:Addr}{x y u v:Int}{qs:List Addr}{rs:List P2}(h:SpOk H b l x y u v qs rs)(e:Ext H H'):SpOk H' b l x y u v qs rs:=
 ⟨e _ _ h.bx,e _ _ h.sp,h.at_.ext e,h.xu,h.yv,h.ins,h.nd,h.n0,h.n12,h.sz⟩
theorem rX{n:Int}(h1: -(4*10^30)<=n)(h2:n<=4*10^30)(m:Nat)(hm:110<=m:=by decide):Bd m n:=Bd.mono (m:=110) (Bd.of_le (4*10^30) h1 h2 (by decide)) hm
theorem SpOk.b2{H:Hp}{b l:Addr}{x y u v:Int}{qs:List Addr}{rs:List P2}(h:SpOk H b l x y u v qs rs){r:P2}(hr:r∈rs):B2 200 r:=by
 have:=h.ins r hr
 have z:=h.sz
 exact⟨rX (by omega) (by omega) 200,rX (by omega) (by omega) 200⟩
noncomputable def t2d(r:P2):PyData:= .tuple [.int r.1,.int r.2]
theorem ic{K:af}{H:Hp}:∀{qs:List Addr} {rs:List P2},R2At H qs rs ->RdyAll K H (qs.map V.ref) (rs.map t2d)
 |[],[],_=> .nil
 |[],_::_,h=>by simp[R2At] at h
 |_::_,[],h=>by simp[R2At] at h
 |p::ps,c::cs,h=> .cons (nT (h.2 0 p c rfl rfl)) (ic ⟨by simpa using h.1,fun i q z h1 h2=>h.2 (i+1) q z h1 h2⟩)
theorem R2At.take{H:Hp}{qs:List Addr}{rs:List P2}(h:R2At H qs rs)(k:Nat):R2At H (qs.take k) (rs.take k):=by
 refine⟨by rw[aZ,aZ,h.1],fun i q z h1 h2=> ?_⟩
 by_cases hi:i<k
 ·rw[cf hi] at h1 h2;exact h.2 i q z h1 h2
 ·rw[bX (by rw[aZ];omega)] at h1;cases h1
theorem n4:∀rs:List P2,PyData.canLayAll0 (rs.map t2d)=true /\ PyData.depthAll (rs.map t2d)<=1
 |[]=>⟨rfl,by simp[PyData.depthAll]⟩
 |c::cs=>by
  obtain⟨a,b⟩:=n4 cs
  constructor
  ·simp[t2d,PyData.canLayAll0,PyData.canLay0];exact a
  ·simp[t2d,PyData.depthAll,PyData.depth] at b⊢;omega
theorem gs(rs:List P2):SeqAt.shaped (.list (rs.map t2d))=true:=by
 obtain⟨a,b⟩:=n4 rs
 unfold SeqAt.shaped;rw[b6,decide_eq_true_eq];exact⟨by simp[PyData.canLay0,a],by simp[PyData.depth];omega⟩
theorem lJ(r:P2):SeqAt.shaped (t2d r)=true:=by
 simp[t2d,SeqAt.shaped,PyData.canLay0,PyData.canLayAll0,PyData.depth,PyData.depthAll]
theorem kq(a b:P2):SeqAt.noMix (t2d a) (t2d b)=true:=by
 simp[t2d,SeqAt.noMix,SeqAt.noMixAll]
theorem kR{rs:List P2}(hn:rs.Nodup){i:Nat}{r:P2}(hi:rs[i]? =some r):decide (Spec.countIn (t2d r) ((rs.take i).map t2d)≠0)=false:=by
 rw[<-any_eqv_countIn _ _ (fun y hy=>by obtain⟨z,_,rfl⟩:=bu.mp hy;exact kq z r)];rw[dY];intro y hy;obtain⟨z,hz,rfl⟩:=bu.mp hy
 show¬PyData.eqv (.tuple [.int z.1,.int z.2]) (.tuple [.int r.1,.int r.2])=true
 rw[qQ,decide_eq_true_eq];rintro⟨e1,e2⟩;have ez:z=r:=dW e1 e2
 subst ez;obtain⟨j,hj⟩:=bF hz
 have lj:=(ah.mp hj).1
 rw[aZ] at lj;rw[cf (by omega)] at hj;obtain⟨h1,e1⟩:=ah.mp hi
 obtain⟨h2,e2⟩:=ah.mp hj
 have:=(cA (h₀:=h1) (h₁:=h2) hn).mp (e1.trans e2.symm)
 omega
structure LpOk(H:Hp)(l:Addr)(qs:List Addr)(rs:List P2):Prop where
 sp:H l=some (.lst (qs.map V.ref))
 at_:R2At H qs rs
 nd:rs.Nodup
 n0:0<rs.length
 n12:rs.length<=12
 sz:∀r∈rs,Bd 101 r.1 /\ Bd 101 r.2
theorem LpOk.ext{H H':Hp}{l:Addr}{qs:List Addr}{rs:List P2}(h:LpOk H l qs rs)(e:Ext H H'):LpOk H' l qs rs:=⟨e _ _ h.sp,h.at_.ext e,h.nd,h.n0,h.n12,h.sz⟩
theorem LpOk.get{H:Hp}{l:Addr}{qs:List Addr}{rs:List P2}(h:LpOk H l qs rs){i:Nat}{r:P2}(hi:rs[i]? =some r):∃q,qs[i]? =some q /\ H q=some (.tup [.int r.1,.int r.2]) /\ atI (qs.map V.ref) (i:Int)=some (.ref q) /\ Bd 101 r.1 /\ Bd 101 r.2:=by
 obtain⟨q,hq⟩:∃q,qs[i]? =some q:=⟨_,aj (by rw[h.at_.1];exact(ah.mp hi).1)⟩
 exact⟨q,hq,h.at_.2 i q r hq hi,gw (by rw[ar,hq];rfl),h.sz r (aK hi)⟩
noncomputable def gp:Sp:=fun vs H Q _=>∃a b:Int,vs=[.int a,.int b] /\ Q (.int (ay a b:Int)) H
noncomputable def g8:Sp:=fun vs H Q _=>∃n:Int,vs=[.int n] /\ Q (.int (sgn n)) H
noncomputable def gA:Sp:=fun vs H Q _=>∃x y w:Int,vs=[.int x,.int y,.int w] /\ w≠0 /\ Bd 8000 w /\
 ∀p a b c,H p=none ->IsPt x y w a b c ->Q (.ref p) (upd H p (.tup [.int a,.int b,.int c]))
noncomputable def gd:Sp:=fun vs H Q _=>∃x w:Int,vs=[.int x,.int w] /\ w≠0 /\ Bd 8000 w /\
 ∀p a c,H p=none ->IsFr x w a c ->Q (.ref p) (upd H p (.tup [.int a,.int c]))
noncomputable def jS:Sp:=fun vs H Q _=>∃(p q:Addr) (a b c d:Int),vs=[.ref p,.ref q] /\ H p=some (.tup [.int a,.int b]) /\ H q=some (.tup [.int c,.int d]) /\ (Bd 2000 a /\ Bd 2000 b /\ Bd 2000 c /\ Bd 2000 d) /\ Q (.bl (decide (a*d<c*b))) H
noncomputable def gf:Sp:=fun vs H Q _=>∃(l:Addr) (xs:List V),vs=[.ref l] /\ H l=some (.lst xs) /\ 0<xs.length /\ xs.length<=12 /\ Q .non H
noncomputable def kP(K:af):Sp:=fun vs H Q _=>∃(l:Addr) (qs:List Addr) (rs:List P2),vs=[.ref l] /\ LpOk H l qs rs /\ ∀H',Ext H H' ->Q .non H'
noncomputable def fY:Sp:=fun vs H Q _=>∃(l:Addr) (i:Nat) (xs:List V),vs=[.ref l,.int (i:Int)] /\ H l=some (.lst xs) /\ i<xs.length /\ Q .non H
noncomputable def slp(A B D:P2):Int:=2*((A.2-B.2)*(A.1-D.1)+(B.1-A.1)*(A.2-D.2))
noncomputable def ris(A B D:P2):Int:=(A.1+B.1)*(A.1-D.1)+(A.2+B.2)*(A.2-D.2)+D.1*D.1+D.2*D.2-A.1*A.1-A.2*A.2
theorem p9{A B D:P2}(hA:Bd 101 A.1 /\ Bd 101 A.2)(hB:Bd 101 B.1 /\ Bd 101 B.2)(hD:Bd 101 D.1 /\ Bd 101 D.2):Bd 1700 (slp A B D) /\ Bd 1700 (ris A B D):=by
 have two:Bd 2 2:=Bd.of_le 2 (by decide) (by decide) (by decide)
 constructor
 ·exact(two.mul (((hA.2.sub hB.2).mul (hA.1.sub hD.1)).add ((hB.1.sub hA.1).mul (hA.2.sub hD.2)))).mono (by decide)
 ·exact(((((((hA.1.add hB.1).mul (hA.1.sub hD.1)).add ((hA.2.add hB.2).mul (hA.2.sub hD.2))).add (hD.1.mul hD.1)).add (hD.2.mul hD.2)).sub (hA.1.mul hA.1)).sub (hA.2.mul hA.2)).mono (by decide)
noncomputable def jT:Sp:=fun vs H Q _=>∃(p q r:Addr) (A B D:P2),vs=[.ref p,.ref q,.ref r] /\ H p=some (.tup [.int A.1,.int A.2]) /\ H q=some (.tup [.int B.1,.int B.2]) /\ H r=some (.tup [.int D.1,.int D.2]) /\ (Bd 101 A.1 /\ Bd 101 A.2) /\ (Bd 101 B.1 /\ Bd 101 B.2) /\ (Bd 101 D.1 /\ Bd 101 D.2) /\ ∀t,H t=none ->Q (.ref t) (upd H t (.tup [.int (slp A B D),.int (ris A B D)]))
noncomputable def FrV(H:Hp)(w:V)(o:Option (Int×Int)):Prop:=match o with
 |none=>w= .non
 |some z=>∃t,w= .ref t /\ H t=some (.tup [.int z.1,.int z.2]) /\ 0<z.2 /\ Bd 1700 z.1 /\ Bd 1700 z.2
theorem FrV.ext{H H':Hp}{w:V}{o:Option (Int×Int)}(h:FrV H w o)(x:Ext H H'):FrV H' w o:=by
 cases o with
 |none=>exact h
 |some z=>
  obtain⟨t,h1,h2,h3⟩:=h
  exact⟨t,h1,x _ _ h2,h3⟩
noncomputable def alX(A B:P2)(z:Int×Int):Int:=(A.1+B.1)*z.2+2*(A.2-B.2)*z.1
noncomputable def alY(A B:P2)(z:Int×Int):Int:=(A.2+B.2)*z.2+2*(B.1-A.1)*z.1
noncomputable def PlV(H:Hp)(w:V)(A B:P2)(o:Option (Int×Int)):Prop:=match o with
 |none=>w= .non
 |some z=>∃t a b c,w= .ref t /\ H t=some (.tup [.int a,.int b,.int c]) /\ IsPt (alX A B z) (alY A B z) (2*z.2) a b c
theorem PlV.ext{H H':Hp}{w:V}{A B:P2}{o:Option (Int×Int)}(h:PlV H w A B o)(x:Ext H H'):PlV H' w A B o:=by
 cases o with
 |none=>exact h
 |some z=>
  obtain⟨t,a,b,c,h1,h2,h3⟩:=h
  exact⟨t,a,b,c,h1,x _ _ h2,h3⟩
noncomputable def gZ:Sp:=fun vs H Q _=>∃(p q:Addr) (w:V) (A B:P2) (o:Option (Int×Int)),vs=[.ref p,.ref q,w] /\ H p=some (.tup [.int A.1,.int A.2]) /\ H q=some (.tup [.int B.1,.int B.2]) /\ (Bd 101 A.1 /\ Bd 101 A.2) /\ (Bd 101 B.1 /\ Bd 101 B.2) /\ FrV H w o /\ ∀v H',Ext H H' ->PlV H' v A B o ->Q v H'
noncomputable def LoOk(A B:P2)(S:List P2)(o:Option (Int×Int)):Prop:=match o with
 |none=>∀D∈S,¬0<slp A B D
 |some z=>0<z.2 /\ (∃D∈S,0<slp A B D /\ z.1*slp A B D= -(ris A B D)*z.2) /\ ∀D∈S,0<slp A B D ->0<=z.1*slp A B D+ris A B D*z.2
noncomputable def HiOk(A B:P2)(S:List P2)(o:Option (Int×Int)):Prop:=match o with
 |none=>∀D∈S,¬slp A B D<0
 |some z=>0<z.2 /\ (∃D∈S,slp A B D<0 /\ z.1*slp A B D= -(ris A B D)*z.2) /\ ∀D∈S,slp A B D<0 ->0<=z.1*slp A B D+ris A B D*z.2
theorem gh{α:Type}{S:List α}{D x:α}(h:x∈S++[D]):x∈S∨x=D:=by
 rcases bG.mp h with q|q
 ·exact .inl q
 ·exact .inr (bq.mp q)
theorem mz{a b c d s r:Int}(hb:0<b)(hd:0<d)(hs:0<=s)(h:a*d<=c*b)(k:0<=a*s+r*b):0<=c*s+r*d:=by
 have h1:=bJ h hs
 have h2:=bQ (bo hd) k
 have h3:0<=b*(c*s+r*d):=by
  have e1:d*(a*s+r*b)=a*d*s+r*b*d:=by grind
  have e2:b*(c*s+r*d)=c*b*s+r*b*d:=by grind
  omega
 exact Int.le_of_mul_le_mul_left (a:=b) (by rw[Int.mul_zero];exact h3) hb
theorem n9{a b c d s r:Int}(hb:0<b)(hd:0<d)(hs:s<=0)(h:c*b<=a*d)(k:0<=a*s+r*b):0<=c*s+r*d:=by
 have:=mz (a:= -a) (b:=b) (c:= -c) (d:=d) (s:= -s) (r:=r) hb hd (by omega) (by rw[cc,cc];omega) (by rw[dr];exact k)
 rw[dr] at this;exact this
theorem LoOk.keep{A B D:P2}{S:List P2}{o:Option (Int×Int)}(h:LoOk A B S o)(hD:¬0<slp A B D):LoOk A B (S++[D]) o:=by
 cases o with
 |none=>exact fun x hx=>(gh hx).elim (h x) fun e=>e▸hD
 |some z=>
  obtain⟨h0,⟨x,hx,h1⟩,h2⟩:=h
  exact⟨h0,⟨x,bh _ hx,h1⟩,fun y hy q=>(gh hy).elim (fun g=>h2 y g q) fun e=>absurd (e▸q) hD⟩
theorem HiOk.keep{A B D:P2}{S:List P2}{o:Option (Int×Int)}(h:HiOk A B S o)(hD:¬slp A B D<0):HiOk A B (S++[D]) o:=by
 cases o with
 |none=>exact fun x hx=>(gh hx).elim (h x) fun e=>e▸hD
 |some z=>
  obtain⟨h0,⟨x,hx,h1⟩,h2⟩:=h
  exact⟨h0,⟨x,bh _ hx,h1⟩,fun y hy q=>(gh hy).elim (fun g=>h2 y g q) fun e=>absurd (e▸q) hD⟩
theorem LoOk.new{A B D:P2}{S:List P2}{o:Option (Int×Int)}{a b:Int}(h:LoOk A B S o)(hD:0<slp A B D)(hf:IsFr (-(ris A B D)) (slp A B D) a b)(hl:∀z,o=some z ->z.1*b<a*z.2):LoOk A B (S++[D]) (some (a,b)):=by
 have hb:=hf.pos
 refine⟨hb,⟨D,by simp,hD,hf.ex⟩,fun y hy q=> ?_⟩;rcases gh hy with g|e
 ·cases o with
  |none=>exact absurd q (h y g)
  |some z=>exact mz h.1 hb (bo q) (bo (hl z rfl)) (h.2.2 y g q)
 ·subst e;have:=hf.ex
  dsimp only;rw[this,cc];omega
theorem LoOk.old{A B D:P2}{S:List P2}{z:Int×Int}{a b:Int}(h:LoOk A B S (some z))(hD:0<slp A B D)(hf:IsFr (-(ris A B D)) (slp A B D) a b)(hl:¬z.1*b<a*z.2):LoOk A B (S++[D]) (some z):=by
 obtain⟨h0,⟨x,hx,h1⟩,h2⟩:=h
 refine⟨h0,⟨x,bh _ hx,h1⟩,fun y hy q=> ?_⟩;rcases gh hy with g|e
 ·exact h2 y g q
 ·subst e;refine mz (a:=a) (b:=b) hf.pos h0 (bo q) (by omega) ?_;rw[hf.ex,cc];omega
theorem HiOk.new{A B D:P2}{S:List P2}{o:Option (Int×Int)}{a b:Int}(h:HiOk A B S o)(hD:slp A B D<0)(hf:IsFr (-(ris A B D)) (slp A B D) a b)(hl:∀z,o=some z ->a*z.2<z.1*b):HiOk A B (S++[D]) (some (a,b)):=by
 have hb:=hf.pos
 refine⟨hb,⟨D,by simp,hD,hf.ex⟩,fun y hy q=> ?_⟩;rcases gh hy with g|e
 ·cases o with
  |none=>exact absurd q (h y g)
  |some z=>exact n9 h.1 hb (bo q) (bo (hl z rfl)) (h.2.2 y g q)
 ·subst e;have:=hf.ex
  dsimp only;rw[this,cc];omega
theorem HiOk.old{A B D:P2}{S:List P2}{z:Int×Int}{a b:Int}(h:HiOk A B S (some z))(hD:slp A B D<0)(hf:IsFr (-(ris A B D)) (slp A B D) a b)(hl:¬a*z.2<z.1*b):HiOk A B (S++[D]) (some z):=by
 obtain⟨h0,⟨x,hx,h1⟩,h2⟩:=h
 refine⟨h0,⟨x,bh _ hx,h1⟩,fun y hy q=> ?_⟩;rcases gh hy with g|e
 ·exact h2 y g q
 ·subst e;refine n9 (a:=a) (b:=b) hf.pos h0 (bo q) (by omega) ?_;rw[hf.ex,cc];omega
noncomputable def Untied(A B:P2)(rs:List P2):Prop:=(∃D∈rs,slp A B D=0 /\ ris A B D<0)∨∃s e,LoOk A B rs (some s) /\ HiOk A B rs (some e) /\ e.1*s.2<=s.1*e.2
structure Tied(A B:P2)(rs:List P2)(s e:Option (Int×Int)):Prop where
 lo:LoOk A B rs s
 hi:HiOk A B rs e
 flat:∀D∈rs,slp A B D=0 ->0<=ris A B D
 lt:∀s' e',s=some s' ->e=some e' ->s'.1*e'.2<e'.1*s'.2
noncomputable def lI(K:af):Sp:=fun vs H Q _=>∃(l:Addr) (i j:Nat) (qs:List Addr) (rs:List P2) (A B:P2),vs=[.ref l,.int (i:Int),.int (j:Int)] /\ LpOk H l qs rs /\ rs[i]? =some A /\ rs[j]? =some B /\ (Untied A B rs -> ∀H',Ext H H' ->Q .non H') /\ ∀t v w s e H',Ext H H' ->H' t=some (.tup [v,w]) ->PlV H' v A B s ->PlV H' w A B e ->Tied A B rs s e ->Q (.ref t) H'
noncomputable def io(K:af):Sp:=fun vs H Q _=>∃(l:Addr) (i j:Nat) (qs:List Addr) (rs:List P2) (A B:P2),vs=[.ref l,.int (i:Int),.int (j:Int)] /\ LpOk H l qs rs /\ rs[i]? =some A /\ rs[j]? =some B /\ i≠j /\ (Untied A B rs -> ∀H',Ext H H' ->Q .non H') /\ ∀t v w s e H',Ext H H' ->H' t=some (.tup [v,w]) ->PlV H' v A B s ->PlV H' w A B e ->Tied A B rs s e ->Q (.ref t) H'
noncomputable def TT(A B:P2)(rs:List P2):Prop:=(∀D∈rs,slp A B D=0 ->0<=ris A B D) /\ ∀D∈rs,∀E∈rs,0<slp A B D ->slp A B E<0 ->ris A B D*slp A B E<ris A B E*slp A B D
noncomputable instance(A B:P2)(rs:List P2):Decidable (TT A B rs):=by unfold TT;infer_instance
theorem Untied.not{A B:P2}{rs:List P2}(h:Untied A B rs):¬TT A B rs:=by
 rintro⟨f,g⟩;rcases h with⟨D,hD,h0,h1⟩|⟨s,e,⟨s0,⟨D,hD,d0,d1⟩,_⟩,⟨e0,⟨E,hE,e1,e2⟩,_⟩,le⟩
 ·have:=f D hD h0
  omega
 ·have k:=g D hD E hE d0 e1
  generalize slp A B D=p at*;generalize slp A B E=q at*;generalize ris A B D=a at*;generalize ris A B E=b at*;have m0:0<p*(-q):=dN d0 (by omega)
  have k1:=bJ le (bo m0)
  have pos:0<s.2*e.2:=dN s0 e0
  have k2:=bZ k pos
  have a1:a*q*(s.2*e.2)=(s.1*e.2)*(p*(-q)):=by
   have:a*s.2= -(s.1*p):=by rw[d1,cc];omega
   calc a*q*(s.2*e.2)=(a*s.2)*q*e.2:=by grind
    _=_:=by rw[this];grind
  have b1:b*p*(s.2*e.2)=(e.1*s.2)*(p*(-q)):=by
   have:b*e.2= -(e.1*q):=by rw[e2,cc];omega
   calc b*p*(s.2*e.2)=(b*e.2)*p*s.2:=by grind
    _=_:=by rw[this];grind
  rw[a1,b1] at k2;omega
theorem Tied.tt{A B:P2}{rs:List P2}{s e:Option (Int×Int)}(h:Tied A B rs s e):TT A B rs:=by
 refine⟨h.flat,fun D hD E hE d0 e0=> ?_⟩;cases hs:s with
 |none=>
  have:=h.lo
  rw[hs] at this;exact absurd d0 (this D hD)
 |some s'=>
  cases he:e with
  |none=>
   have:=h.hi
   rw[he] at this;exact absurd e0 (this E hE)
  |some e'=>
   have lt:=h.lt s' e' hs he
   have lo:=h.lo
   have hi:=h.hi
   rw[hs] at lo;rw[he] at hi;have k1:=lo.2.2 D hD d0
   have k2:=hi.2.2 E hE e0
   have p1:=lo.1
   have p2:=hi.1
   generalize slp A B D=p at*;generalize slp A B E=q at*;generalize ris A B D=a at*;generalize ris A B E=b at*;have m0:0<p*(-q):=dN d0 (by omega)
   have pos:0<s'.2*e'.2:=dN p1 p2
   have l1:=bZ lt m0
   have l2:=bQ k1 (bQ (show 0<= -q by omega) (bo p2))
   have l3:=bQ k2 (bQ (bo d0) (bo p1))
   have f1:(s'.1*p+a*s'.2)*(-q*e'.2)=s'.1*e'.2*(p* -q)-a*q*(s'.2*e'.2):=by grind
   have f2:(e'.1*q+b*e'.2)*(p*s'.2)=b*p*(s'.2*e'.2)-e'.1*s'.2*(p* -q):=by grind
   rw[f1] at l2;rw[f2] at l3;have:a*q*(s'.2*e'.2)<b*p*(s'.2*e'.2):=by omega
   exact Int.lt_of_mul_lt_mul_right this (bo pos)
theorem TT.symm{A B:P2}{rs:List P2}(h:TT A B rs):TT B A rs:=by
 have es:∀D,slp B A D= -slp A B D:=fun D=>by unfold slp;grind
 have er:∀D,ris B A D=ris A B D:=fun D=>by unfold ris;grind
 refine⟨fun D hD h0=> ?_,fun D hD E hE d0 e0=> ?_⟩
 ·rw[es] at h0;rw[er];exact h.1 D hD (by omega)
 ·rw[es] at d0 e0;rw[es,es,er,er];have:=h.2 E hE D hD (by omega) (by omega)
  rw[dM,dM];omega
theorem ir{g:TG}{ta:TA}{σ:L2.St}{H:Hp}{tb:TS}{Dn:Ends}(lo:Int)(n:Nat)(ha:∀R:List V ->Hp ->Prop,R [.int lo,.int (lo+n)] H ->ta σ H R)(hl: -1000000<lo /\ lo<1000000)(hn:n<1000000)(Pv:Nat ->L2.St ->Hp ->Prop)(h0:Pv 0 σ H)
  (hs:∀i σ H,i<n ->Pv i σ H ->g (.int (lo+(i:Int))) σ H fun σ2 H2=>tb {Dn with nx:=Pv (i+1),ct:=Pv (i+1),bk:=Dn.nx} σ2 H2) (hd:∀σ H,Pv n σ H ->Dn.nx σ H):p5 (qJ ta) g tb Dn σ H:=
 have e:(lo+(n:Int)-lo).toNat=n:=by omega
 ha _ ⟨lo,lo+n,rfl,by omega,iE (lo:=lo) (n:=(lo+(n:Int)-lo).toNat) Pv h0 (fun i σ H hi p=>hs i σ H (by omega) p) (fun σ H p=>hd σ H (by rw[e] at p;exact p))⟩
noncomputable def PLt(a b:Nat×Nat):Prop:=a.1<b.1∨(a.1=b.1 /\ a.2<b.2)
structure TsOk(rs:List P2)(i j:Nat)(ps:List (Nat×Nat)):Prop where
 bd:∀z∈ps,z.1<z.2 /\ z.2<rs.length /\ (z.1<i∨(z.1=i /\ z.2<j))
 nd:ps.Nodup
 all:∀a b A B,a<b ->(a<i∨(a=i /\ b<j)) ->rs[a]? =some A ->rs[b]? =some B ->TT A B rs ->(a,b)∈ps
 len:ps.length<=12*i+j
 td:∀z∈ps,∀A B,rs[z.1]? =some A ->rs[z.2]? =some B ->TT A B rs
 so:ps.Pairwise PLt
theorem TsOk.skip{rs:List P2}{i j:Nat}{ps:List (Nat×Nat)}{A B:P2}(h:TsOk rs i j ps)(ha:rs[i]? =some A)(hb:rs[j]? =some B)(u:¬TT A B rs):TsOk rs i (j+1) ps where
 bd:=fun z hz=>by have:=h.bd z hz;omega
 nd:=h.nd
 all:=fun a b A' B' ab q h1 h2 n=>by
  by_cases e:a=i /\ b=j
  ·obtain⟨rfl,rfl⟩:=e
   rw[ha] at h1;rw[hb] at h2;cases h1;cases h2;exact(u n).elim
  ·exact h.all a b A' B' ab (by omega) h1 h2 n
 len:=by have:=h.len;omega
 td:=h.td
 so:=h.so
theorem TsOk.put{rs:List P2}{i j:Nat}{ps:List (Nat×Nat)}{A B:P2}(h:TsOk rs i j ps)(ij:i<j)(hj:j<rs.length)(ha:rs[i]? =some A)(hb:rs[j]? =some B)(tt:TT A B rs):TsOk rs i (j+1) (ps++[(i,j)]) where
 bd:=fun z hz=>by
  rcases bG.mp hz with q|q
  ·have:=h.bd z q
   omega
  ·rw[bq] at q;subst q;dsimp only;omega
 nd:=List.nodup_append.mpr ⟨h.nd,by simp,fun a ha c hc e=>by
  rw[bq] at hc;subst hc;subst e;have:=h.bd _ ha
  dsimp only at this;omega⟩
 all:=fun a b A' B' ab q h1 h2 n=>by
  by_cases e:a=i /\ b=j
  ·obtain⟨rfl,rfl⟩:=e
   exact aC _ (by simp)
  ·exact bh _ (h.all a b A' B' ab (by omega) h1 h2 n)
 len:=by have:=h.len;rw[aE];show _+1<=_;omega
 td:=fun z hz A' B' h1 h2=>by
  rcases bG.mp hz with q|q
  ·exact h.td z q A' B' h1 h2
  ·rw[bq] at q;subst q;rw[ha] at h1;rw[hb] at h2;cases h1;cases h2;exact tt
 so:=List.pairwise_append.mpr ⟨h.so,cV _ _,fun a ha c hc=>by
  rw[bq] at hc;subst hc;have:=h.bd _ ha
  unfold PLt;dsimp only;omega⟩
theorem TsOk.next{rs:List P2}{i:Nat}{ps:List (Nat×Nat)}(h:TsOk rs i rs.length ps)(n12:rs.length<=12):TsOk rs (i+1) 0 ps where
 bd:=fun z hz=>by have:=h.bd z hz;omega
 nd:=h.nd
 all:=fun a b A' B' ab q h1 h2 n=>h.all a b A' B' ab (by have:=(ah.mp h2).1;omega) h1 h2 n
 len:=by have:=h.len;omega
 td:=h.td
 so:=h.so
theorem TsOk.start{rs:List P2}{i j:Nat}{ps:List (Nat×Nat)}(h:TsOk rs i 0 ps)(j1:j<=i+1):TsOk rs i j ps where
 bd:=fun z hz=>by have:=h.bd z hz;omega
 nd:=h.nd
 all:=fun a b A' B' ab q h1 h2 n=>h.all a b A' B' ab (by omega) h1 h2 n
 len:=by have:=h.len;omega
 td:=h.td
 so:=h.so
noncomputable def RcAt(H:Hp)(ts:List Addr)(ps:List (Nat×Nat)):Prop:=ts.length=ps.length /\ ∀(k:Nat) (t:Addr) (z:Nat×Nat),ts[k]? =some t ->ps[k]? =some z -> ∃w,H t=some (.tup [.int (z.1:Int),.int (z.2:Int),w])
theorem RcAt.ext{H H':Hp}{ts:List Addr}{ps:List (Nat×Nat)}(h:RcAt H ts ps)(x:Ext H H'):RcAt H' ts ps:=⟨h.1,fun k t z a b=>by
 obtain⟨w,h1⟩:=h.2 k t z a b
 exact⟨w,x _ _ h1⟩⟩
theorem RcAt.snoc{H:Hp}{ts:List Addr}{ps:List (Nat×Nat)}(h:RcAt H ts ps){t:Addr}{i j:Nat}{w:V}(ht:H t=some (.tup [.int (i:Int),.int (j:Int),w])):RcAt H (ts++[t]) (ps++[(i,j)]):=by
 refine⟨by rw[aE,aE,h.1];rfl,fun k q z a b=> ?_⟩
 by_cases hk:k<ts.length
 ·rw[aL hk] at a;rw[aL (by rw[<-h.1];exact hk)] at b;exact h.2 k q z a b
 ·have hk':=(ah.mp a).1
  rw[aE] at hk';simp only[a9,bw] at hk';have ek:k=ts.length:=by omega
  rw[aI (by omega),ek,dz] at a;rw[aI (by rw[<-h.1];omega), <-h.1,ek,dz] at b;cases a;cases b;exact⟨w,ht⟩
theorem RcAt.setL{H:Hp}{ts:List Addr}{ps:List (Nat×Nat)}(h:RcAt H ts ps){D:Addr}{xs ys:List V}(hD:H D=some (.lst xs)):RcAt (upd H D (.lst ys)) ts ps:=⟨h.1,fun k t z a b=>by
 obtain⟨w,h1⟩:=h.2 k t z a b
 exact⟨w,(fy (lZ h1 hD (by intro z;cases z))).trans h1⟩⟩
noncomputable def RwV(A B:P2)(rs:List P2)(w:V):Prop:=(w= .non /\ ¬TT A B rs)∨∃t,w= .ref t /\ TT A B rs
noncomputable def gM(K:af):Sp:=fun vs H Q _=>∃(l:Addr) (qs:List Addr) (rs:List P2),vs=[.ref l] /\ LpOk H l qs rs /\ ∀t ts ps H',Ext H H' ->H t=none ->H' t=some (.lst (ts.map V.ref)) ->RcAt H' ts ps ->TsOk rs rs.length 0 ps ->Q (.ref t) H'
noncomputable def cI(z:Nat×Nat):P2:=((z.1:Int),(z.2:Int))
theorem R2At.setT{H:Hp}{ts:List Addr}{zs:List P2}(h:R2At H ts zs){D:Addr}{xs ys:List V}(hD:H D=some (.lst xs)):R2At (upd H D (.lst ys)) ts zs:=⟨h.1,fun k t z a b=>(fy (lZ (h.2 k t z a b) hD (by intro w;cases w))).trans (h.2 k t z a b)⟩
theorem R2At.snocT{H:Hp}{ts:List Addr}{zs:List P2}(h:R2At H ts zs){t:Addr}{z:P2}(ht:H t=some (.tup [.int z.1,.int z.2])):R2At H (ts++[t]) (zs++[z]):=by
 refine⟨by rw[aE,aE,h.1];rfl,fun k q w a b=> ?_⟩
 by_cases hk:k<ts.length
 ·rw[aL hk] at a;rw[aL (by rw[<-h.1];exact hk)] at b;exact h.2 k q w a b
 ·have hk':=(ah.mp a).1
  rw[aE] at hk';simp only[a9,bw] at hk';have ek:k=ts.length:=by omega
  rw[aI (by omega),ek,dz] at a;rw[aI (by rw[<-h.1];omega), <-h.1,ek,dz] at b;cases a;cases b;exact ht
noncomputable def iw(K:af):Sp:=fun vs H Q _=>∃(l:Addr) (qs:List Addr) (rs:List P2),vs=[.ref l] /\ LpOk H l qs rs /\ ∀t ts ps H',Ext H H' ->H t=none ->H' t=some (.lst (ts.map V.ref)) ->R2At H' ts (ps.map cI) ->TsOk rs rs.length 0 ps ->Q (.ref t) H'
noncomputable def gT(K:af):Sp:=fun vs H Q _=>∃(a:Addr) (ns:List Int) (k:Int),vs=[.ref a,.int k] /\ SqL K H a (ns.map V.int) /\ ∀p x y z,H p=none ->Q (.ref p) (upd H p (.lst [.int x,.int y,.int z]))
noncomputable def gq:Sp:=fun vs H Q _=>∃(p:Addr) (m:Int),vs=[.ref p,.int m] /\ Feed H p /\ 0<m /\ m<10000000000000000000000000000000000000000 /\ ∀r H',0<=r ->r<m ->FX p H H' ->Q (.int r) H'
noncomputable def iY:Sp:=fun vs H Q _=>∃(p:Addr) (far:Int),vs=[.ref p,.int far] /\ Feed H p /\ 0<=far /\ ∀r H',-far<=r ->r<=far ->FX p H H' ->Q (.int r) H'
noncomputable def oy:List P2:=[(25,0),(24,7),(20,15),(7,24),(0,25),(-7,24),(-15,20),(-24,-7),(-20,-15),(0,-25),(0,0)]
noncomputable def iX:Sp:=fun vs H Q _=>∃(p:Addr) (st:Int),vs=[.ref p,.int st] /\ Feed H p /\ ∀t x y H',FX p H H' ->H' t=some (.tup [.int x,.int y]) ->(-((10^30-1))<=x /\ x<=(10^30-1)) ->(-((10^30-1))<=y /\ y<=(10^30-1)) ->Q (.ref t) H'
noncomputable def KvOk(kvs:List (List Key×V)):Prop:=(kvs.map (·.1)).Nodup /\ ∀kv∈kvs,∃x y:Int,kv.1=[Sum.inl x,Sum.inl y] /\ (-((10^30-1))<=x /\ x<=(10^30-1)) /\ (-((10^30-1))<=y /\ y<=(10^30-1))
theorem KvOk.put{kvs:List (List Key×V)}(h:KvOk kvs){x y:Int}(hx: -((10^30-1))<=x /\ x<=(10^30-1))(hy: -((10^30-1))<=y /\ y<=(10^30-1))(v:V):KvOk (putK kvs [Sum.inl x,Sum.inl y] v) /\ 0<(putK kvs [Sum.inl x,Sum.inl y] v).length:=by
 cases e:iS kvs [Sum.inl x,Sum.inl y] with
 |none=>
  rw[i6 v e];refine⟨⟨?_,?_⟩,by rw[aE];exact Nat.succ_pos _⟩
  ·have:=oR v h.1 e
   rw[i6 v e] at this;exact this
  ·intro kv hk;rcases bG.mp hk with q|q
   ·exact h.2 kv q
   ·obtain rfl:kv=([Sum.inl x,Sum.inl y],v):=by simpa using q
    exact⟨x,y,rfl,hx,hy⟩
 |some w=>
  have hany:(kvs.any fun kv=>decide (kv.1=[Sum.inl x,Sum.inl y]))=true:=by rw[gV,e];rfl
  have e2:putK kvs [Sum.inl x,Sum.inl y] v=kvs.map (fun kv=>if kv.1=[Sum.inl x,Sum.inl y] then(kv.1,v) else kv):=if_pos hany
  have keys:(kvs.map (fun kv=>if kv.1=[Sum.inl x,Sum.inl y] then(kv.1,v) else kv)).map (·.1)=kvs.map (·.1):=by
   rw[List.map_map];apply dO;intro kv _;show(if kv.1=[Sum.inl x,Sum.inl y] then(kv.1,v) else kv).1=kv.1
   split<;>rfl
  rw[e2];refine⟨⟨by rw[keys];exact h.1,fun kv hk=> ?_⟩,?_⟩
  ·obtain⟨kv',hk',rfl⟩:=bu.mp hk
   split
   ·exact h.2 kv' hk'
   ·exact h.2 kv' hk'
  ·rw[ag];cases kvs with
   |nil=>cases e
   |cons _ _=>exact Nat.succ_pos _
noncomputable def kXY(kv:List Key×V):P2:=match kv.1 with
 |[Sum.inl x,Sum.inl y]=>(x,y)
 |_=>(0,0)
theorem nr{kvs:List (List Key×V)}(h:KvOk kvs):(kvs.map kXY).Nodup:=by
 have key:∀kv∈kvs,kv.1=[Sum.inl (kXY kv).1,Sum.inl (kXY kv).2]:=by
  intro kv hk;obtain⟨x1,y1,e,_⟩:=h.2 kv hk
  obtain⟨k1,v1⟩:=kv
  dsimp only at e;subst e;rfl
 have hn:=h.1
 clear h
 induction kvs with
 |nil=>exact dG
 |cons kv kvs ih=>
  rw[aO,aX] at hn⊢;refine⟨fun hm=>hn.1 ?_,ih (fun k hk=>key k (aF _ hk)) hn.2⟩;obtain⟨k',hk',e⟩:=bu.mp hm
  refine bu.mpr ⟨k',hk',?_⟩;rw[key k' (aF _ hk'),key kv aP,e]
theorem R2At.append{H:Hp}{qs qs':List Addr}{rs rs':List P2}(h:R2At H qs rs)(h':R2At H qs' rs'):R2At H (qs++qs') (rs++rs'):=by
 refine⟨by rw[aE,aE,h.1,h'.1],fun i q z h1 h2=> ?_⟩
 by_cases hi:i<qs.length
 ·rw[aL hi] at h1;rw[aL (by rw[<-h.1];exact hi)] at h2;exact h.2 i q z h1 h2
 ·rw[aI (by omega)] at h1;rw[aI (by rw[<-h.1];omega), <-h.1] at h2;exact h'.2 _ q z h1 h2
theorem R2At.one{H:Hp}{q:Addr}{r:P2}(h:H q=some (.tup [.int r.1,.int r.2])):R2At H [q] [r]:=⟨rfl,fun i q' z h1 h2=>by
 match i,h1,h2 with
 |0,h1,h2=>cases h1;cases h2;exact h⟩
theorem R2At.setL{H:Hp}{qs:List Addr}{R:List P2}{L:Addr}{xs ys:List V}(h:R2At H qs R)(hL:H L=some (.lst xs)):R2At (upd H L (.lst ys)) qs R:=⟨h.1,fun i t v a b=>by
 have h1:=h.2 i t v a b
 exact(fy (lZ h1 hL (by intro z;cases z))).trans h1⟩
noncomputable def il(K:af):Sp:=fun vs H Q _=>∃(a:Addr) (ns:List Int),vs=[.ref a] /\ SqL K H a (ns.map V.int) /\ ns.length<=63 /\ ∀l qs rs H',Ext H H' ->LpOk H' l qs rs ->Q (.ref l) H'
noncomputable def rz(K:af):List V ->Hp ->VK ->Prop:=fun xs H Q=>∃p ys,xs=[.ref p] /\ ((SqL K H p ys /\ ∀l,H l=none ->Q (.ref l) (upd H l (.tup ys)))∨(SqT K H p ys /\ Q (.ref p) H))
theorem jI:∀rs:List P2,PyData.eqvAll (rs.map t2d) (rs.map t2d)=true
 |[]=>by simp[PyData.eqvAll]
 |c::cs=>by
  have:=jI cs
  simp only[aO,PyData.eqvAll,this,Bool.and_true];simp[t2d,PyData.eqv,PyData.eqvAll]
theorem mq(rs:List P2):PyData.eqv (.list (rs.map t2d)) (.list (rs.map t2d))=true:=by
 simp only[PyData.eqv,jI]
noncomputable def JsV(js:List Nat):List V:=js.map fun j:Nat=>V.int (j:Int)
theorem pD{js:List Nat}{k:Nat}{w:V}(hk:(JsV js)[k]? =some w):∃j:Nat,js[k]? =some j /\ w= .int (j:Int):=by
 unfold JsV at hk;rw[ar] at hk;cases e:js[k]? with
 |none=>rw[e] at hk;cases hk
 |some q=>rw[e] at hk;exact⟨q,rfl,(aH.inj hk).symm⟩
theorem kd(js:List Nat):(JsV js).length=js.length:=by
 unfold JsV;rw[ag]
noncomputable def sAt(rs:List P2)(i:Nat):P2:=rs.getD i (0,0)
theorem fZ{rs:List P2}{i:Nat}(h:i<rs.length):rs[i]? =some (sAt rs i):=by unfold sAt;rw[aA,aj h];rfl
noncomputable def gH(H:Hp)(v:V):List Int:=match v with
 | .ref t=>(match H t with
  |some (.tup [.int a,.int b])=>[a,b]
  |_=>[])
 |_=>[]
theorem nH{H:Hp}{ws:List Addr}{zs:List (Nat×Nat)}(h:R2At H ws (zs.map cI)){k:Nat}(hk:k<zs.length):atV (ws.map V.ref) k= .ref (ws.getD k 0) /\ H (ws.getD k 0)=some (.tup [.int (((zs.getD k (0,0)).1:Nat):Int),.int (((zs.getD k (0,0)).2:Nat):Int)]):=by
 have lw:ws.length=zs.length:=by rw[h.1,ag]
 have e1:ws[k]? =some (ws.getD k 0):=by rw[aA,aj (by omega)];rfl
 have e2:zs[k]? =some (zs.getD k (0,0)):=by rw[aA,aj hk];rfl
 refine⟨?_,h.2 k _ _ e1 (by rw[ar,e2];rfl)⟩;unfold atV;rw[aA,ar,e1];rfl
theorem om{H:Hp}{ws:List Addr}{zs:List (Nat×Nat)}{q:List Nat}(h:R2At H ws (zs.map cI))(s:gm (ltT (gH H) (ws.map V.ref)) (ws.map V.ref).length q):
  q.map (atV (ws.map V.ref))=(q.map fun k=>ws.getD k 0).map V.ref /\ R2At H (q.map fun k=>ws.getD k 0) ((q.map fun k=>zs.getD k (0,0)).map cI) /\ (q.map fun k=>zs.getD k (0,0)).Perm zs /\ (q.map fun k=>zs.getD k (0,0)).Pairwise fun a b=>¬PLt b a:=by
 obtain⟨pm,pw⟩:=s
 have lw:ws.length=zs.length:=by rw[h.1,ag]
 rw[ag,lw] at pm;have lt:∀i∈q,i<zs.length:=fun i hi=>by simpa using pm.mem_iff.mp hi
 have gv:∀i,i<zs.length ->gH H (atV (ws.map V.ref) i)=[(((zs.getD i (0,0)).1:Nat):Int),(((zs.getD i (0,0)).2:Nat):Int)]:=fun i hi=>by
  obtain⟨e1,e2⟩:=nH h hi
  rw[e1];show(match H (ws.getD i 0) with|some (.tup [.int a,.int b])=>[a,b]|_=>[])=_
  rw[e2]
 refine⟨?_,⟨by simp,fun k t z a b=> ?_⟩,?_,?_⟩
 ·rw[List.map_map];exact dO fun i hi=>(nH h (lt i hi)).1
 ·rw[ar] at a b;rw[ar] at b;cases e:q[k]? with
  |none=>rw[e] at a;cases a
  |some i=>
   rw[e] at a b;cases a;cases b;exact(nH h (lt i (aK e))).2
 ·refine(pm.map _).trans ?_;have:(aw zs.length).map (fun k=>zs.getD k (0,0))=zs:=by
   refine d6 fun i=> ?_
   rw[ar]
   by_cases c:i<zs.length
   ·rw[List.getElem?_range c];show some (zs.getD i (0,0))=_
    rw[aA,aj c];rfl
   ·rw[bX (by rw[aU];omega),bX (by omega)];rfl
  rw[this]
 ·rw[cy];refine pw.imp_of_mem fun {a b} ha hb hs=> ?_
  unfold SR.sl ltT at hs;rw[gv a (lt a ha),gv b (lt b hb)] at hs;simp only[HT.lexLt_cons,HT.lexLt_nil_nil] at hs;generalize zs.getD a (0,0)=u at*;generalize zs.getD b (0,0)=v at*;unfold PLt
  by_cases e:(u.1:Int)=v.1
  ·rw[if_pos e,if_pos e.symm] at hs
   by_cases e2:(u.2:Int)=v.2
   ·omega
   ·rw[if_neg e2,if_neg (Ne.symm e2)] at hs;simp only[decide_eq_true_eq,decide_eq_false_iff_not] at hs;omega
  ·rw[if_neg e,if_neg (Ne.symm e)] at hs;simp only[decide_eq_true_eq,decide_eq_false_iff_not] at hs;omega
theorem lL{rs:List P2}(nd:rs.Nodup){i j:Nat}(hi:i<rs.length)(hj:j<rs.length)(ne:i≠j):sAt rs i≠sAt rs j:=fun e=>by
 have h1:=fZ hi
 have h2:=fZ hj
 rw[e] at h1;obtain⟨l1,e1⟩:=ah.mp h1
 obtain⟨l2,e2⟩:=ah.mp h2
 exact ne ((cA nd).mp (e1.trans e2.symm))
theorem g9{rs:List P2}{i:Nat}(hi:i<rs.length):sAt rs i∈rs:=aK (fZ hi)
theorem TsOk.le63{rs:List P2}{ps:List (Nat×Nat)}(nd:rs.Nodup)(n12:rs.length<=12)(h:TsOk rs rs.length 0 ps):ps.length<=63:=by
 refine MC.ties_le n12 (T:=fun i j=>TT (sAt rs i) (sAt rs j) rs) ?_ h.nd fun z hz=> ?_
 ·intro a b c d e ab bc cd de en t1 t2 t3 t4 t5 t6 t7 t8 t9 t0;have ne:=fun(i j:Nat) (l:i<j) (k:j<=e)=>lL nd (show i<rs.length by omega) (show j<rs.length by omega) (by omega:i≠j)
  exact MC.five (g9 (show a<rs.length by omega)) (g9 (show b<rs.length by omega)) (g9 (show c<rs.length by omega)) (g9 (show d<rs.length by omega)) (g9 en) (ne a b (by omega) (by omega)) (ne a c (by omega) (by omega)) (ne a d (by omega) (by omega)) (ne a e (by omega) (by omega)) (ne b c (by omega) (by omega)) (ne b d (by omega) (by omega)) (ne b e (by omega) (by omega)) (ne c d (by omega) (by omega)) (ne c e (by omega) (by omega)) (ne d e (by omega) (by omega)) t1 t2 t3 t4 t5 t6 t7 t8 t9 t0
 ·obtain⟨b1,b2,_⟩:=h.bd z hz
  exact⟨b1,b2,h.td z hz _ _ (fZ (by omega)) (fZ b2)⟩
noncomputable def mpP(js:List Nat)(z:Nat×Nat):Nat×Nat:=(min (js.getD z.1 0) (js.getD z.2 0),max (js.getD z.1 0) (js.getD z.2 0))
theorem j4{js:List Nat}{n:Nat}(pm:js.Perm (aw n)){i:Nat}(hi:i<n):js[i]? =some (js.getD i 0) /\ js.getD i 0<n:=by
 have l:js.length=n:=by rw[pm.length_eq,aU]
 have e:js[i]? =some (js.getD i 0):=by rw[aA,aj (by omega)];rfl
 exact⟨e,aT.mp (pm.mem_iff.mp (aK e))⟩
theorem mo{js:List Nat}{n:Nat}(pm:js.Perm (aw n)){i j:Nat}(hi:i<n)(hj:j<n)(e:js.getD i 0=js.getD j 0):i=j:=by
 have nd:js.Nodup:=pm.nodup_iff.mpr cY
 have h1:=(j4 pm hi).1
 have h2:=(j4 pm hj).1
 rw[e] at h1;obtain⟨l1,e1⟩:=ah.mp h1
 obtain⟨l2,e2⟩:=ah.mp h2
 exact(cA nd).mp (e1.trans e2.symm)
theorem mN{a b:Nat}{ms:List Int}(pm:ms.Perm [(a:Int),(b:Int)])(s:ms.Pairwise (· <= ·)):ms=[((min a b:Nat):Int),((max a b:Nat):Int)]:=by
 refine cj (le:=(· <= ·)) (fun x y _ _ h1 h2=>du h1 h2) s ?_ (pm.trans ?_)
 ·refine List.pairwise_cons.mpr ⟨fun x hx=> ?_,cV _ _⟩;rw[bq.mp hx];omega
 ·rcases Nat.le_total a b with l|l
  ·rw[cK l,cZ l]
  ·rw[cC l,cJ l];exact List.Perm.swap _ _ _
theorem lP{rs:List P2}{js:List Nat}(pm:js.Perm (aw rs.length))(D:P2):D∈js.map (sAt rs)↔D∈rs:=by
 rw[bu];constructor
 ·rintro⟨i,hi,rfl⟩;exact g9 (aT.mp (pm.mem_iff.mp hi))
 ·intro h;obtain⟨i,hi⟩:=bF h
  have l:=(ah.mp hi).1
  have:=fZ l
  rw[hi] at this;exact⟨i,pm.mem_iff.mpr (aT.mpr l),(aH.inj this).symm⟩
theorem TT.to{A B:P2}{rs rs':List P2}(h:TT A B rs)(m:∀D,D∈rs' ->D∈rs):TT A B rs':=⟨fun D hD=>h.1 D (m D hD),fun D hD E hE=>h.2 D (m D hD) E (m E hE)⟩
theorem lR{rs:List P2}{js:List Nat}{ps ps2 zs:List (Nat×Nat)}(pm:js.Perm (aw rs.length))(tk:TsOk rs rs.length 0 ps)(tk2:TsOk (js.map (sAt rs)) (js.map (sAt rs)).length 0 ps2)(h:zs.Perm (ps2.map (mpP js)))(so:zs.Pairwise fun a b=>¬PLt b a):zs=ps:=by
 have lj:(js.map (sAt rs)).length=rs.length:=by rw[ag,pm.length_eq,aU]
 have at':∀{i},i<rs.length ->(js.map (sAt rs))[i]? =some (sAt rs (js.getD i 0)):=fun {i} hi=>by rw[ar,(j4 pm hi).1];rfl
 have nd2:(ps2.map (mpP js)).Nodup:=by
  refine cy.mpr (tk2.nd.imp_of_mem fun {z w} hz hw ne e=>ne ?_);obtain⟨z1,z2,_⟩:=tk2.bd z hz
  obtain⟨w1,w2,_⟩:=tk2.bd w hw
  rw[lj] at z2 w2;have e1:min (js.getD z.1 0) (js.getD z.2 0)=min (js.getD w.1 0) (js.getD w.2 0):=congrArg eV e
  have e2:max (js.getD z.1 0) (js.getD z.2 0)=max (js.getD w.1 0) (js.getD w.2 0):=congrArg Prod.snd e
  have a1:(js.getD z.1 0=js.getD w.1 0 /\ js.getD z.2 0=js.getD w.2 0)∨(js.getD z.1 0=js.getD w.2 0 /\ js.getD z.2 0=js.getD w.1 0):=by omega
  rcases a1 with⟨a1,a2⟩|⟨a1,a2⟩
  ·exact dW (mo pm (by omega) (by omega) a1) (mo pm z2 w2 a2)
  ·have b1:=mo pm (by omega) w2 a1
   have b2:=mo pm z2 (by omega) a2
   omega
 have same:(ps2.map (mpP js)).Perm ps:=(cL nd2 tk.nd).mpr fun z=>by
  rw[bu];constructor
  ·rintro⟨w,hw,rfl⟩;obtain⟨w1,w2,_⟩:=tk2.bd w hw
   rw[lj] at w2;have t:=(tk2.td w hw _ _ (at' (by omega)) (at' w2)).to fun D h=>(lP pm D).mpr h
   have la:=(j4 pm (show w.1<rs.length by omega)).2
   have lb:=(j4 pm w2).2
   have ne:js.getD w.1 0≠js.getD w.2 0:=fun e=>by have:=mo pm (show w.1<rs.length by omega) w2 e;omega
   unfold mpP;generalize js.getD w.1 0=a at*;generalize js.getD w.2 0=b at*;rcases dX ne with l|l
   ·rw[cK (bt l),cZ (bt l)];exact tk.all a b _ _ l (.inl la) (fZ la) (fZ lb) t
   ·rw[cC (bt l),cJ (bt l)];exact tk.all b a _ _ l (.inl lb) (fZ lb) (fZ la) t.symm
  ·intro hz;obtain⟨z1,z2,_⟩:=tk.bd z hz
   have t:=tk.td z hz _ _ (fZ (show z.1<rs.length by omega)) (fZ z2)
   have t2:=t.to fun D h=>(lP pm D).mp h
   obtain⟨k1,h1⟩:=bF (pm.mem_iff.mpr (aT.mpr (show z.1<rs.length by omega)))
   obtain⟨k2,h2⟩:=bF (pm.mem_iff.mpr (aT.mpr z2))
   have jl:js.length=rs.length:=by rw[pm.length_eq,aU]
   have l1:=(ah.mp h1).1
   have l2:=(ah.mp h2).1
   have g1:js.getD k1 0=z.1:=by rw[aA,h1];rfl
   have g2:js.getD k2 0=z.2:=by rw[aA,h2];rfl
   have ne:k1≠k2:=fun e=>by rw[e,g2] at g1;omega
   have a1:=at' (i:=k1) (by omega)
   have a2:=at' (i:=k2) (by omega)
   rw[g1] at a1;rw[g2] at a2;rcases dX ne with l|l
   ·refine⟨(k1,k2),tk2.all k1 k2 _ _ l (.inl (by omega)) a1 a2 t2,?_⟩;unfold mpP;dsimp only;rw[g1,g2,cK (bt z1),cZ (bt z1)]
   ·refine⟨(k2,k1),tk2.all k2 k1 _ _ l (.inl (by omega)) a2 a1 t2.symm,?_⟩;unfold mpP;dsimp only;rw[g1,g2,cC (bt z1),cJ (bt z1)]
 refine cj (le:=fun a b=>¬PLt b a) (fun a b _ _ h1 h2=> ?_) so (tk.so.imp fun {a b} h k=>by unfold PLt at*;omega) (h.trans same);unfold PLt at h1 h2;exact dW (by omega) (by omega)
theorem TsOk.uniq{rs:List P2}{ps qs:List (Nat×Nat)}(h:TsOk rs rs.length 0 ps)(k:TsOk rs rs.length 0 qs):ps=qs:=by
 have sub:∀{ps qs:List (Nat×Nat)},TsOk rs rs.length 0 ps ->TsOk rs rs.length 0 qs -> ∀z∈ps,z∈qs:=fun {ps qs} h k z hz=>by
  obtain⟨b1,b2,_⟩:=h.bd z hz
  have h1:rs[z.1]? =some rs[z.1]:=aj (by omega)
  have h2:rs[z.2]? =some rs[z.2]:=aj b2
  exact k.all z.1 z.2 _ _ b1 (.inl (by omega)) h1 h2 (h.td z hz _ _ h1 h2)
 have pm:ps.Perm qs:=(cL h.nd k.nd).mpr fun z=>⟨sub h k z,sub k h z⟩
 exact cj (le:=PLt) (fun a b _ _ h1 h2=>by unfold PLt at*;omega) h.so k.so pm
theorem mB{X:Cx}{K:af}(hK:X.K=K):gz X (.type "tuple") (rz K):=by
 subst hK;exact jn
end LW
namespace LW
open PySem L2 MA PyProof.Rows MC
section
variable {P:Program} {w:World} {K:af} {mg:Str ->Option Value} {base:Heap}
theorem sc_divisor:FnScope ["one","other"] ["one","other"] (fm s_divisor):=⟨rfl,rfl,rfl,by decide+kernel,rfl,by decide+kernel,by decide+kernel⟩
theorem ok_divisor{C:Cz}{f:Addr}{fd:FuncData}(F:Fun K "divisor" "divisor" s_divisor f fd)(T:Txt K mg C):FnOk P w K mg base (CXE P w) 1 f fd ["one","other"] gp:=by
 refine okN F (k:=0) sc_divisor (fun vs H Q E h=> ?_) (fun cdv A outer s H vs Q E hr h=> ?_)
 ·obtain⟨a,b,rfl,_⟩:=h
  rfl
 ·obtain⟨a,b,rfl,h⟩:=h
  refine'⟨_,?main,?rest⟩
  case main=>
   refine' fo ?c1 ?c2
   case' c1=>refine' fJ (i:=0) sc_divisor.nd rfl (aJ rfl) ?c3
   case' c3=>refine' fK kK (by rfl) T.b_abs boot_abs ?c4
   case' c4=>exact fi (pvF 0) fk
   case' c2=>refine' fo ?c5 ?c6
   case' c5=>refine' fJ (i:=1) sc_divisor.nd rfl (aJ rfl) ?c7
   case' c7=>refine' fK kK (by rfl) T.b_abs boot_abs ?c8
   case' c8=>exact fi (pvF 1) fk
   case' c6=>refine' fo ?c9 ?c10
   case' c9=>refine' mY PassesOwn.never ?c11 ?c12
   case' c11=>exact fL qr (pvF 1) fj (fR _)
   case' c12=>refine' ft ?c13
   case' c13=>refine' nU (i:=0) (j:=1) rfl sc_divisor.nd rfl rfl (by decide) rfl rfl ?c14 rfl
   case' c14=>refine' fi (pvF 1) ?c15
   case' c15=>exact fi (fv (OpR.f gS) (pvF 0) (pvF 1)) fk
   case' c10=>exact ft (fN (pvF 0))
  case rest=>
   walk_at "ST"
   walk_at "RD"
   refine⟨fun m σ H'=>∃x y:Int,σ=[some (.int x),some (.int y)] /\ H'=H /\ 0<=x /\ 0<=y /\ ay x y=ay a b /\ m=y.toNat,⟨_,_,_,rfl,rfl,?_,?_,?_,rfl⟩,?_⟩
   ·show 0<=ab a
    rw[nQ];omega
   ·show 0<=ab b
    rw[nQ];omega
   ·show ay (ab a) (ab b)=_
    rw[nQ,nQ,ie,jk]
   ·rintro m σ H' ⟨x,y,rfl,rfl,hx,hy,hg,rfl⟩;walk_at "RD"
    by_cases hy0:y=0
    ·subst hy0;rw[if_neg (by simp)];have e:=gcd_zero hx
     rw[hg] at e;rw[e] at h;exact h
    ·rw[if_pos (by simpa using hy0)];have hp:0<y:=by omega
     refine⟨fun σ' H1=>∃x y':Int,σ'=[some (.int x),some (.int y')] /\ H1=H' /\ 0<=x /\ 0<=y' /\ ay x y'=ay a b /\ y'<y,?_,?_⟩
     ·rintro σ' H1 ⟨x,y',rfl,rfl,h1,h2,h3,h4⟩;exact⟨y'.toNat,by omega,x,y',rfl,rfl,h1,h2,h3,rfl⟩
     ·walk_at "RD"
      exact⟨hp,hy,bW _ hy0,by rw[nA hp];exact hg,bB _ hp⟩
theorem ou:FnScope ["number"] ["number"] (fm s_sign):=⟨rfl,rfl,rfl,by decide+kernel,rfl,by decide+kernel,by decide+kernel⟩
theorem ok_sign{C:Cz}{f:Addr}{fd:FuncData}(F:Fun K "sign" "sign" s_sign f fd)(T:Txt K mg C):FnOk P w K mg base (CXE P w) 1 f fd ["number"] g8:=by
 refine okN F (k:=0) ou (fun vs H Q E h=> ?_) (fun cdv A outer s H vs Q E hr h=> ?_)
 ·obtain⟨n,rfl,_⟩:=h
  rfl
 ·obtain⟨n,rfl,h⟩:=h
  refine'⟨_,?main,?rest⟩
  case main=>
   refine' fo ?c1 ?c2
   case' c1=>refine' gi ?c3 ?c4 fH
   case' c3=>exact fL (OpR.f0 lX) (pvF 0) fj (fR _)
   case' c4=>refine' ft ?c5
   case' c5=>refine' fN ?c6
   case' c6=>exact i8 (UnR.f gW) fj
   case' c2=>refine' fo ?c7 ?c8
   case' c7=>refine' gi ?c9 ?c10 fH
   case' c9=>exact fL (OpR.f0 m9) (pvF 0) fj (fR _)
   case' c10=>refine' ft ?c11
   case' c11=>exact fN fj
   case' c8=>refine' ft ?c12
   case' c12=>exact fN fj
  case rest=>
   walk_at "ST"
   walk_at "RD"
   unfold sgn at h;split
   ·rename_i z
    rw[if_pos z] at h;exact h
   ·rename_i z
    rw[if_neg z] at h;split
    ·rename_i z
     rw[if_pos z] at h;exact h
    ·rename_i z
     rw[if_neg z] at h;exact h
theorem sc_point_of:FnScope ["x","y","w","common"] ["x","y","w"] (fm s_point_of):=⟨rfl,rfl,rfl,by decide+kernel,rfl,by decide+kernel,by decide+kernel⟩
theorem ok_point_of{C:Cz}{f:Addr}{fd:FuncData}(F:Fun K "point_of" "point_of" s_point_of f fd)(T:Txt K mg C)(F_divisor:FnB P w K mg base (CXE P w) 1 "divisor" ["one","other"] gp)(F_sign:FnB P w K mg base (CXE P w) 1 "sign" ["number"] g8):FnOk P w K mg base (CXE P w) 2 f fd ["x","y","w"] gA:=by
 refine okN F (k:=1) sc_point_of (fun vs H Q E h=> ?_) (fun cdv A outer s H vs Q E hr h=> ?_)
 ·obtain⟨x,y,u,rfl,_⟩:=h
  rfl
 ·obtain⟨x,y,u,rfl,h⟩:=h
  refine'⟨_,?main,?rest⟩
  case main=>
   refine' fo ?c1 ?c2
   case' c1=>refine' gi ?c3 ?c4 fH
   case' c3=>exact fL gK (pvF 2) fj (fR _)
   case' c4=>exact ft gO
   case' c2=>refine' fo ?c5 ?c6
   case' c5=>refine' fJ (i:=3) ?c7 ?c8 ?c9 ?c10
   case c7=>exact sc_point_of.nd
   case c8=>exact rfl
   case c9=>exact(aJ rfl)
   case' c10=>refine' fv ?c11 ?c12 ?c13
   case c11=>exact(OpR.f fF)
   case' c12=>refine' fQ F_divisor (hr.mono (by decide)) rfl fE ?c14
   case' c14=>refine' fi ?c15 ?c16
   case' c15=>refine' fQ F_divisor (hr.mono (by decide)) rfl fE ?c17
   case' c17=>refine' fi (pvF 2) ?c18
   case' c18=>exact fi (pvF 0) fk
   case' c16=>exact fi (pvF 1) fk
   case' c13=>refine' fQ F_sign (hr.mono (by decide)) rfl fE ?c19
   case' c19=>exact fi (pvF 2) fk
   case' c6=>refine' ft ?c20
   case' c20=>refine' fN ?c21
   case' c21=>refine' fT ?c22
   case' c22=>refine' fi (fv (OpR.f gC) (pvF 0) (pvF 3)) ?c23
   case' c23=>refine' fi (fv (OpR.f gC) (pvF 1) (pvF 3)) ?c24
   case' c24=>exact fi (fv (OpR.f gC) (pvF 2) (pvF 3)) fk
  case rest=>
   obtain⟨hw,hb,h⟩:=h
   walk_at "ST"
   rw[pF]
   o_head ⟨gp,g8,hw,rI⟩
   have hc:com x y u=(ay (ay u x) y:Int)*sgn u:=rfl
   rw[<-hc];have h1:com x y u≠0:=my hw
   have h2:Bd 9000 (com x y u):=by
    refine Bd.mono (m:=8000) ?_ (by decide);have:=(j8 x y u hw).2.2
    exact bp (Nat.le_of_dvd (by omega) (dA.mpr this)) hb
   refine⟨.inl (.inr ?_),h1,h2,h1,h2,h1,h2,by decide,fun p hp=>h p _ _ _ hp (mh hw)⟩;rcases jt u with e|e|e<;>rw[e]<;>decide
theorem sc_fraction_of:FnScope ["top","bottom","common"] ["top","bottom"] (fm s_fraction_of):=⟨rfl,rfl,rfl,by decide+kernel,rfl,by decide+kernel,by decide+kernel⟩
theorem ok_fraction_of{C:Cz}{f:Addr}{fd:FuncData}(F:Fun K "fraction_of" "fraction_of" s_fraction_of f fd)(T:Txt K mg C)(F_divisor:FnB P w K mg base (CXE P w) 1 "divisor" ["one","other"] gp)(F_sign:FnB P w K mg base (CXE P w) 1 "sign" ["number"] g8):FnOk P w K mg base (CXE P w) 2 f fd ["top","bottom"] gd:=by
 refine okN F (k:=1) sc_fraction_of (fun vs H Q E h=> ?_) (fun cdv A outer s H vs Q E hr h=> ?_)
 ·obtain⟨x,u,rfl,_⟩:=h
  rfl
 ·obtain⟨x,u,rfl,h⟩:=h
  refine'⟨_,?main,?rest⟩
  case main=>
   refine' fo ?c1 ?c2
   case' c1=>refine' gi ?c3 ?c4 fH
   case' c3=>exact fL gK (pvF 1) fj (fR _)
   case' c4=>exact ft gO
   case' c2=>refine' fo ?c5 ?c6
   case' c5=>refine' fJ (i:=2) sc_fraction_of.nd rfl (aJ rfl) ?c7
   case' c7=>refine' fv (OpR.f fF) ?c8 ?c9
   case' c8=>refine' fQ F_divisor (hr.mono (by decide)) rfl fE ?c10
   case' c10=>refine' fi (pvF 1) ?c11
   case' c11=>exact fi (pvF 0) fk
   case' c9=>refine' fQ F_sign (hr.mono (by decide)) rfl fE ?c12
   case' c12=>exact fi (pvF 1) fk
   case' c6=>refine' ft ?c13
   case' c13=>refine' fN ?c14
   case' c14=>refine' fT ?c15
   case' c15=>refine' fi (fv (OpR.f gC) (pvF 0) (pvF 2)) ?c16
   case' c16=>exact fi (fv (OpR.f gC) (pvF 1) (pvF 2)) fk
  case rest=>
   obtain⟨hw,hb,h⟩:=h
   walk_at "ST"
   o_head ⟨gp,g8,hw,rI⟩
   have hc:com x 0 u=(ay u x:Int)*sgn u:=by unfold com;simp
   rw[<-hc];have h1:com x 0 u≠0:=my hw
   have h2:Bd 9000 (com x 0 u):=by
    refine Bd.mono (m:=8000) ?_ (by decide);have:=(j8 x 0 u hw).2.2
    exact bp (Nat.le_of_dvd (by omega) (dA.mpr this)) hb
   have h3:=oX (x:=x) hw
   rw[<-hc] at h3;refine⟨.inl (.inr ?_),h1,h2,h1,h2,by decide,fun p hp=>h p _ _ hp h3⟩;rcases jt u with e|e|e<;>rw[e]<;>decide
theorem ow:FnScope ["one","other"] ["one","other"] (fm s_less):=⟨rfl,rfl,rfl,by decide+kernel,rfl,by decide+kernel,by decide+kernel⟩
theorem ok_less{C:Cz}{f:Addr}{fd:FuncData}(F:Fun K "less" "less" s_less f fd)(T:Txt K mg C):FnOk P w K mg base (CXE P w) 1 f fd ["one","other"] jS:=by
 refine okN F (k:=0) ow (fun vs H Q E h=> ?_) (fun cdv A outer s H vs Q E hr h=> ?_)
 ·obtain⟨p,q,a,b,c,d,rfl,_⟩:=h
  rfl
 ·obtain⟨p,q,a,b,c,d,rfl,h⟩:=h
  refine'⟨_,?main,?rest⟩
  case main=>
   refine' ft ?c1
   case' c1=>refine' fN ?c2
   case' c2=>refine' lS ?c3 ?c4 ?c5 ?c6
   case c3=>exact(OpR.f0 lX)
   case' c4=>refine' fv (OpR.f fF) ?c7 ?c8
   case' c7=>exact gI jE (pvF 0) fj (fun _ _=>rfl)
   case' c8=>exact gI jE (pvF 1) fj (fun _ _=>rfl)
   case' c5=>refine' fv (OpR.f fF) ?c9 ?c10
   case' c9=>exact gI jE (pvF 1) fj (fun _ _=>rfl)
   case' c10=>exact gI jE (pvF 0) fj (fun _ _=>rfl)
   case c6=>exact(fR _)
  case rest=>
   obtain⟨hp,hq,⟨b1,b2,b3,b4⟩,h⟩:=h
   walk_at "ST"
   o_head ⟨hp,hq,rI,rI⟩
   exact⟨(by walk_at "CM"),(by walk_at "CM"),h⟩
theorem iH:FnScope ["spots"] ["spots"] (fm s_check_count):=⟨rfl,rfl,rfl,by decide+kernel,rfl,by decide+kernel,by decide+kernel⟩
theorem ok_check_count{C:Cz}{f:Addr}{fd:FuncData}(F:Fun K "check_count" "check_count" s_check_count f fd)(T:Txt K mg C):FnOk P w K mg base (CXE P w) 1 f fd ["spots"] gf:=by
 refine okN F (k:=0) iH (fun vs H Q E h=> ?_) (fun cdv A outer s H vs Q E hr h=> ?_)
 ·obtain⟨l,xs,rfl,_⟩:=h
  rfl
 ·obtain⟨l,xs,rfl,h⟩:=h
  refine'⟨_,?main,?rest⟩
  case main=>
   refine' ft ?c1
   case' c1=>refine' gi ?c2 ?c3 ?c4
   case' c2=>refine' PW.pt ?c5
   case' c5=>refine' kQ ?c6 ?c7
   case' c6=>refine' fL gK ?c8 fj (fR _)
   case' c8=>refine' fK fW (by rfl) T.b_len aY ?c9
   case' c9=>exact fi (pvF 0) fk
   case' c7=>refine' jw ?c10
   case' c10=>refine' fL (OpR.f0 m9) ?c11 (m7 rfl T.n_MOST_SPOTS) (fR _)
   case' c11=>refine' fK fW (by rfl) T.b_len aY ?c12
   case' c12=>exact fi (pvF 0) fk
   case' c3=>exact ft gO
   case c4=>exact fH
  case rest=>
   obtain⟨hl,h0,h12,h⟩:=h
   walk_at "ST"
   o_head ⟨hl⟩
   rw[if_neg (by omega),if_neg (by omega)];exact h
theorem sc_check_spots:FnScope ["spots","number","spot"] ["spots"] (fm s_check_spots):=⟨rfl,rfl,rfl,by decide+kernel,rfl,by decide+kernel,by decide+kernel⟩
theorem ok_check_spots{C:Cz}{f:Addr}{fd:FuncData}(F:Fun K "check_spots" "check_spots" s_check_spots f fd)(T:Txt K mg C)(F_check_count:FnB P w K mg base (CXE P w) 1 "check_count" ["spots"] gf):FnOk P w K mg base (CXE P w) 2 f fd ["spots"] (kP K):=by
 refine okN F (k:=1) sc_check_spots (fun vs H Q E h=> ?_) (fun cdv A outer s H vs Q E hr h=> ?_)
 ·obtain⟨l,qs,rs,rfl,_⟩:=h
  rfl
 ·obtain⟨l,qs,rs,rfl,h⟩:=h
  refine'⟨_,?main,?rest⟩
  case main=>
   refine' fo ?c1 ?c2
   case' c1=>refine' gB ?c3
   case' c3=>refine' fQ F_check_count (hr.mono (by decide)) rfl fE ?c4
   case' c4=>exact fi (pvF 0) fk
   case' c2=>refine' ft ?c5
   case' c5=>refine' gR ?c6 ?c7 ?c8 ?c9 ?c10
   case c6=>exact PassesOwn.never
   case c7=>exact rfl
   case' c8=>refine' oG (K:=K) rfl rfl T.b_enumerate ?c11
   case' c11=>exact fi (pvF 0) fk
   case' c9=>refine' mL (n:=2) rfl ?c12
   case' c12=>refine' fA (fC (i:=1) sc_check_spots.nd rfl (aJ rfl)) ?c13
   case' c13=>exact fA (fC (i:=2) sc_check_spots.nd rfl (aJ rfl)) gg
   case' c10=>refine' ft ?c14
   case' c14=>refine' gi ?c15 ?c16 fH
   case' c15=>refine' fL (oO (K:=K) rfl (sF hr)) (pvF 2) ?c17 (by with_unfolding_all rfl)
   case' c17=>exact m4 sv (pvF 0) oE (oD (pvF 1))
   case' c16=>exact ft gO
  case rest=>
   obtain⟨ok,h⟩:=h
   walk_at "ST"
   o_head ⟨gf⟩
   have lq:(qs.map V.ref).length=rs.length:=by rw[ag,ok.at_.1]
   refine⟨_,ok.sp,by rw[lq];exact ok.n0,by rw[lq];exact ok.n12,?_⟩;refine lA (fun a' H1=>a'=l /\ H1=H) ?_ ?_
   ·intro R hR;walk_at "RD"
    exact hR _ _ ⟨rfl,rfl⟩
   ·rintro _ _ ⟨rfl,rfl⟩;refine⟨qs.map V.ref,fun i σ H'=>∃o2 o3:Option V,σ=[some (.ref _),o2,o3] /\ Ext _ H',⟨_,_,rfl,.refl _⟩,?_,?_,?_⟩
    ·rintro i σ H' _ ⟨o2,o3,rfl,x'⟩;exact SqL.of (x' _ _ ok.sp)
    ·rintro i w1 t σ H' hi ⟨o2,o3,rfl,x'⟩ ht;obtain⟨q,hq,rfl⟩:=gN hi
     obtain⟨r,hr1,hr2⟩:=ok.at_.at hq
     have xt:=x'.then (o:= .tup [.int (i:Int),.ref q]) ht
     have et:=fq (H:=H') (a:=t) (o:= .tup [.int (i:Int),.ref q])
     generalize upd H' t (.tup [.int (i:Int),.ref q])=H2 at xt et⊢;have ok2:=ok.ext xt
     o_head ⟨jH,j5,pb,et,ok2.sp,rI,rI⟩
     rw[qV];refine fun s1 h1=> ?_
     have ok4:=ok2.ext (Ext.upd (o:= .lst ((qs.map V.ref).take i)) h1)
     refine⟨t2d r,(rs.take i).map t2d,nT (fw h1 (xt _ _ hr2)),.lst (xs:=(qs.take i).map V.ref) (SqL.of ?_) (ic (ok4.at_.take i)),lJ r,gs _,?_,?_⟩
     ·rw[fq,eY]
     ·intro y hy;obtain⟨z',_,rfl⟩:=bu.mp hy
      exact kq z' r
     ·rw[kR ok.nd hr1];walk_at "RD"
      exact xt.then h1
    ·rintro σ H' ⟨o2,o3,rfl,x'⟩;exact h _ x'
theorem iy:FnScope ["spots","number"] ["spots","number"] (fm s_check_number):=⟨rfl,rfl,rfl,by decide+kernel,rfl,by decide+kernel,by decide+kernel⟩
theorem ok_check_number{C:Cz}{f:Addr}{fd:FuncData}(F:Fun K "check_number" "check_number" s_check_number f fd)(T:Txt K mg C):FnOk P w K mg base (CXE P w) 1 f fd ["spots","number"] fY:=by
 refine okN F (k:=0) iy (fun vs H Q E h=> ?_) (fun cdv A outer s H vs Q E hr h=> ?_)
 ·obtain⟨l,i,xs,rfl,_⟩:=h
  rfl
 ·obtain⟨l,i,xs,rfl,h⟩:=h
  refine'⟨_,?main,?rest⟩
  case main=>
   refine' ft ?c1
   case' c1=>refine' gi ?c2 ?c3 ?c4
   case' c2=>refine' PW.pt ?c5
   case' c5=>refine' kQ ?c6 ?c7
   case' c6=>exact fL (OpR.f0 lX) (pvF 1) fj (fR _)
   case' c7=>refine' jw ?c8
   case' c8=>refine' fL (OpR.f0 qu) (pvF 1) ?c9 (fR _)
   case' c9=>refine' fK fW (by rfl) T.b_len aY ?c10
   case' c10=>exact fi (pvF 0) fk
   case' c3=>exact ft gO
   case c4=>exact fH
  case rest=>
   obtain⟨hl,hi,h⟩:=h
   walk_at "ST"
   o_head ⟨hl⟩
   rw[if_neg (by omega),if_neg (by omega)];exact h
theorem sc_lead:FnScope ["first","second","third","x","y","u","v","a","b","slope","rise"] ["first","second","third"] (fm s_lead):=⟨rfl,rfl,rfl,by decide+kernel,rfl,by decide+kernel,by decide+kernel⟩
theorem ok_lead{C:Cz}{f:Addr}{fd:FuncData}(F:Fun K "lead" "lead" s_lead f fd)(T:Txt K mg C):FnOk P w K mg base (CXE P w) 1 f fd ["first","second","third"] jT:=by
 refine okN F (k:=0) sc_lead (fun vs H Q E h=> ?_) (fun cdv A outer s H vs Q E hr h=> ?_)
 ·obtain⟨p,q,r,A,B,D,rfl,_⟩:=h
  rfl
 ·obtain⟨p,q,r,A,B,D,rfl,h⟩:=h
  refine'⟨_,?main,?rest⟩
  case main=>
   refine' fo ?c1 ?c2
   case' c1=>refine' g0 (pvF 0) ?c3
   case' c3=>refine' mL (n:=2) rfl ?c4
   case' c4=>refine' fA (fC (i:=3) sc_lead.nd rfl (aJ rfl)) ?c5
   case' c5=>exact fA (fC (i:=4) sc_lead.nd rfl (aJ rfl)) gg
   case' c2=>refine' fo ?c6 ?c7
   case' c6=>refine' g0 (pvF 1) ?c8
   case' c8=>refine' mL (n:=2) rfl ?c9
   case' c9=>refine' fA (fC (i:=5) sc_lead.nd rfl (aJ rfl)) ?c10
   case' c10=>exact fA (fC (i:=6) sc_lead.nd rfl (aJ rfl)) gg
   case' c7=>refine' fo ?c11 ?c12
   case' c11=>refine' g0 (pvF 2) ?c13
   case' c13=>refine' mL (n:=2) rfl ?c14
   case' c14=>refine' fA (fC (i:=7) sc_lead.nd rfl (aJ rfl)) ?c15
   case' c15=>exact fA (fC (i:=8) sc_lead.nd rfl (aJ rfl)) gg
   case' c12=>refine' fo ?c16 ?c17
   case' c16=>refine' fJ (i:=9) ?c18 ?c19 ?c20 ?c21
   case c18=>exact sc_lead.nd
   case c19=>exact rfl
   case c20=>exact(aJ rfl)
   case' c21=>refine' fv (OpR.f fF) fj ?c22
   case' c22=>refine' fv (OpR.f0 fV) ?c23 ?c24
   case' c23=>exact fv (OpR.f fF) (fv (OpR.f0 gk) (pvF 4) (pvF 6)) (fv (OpR.f0 gk) (pvF 3) (pvF 7))
   case' c24=>exact fv (OpR.f fF) (fv (OpR.f0 gk) (pvF 5) (pvF 3)) (fv (OpR.f0 gk) (pvF 4) (pvF 8))
   case' c17=>refine' fo ?c25 ?c26
   case' c25=>refine' fJ (i:=10) ?c27 ?c28 ?c29 ?c30
   case c27=>exact sc_lead.nd
   case c28=>exact rfl
   case c29=>exact(aJ rfl)
   case' c30=>refine' fv ?c31 ?c32 ?c33
   case c31=>exact(OpR.f0 gk)
   case' c32=>refine' fv ?c34 ?c35 ?c36
   case c34=>exact(OpR.f0 gk)
   case' c35=>refine' fv ?c37 ?c38 ?c39
   case c37=>exact(OpR.f0 fV)
   case' c38=>refine' fv (OpR.f0 fV) ?c40 (fv (OpR.f fF) (pvF 7) (pvF 7))
   case' c40=>refine' fv (OpR.f0 fV) ?c41 ?c42
   case' c41=>exact fv (OpR.f fF) (fv (OpR.f0 fV) (pvF 3) (pvF 5)) (fv (OpR.f0 gk) (pvF 3) (pvF 7))
   case' c42=>exact fv (OpR.f fF) (fv (OpR.f0 fV) (pvF 4) (pvF 6)) (fv (OpR.f0 gk) (pvF 4) (pvF 8))
   case c39=>exact(fv (OpR.f fF) (pvF 8) (pvF 8))
   case c36=>exact(fv (OpR.f fF) (pvF 3) (pvF 3))
   case c33=>exact(fv (OpR.f fF) (pvF 4) (pvF 4))
   case' c26=>refine' ft ?c43
   case' c43=>refine' fN ?c44
   case' c44=>refine' fT ?c45
   case' c45=>refine' fi (pvF 9) ?c46
   case' c46=>exact fi (pvF 10) fk
  case rest=>
   obtain⟨hp,hq,hr',⟨a1,a2⟩,⟨b1,b2⟩,⟨c1,c2⟩,h⟩:=h
   walk_at "ST"
   o_head ⟨jH,j5,pb,hp,hq,hr',rI⟩
   exact⟨(by walk_at "CM"),(by walk_at "CM"),.left (by decide) (by decide),(by walk_at "CM"),(by walk_at "CM"),(by walk_at "CM"),(by walk_at "CM"),(by walk_at "CM"),(by walk_at "CM"),by decide,h⟩
theorem sc_point_along:FnScope ["first","second","place","x","y","u","v","top","bottom"] ["first","second","place"] (fm s_point_along):=⟨rfl,rfl,rfl,by decide+kernel,rfl,by decide+kernel,by decide+kernel⟩
theorem ok_point_along{C:Cz}{f:Addr}{fd:FuncData}(F:Fun K "point_along" "point_along" s_point_along f fd)(T:Txt K mg C)(F_point_of:FnB P w K mg base (CXE P w) 2 "point_of" ["x","y","w"] gA):FnOk P w K mg base (CXE P w) 3 f fd ["first","second","place"] gZ:=by
 refine okN F (k:=2) sc_point_along (fun vs H Q E h=> ?_) (fun cdv A outer s H vs Q E hr h=> ?_)
 ·obtain⟨p,q,w',A,B,o,rfl,_⟩:=h
  rfl
 ·obtain⟨p,q,w',A,B,o,rfl,h⟩:=h
  refine'⟨_,?main,?rest⟩
  case main=>
   refine' fo ?c1 ?c2
   case' c1=>refine' gi ?c3 ?c4 fH
   case' c3=>exact iA (lV (pvF 2))
   case' c4=>refine' ft ?c5
   case' c5=>exact fN jz
   case' c2=>refine' fo ?c6 ?c7
   case' c6=>refine' g0 (pvF 0) ?c8
   case' c8=>refine' mL (n:=2) rfl ?c9
   case' c9=>refine' fA (fC (i:=3) sc_point_along.nd rfl (aJ rfl)) ?c10
   case' c10=>exact fA (fC (i:=4) sc_point_along.nd rfl (aJ rfl)) gg
   case' c7=>refine' fo ?c11 ?c12
   case' c11=>refine' g0 (pvF 1) ?c13
   case' c13=>refine' mL (n:=2) rfl ?c14
   case' c14=>refine' fA (fC (i:=5) sc_point_along.nd rfl (aJ rfl)) ?c15
   case' c15=>exact fA (fC (i:=6) sc_point_along.nd rfl (aJ rfl)) gg
   case' c12=>refine' fo ?c16 ?c17
   case' c16=>refine' g0 (pvF 2) ?c18
   case' c18=>refine' mL (n:=2) rfl ?c19
   case' c19=>refine' fA (fC (i:=7) sc_point_along.nd rfl (aJ rfl)) ?c20
   case' c20=>exact fA (fC (i:=8) sc_point_along.nd rfl (aJ rfl)) gg
   case' c17=>refine' ft ?c21
   case' c21=>refine' fN ?c22
   case' c22=>refine' fQ ?c23 ?c24 ?c25 ?c26 ?c27
   case c23=>exact F_point_of
   case c24=>exact(hr.mono (by decide))
   case c25=>exact rfl
   case c26=>exact fE
   case' c27=>refine' fi ?c28 ?c29
   case' c28=>refine' fv (OpR.f0 fV) ?c30 ?c31
   case' c30=>exact fv (OpR.f fF) (fv (OpR.f0 fV) (pvF 3) (pvF 5)) (pvF 8)
   case' c31=>refine' fv (OpR.f fF) ?c32 (pvF 7)
   case' c32=>exact fv (OpR.f fF) fj (fv (OpR.f0 gk) (pvF 4) (pvF 6))
   case' c29=>refine' fi ?c33 ?c34
   case' c33=>refine' fv (OpR.f0 fV) ?c35 ?c36
   case' c35=>exact fv (OpR.f fF) (fv (OpR.f0 fV) (pvF 4) (pvF 6)) (pvF 8)
   case' c36=>refine' fv (OpR.f fF) ?c37 (pvF 7)
   case' c37=>exact fv (OpR.f fF) fj (fv (OpR.f0 gk) (pvF 5) (pvF 3))
   case' c34=>refine' fi ?c38 fk
   case' c38=>exact fv (OpR.f fF) fj (pvF 8)
  case rest=>
   obtain⟨hp,hq,⟨a1,a2⟩,⟨b1,b2⟩,hw,h⟩:=h
   walk_at "ST"
   cases o with
   |none=>
    obtain rfl:w'= .non:=hw
    walk_at "RD"
    exact h .non H (.refl _) rfl
   |some z=>
    obtain⟨t,rfl,et,z0,bz1,bz2⟩:=hw
    o_head ⟨jH,j5,pb,hp,hq,et,gA⟩
    have two:Bd 2 2:=Bd.of_le 2 (by decide) (by decide) (by decide)
    refine⟨(by walk_at "CM"),.left (by decide) (by decide),.of (two.mul (a2.sub b2)) bz1 (by decide) (by decide),(by walk_at "CM"),.left (by decide) (by decide),.of (two.mul (b1.sub a1)) bz1 (by decide) (by decide),.left (by decide) (by decide),by omega,(two.mul bz2).mono (by decide),fun t' a b c ht' hP=> ?_⟩;exact h (.ref t') _ (.upd ht') ⟨t',a,b,c,rfl,fq,hP⟩
theorem sc_reach_within:FnScope ["spots","one","other","first","second","start","end","third","slope","rise","place"] ["spots","one","other"] (fm s_reach_within):=⟨rfl,rfl,rfl,by decide+kernel,rfl,by decide+kernel,by decide+kernel⟩
theorem ok_reach_within{C:Cz}{f:Addr}{fd:FuncData}(F:Fun K "reach_within" "reach_within" s_reach_within f fd)(T:Txt K mg C)(F_point_along:FnB P w K mg base (CXE P w) 3 "point_along" ["first","second","place"] gZ)(F_less:FnB P w K mg base (CXE P w) 1 "less" ["one","other"] jS)(F_fraction_of:FnB P w K mg base (CXE P w) 2 "fraction_of" ["top","bottom"] gd)(F_lead:FnB P w K mg base (CXE P w) 1 "lead" ["first","second","third"] jT):FnOk P w K mg base (CXE P w) 4 f fd ["spots","one","other"] (lI K):=by
 refine okN F (k:=3) sc_reach_within (fun vs H Q E h=> ?_) (fun cdv A outer s H vs Q E hr h=> ?_)
 ·obtain⟨l,i,j,qs,rs,A,B,rfl,_⟩:=h
  rfl
 ·obtain⟨l,i,j,qs,rs,A,B,rfl,h⟩:=h
  refine'⟨_,?main,?rest⟩
  case main=>
   refine' fo ?c1 ?c2
   case' c1=>exact fJ (i:=3) sc_reach_within.nd rfl (aJ rfl) (gI jE (pvF 0) (pvF 1) (fun _ _=>rfl))
   case' c2=>refine' fo ?c3 ?c4
   case' c3=>exact fJ (i:=4) sc_reach_within.nd rfl (aJ rfl) (gI jE (pvF 0) (pvF 2) (fun _ _=>rfl))
   case' c4=>refine' fo ?c5 ?c6
   case' c5=>exact fJ (i:=5) sc_reach_within.nd rfl (aJ rfl) jz
   case' c6=>refine' fo ?c7 ?c8
   case' c7=>exact fJ (i:=6) sc_reach_within.nd rfl (aJ rfl) jz
   case' c8=>refine' fP ?c9 ?c10
   case' c9=>refine' gR ?c11 ?c12 ?c13 ?c14 ?c15
   case c11=>exact PassesOwn.never
   case c12=>exact rfl
   case c13=>exact(g4 (K:=K) rfl (pvF 0))
   case c14=>exact(fC (i:=7) sc_reach_within.nd rfl (aJ rfl))
   case' c15=>refine' fo ?c16 ?c17
   case' c16=>refine' g0 ?c18 ?c19
   case' c18=>refine' fQ F_lead (hr.mono (by decide)) rfl fE ?c20
   case' c20=>refine' fi (pvF 3) ?c21
   case' c21=>refine' fi (pvF 4) ?c22
   case' c22=>exact fi (pvF 7) fk
   case' c19=>refine' mL (n:=2) rfl ?c23
   case' c23=>refine' fA (fC (i:=8) sc_reach_within.nd rfl (aJ rfl)) ?c24
   case' c24=>exact fA (fC (i:=9) sc_reach_within.nd rfl (aJ rfl)) gg
   case' c17=>refine' fP ?c25 ?c26
   case' c25=>refine' gi ?c27 ?c28 ?c29
   case' c27=>exact fL gK (pvF 8) fj (fR _)
   case' c28=>refine' fo ?c30 (ft jW)
   case' c30=>refine' gi ?c31 ?c32 fH
   case' c31=>exact fL (OpR.f0 lX) (pvF 9) fj (fR _)
   case' c32=>refine' ft ?c33
   case' c33=>exact fN jz
   case c29=>exact fH
   case' c26=>refine' fP ?c34 ?c35
   case' c34=>refine' fJ (i:=10) sc_reach_within.nd rfl (aJ rfl) ?c36
   case' c36=>refine' fQ F_fraction_of (hr.mono (by decide)) rfl fE ?c37
   case' c37=>refine' fi (i8 (UnR.f gW) (pvF 9)) ?c38
   case' c38=>exact fi (pvF 8) fk
   case' c35=>refine' fP ?c39 ?c40
   case' c39=>refine' gi ?c41 ?c42 ?c43
   case' c41=>refine' PW.pt ?c44
   case' c44=>refine' kn ?c45 ?c46
   case' c45=>exact fL (OpR.f0 m9) (pvF 8) fj (fR _)
   case' c46=>refine' jV ?c47
   case' c47=>refine' PW.pt ?c48
   case' c48=>refine' kQ ?c49 ?c50
   case' c49=>exact iA (lV (pvF 5))
   case' c50=>refine' jw ?c51
   case' c51=>refine' iz ?c52
   case' c52=>refine' fQ F_less (hr.mono (by decide)) rfl fE ?c53
   case' c53=>refine' fi (pvF 5) ?c54
   case' c54=>exact fi (pvF 10) fk
   case' c42=>exact ft (fJ (i:=5) sc_reach_within.nd rfl (aJ rfl) (pvF 10))
   case c43=>exact fH
   case' c40=>refine' ft ?c55
   case' c55=>refine' gi ?c56 ?c57 ?c58
   case' c56=>refine' PW.pt ?c59
   case' c59=>refine' kn ?c60 ?c61
   case' c60=>exact fL (OpR.f0 lX) (pvF 8) fj (fR _)
   case' c61=>refine' jV ?c62
   case' c62=>refine' PW.pt ?c63
   case' c63=>refine' kQ ?c64 ?c65
   case' c64=>exact iA (lV (pvF 6))
   case' c65=>refine' jw ?c66
   case' c66=>refine' iz ?c67
   case' c67=>refine' fQ F_less (hr.mono (by decide)) rfl fE ?c68
   case' c68=>refine' fi (pvF 10) ?c69
   case' c69=>exact fi (pvF 6) fk
   case' c57=>exact ft (fJ (i:=6) sc_reach_within.nd rfl (aJ rfl) (pvF 10))
   case c58=>exact fH
   case' c10=>refine' fP ?c70 ?c71
   case' c70=>refine' gi ?c72 ?c73 ?c74
   case' c72=>refine' PW.pt ?c75
   case' c75=>refine' kn ?c76 ?c77
   case' c76=>exact iA (i9 (pvF 5))
   case' c77=>refine' kn ?c78 ?c79
   case' c78=>exact iA (i9 (pvF 6))
   case' c79=>refine' jV ?c80
   case' c80=>refine' lO ?c81
   case' c81=>refine' iz ?c82
   case' c82=>refine' fQ F_less (hr.mono (by decide)) rfl fE ?c83
   case' c83=>refine' fi (pvF 5) ?c84
   case' c84=>exact fi (pvF 6) fk
   case' c73=>refine' ft ?c85
   case' c85=>exact fN jz
   case c74=>exact fH
   case' c71=>refine' ft ?c86
   case' c86=>refine' fN ?c87
   case' c87=>refine' fT ?c88
   case' c88=>refine' fi ?c89 ?c90
   case' c89=>refine' fQ F_point_along (hr.mono (by decide)) rfl fE ?c91
   case' c91=>refine' fi (pvF 3) ?c92
   case' c92=>refine' fi (pvF 4) ?c93
   case' c93=>exact fi (pvF 5) fk
   case' c90=>refine' fi ?c94 fk
   case' c94=>refine' fQ F_point_along (hr.mono (by decide)) rfl fE ?c95
   case' c95=>refine' fi (pvF 3) ?c96
   case' c96=>refine' fi (pvF 4) ?c97
   case' c97=>exact fi (pvF 6) fk
  case rest=>
   obtain⟨ok,hi,hj,hU,hT⟩:=h
   obtain⟨qa,hqa,ea,aa,ba1,ba2⟩:=ok.get hi
   obtain⟨qb,hqb,eb,ab',bb1,bb2⟩:=ok.get hj
   have n12:=ok.n12
   have lq:(qs.map V.ref).length=rs.length:=by rw[ag,ok.at_.1]
   walk_at "ST"
   o_head ⟨ok.sp,aa,ab',rI⟩
   refine⟨fun σ H'=>∃(va vb:V) (s e:Option (Int×Int)) (o7 o8 o9 o10:Option V),σ=[some (.ref l),some (.int (i:Int)),some (.int (j:Int)),some (.ref qa),some (.ref qb),some va,some vb,o7,o8,o9,o10] /\ FrV H' va s /\ FrV H' vb e /\ LoOk A B rs s /\ HiOk A B rs e /\ (∀D∈rs,slp A B D=0 ->0<=ris A B D) /\ Ext H H',?_,?_⟩
   ·refine lz (K:=K) (a:=l) (xs:=qs.map V.ref) (fun R h=>by walk_at "RD";exact h) (fun k σ H'=>∃(va vb:V) (s e:Option (Int×Int)) (o7 o8 o9 o10:Option V),σ=[some (.ref l),some (.int (i:Int)),some (.int (j:Int)),some (.ref qa),some (.ref qb),some va,some vb,o7,o8,o9,o10] /\ FrV H' va s /\ FrV H' vb e /\ LoOk A B (rs.take k) s /\ HiOk A B (rs.take k) e /\ (∀D∈rs.take k,slp A B D=0 ->0<=ris A B D) /\ Ext H H') ⟨.non,.non,none,none,_,_,_,_,rfl,rfl,rfl,fun D hD=>absurd hD (by simp),fun D hD=>absurd hD (by simp),fun D hD=>absurd hD (by simp),.refl _⟩ ?_ ?_ ?_
    ·rintro k σ H1 _ ⟨va,vb,s,e,o7,o8,o9,o10,rfl,_,_,_,_,_,x1⟩;exact SqL.of (x1 _ _ ok.sp)
    ·rintro k w1 σ H1 hk ⟨va,vb,s,e,o7,o8,o9,o10,rfl,fa,fb,lo,hi',fl,x1⟩;obtain⟨q,hq,rfl⟩:=gN hk
     obtain⟨D,hD1,hD2⟩:=ok.at_.at hq
     have mD:=aK hD1
     have bD:=ok.sz D mD
     have tk:rs.take (k+1)=rs.take k++[D]:=by rw[dI,hD1];rfl
     rw[tk];have bs:=p9 (A:=A) (B:=B) (D:=D) ⟨ba1,ba2⟩ ⟨bb1,bb2⟩ bD
     walk_at "RD"
     refine⟨qa,qb,q,A,B,D,rfl,x1 _ _ ea,x1 _ _ eb,x1 _ _ hD2,⟨ba1,ba2⟩,⟨bb1,bb2⟩,bD,fun t ht=> ?_⟩;have x2:=x1.then (o:= .tup [.int (slp A B D),.int (ris A B D)]) ht
     have fa2:=fa.ext (Ext.upd (o:= .tup [.int (slp A B D),.int (ris A B D)]) ht)
     have fb2:=fb.ext (Ext.upd (o:= .tup [.int (slp A B D),.int (ris A B D)]) ht)
     have et:=fq (H:=H1) (a:=t) (o:= .tup [.int (slp A B D),.int (ris A B D)])
     generalize upd H1 t (.tup [.int (slp A B D),.int (ris A B D)])=H2 at x2 fa2 fb2 et⊢
     o_head ⟨jH,j5,pb,et⟩
     refine⟨fun σ H'=>σ=[some (.ref l),some (.int (i:Int)),some (.int (j:Int)),some (.ref qa),some (.ref qb),some va,some vb,some (.ref q),some (.int (slp A B D)),some (.int (ris A B D)),o10] /\ H'=H2 /\ slp A B D≠0,?_,?_⟩
     ·walk_at "RD"
      by_cases c:slp A B D=0
      ·rw[if_pos c]
       by_cases c2:ris A B D<0
       ·rw[if_pos c2];exact hU (.inl ⟨D,mD,c,c2⟩) H2 x2
       ·rw[if_neg c2];exact⟨⟨_,rfl⟩,s,fa2,e,fb2,lo.keep (by omega),hi'.keep (by omega),fun y hy q=>(gh hy).elim (fun g=>fl y g q) fun e=>by rw[e];omega,x2⟩
      ·rw[if_neg c];exact c
     ·rintro σ H3 ⟨rfl,rfl,c⟩;refine⟨fun σ H'=>∃(t2:Addr) (a b:Int),σ=[some (.ref l),some (.int (i:Int)),some (.int (j:Int)),some (.ref qa),some (.ref qb),some va,some vb,some (.ref q),some (.int (slp A B D)),some (.int (ris A B D)),some (.ref t2)] /\ H' t2=some (.tup [.int a,.int b]) /\ IsFr (-(ris A B D)) (slp A B D) a b /\ Ext H3 H',?_,?_⟩
      ·o_head ⟨gd⟩
       refine⟨c,bs.1.mono (by decide),fun t2 a b ht2 hf=>⟨a,b,rfl,hf,.upd ht2⟩⟩
      ·rintro σ H4 ⟨t2,a,b,rfl,et2,hf,x4⟩;have fa4:=fa2.ext x4
       have fb4:=fb2.ext x4
       have x24:=x2.trans x4
       have ba:Bd 1700 a:=bp hf.la (by rw[Int.natAbs_neg];exact bs.2)
       have bb:Bd 1700 b:=bp hf.lc bs.1
       have fz:FrV H4 (.ref t2) (some (a,b)):=⟨t2,rfl,et2,hf.pos,ba,bb⟩
       have fl':∀y∈rs.take k++[D],slp A B y=0 ->0<=ris A B y:=fun y hy q=>(gh hy).elim (fun g=>fl y g q) fun e=>absurd (e▸q) c
       refine⟨fun σ H'=>∃(va':V) (s':Option (Int×Int)),σ=[some (.ref l),some (.int (i:Int)),some (.int (j:Int)),some (.ref qa),some (.ref qb),some va',some vb,some (.ref q),some (.int (slp A B D)),some (.int (ris A B D)),some (.ref t2)] /\ FrV H' va' s' /\ LoOk A B (rs.take k++[D]) s' /\ H'=H4,?_,?_⟩
       ·walk_at "RD"
        by_cases c1:0<slp A B D
        ·rw[if_pos c1];cases s with
         |none=>
          obtain rfl:va= .non:=fa4
          walk_at "RD"
          exact⟨some (a,b),fz,lo.new c1 hf (fun z e=>by cases e)⟩
         |some z=>
          obtain⟨t3,rfl,et3,z0,bz1,bz2⟩:=fa4
          walk_at "RD"
          refine⟨t3,t2,z.1,z.2,a,b,rfl,et3,et2,⟨bz1.mono (by decide),bz2.mono (by decide),ba.mono (by decide),bb.mono (by decide)⟩,?_⟩
          by_cases c2:z.1*b<a*z.2
          ·o_head ⟨c2⟩
           exact⟨some (a,b),fz,lo.new c1 hf (fun z' e=>by cases e;exact c2)⟩
          ·o_head ⟨c2⟩
           exact⟨some z,⟨t3,rfl,et3,z0,bz1,bz2⟩,lo.old c1 hf c2⟩
        ·rw[if_neg c1];exact⟨s,fa4,lo.keep c1⟩
       ·rintro σ H5 ⟨va',s',rfl,fs',los',rfl⟩;walk_at "RD"
        by_cases c1:slp A B D<0
        ·rw[if_pos c1];cases e with
         |none=>
          obtain rfl:vb= .non:=fb4
          rw[if_pos rfl];exact⟨⟨_,rfl⟩,s',fs',some (a,b),fz,los',hi'.new c1 hf (fun z e=>by cases e),fl',x24⟩
         |some z=>
          obtain⟨t3,rfl,et3,z0,bz1,bz2⟩:=fb4
          rw[if_neg (by intro z;cases z)];refine⟨t2,t3,a,b,z.1,z.2,rfl,et2,et3,⟨ba.mono (by decide),bb.mono (by decide),bz1.mono (by decide),bz2.mono (by decide)⟩,?_⟩
          by_cases c2:a*z.2<z.1*b
          ·o_head ⟨c2⟩
           exact⟨⟨_,rfl⟩,s',fs',some (a,b),fz,los',hi'.new c1 hf (fun z' e=>by cases e;exact c2),fl',x24⟩
          ·o_head ⟨c2⟩
           exact⟨⟨_,rfl⟩,s',fs',some z,⟨t3,rfl,et3,z0,bz1,bz2⟩,los',hi'.old c1 hf c2,fl',x24⟩
        ·rw[if_neg c1];exact⟨⟨_,rfl⟩,s',fs',e,fb4,los',hi'.keep c1,fl',x24⟩
    ·rintro σ H1 ⟨va,vb,s,e,o7,o8,o9,o10,rfl,fa,fb,lo,hi',fl,x1⟩;rw[lq,b8] at lo hi' fl;exact⟨va,vb,s,e,o7,o8,o9,o10,rfl,fa,fb,lo,hi',fl,x1⟩
   ·rintro σ H1 ⟨va,vb,s,e,o7,o8,o9,o10,rfl,fa,fb,lo,hi',fl,x1⟩;refine⟨fun σ H'=>σ=[some (.ref l),some (.int (i:Int)),some (.int (j:Int)),some (.ref qa),some (.ref qb),some va,some vb,o7,o8,o9,o10] /\ H'=H1 /\ ∀s' e',s=some s' ->e=some e' ->s'.1*e'.2<e'.1*s'.2,?_,?_⟩
    ·walk_at "RD"
     cases s with
     |none=>
      obtain rfl:va= .non:=fa
      walk_at "RD"
      intro s' e' z;cases z
     |some z=>
      obtain⟨t3,rfl,et3,z0,bz1,bz2⟩:=fa
      cases e with
      |none=>
       obtain rfl:vb= .non:=fb
       walk_at "RD"
       intro s' e' _ q;cases q
      |some y=>
       obtain⟨t4,rfl,et4,y0,by1,by2⟩:=fb
       walk_at "RD"
       refine⟨t3,t4,z.1,z.2,y.1,y.2,rfl,et3,et4,⟨bz1.mono (by decide),bz2.mono (by decide),by1.mono (by decide),by2.mono (by decide)⟩,?_⟩
       by_cases c:z.1*y.2<y.1*z.2
       ·o_head ⟨c⟩
        intro s' e' q1 q2;cases q1;cases q2;exact c
       ·o_head ⟨c⟩
        exact hU (.inr ⟨z,y,lo,hi',by omega⟩) H1 x1
    ·rintro σ H2 ⟨rfl,rfl,hlt⟩
     o_head ⟨gZ⟩
     refine⟨A,x1 _ _ ea,B,x1 _ _ eb,ba1,ba2,bb1,bb2,s,fa,fun v H3 x3 pv=> ?_⟩;have x13:=x1.trans x3
     refine⟨A,x13 _ _ ea,B,x13 _ _ eb,ba1,ba2,bb1,bb2,e,fb.ext x3,fun w' H4 x4 pw=>⟨by decide,fun t ht=> ?_⟩⟩;exact hT t v w' s e _ ((x13.trans x4).then ht) fq ((pv.ext x4).ext (.upd ht)) (pw.ext (.upd ht)) ⟨lo,hi',fl,hlt⟩
theorem mX:FnScope ["spots","one","other"] ["spots","one","other"] (fm s_reach):=⟨rfl,rfl,rfl,by decide+kernel,rfl,by decide+kernel,by decide+kernel⟩
theorem ok_reach{C:Cz}{f:Addr}{fd:FuncData}(F:Fun K "reach" "reach" s_reach f fd)(T:Txt K mg C)(F_reach_within:FnB P w K mg base (CXE P w) 4 "reach_within" ["spots","one","other"] (lI K))(F_check_number:FnB P w K mg base (CXE P w) 1 "check_number" ["spots","number"] fY)(F_check_spots:FnB P w K mg base (CXE P w) 2 "check_spots" ["spots"] (kP K)):FnOk P w K mg base (CXE P w) 5 f fd ["spots","one","other"] (io K):=by
 refine okN F (k:=4) mX (fun vs H Q E h=> ?_) (fun cdv A outer s H vs Q E hr h=> ?_)
 ·obtain⟨l,i,j,qs,rs,A,B,rfl,_⟩:=h
  rfl
 ·obtain⟨l,i,j,qs,rs,A,B,rfl,h⟩:=h
  refine'⟨_,?main,?rest⟩
  case main=>
   refine' fo ?c1 ?c2
   case' c1=>refine' gB ?c3
   case' c3=>refine' fQ F_check_spots (hr.mono (by decide)) rfl fE ?c4
   case' c4=>exact fi (pvF 0) fk
   case' c2=>refine' fo ?c5 ?c6
   case' c5=>refine' gB ?c7
   case' c7=>refine' fQ F_check_number (hr.mono (by decide)) rfl fE ?c8
   case' c8=>refine' fi (pvF 0) ?c9
   case' c9=>exact fi (pvF 1) fk
   case' c6=>refine' fo ?c10 ?c11
   case' c10=>refine' gB ?c12
   case' c12=>refine' fQ F_check_number (hr.mono (by decide)) rfl fE ?c13
   case' c13=>refine' fi (pvF 0) ?c14
   case' c14=>exact fi (pvF 2) fk
   case' c11=>refine' fo ?c15 ?c16
   case' c15=>refine' gi (fL gK (pvF 1) (pvF 2) (fR _)) ?c17 fH
   case' c17=>exact ft gO
   case' c16=>refine' ft ?c18
   case' c18=>refine' fN ?c19
   case' c19=>refine' fQ F_reach_within (hr.mono (by decide)) rfl fE ?c20
   case' c20=>refine' fi (pvF 0) ?c21
   case' c21=>refine' fi (pvF 1) ?c22
   case' c22=>exact fi (pvF 2) fk
  case rest=>
   obtain⟨ok,hi,hj,hij,hU,hT⟩:=h
   have li:=(ah.mp hi).1
   have lj:=(ah.mp hj).1
   have lq:(qs.map V.ref).length=rs.length:=by rw[ag,ok.at_.1]
   walk_at "ST"
   o_head ⟨kP,fY,rI,rI⟩
   refine⟨⟨qs,rs,ok⟩,fun H1 x1=> ?_⟩;have ok1:=ok.ext x1
   refine⟨i,rfl,_,ok1.sp,by omega,j,rfl,_,ok1.sp,by omega,?_⟩;rw[if_neg (by omega)];exact⟨l,i,j,qs,rs,A,B,rfl,ok1,hi,hj,fun q H' x=>hU q H' (x1.trans x),fun t v w s e H' x=>hT t v w s e H' (x1.trans x)⟩
theorem sc_reaches:FnScope ["spots","told","one","other","ends"] ["spots"] (fm s_reaches):=⟨rfl,rfl,rfl,by decide+kernel,rfl,by decide+kernel,by decide+kernel⟩
theorem ok_reaches{C:Cz}{f:Addr}{fd:FuncData}(F:Fun K "reaches" "reaches" s_reaches f fd)(T:Txt K mg C)(F_reach_within:FnB P w K mg base (CXE P w) 4 "reach_within" ["spots","one","other"] (lI K)):FnOk P w K mg base (CXE P w) 5 f fd ["spots"] (gM K):=by
 refine okN F (k:=4) sc_reaches (fun vs H Q E h=> ?_) (fun cdv A outer s H vs Q E hr h=> ?_)
 ·obtain⟨l,qs,rs,rfl,_⟩:=h
  rfl
 ·obtain⟨l,qs,rs,rfl,h⟩:=h
  refine'⟨_,?main,?rest⟩
  case main=>
   refine' fo ?c1 ?c2
   case' c1=>refine' fJ (i:=1) sc_reaches.nd rfl (aJ rfl) ?c3
   case' c3=>exact jA fk
   case' c2=>refine' fP ?c4 ?c5
   case' c4=>refine' gR ?c6 ?c7 ?c8 ?c9 ?c10
   case c6=>exact PassesOwn.never
   case c7=>exact rfl
   case' c8=>refine' gy rfl T.b_range ?c11
   case' c11=>refine' fi ?c12 fk
   case' c12=>refine' fK fW (by rfl) T.b_len aY ?c13
   case' c13=>exact fi (pvF 0) fk
   case c9=>exact(fC (i:=2) sc_reaches.nd rfl (aJ rfl))
   case' c10=>refine' ft ?c14
   case' c14=>refine' gR ?c15 ?c16 ?c17 ?c18 ?c19
   case c15=>exact PassesOwn.never
   case c16=>exact rfl
   case' c17=>refine' jy rfl T.b_range ?c20
   case' c20=>refine' fi ?c21 ?c22
   case' c21=>exact fv (OpR.f0 fV) (pvF 2) fj
   case' c22=>refine' fi ?c23 fk
   case' c23=>refine' fK fW (by rfl) T.b_len aY ?c24
   case' c24=>exact fi (pvF 0) fk
   case c18=>exact(fC (i:=3) sc_reaches.nd rfl (aJ rfl))
   case' c19=>refine' fP ?c25 ?c26
   case' c25=>refine' fJ (i:=4) sc_reaches.nd rfl (aJ rfl) ?c27
   case' c27=>refine' fQ F_reach_within (hr.mono (by decide)) rfl fE ?c28
   case' c28=>refine' fi (pvF 0) ?c29
   case' c29=>refine' fi (pvF 2) ?c30
   case' c30=>exact fi (pvF 3) fk
   case' c26=>refine' ft ?c31
   case' c31=>refine' gi ?c32 ?c33 ?c34
   case' c32=>exact iA (i9 (pvF 4))
   case' c33=>refine' ft ?c35
   case' c35=>refine' gB ?c36
   case' c36=>refine' lU (pvF 1) ?c37
   case' c37=>refine' fi ?c38 fk
   case' c38=>refine' fT ?c39
   case' c39=>refine' fi (pvF 2) ?c40
   case' c40=>refine' fi (pvF 3) ?c41
   case' c41=>exact fi (pvF 4) fk
   case c34=>exact fH
   case' c5=>exact ft (fN (pvF 1))
  case rest=>
   obtain⟨ok,h⟩:=h
   have lq:(qs.map V.ref).length=rs.length:=by rw[ag,ok.at_.1]
   have n12:=ok.n12
   walk_at "ST"
   walk_at "RD"
   refine⟨by decide,fun D hD=> ?_⟩;refine⟨fun σ H'=>∃(ts:List Addr) (ps:List (Nat×Nat)) (o2 o3 o4:Option V),σ=[some (.ref l),some (.ref D),o2,o3,o4] /\ Ext H H' /\ H' D=some (.lst (ts.map V.ref)) /\ RcAt H' ts ps /\ TsOk rs rs.length 0 ps,?_,?_⟩
   ·refine gx rs.length (fun R hR=>by o_head ⟨fw hD ok.sp,lq,rI,rI⟩;exact hR) (by omega) (fun i σ H'=>∃(ts:List Addr) (ps:List (Nat×Nat)) (o2 o3 o4:Option V),σ=[some (.ref l),some (.ref D),o2,o3,o4] /\ Ext H H' /\ H' D=some (.lst (ts.map V.ref)) /\ RcAt H' ts ps /\ TsOk rs i 0 ps) ⟨[],[],_,_,_,rfl,.upd hD,fq,⟨rfl,fun k t z a=>by simp at a⟩,⟨fun z hz=>absurd hz (by simp),by simp,fun a b A B ab q=>by omega,by simp,fun z hz=>absurd hz (by simp),cQ⟩⟩ ?_ ?_
    ·rintro i σ H1 hi ⟨ts,ps,o2,o3,o4,rfl,x1,e1,r1,t1⟩;obtain⟨A,hA⟩:∃r,rs[i]? =some r:=⟨_,aj hi⟩
     have t1':=t1.start (j:=i+1) (by omega)
     have nD:∀{z:Addr} {o:HO},H z=some o ->z≠D:=fun {z o} hz w=>by rw[w,hD] at hz;cases hz
     o_head ⟨Int.zero_add⟩
     refine ir ((i:Int)+1) (rs.length-(i+1)) (fun R hR=>by
      o_head ⟨x1 _ _ ok.sp,lq,rI,rI⟩
      have:((i:Int)+1+((rs.length-(i+1):Nat):Int))=(rs.length:Int):=by omega
      rw[this] at hR;exact hR) (by omega) (by omega) (fun k σ H'=>∃(ts:List Addr) (ps:List (Nat×Nat)) (o3 o4:Option V),σ=[some (.ref l),some (.ref D),some (.int (i:Int)),o3,o4] /\ Ext H H' /\ H' D=some (.lst (ts.map V.ref)) /\ RcAt H' ts ps /\ TsOk rs i (i+1+k) ps) ⟨ts,ps,_,_,rfl,x1,e1,r1,t1'⟩ ?_ ?_
     ·rintro k σ H2 hk ⟨ts,ps,o3,o4,rfl,x2,e2,r2,t2⟩;obtain⟨j,hj⟩:∃j,j=i+1+k:=⟨_,rfl⟩
      have ej:(i:Int)+1+(k:Int)=(j:Int):=by omega
      have jl:j<rs.length:=by omega
      obtain⟨B,hB⟩:∃r,rs[j]? =some r:=⟨_,aj jl⟩
      rw[<-hj] at t2;rw[ej];have sk:=t2.skip hA hB
      have pt:=t2.put (by omega) jl hA hB
      have ek:i+1+(k+1)=j+1:=by omega
      rw[ek];walk_at "RD"
      refine⟨fun σ H'=>∃w:V,σ=[some (.ref l),some (.ref D),some (.int (i:Int)),some (.int (j:Int)),some w] /\ Ext H2 H' /\ RwV A B rs w,?_,?_⟩
      ·o_head ⟨lI⟩
       exact⟨i,rfl,j,rfl,qs,rs,ok.ext x2,A,hA,B,hB,fun u H3 x3=>⟨x3,.inl ⟨rfl,u.not⟩⟩,fun t v w s e H3 x3 _ _ _ td=>⟨x3,.inr ⟨t,rfl,td.tt⟩⟩⟩
      ·rintro σ H3 ⟨w,rfl,x3,hw⟩;rcases hw with⟨rfl,u⟩|⟨t,rfl,td⟩
       ·walk_at "RD"
        exact⟨⟨_,rfl⟩,x2.trans x3,ts,x3 _ _ e2,ps,r2.ext x3,sk u⟩
       ·o_head ⟨x3 _ _ e2⟩
        refine⟨by decide,fun p hp=> ?_⟩;have e4:=fw (o:= .tup [.int (i:Int),.int (j:Int),.ref t]) hp (x3 _ _ e2)
        have r4:=(r2.ext x3).ext (Ext.upd (o:= .tup [.int (i:Int),.int (j:Int),.ref t]) hp)
        have x4:=(x2.trans x3).then (o:= .tup [.int (i:Int),.int (j:Int),.ref t]) hp
        have et:=fq (H:=H3) (a:=p) (o:= .tup [.int (i:Int),.int (j:Int),.ref t])
        generalize upd H3 p _=H4 at e4 r4 x4 et⊢;rw[e4,gL,fO];have ln:=t2.len
        have lr:=r2.1
        refine⟨by rw[ag];omega,⟨_,rfl⟩,x4.set hD,ts++[p],by rw[aM];rfl,ps++[(i,j)],?_,pt td⟩;exact(r4.snoc et).setL e4
     ·rintro σ H2 ⟨ts,ps,o3,o4,rfl,x2,e2,r2,t2⟩;have:i+1+(rs.length-(i+1))=rs.length:=by omega
      rw[this] at t2;exact⟨⟨_,_,_,rfl⟩,x2,ts,e2,ps,r2,t2.next n12⟩
    ·rintro σ H1 ⟨ts,ps,o2,o3,o4,rfl,x1,e1,r1,t1⟩;exact⟨ts,ps,_,_,_,rfl,x1,e1,r1,t1⟩
   ·rintro σ H1 ⟨ts,ps,o2,o3,o4,rfl,x1,e1,r1,t1⟩;walk_at "RD"
    exact h D ts ps H1 x1 hD e1 r1 t1
theorem ot:FnScope ["spots"] ["spots"] (fm s_ties):=⟨rfl,rfl,rfl,by decide+kernel,rfl,by decide+kernel,by decide+kernel⟩
theorem ok_ties{C:Cz}{f:Addr}{fd:FuncData}(F:Fun K "ties" "ties" s_ties f fd)(T:Txt K mg C)(F_reaches:FnB P w K mg base (CXE P w) 5 "reaches" ["spots"] (gM K))(F_check_spots:FnB P w K mg base (CXE P w) 2 "check_spots" ["spots"] (kP K)):FnOk P w K mg base (CXE P w) 6 f fd ["spots"] (iw K):=by
 refine okN F (k:=5) ot (fun vs H Q E h=> ?_) (fun cdv A outer s H vs Q E hr h=> ?_)
 ·obtain⟨l,qs,rs,rfl,_⟩:=h
  rfl
 ·obtain⟨l,qs,rs,rfl,h⟩:=h
  refine'⟨_,?main,?rest⟩
  case main=>
   refine' fP ?c1 ?c2
   case' c1=>refine' gB ?c3
   case' c3=>refine' fQ F_check_spots (hr.mono (by decide)) rfl fE ?c4
   case' c4=>exact fi (pvF 0) fk
   case' c2=>refine' ft ?c5
   case' c5=>refine' fN ?c6
   case' c6=>refine' m5 (CScope.of_ok (dsc:=fm s_ties) (N0:=["spots"]) (N:=["one","other","ends"]) (k:=3) (js:=[]) rfl rfl (by decide+kernel)) rfl ?c7 ?c8 ?c9 ?c10
   case' c7=>refine' g4 (K:=K) rfl ?c11
   case' c11=>refine' PE.up ?c12
   case' c12=>refine' fQ F_reaches (hr.mono (by decide)) rfl fE ?c13
   case' c13=>exact fi (pvF 0) fk
   case' c8=>intro _ _ _ _ _ _;refine' mL (n:=3) rfl ?c14
   case' c14=>refine' fA (fC (i:=0) (by show cG (["one","other","ends"]:List Str);decide+kernel) rfl (aJ rfl)) ?c15
   case' c15=>refine' fA (fC (i:=1) (by show cG (["one","other","ends"]:List Str);decide+kernel) rfl (aJ rfl)) ?c16
   case' c16=>exact fA (fC (i:=2) (by show cG (["one","other","ends"]:List Str);decide+kernel) rfl (aJ rfl)) gg
   case' c9=>intro _ _ _ _ _ _;exact ip
   case' c10=>intro _ _ _ _ _ _;refine' fT ?c17
   case' c17=>refine' fi (pvF 0) ?c18
   case' c18=>exact fi (pvF 1) fk
  case rest=>
   obtain⟨ok,h⟩:=h
   have n12:=ok.n12
   walk_at "ST"
   refine⟨fun σ H'=>σ=[some (.ref l)] /\ Ext H H',?_,?_⟩
   ·o_head ⟨kP⟩
    exact⟨⟨qs,rs,ok⟩,fun H1 x1=>x1⟩
   ·rintro σ H1 ⟨rfl,x1⟩;walk_at "RD"
    refine jR (fun w H'=>∃(T:Addr) (ts:List Addr) (ps:List (Nat×Nat)),w= .ref T /\ Ext H1 H' /\ H' T=some (.lst (ts.map V.ref)) /\ RcAt H' ts ps /\ TsOk rs rs.length 0 ps) ?_ ?_
    ·o_head ⟨gM⟩
     exact⟨qs,rs,ok.ext x1,fun T ts ps H2 x2 _ eT rc tk=>⟨x2,ts,eT,ps,rc,tk⟩⟩
    ·rintro w1 H2 ⟨T,ts,ps,rfl,x2,eT,rc,tk⟩;have ln:=tk.len
     have lr:=rc.1
     refine⟨T,ts.map V.ref,rfl,SqL.of eT,by rw[ag];omega,fun D i ys H'=>∃us:List Addr,ys=us.map V.ref /\ R2At H' us ((ps.take i).map cI) /\ H' D=some (.lst ys) /\ Ext H2 H',?_,?_,?_,?_⟩
     ·intro D hD;exact⟨[],rfl,⟨rfl,fun i q z a=>by simp at a⟩,fq,.upd hD⟩
     ·rintro D i ys H3 _ ⟨us,rfl,r3,e3,x3⟩;refine⟨e3,?_,SqL.of (x3 _ _ eT)⟩;rw[ag,r3.1,ag,aZ];omega
     ·rintro D i w1 ys H3 hD hi ⟨us,rfl,r3,e3,x3⟩;obtain⟨t,ht,rfl⟩:=gN hi
      obtain⟨z,hz⟩:∃z,ps[i]? =some z:=⟨_,aj (by rw[<-lr];exact(ah.mp ht).1)⟩
      obtain⟨w,hw⟩:=rc.2 i t z ht hz
      o_head ⟨jH,j5,pb,x3 _ _ hw⟩
      refine⟨by decide,fun p hp=>⟨fw hp e3,us++[p],by rw[aM];rfl,?_,(x3.then hp).set hD⟩⟩;rw[dI,hz,aM];exact R2At.setT ((r3.ext (Ext.upd hp)).snocT (z:=cI z) fq) (fw hp e3)
     ·rintro D ys H3 hD ⟨us,rfl,r3,e3,x3⟩;rw[ag,lr,b8] at r3;have x12:=x1.trans x2
      exact h D us ps H3 (x12.trans x3) (x12.none hD) e3 r3 tk
theorem sc__law_feed:FnScope ["_law_script","_law_k","_law_cell"] ["_law_script","_law_k"] (fm s__law_feed):=⟨rfl,rfl,rfl,by decide+kernel,rfl,by decide+kernel,by decide+kernel⟩
theorem ok__law_feed{C:Cz}{f:Addr}{fd:FuncData}(F:Fun K "_law_feed" "_law_feed" s__law_feed f fd)(T:Txt K mg C):FnOk P w K mg base (CXE P w) 1 f fd ["_law_script","_law_k"] (gT K):=by
 refine okN F (k:=0) sc__law_feed (fun vs H Q E h=> ?_) (fun cdv A outer s H vs Q E hr h=> ?_)
 ·obtain⟨a,ns,k,rfl,_⟩:=h
  rfl
 ·obtain⟨a,ns,k,rfl,h⟩:=h
  refine'⟨_,?main,?rest⟩
  case main=>
   refine' fo ?c1 ?c2
   case' c1=>exact fJ (i:=2) sc__law_feed.nd rfl (aJ rfl) fj
   case' c2=>refine' fo ?c3 ?c4
   case' c3=>refine' gi ?c5 ?c6 ?c7
   case' c5=>refine' fL (OpR.f0 m9) ?c8 fj (fR _)
   case' c8=>refine' fK (jK (K:=K) rfl) (by rfl) T.b_len aY ?c9
   case' c9=>exact fi (pvF 0) fk
   case' c6=>refine' ft ?c10
   case' c10=>refine' fJ (i:=2) sc__law_feed.nd rfl (aJ rfl) ?c11
   case' c11=>refine' gI (nu (K:=K) rfl) (pvF 0) ?c12 (fun _ _=>rfl)
   case' c12=>refine' fv (OpR.f gS) (pvF 1) ?c13
   case' c13=>refine' fK (jK (K:=K) rfl) (by rfl) T.b_len aY ?c14
   case' c14=>exact fi (pvF 0) fk
   case c7=>exact fH
   case' c4=>refine' ft ?c15
   case' c15=>refine' fN ?c16
   case' c16=>refine' jA ?c17
   case' c17=>refine' fi ?c18 ?c19
   case c18=>exact(pvF 2)
   case' c19=>refine' fi ?c20 ?c21
   case' c20=>exact fv (OpR.f gS) (pvF 2) fj
   case' c21=>refine' fi ?c22 fk
   case' c22=>refine' fv (OpR.f0 fV) ?c23 fj
   case' c23=>exact fv (OpR.f fF) fj (pvF 1)
  case rest=>
   obtain⟨hs,h⟩:=h
   walk_at "ST"
   walk_at "RD"
   refine⟨_,.inl hs,?_⟩;split
   ·rename_i z
    rw[ag] at z;obtain⟨x,hx,_⟩:=pz (xs:=ns) (k:=k) (by omega)
    refine⟨_,.inl hs,by rw[ag];omega,a,_,_,.int x,rfl,rfl,hs,by rw[ag];exact hx,by decide,.left (by decide) (by decide),by decide,fun p hp=>h p _ _ _ hp⟩
   ·exact⟨.left (by decide) (by decide),by decide,fun p hp=>h p _ _ _ hp⟩
theorem sc__law_next:FnScope ["_law_feed_here","_law_many","_law_digit","_law_number"] ["_law_feed_here","_law_many"] (fm s__law_next):=⟨rfl,rfl,rfl,by decide+kernel,rfl,by decide+kernel,by decide+kernel⟩
theorem ok__law_next{C:Cz}{f:Addr}{fd:FuncData}(F:Fun K "_law_next" "_law_next" s__law_next f fd)(T:Txt K mg C):FnOk P w K mg base (CXE P w) 1 f fd ["_law_feed_here","_law_many"] gq:=by
 refine okN F (k:=0) sc__law_next (fun vs H Q E h=> ?_) (fun cdv A outer s H vs Q E hr h=> ?_)
 ·obtain⟨p,m,rfl,_⟩:=h
  rfl
 ·obtain⟨p,m,rfl,h⟩:=h
  refine'⟨_,?main,?rest⟩
  case main=>
   refine' fo ?c1 ?c2
   case' c1=>refine' gi ?c3 ?c4 ?c5
   case' c3=>refine' fL (OpR.f0 qu) ?c6 ?c7 (fR _)
   case' c6=>exact gI jE (pvF 0) fj (fun _ _=>rfl)
   case' c7=>exact fv (OpR.f iC) fj fj
   case' c4=>refine' fo ?c8 ?c9
   case' c8=>refine' fJ (i:=2) sc__law_next.nd rfl (aJ rfl) ?c10
   case' c10=>refine' fv (OpR.f gS) ?c11 (pvF 1)
   case' c11=>exact gI jE (pvF 0) fj (fun _ _=>rfl)
   case' c9=>refine' fo ?c12 ?c13
   case' c12=>refine' g0 ?c14 ?c15
   case' c14=>refine' fv (OpR.f gC) ?c16 (pvF 1)
   case' c16=>exact gI jE (pvF 0) fj (fun _ _=>rfl)
   case' c15=>exact nW (pvF 0) fj qc
   case' c13=>exact ft (fN (pvF 2))
   case c5=>exact fH
   case' c2=>refine' fo ?c17 ?c18
   case' c17=>refine' g0 ?c19 ?c20
   case' c19=>refine' fv (OpR.f0 fV) ?c21 fj
   case' c21=>exact gI jE (pvF 0) fj (fun _ _=>rfl)
   case' c20=>exact nW (pvF 0) fj qc
   case' c18=>refine' fo ?c22 ?c23
   case' c22=>refine' fJ (i:=3) ?c24 ?c25 ?c26 ?c27
   case c24=>exact sc__law_next.nd
   case c25=>exact rfl
   case c26=>exact(aJ rfl)
   case' c27=>refine' fv ?c28 ?c29 ?c30
   case c28=>exact(OpR.f gS)
   case' c29=>refine' fv (OpR.f fF) ?c31 fj
   case' c31=>refine' fv (OpR.f0 fV) ?c32 ?c33
   case' c32=>exact gI jE (pvF 0) fj (fun _ _=>rfl)
   case' c33=>refine' fv (OpR.f fF) fj ?c34
   case' c34=>exact gI jE (pvF 0) fj (fun _ _=>rfl)
   case c30=>exact fj
   case' c23=>refine' fo ?c35 ?c36
   case' c35=>refine' fJ (i:=3) sc__law_next.nd rfl (aJ rfl) ?c37
   case' c37=>refine' fv (OpR.f gS) ?c38 fj
   case' c38=>refine' fv (OpR.f0 fV) (fv (OpR.f fF) (pvF 3) (pvF 3)) ?c39
   case' c39=>refine' fv (OpR.f fF) fj ?c40
   case' c40=>exact gI jE (pvF 0) fj (fun _ _=>rfl)
   case' c36=>refine' ft ?c41
   case' c41=>refine' fN ?c42
   case' c42=>refine' fv ?c43 ?c44 ?c45
   case c43=>exact(OpR.f gS)
   case' c44=>refine' fv (OpR.f gC) ?c46 fj
   case' c46=>refine' fv (OpR.f gS) ?c47 fj
   case' c47=>refine' fv (OpR.f fF) (pvF 3) ?c48
   case' c48=>refine' fv (OpR.f0 fV) ?c49 fj
   case' c49=>exact fv (OpR.f gS) (pvF 3) fj
   case c45=>exact(pvF 1)
  case rest=>
   obtain⟨⟨a,b,c,hp⟩,hm0,hm1,h⟩:=h
   walk_at "ST"
   o_head ⟨hp⟩
   have fx:∀x y z:Int,FX p H (upd H p (.lst [.int x,.int y,.int z])):=fun x y z=>⟨⟨x,y,z,fq⟩,fun b o hb e=>by rw[fy hb];exact e⟩
   have hmb:Bd 9000 m:=Bd.mono (m:=140) (Bd.of_le 10000000000000000000000000000000000000000 (by omega) (by omega) (by decide)) (by decide)
   have hm2:¬m=0:=by omega
   split
   ·exact⟨hm0,hm2,hmb,h _ _ (bW _ hm2) (bB _ hm0) (fx _ _ _)⟩
   ·exact⟨.left (by decide) (by decide),.right (by decide) (by decide),.mod (by decide) (by decide),.left (by decide) (by decide),.mod (by decide) (by decide),hm0,h _ _ (bW _ hm2) (bB _ hm0) (fx _ _ _)⟩
theorem sc__law_great:FnScope ["_law_feed_here","_law_far","_law_number","_law_k"] ["_law_feed_here","_law_far"] (fm s__law_great):=⟨rfl,rfl,rfl,by decide+kernel,rfl,by decide+kernel,by decide+kernel⟩
theorem ok__law_great{C:Cz}{f:Addr}{fd:FuncData}(F:Fun K "_law_great" "_law_great" s__law_great f fd)(T:Txt K mg C)(F__law_next:FnB P w K mg base (CXE P w) 1 "_law_next" ["_law_feed_here","_law_many"] gq):FnOk P w K mg base (CXE P w) 2 f fd ["_law_feed_here","_law_far"] iY:=by
 refine okN F (k:=1) sc__law_great (fun vs H Q E h=> ?_) (fun cdv A outer s H vs Q E hr h=> ?_)
 ·obtain⟨p,far,rfl,_⟩:=h
  rfl
 ·obtain⟨p,far,rfl,h⟩:=h
  refine'⟨_,?main,?rest⟩
  case main=>
   refine' fo ?c1 ?c2
   case' c1=>exact fJ (i:=2) sc__law_great.nd rfl (aJ rfl) fj
   case' c2=>refine' fo ?c3 ?c4
   case' c3=>refine' gR ?c5 ?c6 ?c7 ?c8 ?c9
   case c5=>exact PassesOwn.never
   case c6=>exact rfl
   case' c7=>refine' gy rfl T.b_range ?c10
   case' c10=>exact fi fj fk
   case c8=>exact(fC (i:=3) sc__law_great.nd rfl (aJ rfl))
   case' c9=>refine' ft ?c11
   case' c11=>refine' fJ (i:=2) ?c12 ?c13 ?c14 ?c15
   case c12=>exact sc__law_great.nd
   case c13=>exact rfl
   case c14=>exact(aJ rfl)
   case' c15=>refine' fv ?c16 ?c17 ?c18
   case c16=>exact(OpR.f0 fV)
   case' c17=>refine' fv (OpR.f fF) (pvF 2) ?c19
   case' c19=>exact fv (OpR.f iC) fj fj
   case' c18=>refine' fQ F__law_next (hr.mono (by decide)) rfl fE ?c20
   case' c20=>refine' fi (pvF 0) ?c21
   case' c21=>refine' fi ?c22 fk
   case' c22=>exact fv (OpR.f iC) fj fj
   case' c4=>refine' ft ?c23
   case' c23=>refine' fN ?c24
   case' c24=>refine' fv (OpR.f0 gk) ?c25 (pvF 1)
   case' c25=>refine' fv (OpR.f gS) (pvF 2) ?c26
   case' c26=>refine' fv (OpR.f0 fV) ?c27 fj
   case' c27=>exact fv (OpR.f fF) fj (pvF 1)
  case rest=>
   obtain⟨hf,h0,h⟩:=h
   walk_at "ST"
   o_head ⟨gq⟩
   refine⟨6,rfl,by decide,by decide,iE (lo:=0) (n:=6) (fun i σ H'=>∃n o,σ=[some (.ref p),some (.int far),some (.int n),o] /\ FX p H H') ⟨0,none,rfl,.refl hf⟩ ?_ ?_⟩
   ·rintro i σ H1 hi ⟨n,o,rfl,fx⟩
    o_head ⟨gq⟩
    refine⟨.right (by decide) (by decide),fx.feed,fun r H2 h1 h2 fx2=> ?_⟩;exact fx.trans fx2
   ·rintro σ H1 ⟨n,o,rfl,fx⟩;walk_at "RD"
    have hp:0<2*far+1:=by omega
    have e1:=bW n (by omega:2*far+1≠0)
    have e2:=bB n hp
    exact⟨.left (by decide) (by decide),hp,h _ _ (by omega) (by omega) fx⟩
theorem sc__law_spot:FnScope ["_law_feed_here","_law_style","_law_ring"] ["_law_feed_here","_law_style"] (fm s__law_spot):=⟨rfl,rfl,rfl,by decide+kernel,rfl,by decide+kernel,by decide+kernel⟩
theorem ok__law_spot{C:Cz}{f:Addr}{fd:FuncData}(F:Fun K "_law_spot" "_law_spot" s__law_spot f fd)(T:Txt K mg C)(F__law_great:FnB P w K mg base (CXE P w) 2 "_law_great" ["_law_feed_here","_law_far"] iY)(F__law_next:FnB P w K mg base (CXE P w) 1 "_law_next" ["_law_feed_here","_law_many"] gq):FnOk P w K mg base (CXE P w) 3 f fd ["_law_feed_here","_law_style"] iX:=by
 refine okN F (k:=2) sc__law_spot (fun vs H Q E h=> ?_) (fun cdv A outer s H vs Q E hr h=> ?_)
 ·obtain⟨p,st,rfl,_⟩:=h
  rfl
 ·obtain⟨p,st,rfl,h⟩:=h
  refine'⟨_,?main,?rest⟩
  case main=>
   refine' fo ?c1 ?c2
   case' c1=>refine' fJ (i:=2) ?c3 ?c4 ?c5 ?c6
   case c3=>exact sc__law_spot.nd
   case c4=>exact rfl
   case c5=>exact(aJ rfl)
   case' c6=>refine' jA ?c7
   case' c7=>refine' fi ?c8 ?c9
   case' c8=>refine' fT ?c10
   case' c10=>refine' fi fj ?c11
   case' c11=>exact fi fj fk
   case' c9=>refine' fi ?c12 ?c13
   case' c12=>refine' fT ?c14
   case' c14=>refine' fi fj ?c15
   case' c15=>exact fi fj fk
   case' c13=>refine' fi ?c16 ?c17
   case' c16=>refine' fT ?c18
   case' c18=>refine' fi fj ?c19
   case' c19=>exact fi fj fk
   case' c17=>refine' fi ?c20 ?c21
   case' c20=>refine' fT ?c22
   case' c22=>refine' fi fj ?c23
   case' c23=>exact fi fj fk
   case' c21=>refine' fi ?c24 ?c25
   case' c24=>refine' fT ?c26
   case' c26=>refine' fi fj ?c27
   case' c27=>exact fi fj fk
   case' c25=>refine' fi ?c28 ?c29
   case' c28=>refine' fT ?c30
   case' c30=>refine' fi ?c31 ?c32
   case' c31=>exact i8 (UnR.f gW) fj
   case' c32=>exact fi fj fk
   case' c29=>refine' fi ?c33 ?c34
   case' c33=>refine' fT ?c35
   case' c35=>refine' fi ?c36 ?c37
   case' c36=>exact i8 (UnR.f gW) fj
   case' c37=>exact fi fj fk
   case' c34=>refine' fi ?c38 ?c39
   case' c38=>refine' fT ?c40
   case' c40=>refine' fi ?c41 ?c42
   case' c41=>exact i8 (UnR.f gW) fj
   case' c42=>refine' fi ?c43 fk
   case' c43=>exact i8 (UnR.f gW) fj
   case' c39=>refine' fi ?c44 ?c45
   case' c44=>refine' fT ?c46
   case' c46=>refine' fi ?c47 ?c48
   case' c47=>exact i8 (UnR.f gW) fj
   case' c48=>refine' fi ?c49 fk
   case' c49=>exact i8 (UnR.f gW) fj
   case' c45=>refine' fi ?c50 ?c51
   case' c50=>refine' fT ?c52
   case' c52=>refine' fi fj ?c53
   case' c53=>refine' fi ?c54 fk
   case' c54=>exact i8 (UnR.f gW) fj
   case' c51=>refine' fi ?c55 fk
   case' c55=>refine' fT ?c56
   case' c56=>refine' fi fj ?c57
   case' c57=>exact fi fj fk
   case' c2=>refine' fo ?c58 ?c59
   case' c58=>refine' gi ?c60 ?c61 ?c62
   case' c60=>exact fL gK (pvF 1) fj (fR _)
   case' c61=>refine' ft ?c63
   case' c63=>refine' fN ?c64
   case' c64=>refine' fT ?c65
   case' c65=>refine' fi ?c66 ?c67
   case' c66=>refine' fQ F__law_next (hr.mono (by decide)) rfl fE ?c68
   case' c68=>refine' fi (pvF 0) ?c69
   case' c69=>exact fi fj fk
   case' c67=>refine' fi ?c70 fk
   case' c70=>refine' fQ F__law_next (hr.mono (by decide)) rfl fE ?c71
   case' c71=>refine' fi (pvF 0) ?c72
   case' c72=>exact fi fj fk
   case c62=>exact fH
   case' c59=>refine' fo ?c73 ?c74
   case' c73=>refine' gi ?c75 ?c76 ?c77
   case' c75=>exact fL gK (pvF 1) fj (fR _)
   case' c76=>refine' ft ?c78
   case' c78=>refine' fN ?c79
   case' c79=>refine' gI jE (pvF 2) ?c80 (fun _ _=>rfl)
   case' c80=>refine' fQ F__law_next (hr.mono (by decide)) rfl fE ?c81
   case' c81=>refine' fi (pvF 0) ?c82
   case' c82=>exact fi fj fk
   case c77=>exact fH
   case' c74=>refine' fo ?c83 ?c84
   case' c83=>refine' gi ?c85 ?c86 ?c87
   case' c85=>exact fL gK (pvF 1) fj (fR _)
   case' c86=>refine' ft ?c88
   case' c88=>refine' fN ?c89
   case' c89=>refine' fT ?c90
   case' c90=>refine' fi ?c91 ?c92
   case c91=>exact fj
   case' c92=>refine' fi ?c93 fk
   case' c93=>refine' fv (OpR.f0 gk) ?c94 fj
   case' c94=>refine' fQ F__law_next (hr.mono (by decide)) rfl fE ?c95
   case' c95=>refine' fi (pvF 0) ?c96
   case' c96=>exact fi fj fk
   case c87=>exact fH
   case' c84=>refine' fo ?c97 ?c98
   case' c97=>refine' gi ?c99 ?c100 ?c101
   case' c99=>exact fL gK (pvF 1) fj (fR _)
   case' c100=>refine' ft ?c102
   case' c102=>refine' fN ?c103
   case' c103=>refine' fT ?c104
   case' c104=>refine' fi ?c105 ?c106
   case' c105=>refine' fv (OpR.f0 gk) ?c107 fj
   case' c107=>refine' fQ F__law_next (hr.mono (by decide)) rfl fE ?c108
   case' c108=>refine' fi (pvF 0) ?c109
   case' c109=>exact fi fj fk
   case' c106=>refine' fi ?c110 fk
   case' c110=>refine' fv (OpR.f0 gk) ?c111 fj
   case' c111=>refine' fQ F__law_next (hr.mono (by decide)) rfl fE ?c112
   case' c112=>refine' fi (pvF 0) ?c113
   case' c113=>exact fi fj fk
   case c101=>exact fH
   case' c98=>refine' ft ?c114
   case' c114=>refine' fN ?c115
   case' c115=>refine' fT ?c116
   case' c116=>refine' fi ?c117 ?c118
   case' c117=>refine' fQ F__law_great (hr.mono (by decide)) rfl fE ?c119
   case' c119=>refine' fi (pvF 0) ?c120
   case' c120=>refine' fi ?c121 fk
   case' c121=>refine' fv (OpR.f0 gk) ?c122 fj
   case' c122=>exact fv (OpR.f iC) fj fj
   case' c118=>refine' fi ?c123 ?c124
   case' c123=>refine' fQ F__law_great (hr.mono (by decide)) rfl fE ?c125
   case' c125=>refine' fi (pvF 0) ?c126
   case' c126=>refine' fi ?c127 fk
   case' c127=>refine' fv (OpR.f0 gk) ?c128 fj
   case' c128=>exact fv (OpR.f iC) fj fj
   case c124=>exact fk
  case rest=>
   obtain⟨hF,h⟩:=h
   walk_at "ST"
   walk_at "RD"
   refine⟨by decide,fun q1 k1=>⟨by decide,fun q2 k2=>⟨by decide,fun q3 k3=>⟨by decide,fun q4 k4=>⟨by decide,fun q5 k5=>⟨by decide,fun q6 k6=>⟨by decide,fun q7 k7=>⟨by decide,fun q8 k8=>⟨by decide,fun q9 k9=>⟨by decide,fun q10 k10=>⟨by decide,fun q11 k11=>⟨by decide,fun g kg=> ?_⟩⟩⟩⟩⟩⟩⟩⟩⟩⟩⟩⟩;generalize hHB:upd _ g _=HB;have xB:Ext H HB:=by rw[<-hHB];exact(((((((((((Ext.upd k1).then k2).then k3).then k4).then k5).then k6).then k7).then k8).then k9).then k10).then k11).then kg
   have eg:HB g=some (.lst (([q1,q2,q3,q4,q5,q6,q7,q8,q9,q10,q11]:List Addr).map V.ref)):=by rw[<-hHB];exact fq
   have r2:R2At HB [q1,q2,q3,q4,q5,q6,q7,q8,q9,q10,q11] oy:=by
    rw[<-hHB];refine⟨rfl,fun i q z z1 z2=> ?_⟩
    match i,z1,z2 with
    |0,z1,z2=>cases z1;cases z2;exact fw kg (fw k11 (fw k10 (fw k9 (fw k8 (fw k7 (fw k6 (fw k5 (fw k4 (fw k3 (fw k2 fq))))))))))
    |1,z1,z2=>cases z1;cases z2;exact fw kg (fw k11 (fw k10 (fw k9 (fw k8 (fw k7 (fw k6 (fw k5 (fw k4 (fw k3 fq)))))))))
    |2,z1,z2=>cases z1;cases z2;exact fw kg (fw k11 (fw k10 (fw k9 (fw k8 (fw k7 (fw k6 (fw k5 (fw k4 fq))))))))
    |3,z1,z2=>cases z1;cases z2;exact fw kg (fw k11 (fw k10 (fw k9 (fw k8 (fw k7 (fw k6 (fw k5 fq)))))))
    |4,z1,z2=>cases z1;cases z2;exact fw kg (fw k11 (fw k10 (fw k9 (fw k8 (fw k7 (fw k6 fq))))))
    |5,z1,z2=>cases z1;cases z2;exact fw kg (fw k11 (fw k10 (fw k9 (fw k8 (fw k7 fq)))))
    |6,z1,z2=>cases z1;cases z2;exact fw kg (fw k11 (fw k10 (fw k9 (fw k8 fq))))
    |7,z1,z2=>cases z1;cases z2;exact fw kg (fw k11 (fw k10 (fw k9 fq)))
    |8,z1,z2=>cases z1;cases z2;exact fw kg (fw k11 (fw k10 fq))
    |9,z1,z2=>cases z1;cases z2;exact fw kg (fw k11 fq)
    |10,z1,z2=>cases z1;cases z2;exact fw kg fq
   have hFB:Feed HB p:=by
    obtain⟨a,b,c,e⟩:=hF
    exact⟨a,b,c,xB _ _ e⟩
   have fB:FX p H HB:=(FX.refl hF).more xB
   have ng:g≠p:=by
    obtain⟨a,b,c,e⟩:=hF
    rintro rfl;have:=xB _ _ e
    rw[eg] at this;cases this
   clear hHB;have pick:∀(H1:Hp) (r1:Int) (QQ:V ->Prop),0<=r1 ->r1<11 ->FX p HB H1 ->(∀(q:Addr) (r:P2),H1 q=some (.tup [.int r.1,.int r.2]) ->(-((10^30-1))<=r.1 /\ r.1<=(10^30-1)) /\ (-((10^30-1))<=r.2 /\ r.2<=(10^30-1)) ->QQ (.ref q)) ->gG (ju (H1 g)) fun xs=>gG (atI xs r1) QQ:=by
    intro H1 r1 QQ a1 a2 f1 hq';obtain⟨i,q,rfl,hq,ha⟩:=oz (qs:=([q1,q2,q3,q4,q5,q6,q7,q8,q9,q10,q11]:List Addr)) a1 a2
    obtain⟨r,hr1,hr2⟩:=r2.at hq
    have eg2:=f1.keep g _ ng eg
    have nq:q≠p:=by
     obtain⟨a,b,c,e⟩:=hFB
     exact lZ hr2 e (by intro z;cases z)
    have bnd:∀r∈oy,(-((10^30-1))<=r.1 /\ r.1<=(10^30-1)) /\ (-((10^30-1))<=r.2 /\ r.2<=(10^30-1)):=by unfold oy;decide
    rw[eg2,ix,fO,ha,fO];exact hq' q r (f1.keep q _ nq hr2) (bnd r (aK hr1))
   split
   ·refine⟨p,3,rfl,hFB,by decide,by decide,fun r1 H1 a1 a2 f1=>⟨p,4,rfl,f1.feed,by decide,by decide,fun r2 H2 a3 a4 f2=>⟨by decide,fun t ht=> ?_⟩⟩⟩;exact h t r1 r2 _ ((fB.trans (f1.trans f2)).upd ht) fq (by omega) (by omega)
   ·split
    ·refine⟨p,11,rfl,hFB,by decide,by decide,fun r1 H1 a1 a2 f1=> ?_⟩;exact pick H1 r1 _ a1 a2 f1 fun q r hq b=>h q r.1 r.2 H1 (fB.trans f1) hq b.1 b.2
    ·split
     ·refine⟨p,9,rfl,hFB,by decide,by decide,fun r1 H1 a1 a2 f1=>⟨by decide,fun t ht=> ?_⟩⟩;exact h t _ _ _ ((fB.trans f1).upd ht) fq (by omega) (by omega)
     ·split
      ·refine⟨p,121,rfl,hFB,by decide,by decide,fun r1 H1 a1 a2 f1=> ?_⟩;dsimp only;refine⟨p,121,rfl,f1.feed,by decide,by decide,fun r2 H2 a3 a4 f2=>⟨by decide,fun t ht=> ?_⟩⟩;exact h t _ _ _ ((fB.trans (f1.trans f2)).upd ht) fq (by omega) (by omega)
      ·refine⟨p,_,rfl,hFB,by decide,fun r1 H1 a1 a2 f1=>⟨p,_,rfl,f1.feed,by decide,fun r2 H2 a3 a4 f2=>⟨by decide,fun t ht=> ?_⟩⟩⟩;exact h t _ _ _ ((fB.trans (f1.trans f2)).upd ht) fq ⟨a1,a2⟩ ⟨a3,a4⟩
theorem sc__law_spots:FnScope ["_law_script","_law_feed_here","_law_many","_law_style","_law_found","_law_k"] ["_law_script"] (fm s__law_spots):=⟨rfl,rfl,rfl,by decide+kernel,rfl,by decide+kernel,by decide+kernel⟩
theorem ok__law_spots{C:Cz}{f:Addr}{fd:FuncData}(F:Fun K "_law_spots" "_law_spots" s__law_spots f fd)(T:Txt K mg C)(F__law_feed:FnB P w K mg base (CXE P w) 1 "_law_feed" ["_law_script","_law_k"] (gT K))(F__law_spot:FnB P w K mg base (CXE P w) 3 "_law_spot" ["_law_feed_here","_law_style"] iX)(F__law_next:FnB P w K mg base (CXE P w) 1 "_law_next" ["_law_feed_here","_law_many"] gq):FnOk P w K mg base (CXE P w) 4 f fd ["_law_script"] (il K):=by
 refine okN F (k:=3) sc__law_spots (fun vs H Q E h=> ?_) (fun cdv A outer s H vs Q E hr h=> ?_)
 ·obtain⟨a,ns,rfl,_⟩:=h
  rfl
 ·obtain⟨a,ns,rfl,h⟩:=h
  refine'⟨_,?main,?rest⟩
  case main=>
   refine' fo ?c1 ?c2
   case' c1=>refine' fJ (i:=1) sc__law_spots.nd rfl (aJ rfl) ?c3
   case' c3=>refine' fQ F__law_feed (hr.mono (by decide)) rfl fE ?c4
   case' c4=>refine' fi (pvF 0) ?c5
   case' c5=>exact fi fj fk
   case' c2=>refine' fP ?c6 ?c7
   case' c6=>refine' nU (i:=2) (j:=3) ?c8 ?c9 ?c10 ?c11 ?c12 ?c13 ?c14 ?c15 ?c16
   case c8=>exact rfl
   case c9=>exact sc__law_spots.nd
   case c10=>exact rfl
   case c11=>exact rfl
   case c12=>exact(by decide)
   case c13=>exact rfl
   case c14=>exact rfl
   case' c15=>refine' fi ?c17 ?c18
   case' c17=>refine' fv (OpR.f0 fV) fj ?c19
   case' c19=>refine' fQ F__law_next (hr.mono (by decide)) rfl fE ?c20
   case' c20=>refine' fi (pvF 1) ?c21
   case' c21=>exact fi fj fk
   case' c18=>refine' fi ?c22 fk
   case' c22=>refine' fQ F__law_next (hr.mono (by decide)) rfl fE ?c23
   case' c23=>refine' fi (pvF 1) ?c24
   case' c24=>exact fi fj fk
   case c16=>exact rfl
   case' c7=>refine' fP ?c25 ?c26
   case' c25=>refine' gi ?c27 ?c28 ?c29
   case' c27=>refine' fL gK ?c30 fj (fR _)
   case' c30=>refine' fQ F__law_next (hr.mono (by decide)) rfl fE ?c31
   case' c31=>refine' fi (pvF 1) ?c32
   case' c32=>exact fi fj fk
   case' c28=>refine' ft ?c33
   case' c33=>refine' fJ (i:=2) sc__law_spots.nd rfl (aJ rfl) ?c34
   case' c34=>refine' fv (OpR.f0 fV) fj ?c35
   case' c35=>refine' fQ F__law_next (hr.mono (by decide)) rfl fE ?c36
   case' c36=>refine' fi (pvF 1) ?c37
   case' c37=>exact fi fj fk
   case c29=>exact fH
   case' c26=>refine' fP ?c38 ?c39
   case' c38=>refine' gi ?c40 ?c41 ?c42
   case' c40=>exact fL gK (pvF 3) fj (fR _)
   case' c41=>refine' ft ?c43
   case' c43=>refine' fJ (i:=2) sc__law_spots.nd rfl (aJ rfl) ?c44
   case' c44=>refine' fK (mE rfl) (by rfl) T.b_min boot_min ?c45
   case' c45=>refine' fi (pvF 2) ?c46
   case' c46=>exact fi fj fk
   case c42=>exact fH
   case' c39=>refine' fo ?c47 ?c48
   case' c47=>exact fJ (i:=4) sc__law_spots.nd rfl (aJ rfl) m8
   case' c48=>refine' fP ?c49 ?c50
   case' c49=>refine' gR ?c51 ?c52 ?c53 ?c54 ?c55
   case c51=>exact PassesOwn.never
   case c52=>exact rfl
   case' c53=>refine' gy rfl T.b_range ?c56
   case' c56=>exact fi (pvF 2) fk
   case c54=>exact(fC (i:=5) sc__law_spots.nd rfl (aJ rfl))
   case' c55=>refine' ft ?c57
   case' c57=>refine' qj ?c58 ?c59 ?c60 ?c61 ?c62
   case c58=>exact(rE hr)
   case c59=>exact(pvF 4)
   case' c60=>refine' fQ ?c63 ?c64 ?c65 ?c66 ?c67
   case c63=>exact F__law_spot
   case c64=>exact(hr.mono (by decide))
   case c65=>exact rfl
   case c66=>exact fE
   case' c67=>refine' fi ?c68 ?c69
   case' c68=>refine' fQ F__law_feed (hr.mono (by decide)) rfl fE ?c70
   case' c70=>refine' fi (pvF 0) ?c71
   case' c71=>refine' fi ?c72 fk
   case' c72=>exact fv (OpR.f0 fV) fj (pvF 5)
   case' c69=>exact fi (pvF 3) fk
   case c61=>exact oN
   case c62=>exact rfl
   case' c50=>refine' ft ?c73
   case' c73=>refine' fN ?c74
   case' c74=>refine' gJ (lp rfl) (by rfl) T.b_list boot_list ?c75
   case' c75=>exact fi (pvF 4) fk
  case rest=>
   obtain⟨hS,hl,h⟩:=h
   walk_at "ST"
   o_head ⟨gT⟩
   refine⟨⟨ns,hS⟩,fun p x y z hp=> ?_⟩;have x0:=Ext.upd (o:= .lst [.int x,.int y,.int z]) hp
   have hF0:Feed (upd H p (.lst [.int x,.int y,.int z])) p:=⟨x,y,z,fq⟩
   generalize upd H p (.lst [.int x,.int y,.int z])=H0 at x0 hF0⊢;refine⟨fun σ H'=>∃(n:Nat) (st:Int),σ=[some (.ref a),some (.ref p),some (.int (n:Int)),some (.int st),none,none] /\ 1<=n /\ n<=12 /\ FX p H0 H',?_,?_⟩
   ·o_head ⟨gq⟩
    exact⟨hF0,fun r1 H1 a1 a2 f1=>⟨f1.feed,fun r2 H2 a3 a4 f2=>⟨(1+r1).toNat,by omega,⟨_,rfl⟩,by omega,by omega,f1.trans f2⟩⟩⟩
   rintro σ H2 ⟨n,st,rfl,n1,n12,f0⟩;refine⟨fun σ H'=>∃(n:Nat) (st:Int),σ=[some (.ref a),some (.ref p),some (.int (n:Int)),some (.int st),none,none] /\ 1<=n /\ n<=12 /\ FX p H0 H',?_,?_⟩
   ·o_head ⟨gq⟩
    refine⟨f0.feed,fun r3 H3 a5 a6 f3=> ?_⟩;split
    ·refine⟨f3.feed,fun r4 H4 a7 a8 f4=> ?_⟩;exact⟨(9+r4).toNat,by omega,by omega,by omega,f0.trans (f3.trans f4)⟩
    ·exact⟨n,rfl,n1,n12,f0.trans f3⟩
   rintro σ H2 ⟨n,st,rfl,n1,n12,f0⟩;have x1:=x0.fx hp f0
   have f1:=f0.feed
   refine⟨fun σ H'=>∃(n:Nat) (st:Int),σ=[some (.ref a),some (.ref p),some (.int (n:Int)),some (.int st),none,none] /\ 1<=n /\ n<=12 /\ Ext H H' /\ Feed H' p,?_,?_⟩
   ·walk_at "RD"
    split
    ·refine⟨min n 4,?_,by omega,by omega,x1,f1⟩;split<;>omega
    ·exact⟨n,rfl,n1,n12,x1,f1⟩
   ·rintro σ H3 ⟨n,st,rfl,n1,n12,x2,f2⟩;walk_at "RD"
    intro D hD;have nD:=f2.ne hD
    have xD:=x2.then (o:= .dT []) hD
    have fD:Feed (upd H3 D (.dT [])) p:=f2.upd hD
    have eD:=fq (H:=H3) (a:=D) (o:= .dT [])
    have hDn:H D=none:=LW.Ext.none x2 hD
    generalize upd H3 D (.dT [])=H4 at xD fD eD⊢;refine⟨fun σ H'=>∃(o5:Option V) (kvs:List (List Key×V)),σ=[some (.ref a),some (.ref p),some (.int (n:Int)),some (.int st),some (.ref D),o5] /\ H' D=some (.dT kvs) /\ KvOk kvs /\ 0<kvs.length /\ kvs.length<=12 /\ Ext H H' /\ Feed H' p,?_,?_⟩
    ·refine gx n (fun R hR=>by walk_at "RD";exact hR) (by omega) (fun i σ H'=>∃(o5:Option V) (kvs:List (List Key×V)),σ=[some (.ref a),some (.ref p),some (.int (n:Int)),some (.int st),some (.ref D),o5] /\ H' D=some (.dT kvs) /\ KvOk kvs /\ (0<i ->0<kvs.length) /\ kvs.length<=i /\ Ext H H' /\ Feed H' p) ⟨_,[],rfl,eD,⟨dG,fun kv hk=>absurd hk bP⟩,fun q=>absurd q (bf _),ak _,xD,fD⟩ ?_ ?_
     ·rintro i σ H5 hi ⟨o5,kvs,rfl,eK,kok,k0,kl,x5,f5⟩
      o_head ⟨gT,iX,rI,rI⟩
      refine⟨⟨ns,x5.sqL hS⟩,fun q x' y' z' hq=>⟨⟨_,_,_,fq⟩,fun t x1 y1 H6 f6 et bx by'=> ?_⟩⟩;have nDq:D≠q:=fu eK hq
      have npq:p≠q:=(f5.ne hq).symm
      have eK6:=f6.keep D _ nDq (fw hq eK)
      have x6:Ext H H6:=fun b o e=>f6.keep b o (fu (x5 b o e) hq) (fw hq (x5 b o e))
      have f56:Feed H6 p:=by
       obtain⟨a1,a2,a3,e⟩:=f5
       exact⟨a1,a2,a3,f6.keep p _ npq (fw hq e)⟩
      obtain⟨kok2,kpos⟩:=kok.put bx by' (.bl true)
      refine⟨kvs,eK6,_,et,[Sum.inl x1,Sum.inl y1],rfl,by omega,_,rfl,kok2,fun _=>kpos,?_,x6.set hDn,?_⟩
      ·have:=gU kvs [Sum.inl x1,Sum.inl y1] (.bl true)
       omega
      ·obtain⟨a1,a2,a3,e⟩:=f56
       exact⟨a1,a2,a3,(fy nD.symm).trans e⟩
     ·rintro σ H5 ⟨o5,kvs,rfl,eK,kok,k0,kl,x5,f5⟩;exact⟨o5,kvs,rfl,eK,kok,k0 n1,by omega,x5,f5⟩
    ·rintro σ H5 ⟨o5,kvs,rfl,eK,kok,k0,kl,x5,f5⟩
     o_head ⟨eK⟩
     refine⟨kvs,rfl,fun l as hl' hlen hat=> ?_⟩;have key:∀(i:Nat) (kv:List Key×V),kvs[i]? =some kv ->kv.1=[Sum.inl (kXY kv).1,Sum.inl (kXY kv).2]:=by
      intro i kv hi;obtain⟨x1,y1,e,_⟩:=kok.2 kv (aK hi)
      obtain⟨k1,v1⟩:=kv
      dsimp only at e;subst e;rfl
     refine h l as (kvs.map kXY) _ (x5.then hl') ⟨fq,⟨by rw[ag,hlen],fun i q r h1 h2=> ?_⟩,?_,by rw[ag];exact k0,by rw[ag];exact kl,fun r hr=> ?_⟩
     ·rw[ar] at h2;cases e:kvs[i]? with
      |none=>rw[e] at h2;cases h2
      |some kv=>
       rw[e] at h2;cases h2;have:=hat i q kv h1 e
       rw[key i kv e] at this;exact fw hl' this
     ·exact nr kok
     ·obtain⟨kv,hk,rfl⟩:=bu.mp hr
      obtain⟨x1,y1,e,b1,b2⟩:=kok.2 kv hk
      obtain⟨k1,v1⟩:=kv
      dsimp only at e;subst e;have bd:∀z:Int,-(10^30-1)<=z ->z<=10^30-1 ->Bd 101 z:=fun z h1 h2=>by
       have:(10:Int)^30<2^101:=by decide
       have e:(2:Int)^101=((2^101:Nat):Int):=by decide
       show z.natAbs<2^101
       omega
      exact⟨bd _ b1.1 b1.2,bd _ b2.1 b2.2⟩
theorem sc_law:FnScope ["_law_script","_law_spots_here","_law_copied","_law_due","_law_i","_law_j","_law_again","_law_found","_law_order","_law_feed_here","_law_k"] ["_law_script"] (fm s_law):=⟨rfl,rfl,rfl,by decide+kernel,rfl,by decide+kernel,by decide+kernel⟩
theorem ok_law{C:Cz}{f:Addr}{fd:FuncData}(F:Fun K "law" "law" s_law f fd)(T:Txt K mg C)(F_ties:FnB P w K mg base (CXE P w) 6 "ties" ["spots"] (iw K))(F__law_next:FnB P w K mg base (CXE P w) 1 "_law_next" ["_law_feed_here","_law_many"] gq)(F__law_feed:FnB P w K mg base (CXE P w) 1 "_law_feed" ["_law_script","_law_k"] (gT K))(F_reach:FnB P w K mg base (CXE P w) 5 "reach" ["spots","one","other"] (io K))(F__law_spots:FnB P w K mg base (CXE P w) 4 "_law_spots" ["_law_script"] (il K)):FnOk P w K mg base (CXE P w) 7 f fd ["_law_script"] (kj K):=by
 refine okN F (k:=6) sc_law (fun vs H Q E h=> ?_) (fun cdv A outer s H vs Q E hr h=> ?_)
 ·obtain⟨a,ns,rfl,_⟩:=h
  rfl
 ·obtain⟨a,ns,rfl,h⟩:=h
  refine'⟨_,?main,?rest⟩
  case main=>
   refine' fP ?c1 ?c2
   case' c1=>refine' fJ (i:=1) sc_law.nd rfl (ee rfl) ?c3
   case' c3=>refine' fQ F__law_spots (hr.mono (by decide)) rfl fE ?c4
   case' c4=>exact fi (pvF 0) fk
   case' c2=>refine' fP ?c5 ?c6
   case' c5=>refine' fJ (i:=2) sc_law.nd rfl (aJ rfl) ?c7
   case' c7=>refine' gJ lm (by rfl) T.b_list boot_list ?c8
   case' c8=>exact fi (pvF 1) fk
   case' c6=>refine' fP ?c9 ?c10
   case' c9=>refine' fJ (i:=3) sc_law.nd rfl (aJ rfl) ?c11
   case' c11=>exact jA fk
   case' c10=>refine' fP ?c12 ?c13
   case' c12=>refine' gR ?c14 ?c15 ?c16 ?c17 ?c18
   case c14=>exact PassesOwn.never
   case c15=>exact rfl
   case' c16=>refine' gy rfl T.b_range ?c19
   case' c19=>refine' fi ?c20 fk
   case' c20=>refine' fK fW (by rfl) T.b_len aY ?c21
   case' c21=>exact fi (pvF 1) fk
   case c17=>exact(fC (i:=4) sc_law.nd rfl (aJ rfl))
   case' c18=>refine' ft ?c22
   case' c22=>refine' gR ?c23 ?c24 ?c25 ?c26 ?c27
   case c23=>exact PassesOwn.never
   case c24=>exact rfl
   case' c25=>refine' jy rfl T.b_range ?c28
   case' c28=>refine' fi ?c29 ?c30
   case' c29=>exact fv (OpR.f0 fV) (pvF 4) fj
   case' c30=>refine' fi ?c31 fk
   case' c31=>refine' fK fW (by rfl) T.b_len aY ?c32
   case' c32=>exact fi (pvF 1) fk
   case c26=>exact(fC (i:=5) sc_law.nd rfl (aJ rfl))
   case' c27=>refine' ft ?c33
   case' c33=>refine' gi ?c34 ?c35 ?c36
   case' c34=>refine' iA ?c37
   case' c37=>refine' i9 ?c38
   case' c38=>refine' fQ F_reach (hr.mono (by decide)) rfl fE ?c39
   case' c39=>refine' fi (pvF 1) ?c40
   case' c40=>refine' fi (pvF 4) ?c41
   case' c41=>exact fi (pvF 5) fk
   case' c35=>refine' ft ?c42
   case' c42=>refine' gB ?c43
   case' c43=>refine' lU (pvF 3) ?c44
   case' c44=>refine' fi ?c45 fk
   case' c45=>refine' fT ?c46
   case' c46=>refine' fi (pvF 4) ?c47
   case' c47=>exact fi (pvF 5) fk
   case c36=>exact fH
   case' c13=>refine' fP ?c48 ?c49
   case' c48=>refine' gR ?c50 ?c51 ?c52 ?c53 ?c54
   case c50=>exact PassesOwn.never
   case c51=>exact rfl
   case' c52=>refine' gy rfl T.b_range ?c55
   case' c55=>exact fi fj fk
   case c53=>exact(fC (i:=6) sc_law.nd rfl (aJ rfl))
   case' c54=>refine' fo ?c56 ?c57
   case' c56=>refine' fJ (i:=7) sc_law.nd rfl (aJ rfl) ?c58
   case' c58=>refine' fQ F_ties (hr.mono (by decide)) rfl fE ?c59
   case' c59=>exact fi (pvF 1) fk
   case' c57=>refine' fo ?c60 ?c61
   case' c60=>refine' gi ?c62 ?c63 ?c64
   case' c62=>refine' PW.pt ?c65
   case' c65=>refine' kQ ?c66 ?c67
   case' c66=>refine' lO ?c68
   case' c68=>refine' iz ?c69
   case' c69=>refine' fK (jL (K:=K) rfl) (by rfl) T.b_isinstance boot_isinstance ?c70
   case' c70=>refine' fi (pvF 7) ?c71
   case' c71=>exact fi (lT (v:=V.ty "list") rfl T.b_list boot_list rfl) fk
   case' c67=>refine' kQ (fL (lW (K:=K) rfl (rF hr)) (pvF 7) (pvF 3) (fR _)) ?c72
   case' c72=>exact jw (fL (lW (K:=K) rfl (rF hr)) (pvF 1) (pvF 2) (fR _))
   case' c63=>refine' ft ?c73
   case' c73=>exact fN oN
   case c64=>exact fH
   case' c61=>refine' fo ?c74 ?c75
   case' c74=>refine' gi ?c76 ?c77 ?c78
   case' c76=>refine' lO ?c79
   case' c79=>refine' iz ?c80
   case' c80=>refine' fK ?c81 ?c82 ?c83 ?c84 ?c85
   case c81=>exact(mF (K:=K) rfl rfl)
   case c82=>exact(by rfl)
   case c83=>exact T.b_all
   case c84=>exact boot_all
   case' c85=>refine' fi ?c86 ?c87
   case' c86=>refine' m5 (CScope.of_ok (dsc:=fm s_law) (N0:=["_law_script","_law_spots_here","_law_copied","_law_due","_law_i","_law_j","_law_again","_law_found","_law_order","_law_feed_here","_law_k"]) (N:=["_law_pair"]) (k:=1) (js:=[]) rfl rfl (by decide+kernel)) rfl (g4 (K:=K) rfl (pvF 7)) ?c88 ?c89 ?c90
   case' c88=>intro _ _ _ _ _ _;exact(fC (i:=0) (by show cG (["_law_pair"]:List Str);decide+kernel) rfl (aJ rfl))
   case' c89=>intro _ _ _ _ _ _;exact ip
   case' c90=>intro _ _ _ _ _ _;refine' fK (jL (K:=K) rfl) (by rfl) T.b_isinstance boot_isinstance ?c91
   case' c91=>refine' fi (pvF 0) ?c92
   case' c92=>exact fi (lT (v:=V.ty "tuple") rfl T.b_tuple boot_tuple rfl) fk
   case c87=>exact fk
   case' c77=>refine' ft ?c93
   case' c93=>exact fN oN
   case c78=>exact fH
   case' c75=>refine' ft ?c94
   case' c94=>refine' gB ?c95
   case' c95=>refine' lU (pvF 7) ?c96
   case' c96=>refine' fi ?c97 fk
   case' c97=>refine' fT ?c98
   case' c98=>refine' fi fj ?c99
   case' c99=>exact fi fj fk
   case' c49=>refine' fP ?c100 ?c101
   case' c100=>refine' fJ (i:=8) ?c102 ?c103 ?c104 ?c105
   case c102=>exact sc_law.nd
   case c103=>exact rfl
   case c104=>exact(ee rfl)
   case' c105=>refine' gJ (j9 rfl) (by rfl) T.b_list boot_list ?c106
   case' c106=>refine' fi ?c107 fk
   case' c107=>refine' gJ mC (by rfl) T.b_range boot_range ?c108
   case' c108=>refine' fi ?c109 fk
   case' c109=>refine' fK fW (by rfl) T.b_len aY ?c110
   case' c110=>exact fi (pvF 1) fk
   case' c101=>refine' fP ?c111 ?c112
   case' c111=>refine' fJ (i:=9) sc_law.nd rfl (aJ rfl) ?c113
   case' c113=>refine' fQ F__law_feed (hr.mono (by decide)) rfl fE ?c114
   case' c114=>refine' fi (pvF 0) ?c115
   case' c115=>exact fi fj fk
   case' c112=>refine' fP ?c116 ?c117
   case' c116=>refine' gR ?c118 ?c119 ?c120 ?c121 ?c122
   case c118=>exact PassesOwn.never
   case c119=>exact rfl
   case' c120=>refine' gy rfl T.b_range ?c123
   case' c123=>refine' fi ?c124 fk
   case' c124=>refine' fK fW (by rfl) T.b_len aY ?c125
   case' c125=>exact fi (pvF 1) fk
   case c121=>exact(fC (i:=10) sc_law.nd rfl (aJ rfl))
   case' c122=>refine' ft ?c126
   case' c126=>refine' gB ?c127
   case' c127=>refine' oJ ?c128 ?c129
   case c128=>exact(pvF 8)
   case' c129=>refine' fi ?c130 ?c131
   case' c130=>refine' fQ F__law_next (hr.mono (by decide)) rfl fE ?c132
   case' c132=>refine' fi (pvF 9) ?c133
   case' c133=>refine' fi ?c134 fk
   case' c134=>refine' fK fW (by rfl) T.b_len aY ?c135
   case' c135=>exact fi (pvF 1) fk
   case' c131=>exact fi (oI (pvF 8)) fk
   case' c117=>refine' fP ?c136 ?c137
   case' c136=>refine' fJ (i:=7) ?c138 ?c139 ?c140 ?c141
   case c138=>exact sc_law.nd
   case c139=>exact rfl
   case c140=>exact(aJ rfl)
   case' c141=>refine' fQ ?c142 ?c143 ?c144 ?c145 ?c146
   case c142=>exact F_ties
   case c143=>exact(hr.mono (by decide))
   case c144=>exact rfl
   case c145=>exact fE
   case' c146=>refine' fi ?c147 ?c148
   case' c147=>refine' m5 (CScope.of_ok (dsc:=fm s_law) (N0:=["_law_script","_law_spots_here","_law_copied","_law_due","_law_i","_law_j","_law_again","_law_found","_law_order","_law_feed_here","_law_k"]) (N:=["_law_number","_law_spots_here"]) (k:=1) (js:=[1]) rfl rfl (by decide+kernel)) rfl (g4 (K:=K) rfl (pvF 8)) ?c149 ?c150 ?c151
   case' c149=>intro _ _ _ _ _ _;exact(fC (i:=0) (by show cG (["_law_number","_law_spots_here"]:List Str);decide+kernel) rfl (aJ rfl))
   case' c150=>intro _ _ _ _ _ _;exact ip
   case' c151=>intro _ _ _ _ _ _;exact(gI jE (pvF 1) (pvF 0) (fun _ _=>rfl))
   case c148=>exact fk
   case' c137=>refine' ft ?c152
   case' c152=>refine' fN ?c153
   case' c153=>refine' lS ?c154 ?c155 ?c156 ?c157
   case c154=>exact(oP (K:=K) rfl (rF hr))
   case' c155=>refine' fK ?c158 ?c159 ?c160 ?c161 ?c162
   case c158=>exact(lh (K:=K) rfl rfl)
   case c159=>exact(by rfl)
   case c160=>exact T.b_sorted
   case c161=>exact boot_sorted
   case' c162=>refine' fi ?c163 ?c164
   case' c163=>refine' m5 (CScope.of_ok (dsc:=fm s_law) (N0:=["_law_script","_law_spots_here","_law_copied","_law_due","_law_i","_law_j","_law_again","_law_found","_law_order","_law_feed_here","_law_k"]) (N:=["_law_i","_law_j","_law_order"]) (k:=2) (js:=[8]) rfl rfl (by decide+kernel)) rfl (g4 (K:=K) rfl (pvF 7)) ?c165 ?c166 ?c167
   case' c165=>intro _ _ _ _ _ _;refine' mL (n:=2) rfl ?c168
   case' c168=>refine' fA (fC (i:=0) (by show cG (["_law_i","_law_j","_law_order"]:List Str);decide+kernel) rfl (aJ rfl)) ?c169
   case' c169=>exact fA (fC (i:=1) (by show cG (["_law_i","_law_j","_law_order"]:List Str);decide+kernel) rfl (aJ rfl)) gg
   case' c166=>intro _ _ _ _ _ _;exact ip
   case' c167=>intro _ _ _ _ _ _;refine' gJ ?c170 ?c171 ?c172 ?c173 ?c174
   case c170=>exact(mB (K:=K) rfl)
   case c171=>exact(by rfl)
   case c172=>exact T.b_tuple
   case c173=>exact boot_tuple
   case' c174=>refine' fi ?c175 ?c176
   case' c175=>refine' fK (ll (K:=K) rfl) (by rfl) T.b_sorted boot_sorted ?c177
   case' c177=>refine' fi ?c178 fk
   case' c178=>refine' jA ?c179
   case' c179=>refine' fi (gI jE (pvF 2) (pvF 0) (fun _ _=>rfl)) ?c180
   case' c180=>exact fi (gI jE (pvF 2) (pvF 1) (fun _ _=>rfl)) fk
   case c176=>exact fk
   case c164=>exact fk
   case c156=>exact(pvF 3)
   case c157=>exact(fR _)
  case rest=>
   obtain⟨hS,hl,h⟩:=h
   walk_at "ST"
   refine⟨fun σ H'=>∃(l:Addr) (qs:List Addr) (rs:List P2),σ=[some (.ref a),some (.ref l),none,none,none,none,none,none,none,none,none] /\ LpOk H' l qs rs /\ Ext H H',?_,?_⟩
   ·o_head ⟨il⟩
    refine⟨ns,hS,hl,fun l qs rs H1 x1 ok=>⟨⟨qs,rs,ok⟩,x1⟩⟩
   rintro σ H1 ⟨l,qs,rs,rfl,ok,x1⟩;have lq:(qs.map V.ref).length=rs.length:=by rw[ag,ok.at_.1]
   have n12:=ok.n12
   have n0:=ok.n0
   refine⟨fun σ H'=>∃L:Addr,σ=[some (.ref a),some (.ref l),some (.ref L),none,none,none,none,none,none,none,none] /\ Ext H1 H' /\ H' L=some (.lst (qs.map V.ref)),?_,?_⟩
   ·o_head ⟨ok.sp⟩
    exact fun L hL=> .upd hL
   rintro σ H2 ⟨L,rfl,x2,eL⟩;have ok2:=ok.ext x2
   refine⟨fun σ H'=>∃D:Addr,σ=[some (.ref a),some (.ref l),some (.ref L),some (.ref D),none,none,none,none,none,none,none] /\ Ext H2 H' /\ H2 D=none /\ H' D=some (.lst []),?_,?_⟩
   ·walk_at "RD"
    exact⟨by decide,fun D hD=>⟨.upd hD,hD⟩⟩
   rintro σ H3 ⟨D,rfl,x3,nD,eD⟩;refine⟨fun σ H'=>∃(ts:List Addr) (ps:List (Nat×Nat)) (o4 o5:Option V),σ=[some (.ref a),some (.ref l),some (.ref L),some (.ref D),o4,o5,none,none,none,none,none] /\ Ext H2 H' /\ H' D=some (.lst (ts.map V.ref)) /\ R2At H' ts (ps.map cI) /\ TsOk rs rs.length 0 ps,?_,?_⟩
   ·refine gx rs.length (fun R hR=>by o_head ⟨x3 _ _ ok2.sp,lq,rI,rI⟩;exact hR) (by omega) (fun i σ H'=>∃(ts:List Addr) (ps:List (Nat×Nat)) (o4 o5:Option V),σ=[some (.ref a),some (.ref l),some (.ref L),some (.ref D),o4,o5,none,none,none,none,none] /\ Ext H2 H' /\ H' D=some (.lst (ts.map V.ref)) /\ R2At H' ts (ps.map cI) /\ TsOk rs i 0 ps) ⟨[],[],_,_,rfl,x3,eD,⟨rfl,fun k t z a=>by simp at a⟩,⟨fun z hz=>absurd hz (by simp),by simp,fun a b A B ab q=>by omega,by simp,fun z hz=>absurd hz (by simp),cQ⟩⟩ ?_ ?_
    ·rintro i σ H4 hi ⟨ts,ps,o4,o5,rfl,x4,e4,r4,t4⟩;obtain⟨A,hA⟩:∃r,rs[i]? =some r:=⟨_,aj hi⟩
     have t4':=t4.start (j:=i+1) (by omega)
     o_head ⟨Int.zero_add⟩
     refine ir ((i:Int)+1) (rs.length-(i+1)) (fun R hR=>by
      o_head ⟨x4 _ _ ok2.sp,lq,rI,rI⟩
      have:((i:Int)+1+((rs.length-(i+1):Nat):Int))=(rs.length:Int):=by omega
      rw[this] at hR;exact hR) (by omega) (by omega) (fun k σ H'=>∃(ts:List Addr) (ps:List (Nat×Nat)) (o5:Option V),σ=[some (.ref a),some (.ref l),some (.ref L),some (.ref D),some (.int (i:Int)),o5,none,none,none,none,none] /\ Ext H2 H' /\ H' D=some (.lst (ts.map V.ref)) /\ R2At H' ts (ps.map cI) /\ TsOk rs i (i+1+k) ps) ⟨ts,ps,_,rfl,x4,e4,r4,t4'⟩ ?_ ?_
     ·rintro k σ H5 hk ⟨ts,ps,o5,rfl,x5,e5,r5,t5⟩;obtain⟨j,hj⟩:∃j,j=i+1+k:=⟨_,rfl⟩
      have ej:(i:Int)+1+(k:Int)=(j:Int):=by omega
      have jl:j<rs.length:=by omega
      obtain⟨B,hB⟩:∃r,rs[j]? =some r:=⟨_,aj jl⟩
      rw[<-hj] at t5;rw[ej];have sk:=t5.skip hA hB
      have pt:=t5.put (by omega) jl hA hB
      have ek:i+1+(k+1)=j+1:=by omega
      rw[ek]
      o_head ⟨io⟩
      refine⟨i,rfl,j,rfl,qs,rs,ok2.ext x5,A,hA,B,hB,by omega,fun u H6 x6=> ?_,fun t v w s e H6 x6 _ _ _ td=> ?_⟩
      ·exact⟨x5.trans x6,ts,x6 _ _ e5,ps,r5.ext x6,sk u.not⟩
      ·have e6:=x6 _ _ e5
       rw[e6];refine⟨rfl,by decide,fun p hp=> ?_⟩;have e7:=fw (o:= .tup [.int (i:Int),.int (j:Int)]) hp e6
       have r7:=(r5.ext x6).ext (Ext.upd (o:= .tup [.int (i:Int),.int (j:Int)]) hp)
       have x7:=(x5.trans x6).then (o:= .tup [.int (i:Int),.int (j:Int)]) hp
       have et:=fq (H:=H6) (a:=p) (o:= .tup [.int (i:Int),.int (j:Int)])
       generalize upd H6 p _=H7 at e7 r7 x7 et⊢;rw[e7,gL,fO];have ln:=t5.len
       have lr:=r5.1
       rw[ag] at lr;refine⟨by rw[ag];omega,x7.set nD,ts++[p],by rw[aM];rfl,ps++[(i,j)],?_,pt td.tt⟩;rw[aM];exact(r7.snocT (z:=cI (i,j)) et).setT e7
     ·rintro σ H5 ⟨ts,ps,o5,rfl,x5,e5,r5,t5⟩;have:i+1+(rs.length-(i+1))=rs.length:=by omega
      rw[this] at t5;exact⟨⟨_,_,rfl⟩,x5,ts,e5,ps,r5,t5.next n12⟩
    ·rintro σ H4 ⟨ts,ps,o4,o5,rfl,x4,e4,r4,t4⟩;exact⟨ts,ps,_,_,rfl,x4,e4,r4,t4⟩
   rintro σ H4 ⟨ts,ps,o4,o5,rfl,x4,e4,r4,tk⟩;refine⟨fun σ H'=>∃(o6 o7:Option V),σ=[some (.ref a),some (.ref l),some (.ref L),some (.ref D),o4,o5,o6,o7,none,none,none] /\ Ext H4 H',?_,?_⟩
   ·refine gx 2 (fun R hR=>by walk_at "RD";exact hR) (by decide) (fun k σ H'=>∃(o6 o7:Option V),σ=[some (.ref a),some (.ref l),some (.ref L),some (.ref D),o4,o5,o6,o7,none,none,none] /\ Ext H4 H') ⟨_,_,rfl,.refl _⟩ ?_ ?_
    ·rintro k σ H5 hk ⟨o6,o7,rfl,x5⟩
     o_head ⟨iw⟩
     refine⟨qs,rs,ok2.ext (x4.trans x5),fun t ts' ps' H6 x6 nt et r6 tk6=> ?_⟩;have eps:ps'=ps:=tk6.uniq tk
     subst eps;have x56:=x5.trans x6
     have ok6:=ok2.ext (x4.trans x56)
     have lt6:=r6.1
     have lps:=tk.len
     rw[ag] at lt6;refine⟨_,_,_,_,rfl,.lst et,j0 K,?_⟩;walk_at "RD"
     refine⟨.list ((ps'.map cI).map t2d),.list ((ps'.map cI).map t2d),.lst (SqL.of et) (ic r6),.lst (SqL.of (x56 _ _ e4)) (ic (r4.ext x56)),gs _,gs _,?_⟩;rw[mq];walk_at "RD"
     refine⟨.list (rs.map t2d),.list (rs.map t2d),.lst (SqL.of ok6.sp) (ic ok6.at_),.lst (SqL.of (x4.trans x56 _ _ eL)) (ic ok6.at_),gs _,gs _,?_⟩;rw[mq];walk_at "RD"
     refine iT (K:=K) (a:=t) (xs:=ts'.map V.ref) (fun R hR=>by walk_at "RD";exact hR) (SqL.of et) (by rw[ag];omega) (fun E i ys H'=>ys=(dF i true).map V.bl /\ H' E=some (.lst ys) /\ Ext H6 H') (fun E hE=>⟨rfl,fq,.upd hE⟩) ?_ ?_ ?_
     ·rintro E i ys H' hi ⟨rfl,eE,x'⟩;exact⟨eE,by rw[ag,cz];exact ak _,SqL.of (x' _ _ et)⟩
     ·rintro E i w1 ys H' hE hi ⟨rfl,eE,x'⟩;obtain⟨q,hq,rfl⟩:=gN hi
      obtain⟨z,hz1,hz2⟩:=r6.at hq
      walk_at "RD"
      refine⟨_,_,_,_,rfl,.tup (x' _ _ hz2),jZ K,eE,?_,x'.set hE⟩;rw[List.map_replicate];exact List.replicate_succ'.symm.trans bz
     rintro E ys H7 hE ⟨rfl,eE,x7⟩;refine⟨E,_,rfl,SqL.of eE,?_⟩;dsimp only;rw[if_neg (by simp),x7 _ _ et];refine⟨rfl,by decide,fun p hp=> ?_⟩;rw[fw hp (x7 _ _ et),gL,fO];exact⟨by rw[ag];omega,((x5.trans (x6.trans x7)).then hp).set (x5.none nt)⟩
    ·rintro σ H5 ⟨o6,o7,rfl,x5⟩;exact⟨_,_,rfl,x5⟩
   rintro σ H5 ⟨o6,o7,rfl,x5⟩;have ok5:=ok2.ext (x4.trans x5)
   refine⟨fun σ H'=>∃O:Addr,σ=[some (.ref a),some (.ref l),some (.ref L),some (.ref D),o4,o5,o6,o7,some (.ref O),none,none] /\ Ext H5 H' /\ H5 O=none /\ H' O=some (.lst (JsV (aw rs.length))),?_,?_⟩
   ·o_head ⟨ok5.sp,lq,rI,rI⟩
    refine⟨rs.length,rfl,by omega,fun r hr=>⟨r,rs.length,rfl,fq,by omega,fun O hO=>⟨O,rfl,(Ext.upd hr).then hO,(Ext.upd hr).none hO,?_⟩⟩⟩
    first|exact fq|rfl
   rintro σ H6 ⟨O,rfl,x6,nO,eO⟩;refine⟨fun σ H'=>∃p:Addr,σ=[some (.ref a),some (.ref l),some (.ref L),some (.ref D),o4,o5,o6,o7,some (.ref O),some (.ref p),none] /\ Ext H5 H' /\ H' O=some (.lst (JsV (aw rs.length))) /\ H5 p=none /\ p≠O /\ Feed H' p,?_,?_⟩
   ·o_head ⟨gT⟩
    refine⟨⟨ns,(x1.trans (x2.trans (x4.trans (x5.trans x6)))).sqL hS⟩,fun p x y z hp=>⟨x6.then hp,fw hp eO,x6.none hp,(fu eO hp).symm,⟨x,y,z,fq⟩⟩⟩
   rintro σ H7 ⟨p,rfl,x7,eO7,nP,nPO,fp⟩;refine⟨fun σ H'=>∃(js:List Nat) (o10:Option V),σ=[some (.ref a),some (.ref l),some (.ref L),some (.ref D),o4,o5,o6,o7,some (.ref O),some (.ref p),o10] /\ Ext H5 H' /\ H' O=some (.lst (JsV js)) /\ js.Perm (aw rs.length),?_,?_⟩
   ·refine gx rs.length (fun R hR=>by o_head ⟨x7 _ _ ok5.sp,lq,rI,rI⟩;exact hR) (by omega) (fun i σ H'=>∃(js:List Nat) (o10:Option V),σ=[some (.ref a),some (.ref l),some (.ref L),some (.ref D),o4,o5,o6,o7,some (.ref O),some (.ref p),o10] /\ Ext H5 H' /\ H' O=some (.lst (JsV js)) /\ js.Perm (aw rs.length) /\ Feed H' p) ⟨_,_,rfl,x7,eO7,eN _,fp⟩ ?_ ?_
    ·rintro i σ H8 hi ⟨js,o10,rfl,x8,e8,pm,f8⟩
     o_head ⟨x8 _ _ ok5.sp,gq,rI,rI⟩
     rw[lq];refine⟨by rw[e8];rfl,f8,by omega,by omega,fun r H9 r0 r1 f9=> ?_⟩;have e9:=f9.keep O _ nPO.symm e8
     have x9:=x8.fx nP f9
     have lj:js.length=rs.length:=by rw[pm.length_eq,aU]
     rcases List.eq_nil_or_concat js with rfl|⟨is,z,hjs⟩
     ·have:([]:List Nat).length=0:=rfl
      omega
     rw[List.concat_eq_append] at hjs;subst hjs;have ej:JsV (is++[z])=JsV is++[V.int (z:Int)]:=by unfold JsV;rw[aM];rfl
     rw[e9,gL,ej];refine⟨rfl,?_⟩;rw[fO]
     change gG ((JsV is++[V.int (z:Int)]).getLast?) _
     rw[List.getLast?_concat,fO,List.dropLast_concat];have li:is.length<12:=by
      rw[aE] at lj;have:[z].length=1:=rfl
      omega
     obtain⟨q,eq⟩:∃q,q=jG (JsV is).length r:=⟨_,rfl⟩
     rw[<-eq];obtain⟨fa,fb,fc,fe⟩:=f9.feed
     refine⟨by rw[kd];omega,by omega,by omega,(x9.set nO).set nO,is.take q++[z]++is.drop q,?_,?_,⟨fa,fb,fc,(fy nPO).trans ((fy nPO).trans fe)⟩⟩
     ·unfold JsV;rw[aM,aM,eY,List.map_drop];rfl
     ·refine List.Perm.trans ?_ pm;have e:is.take q++[z]++is.drop q=is.take q++z::is.drop q:=by rw[List.append_assoc];rfl
      have e2:(is.take q++z::is.drop q).Perm (z::(is.take q++is.drop q)):=List.perm_middle
      rw[List.take_append_drop] at e2;rw[e];exact e2.trans (List.perm_append_singleton z is).symm
    ·rintro σ H8 ⟨js,o10,rfl,x8,e8,pm,f8⟩;exact⟨js,_,rfl,x8,e8,pm⟩
   rintro σ H8 ⟨js,o10,rfl,x8,e8,pm⟩;have ok8:=ok5.ext x8
   have lj:js.length=rs.length:=by rw[pm.length_eq,aU]
   have lj':(js.map (sAt rs)).length=rs.length:=by rw[ag,lj]
   refine⟨fun σ H'=>∃(T:Addr) (ts2:List Addr) (ps2:List (Nat×Nat)),σ=[some (.ref a),some (.ref l),some (.ref L),some (.ref D),o4,o5,o6,some (.ref T),some (.ref O),some (.ref p),o10] /\ Ext H8 H' /\ H' T=some (.lst (ts2.map V.ref)) /\ R2At H' ts2 (ps2.map cI) /\ TsOk (js.map (sAt rs)) (js.map (sAt rs)).length 0 ps2,?_,?_⟩
   ·walk_at "RD"
    refine iT (K:=K) (a:=O) (xs:=JsV js) (fun R hR=>by walk_at "RD";exact hR) (SqL.of e8) (by rw[kd];omega) (fun E i ys H'=>∃us:List Addr,ys=us.map V.ref /\ R2At H' us ((js.take i).map (sAt rs)) /\ H' E=some (.lst ys) /\ Ext H8 H') (fun E hE=>⟨[],rfl,⟨rfl,fun k t z a=>by simp at a⟩,fq,.upd hE⟩) ?_ ?_ ?_
    ·rintro E i ys H' hi ⟨us,rfl,r',eE,x'⟩;refine⟨eE,?_,SqL.of (x' _ _ e8)⟩;rw[ag,r'.1,ag,aZ];omega
    ·rintro E i w1 ys H' hE hi ⟨us,rfl,r',eE,x'⟩;obtain⟨j,hj,rfl⟩:=pD hi
     have jl:j<rs.length:=aT.mp (pm.mem_iff.mp (aK hj))
     obtain⟨q,hq⟩:∃q,qs[j]? =some q:=⟨_,aj (by rw[ok.at_.1];exact jl)⟩
     have hq2:=(ok8.ext x').at_.2 j q _ hq (fZ jl)
     o_head ⟨x' _ _ ok8.sp⟩
     rw[gw (j:=j) (v:=V.ref q) (by rw[ar,hq];rfl),fO];refine⟨eE,us++[q],by rw[aM];rfl,?_,x'.set hE⟩;rw[d9,hj,aM];exact(r'.snocT hq2).setT eE
    rintro E ys H9 hE ⟨us,rfl,r9,eE,x9⟩;rw[kd,b8] at r9
    o_head ⟨iw⟩
    have ok9:=ok8.ext x9
    refine⟨us,js.map (sAt rs),⟨eE,r9,?_,by omega,by omega,?_⟩,fun T ts2 ps2 H' x' _ eT rT tk2=>⟨x9.trans x',ts2,eT,ps2,rT,?_⟩⟩
    ·exact cy.mpr ((pm.nodup_iff.mpr cY).imp_of_mem fun {i j} hi hj ne=>lL ok.nd (aT.mp (pm.mem_iff.mp hi)) (aT.mp (pm.mem_iff.mp hj)) ne)
    ·exact fun r hr=>ok.sz r ((lP pm r).mp hr)
    ·exact tk2
   rintro σ H9 ⟨T',ts2,ps2,rfl,x9,eT,rT,tk2⟩;have nd2:(js.map (sAt rs)).Nodup:=cy.mpr ((pm.nodup_iff.mpr cY).imp_of_mem fun {i j} hi hj ne=>lL ok.nd (aT.mp (pm.mem_iff.mp hi)) (aT.mp (pm.mem_iff.mp hj)) ne)
   have le2:=tk2.le63 nd2 (by omega)
   have lt2:=rT.1
   rw[ag] at lt2;have e9:=x9 _ _ e8
   walk_at "RD"
   refine iT (K:=K) (a:=T') (xs:=ts2.map V.ref) (fun R hR=>by walk_at "RD";exact hR) (SqL.of eT) (by rw[ag];omega) (fun E i ys H'=>∃ws:List Addr,ys=ws.map V.ref /\ R2At H' ws (((ps2.take i).map (mpP js)).map cI) /\ H' E=some (.lst ys) /\ Ext H9 H') (fun E hE=>⟨[],rfl,⟨rfl,fun k t z a=>by simp at a⟩,fq,.upd hE⟩) ?_ ?_ ?_
   ·rintro E i ys H' hi ⟨ws,rfl,r',eE,x'⟩;refine⟨eE,?_,SqL.of (x' _ _ eT)⟩;rw[ag,r'.1,ag,ag,aZ];omega
   ·rintro E i w1 ys H' hE hi ⟨ws,rfl,r',eE,x'⟩;obtain⟨t,ht,rfl⟩:=gN hi
    obtain⟨z,hz⟩:∃z,ps2[i]? =some z:=⟨_,aj (by rw[<-lt2];exact(ah.mp ht).1)⟩
    have hw:=rT.2 i t (cI z) ht (by rw[ar,hz];rfl)
    obtain⟨b1,b2,_⟩:=tk2.bd z (aK hz)
    rw[lj'] at b2
    o_head ⟨jH,j5,pb,x' _ _ hw,x' _ _ e9,cI,rI⟩
    have a1:=j4 pm (show z.1<rs.length by omega)
    have a2:=j4 pm b2
    rw[gw (j:=z.1) (v:=V.int ((js.getD z.1 0:Nat):Int)) (by unfold JsV;rw[ar,a1.1];rfl),fO,gw (j:=z.2) (v:=V.int ((js.getD z.2 0:Nat):Int)) (by unfold JsV;rw[ar,a2.1];rfl),fO];refine⟨by decide,fun p1 h1=> ?_⟩;refine⟨p1,[((js.getD z.1 0:Nat):Int),((js.getD z.2 0:Nat):Int)],rfl,SqL.of fq,by simp,fun p2 ms h2 pm2 sm=> ?_⟩;obtain rfl:=mN pm2 sm
    refine⟨p2,_,rfl,.inl ⟨SqL.of fq,fun t2 h3=> ?_⟩⟩;have xx:=((Ext.upd (o:= .lst [.int ((js.getD z.1 0:Nat):Int),.int ((js.getD z.2 0:Nat):Int)]) h1).then (o:= .lst ([((min (js.getD z.1 0) (js.getD z.2 0):Nat):Int),((max (js.getD z.1 0) (js.getD z.2 0):Nat):Int)].map V.int)) h2).then (o:= .tup ([((min (js.getD z.1 0) (js.getD z.2 0):Nat):Int),((max (js.getD z.1 0) (js.getD z.2 0):Nat):Int)].map V.int)) h3
    have e3:=xx _ _ eE
    refine⟨e3,ws++[t2],by rw[aM];rfl,?_,(x'.trans xx).set hE⟩;rw[d9,hz,aM,aM];exact((r'.ext xx).snocT (z:=cI (mpP js z)) fq).setT e3
   rintro E ys H10 hE ⟨ws,rfl,r10,eE,x10⟩;rw[ag,lt2,b8] at r10;have lw:ws.length=ps2.length:=by rw[r10.1,ag,ag]
   refine⟨E,ws.map V.ref,gH H10,1,rfl,SqL.of eE,by rw[ag];omega,fun x hx=> ?_,fun W q hW hq=> ?_⟩
   ·obtain⟨k,hk⟩:=bF hx
    obtain⟨p,hp,rfl⟩:=gN hk
    have lk:=(ah.mp hp).1
    obtain⟨e1,e2⟩:=nH r10 (k:=k) (by rw[ag];omega)
    have ep:ws.getD k 0=p:=by rw[aA,hp];rfl
    rw[ep] at e2;have eg:gH H10 (.ref p)=[(((((ps2.map (mpP js)).getD k (0,0)).1:Nat):Int)),(((((ps2.map (mpP js)).getD k (0,0)).2:Nat):Int))]:=by
     show(match H10 p with|some (.tup [.int a,.int b])=>[a,b]|_=>[])=_
     rw[e2]
    rw[eg];exact⟨rfl,p,rfl,e2⟩
   obtain⟨s1,s2,s3,s4⟩:=om r10 hq
   have ed:=lR pm tk tk2 s3 s4
   rw[ed] at s2;rw[s1];have xW:=Ext.upd (H:=H10) (o:= .lst ((q.map fun k=>ws.getD k 0).map V.ref)) hW
   have xA:=(x5.trans x8).trans (x9.trans (x10.trans xW))
   refine⟨.list ((ps.map cI).map t2d),.list ((ps.map cI).map t2d),.lst (SqL.of fq) (ic (s2.ext xW)),.lst (SqL.of (xA _ _ e4)) (ic (r4.ext xA)),gs _,gs _,?_⟩;rw[mq];exact h _
end
end LW
namespace LW
open PySem L2 MA PyProof.Rows
theorem kU{us:List Value}(h:us.length=1):∃u0,us=[u0]:=by
 obtain _|⟨u0,us⟩:=us
 ·cases h
 cases us with
 |nil=>exact⟨u0,rfl⟩
 |cons a r=>simp at h
theorem jD{us:List Value}(h:us.length=2):∃u0 u1,us=[u0,u1]:=by
 obtain _|⟨u0,us⟩:=us
 ·cases h
 obtain _|⟨u1,us⟩:=us
 ·cases h
 cases us with
 |nil=>exact⟨u0,u1,rfl⟩
 |cons a r=>simp at h
theorem l6{us:List Value}(h:us.length=3):∃u0 u1 u2,us=[u0,u1,u2]:=by
 obtain _|⟨u0,us⟩:=us
 ·cases h
 obtain _|⟨u1,us⟩:=us
 ·cases h
 obtain _|⟨u2,us⟩:=us
 ·cases h
 cases us with
 |nil=>exact⟨u0,u1,u2,rfl⟩
 |cons a r=>simp at h
theorem all_mk:AllMk:=by
 intro l w K h mg fa X G hfa f_divisor od_divisor an_divisor sl_divisor oc_divisor kV_divisor dc_divisor pm_divisor cd_divisor ct_divisor f_sign od_sign an_sign sl_sign oc_sign kV_sign dc_sign pm_sign cd_sign ct_sign f_point_of od_point_of an_point_of sl_point_of oc_point_of kV_point_of dc_point_of pm_point_of cd_point_of ct_point_of f_fraction_of od_fraction_of an_fraction_of sl_fraction_of oc_fraction_of kV_fraction_of dc_fraction_of pm_fraction_of cd_fraction_of ct_fraction_of f_less od_less an_less sl_less oc_less kV_less dc_less pm_less cd_less ct_less f_check_count od_check_count an_check_count sl_check_count oc_check_count kV_check_count dc_check_count pm_check_count cd_check_count ct_check_count f_check_spots od_check_spots an_check_spots sl_check_spots oc_check_spots kV_check_spots dc_check_spots pm_check_spots cd_check_spots ct_check_spots f_check_number od_check_number an_check_number sl_check_number oc_check_number kV_check_number dc_check_number pm_check_number cd_check_number ct_check_number f_lead od_lead an_lead sl_lead oc_lead kV_lead dc_lead pm_lead cd_lead ct_lead f_point_along od_point_along an_point_along sl_point_along oc_point_along kV_point_along dc_point_along pm_point_along cd_point_along ct_point_along f_reach_within od_reach_within an_reach_within sl_reach_within oc_reach_within kV_reach_within dc_reach_within pm_reach_within cd_reach_within ct_reach_within f_reach od_reach an_reach sl_reach oc_reach kV_reach dc_reach pm_reach cd_reach ct_reach f_reaches od_reaches an_reaches sl_reaches oc_reaches kV_reaches dc_reaches pm_reaches cd_reaches ct_reaches f_ties od_ties an_ties sl_ties oc_ties kV_ties dc_ties pm_ties cd_ties ct_ties f__law_feed od__law_feed an__law_feed sl__law_feed oc__law_feed kV__law_feed dc__law_feed pm__law_feed cd__law_feed ct__law_feed f__law_next od__law_next an__law_next sl__law_next oc__law_next kV__law_next dc__law_next pm__law_next cd__law_next ct__law_next f__law_great od__law_great an__law_great sl__law_great oc__law_great kV__law_great dc__law_great pm__law_great cd__law_great ct__law_great f__law_spot od__law_spot an__law_spot sl__law_spot oc__law_spot kV__law_spot dc__law_spot pm__law_spot cd__law_spot ct__law_spot f__law_spots od__law_spots an__law_spots sl__law_spots oc__law_spots kV__law_spots dc__law_spots pm__law_spots cd__law_spots ct__law_spots f_law od_law an_law sl_law oc_law kV_law dc_law pm_law cd_law ct_law tk_MOST_SPOTS a_divisor l_divisor c_divisor k_divisor a_sign l_sign c_sign k_sign a_point_of l_point_of c_point_of k_point_of a_fraction_of l_fraction_of c_fraction_of k_fraction_of a_less l_less c_less k_less a_check_count l_check_count c_check_count k_check_count a_check_spots l_check_spots c_check_spots k_check_spots a_check_number l_check_number c_check_number k_check_number a_lead l_lead c_lead k_lead a_point_along l_point_along c_point_along k_point_along a_reach_within l_reach_within c_reach_within k_reach_within a_reach l_reach c_reach k_reach a_reaches l_reaches c_reaches k_reaches a_ties l_ties c_ties k_ties a__law_feed l__law_feed c__law_feed k__law_feed a__law_next l__law_next c__law_next k__law_next a__law_great l__law_great c__law_great k__law_great a__law_spot l__law_spot c__law_spot k__law_spot a__law_spots l__law_spots c__law_spots k__law_spots a_law l_law c_law k_law z_abs z_all z_enumerate z_isinstance z_len z_list z_min z_range z_sorted z_tuple a_MOST_SPOTS;have e:=hfa.symm.trans (aG X G a_law)
 cases e;have T:Txt K mg ⟨⟩:=⟨aS X G z_abs,aS X G z_all,aS X G z_enumerate,aS X G z_isinstance,aS X G z_len,aS X G z_list,aS X G z_min,aS X G z_range,aS X G z_sorted,aS X G z_tuple,⟨_,aG X G a_MOST_SPOTS⟩⟩
 have U_divisor:=fX (st:=s_divisor) l_divisor c_divisor k_divisor
 have B_divisor:=U_divisor.binds (ps:=["one","other"]) fun _ _ _ _ _ _ us hl=>by obtain⟨u0,u1,rfl⟩:=jD hl;rfl
 have U_sign:=fX (st:=s_sign) l_sign c_sign k_sign
 have B_sign:=U_sign.binds (ps:=["number"]) fun _ _ _ _ _ _ us hl=>by obtain⟨u0,rfl⟩:=kU hl;rfl
 have U_point_of:=fX (st:=s_point_of) l_point_of c_point_of k_point_of
 have B_point_of:=U_point_of.binds (ps:=["x","y","w"]) fun _ _ _ _ _ _ us hl=>by obtain⟨u0,u1,u2,rfl⟩:=l6 hl;rfl
 have U_fraction_of:=fX (st:=s_fraction_of) l_fraction_of c_fraction_of k_fraction_of
 have B_fraction_of:=U_fraction_of.binds (ps:=["top","bottom"]) fun _ _ _ _ _ _ us hl=>by obtain⟨u0,u1,rfl⟩:=jD hl;rfl
 have U_less:=fX (st:=s_less) l_less c_less k_less
 have B_less:=U_less.binds (ps:=["one","other"]) fun _ _ _ _ _ _ us hl=>by obtain⟨u0,u1,rfl⟩:=jD hl;rfl
 have U_check_count:=fX (st:=s_check_count) l_check_count c_check_count k_check_count
 have B_check_count:=U_check_count.binds (ps:=["spots"]) fun _ _ _ _ _ _ us hl=>by obtain⟨u0,rfl⟩:=kU hl;rfl
 have U_check_spots:=fX (st:=s_check_spots) l_check_spots c_check_spots k_check_spots
 have B_check_spots:=U_check_spots.binds (ps:=["spots"]) fun _ _ _ _ _ _ us hl=>by obtain⟨u0,rfl⟩:=kU hl;rfl
 have U_check_number:=fX (st:=s_check_number) l_check_number c_check_number k_check_number
 have B_check_number:=U_check_number.binds (ps:=["spots","number"]) fun _ _ _ _ _ _ us hl=>by obtain⟨u0,u1,rfl⟩:=jD hl;rfl
 have U_lead:=fX (st:=s_lead) l_lead c_lead k_lead
 have B_lead:=U_lead.binds (ps:=["first","second","third"]) fun _ _ _ _ _ _ us hl=>by obtain⟨u0,u1,u2,rfl⟩:=l6 hl;rfl
 have U_point_along:=fX (st:=s_point_along) l_point_along c_point_along k_point_along
 have B_point_along:=U_point_along.binds (ps:=["first","second","place"]) fun _ _ _ _ _ _ us hl=>by obtain⟨u0,u1,u2,rfl⟩:=l6 hl;rfl
 have U_reach_within:=fX (st:=s_reach_within) l_reach_within c_reach_within k_reach_within
 have B_reach_within:=U_reach_within.binds (ps:=["spots","one","other"]) fun _ _ _ _ _ _ us hl=>by obtain⟨u0,u1,u2,rfl⟩:=l6 hl;rfl
 have U_reach:=fX (st:=s_reach) l_reach c_reach k_reach
 have B_reach:=U_reach.binds (ps:=["spots","one","other"]) fun _ _ _ _ _ _ us hl=>by obtain⟨u0,u1,u2,rfl⟩:=l6 hl;rfl
 have U_reaches:=fX (st:=s_reaches) l_reaches c_reaches k_reaches
 have B_reaches:=U_reaches.binds (ps:=["spots"]) fun _ _ _ _ _ _ us hl=>by obtain⟨u0,rfl⟩:=kU hl;rfl
 have U_ties:=fX (st:=s_ties) l_ties c_ties k_ties
 have B_ties:=U_ties.binds (ps:=["spots"]) fun _ _ _ _ _ _ us hl=>by obtain⟨u0,rfl⟩:=kU hl;rfl
 have U__law_feed:=fX (st:=s__law_feed) l__law_feed c__law_feed k__law_feed
 have B__law_feed:=U__law_feed.binds (ps:=["_law_script","_law_k"]) fun _ _ _ _ _ _ us hl=>by obtain⟨u0,u1,rfl⟩:=jD hl;rfl
 have U__law_next:=fX (st:=s__law_next) l__law_next c__law_next k__law_next
 have B__law_next:=U__law_next.binds (ps:=["_law_feed_here","_law_many"]) fun _ _ _ _ _ _ us hl=>by obtain⟨u0,u1,rfl⟩:=jD hl;rfl
 have U__law_great:=fX (st:=s__law_great) l__law_great c__law_great k__law_great
 have B__law_great:=U__law_great.binds (ps:=["_law_feed_here","_law_far"]) fun _ _ _ _ _ _ us hl=>by obtain⟨u0,u1,rfl⟩:=jD hl;rfl
 have U__law_spot:=fX (st:=s__law_spot) l__law_spot c__law_spot k__law_spot
 have B__law_spot:=U__law_spot.binds (ps:=["_law_feed_here","_law_style"]) fun _ _ _ _ _ _ us hl=>by obtain⟨u0,u1,rfl⟩:=jD hl;rfl
 have U__law_spots:=fX (st:=s__law_spots) l__law_spots c__law_spots k__law_spots
 have B__law_spots:=U__law_spots.binds (ps:=["_law_script"]) fun _ _ _ _ _ _ us hl=>by obtain⟨u0,rfl⟩:=kU hl;rfl
 have U_law:=fX (st:=s_law) l_law c_law k_law
 refine⟨aB "law" "law" (fM s_law) (fG s_law) (fm s_law) .none kV_law dc_law pm_law an_law cd_law ct_law,fun s v=> .of_eq rfl,fun base X1 G1=> ?_⟩;have F_divisor:FnB l.prog w K mg base (CXE l.prog w) 1 "divisor" ["one","other"] gp:= .of (ok_divisor U_divisor T) (aG X G a_divisor) k_divisor B_divisor
 have F_sign:FnB l.prog w K mg base (CXE l.prog w) 1 "sign" ["number"] g8:= .of (ok_sign U_sign T) (aG X G a_sign) k_sign B_sign
 have F_point_of:FnB l.prog w K mg base (CXE l.prog w) 2 "point_of" ["x","y","w"] gA:= .of (ok_point_of U_point_of T F_divisor F_sign) (aG X G a_point_of) k_point_of B_point_of
 have F_fraction_of:FnB l.prog w K mg base (CXE l.prog w) 2 "fraction_of" ["top","bottom"] gd:= .of (ok_fraction_of U_fraction_of T F_divisor F_sign) (aG X G a_fraction_of) k_fraction_of B_fraction_of
 have F_less:FnB l.prog w K mg base (CXE l.prog w) 1 "less" ["one","other"] jS:= .of (ok_less U_less T) (aG X G a_less) k_less B_less
 have F_check_count:FnB l.prog w K mg base (CXE l.prog w) 1 "check_count" ["spots"] gf:= .of (ok_check_count U_check_count T) (aG X G a_check_count) k_check_count B_check_count
 have F_check_spots:FnB l.prog w K mg base (CXE l.prog w) 2 "check_spots" ["spots"] (kP K):= .of (ok_check_spots U_check_spots T F_check_count) (aG X G a_check_spots) k_check_spots B_check_spots
 have F_check_number:FnB l.prog w K mg base (CXE l.prog w) 1 "check_number" ["spots","number"] fY:= .of (ok_check_number U_check_number T) (aG X G a_check_number) k_check_number B_check_number
 have F_lead:FnB l.prog w K mg base (CXE l.prog w) 1 "lead" ["first","second","third"] jT:= .of (ok_lead U_lead T) (aG X G a_lead) k_lead B_lead
 have F_point_along:FnB l.prog w K mg base (CXE l.prog w) 3 "point_along" ["first","second","place"] gZ:= .of (ok_point_along U_point_along T F_point_of) (aG X G a_point_along) k_point_along B_point_along
 have F_reach_within:FnB l.prog w K mg base (CXE l.prog w) 4 "reach_within" ["spots","one","other"] (lI K):= .of (ok_reach_within U_reach_within T F_point_along F_less F_fraction_of F_lead) (aG X G a_reach_within) k_reach_within B_reach_within
 have F_reach:FnB l.prog w K mg base (CXE l.prog w) 5 "reach" ["spots","one","other"] (io K):= .of (ok_reach U_reach T F_reach_within F_check_number F_check_spots) (aG X G a_reach) k_reach B_reach
 have F_reaches:FnB l.prog w K mg base (CXE l.prog w) 5 "reaches" ["spots"] (gM K):= .of (ok_reaches U_reaches T F_reach_within) (aG X G a_reaches) k_reaches B_reaches
 have F_ties:FnB l.prog w K mg base (CXE l.prog w) 6 "ties" ["spots"] (iw K):= .of (ok_ties U_ties T F_reaches F_check_spots) (aG X G a_ties) k_ties B_ties
 have F__law_feed:FnB l.prog w K mg base (CXE l.prog w) 1 "_law_feed" ["_law_script","_law_k"] (gT K):= .of (ok__law_feed U__law_feed T) (aG X G a__law_feed) k__law_feed B__law_feed
 have F__law_next:FnB l.prog w K mg base (CXE l.prog w) 1 "_law_next" ["_law_feed_here","_law_many"] gq:= .of (ok__law_next U__law_next T) (aG X G a__law_next) k__law_next B__law_next
 have F__law_great:FnB l.prog w K mg base (CXE l.prog w) 2 "_law_great" ["_law_feed_here","_law_far"] iY:= .of (ok__law_great U__law_great T F__law_next) (aG X G a__law_great) k__law_great B__law_great
 have F__law_spot:FnB l.prog w K mg base (CXE l.prog w) 3 "_law_spot" ["_law_feed_here","_law_style"] iX:= .of (ok__law_spot U__law_spot T F__law_great F__law_next) (aG X G a__law_spot) k__law_spot B__law_spot
 have F__law_spots:FnB l.prog w K mg base (CXE l.prog w) 4 "_law_spots" ["_law_script"] (il K):= .of (ok__law_spots U__law_spots T F__law_feed F__law_spot F__law_next) (aG X G a__law_spots) k__law_spots B__law_spots
 exact ok_law U_law T F_ties F__law_next F__law_feed F_reach F__law_spots
end LW
end
theorem PySem.Challenge.cw_nearlands_k54_ties_holds : PySem.Challenge.rw_nearlands_k54_ties.Holds := by
 exact LW.early LW.all_mk
