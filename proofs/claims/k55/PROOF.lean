import PyProof.Rows.All
import Wide.All
import OpenK.AllK
import Wide.FinOn
import Lean
import PyProof.EqAt
import PyProof.EqKinds
import PyProof.TupleCall
import PySem.Challenge.RW_termcourt_k55_histories_in_any_order
set_option Elab.async false
set_option linter.all false
set_option maxRecDepth 100000
/-! THE HAND LAYER,for ints,bools,texts,own classes,LISTS and tuples (index,slices,in,append,pop ..),calls,loops. Paste it whole ahead of your own text; what your proof does not reach may be deleted. -/
local macro_rules|`(Ez)=>`(by decide +kernel)|`(Uk)=>`(by decide)
open PySem.Str renaming ofString->Aa,empty->Ba
open List renaming length_map->Ab,getElem?_eq_some_iff->Ac,getElem?_eq_getElem->Ae,length_append->Af,getElem?_map->Ag,mem_singleton->Ai,size_toArray->Aj,getD_eq_getElem?_getD->Ak,mem_cons_self->Am,range->Ao,length_range->Aq,map_append->Ar,mem_cons->Av,mem_cons_of_mem->Ay,mem_append_right->A1,mem_of_getElem?->A2,mem_append->A7,set_cons_succ->AA,set_cons_zero->AB,length_cons->AG,getElem?_append_left->AH,getElem?_eq_none->AI,not_mem_nil->AM,mem_range->AN,getElem?_append_right->AS,mem_map->AU,getElem?_range->AV,map_cons->AX,length_singleton->AY,pairwise_iff_getElem->Bd,length_take->Bj,pairwise_append->Bk,pairwise_cons->Bs,range_succ->Bt,getElem?_of_mem->Bv,take_length->Bw,length_reverse->Bx,mem_append_left->Bz,take_add_one->B0,append_nil->BC,length_drop->BE,filterMap_cons_some->BF,eq_nil_or_concat->BG,concat_eq_append->BH,take_append_drop->BI,lookup_cons->BK,map_congr_left->BL,contains_iff_mem->BO,mem_filter->BQ,mem_filterMap->BS,getElem_mem->BV,ext_getElem?->BZ,map_map->Ca,length_pos_iff->Cd,drop_eq_getElem_cons->Cf,filter_append->Ch,reverse_cons->Cm,pairwise_map->Cn,pairwise_singleton->Co,filter_cons_of_pos->Cr,nodup_cons->Cu,find?_cons->Cv,Nodup->Cw,getElem_of_mem->Cy,all_eq_true->C4,length_dropLast->CD,filterMap_cons_none->CH,any_eq_true->CJ,filter_cons_of_neg->CK,lookup->CL,take_of_length_le->CP,length_filter_le->CU,getElem?_reverse->CV,foldl_append->CY,nodup_range->De,getLast?_eq_getElem?->Df,getElem?_eq_none_iff->Dg,getElem_range->Do,length->Dq,getElem?_cons_succ->Dt,getElem?_set_self->Du,filterMap->Dz,take_zero->D3,append_eq_nil_iff->D7,perm_append_comm->DA,filter_cons->DD,map_reverse->DF,any_cons->DG,map_take->DJ,getElem?_set_ne->DK,getLast?_append->DO,length_take_le'->DP,eq_nil_of_length_eq_zero->DQ,length_nil->DR,filterMap_cons->DT,getElem_take->Ek,getElem?_inj->El,append_assoc->Em,map_drop->Es
open PySem renaming Shared->Ad,Spec->An,FuncData->Aw,wpAny_bind->Az,sizeLine->A5,mainGlobals->A6,Program->AK,Around->AO,PassesOwn->AW,wpAny_pure->Bf,sizeLine_eq->Bq,NameKind->Bu,wpAny_truthy_bool->B6,wpAny_passesOwn->BA,Builtin->BD,wpAny_mono->BR,mem_of_lookup->Cc,wpAny_Call_Name_kw->Cg,tupleKind_room_in1->C8,wpAny_holding->CS,Paired->Dh,wpAny_execs_nil->Dk,call_meets->DB,call_meetsIn->DX,slot_list_getitem->Eh,wpAny_standAt->En,evalPart_none->Eo,GenState->Et,Within->Ex
open PySem.W renaming Frag->Ah,nsIn->AJ,kitOne->AR,mg_of->Bc,findIn->Be,fnOf->Bh,mg_none_of->Bi,keepIn->Br,codeIn->B3,kia_one->BJ,emptyDict->BM,instObj->Cs,typeIn->C7,plainGet->Db,callWith_K->Dm,hasDictIn->Dv,methodCall_KW->D8,kla_obj->DI,plainGet_of->DU,isFn->DW,peek->DY,lookIn->Ea,methodObj->Ef,plainOver->Eg
open Nat renaming le_refl->Al,lt_of_lt_of_le->A0,le_trans->A9,ne_of_lt->AE,zero_le->AQ,not_lt_zero->Bg,le_of_lt->B9,lt_succ_self->BU,lt_irrefl->BX,le_of_eq->BY,ne_of_gt->Ci,le_succ_of_le->Cq,le_succ->C3,succ_le_succ->C5,lt_of_le_of_lt->CO,sub_self->D4,lt_succ_of_lt->D5,not_lt->DE,add_le_add_right->DN,min_le_left->DS,mul_le_mul_left->DV,add_sub_cancel->Ee
open PySem.Heap renaming get?_push_of_some->As,lt_size->AC,get?_push_size->AT,SameBut->CB,size_push->Dw,get?_update_other->Dy
open Or renaming inl->Au,inr->DC
open PySem.F renaming plainAttrs_list->Ax,slot_list_append->A3,type_list_append->A4,slot_dict_get->BN,entry_dict_get->C0,slot_list_extend->Di,type_list_extend->Dj,args_dict_get_2->Dr,slot_list_iadd->Eu
open PySem.PassesOwn renaming never->A8
open Option.some renaming inj->AD
open Bool renaming false_ne_true->AF,and_eq_true->B4,and_false->Ck,eq_iff_iff->CA,false_and->CI,false_or->DH,false_eq_true->Eb,or_false->Ep,and_true->Er
open PySem.SeqAt renaming EqAt->AZ
open Int renaming lt_of_lt_of_le->Bb,le_trans->Bm,le_refl->Bo,not_lt->B2,toNat_natCast->B8,emod_nonneg->Ce,zero_add->Cj,toNat_of_nonneg->Cz,add_zero->C2,emod_lt_of_pos->C9,lt_trans->CF,le_of_lt->Dc,ofNat_le->Dd,natCast_nonneg->Dn,ofNat_lt->D6,le_of_lt_add_one->DM,lt_of_le_of_lt->Ec,le_add_one->Ed,natCast_zero->Ev
open PySem.Value renaming ref->Bl,none->C6,type->CZ,int->Da,str->Dp,bool->DZ
open PySem.NameKind renaming free->Bp
open Ne renaming symm->By
open PySem.Obj renaming mapSeq->B1
open Option renaming isSome_iff_exists->BP,map_some->Dl,isSome_map->Ej
open PyProof.Rows renaming callWith_type1->BW
open Array renaming length_toList->Cb,getD_eq_getD_getElem?->C1,getElem?_toList->D9
open False renaming elim->Ct
open True renaming intro->CG
open PySem.Calls renaming spliced_cons->CM,callWith_builtin->CN,spliced_nil->Dx,evalArgs_plain->DL
open ForInStep renaming yield->CQ
open Sum renaming inr->CW,inl->Ew
open List.Pairwise renaming nil->Ei
theorem Z.{u}{α:Sort u}{a:α}:a=a:=rfl
namespace L2
open PySem PySem.Spec PyProof.Rows
noncomputable abbrev Key:=Sum Int Str
noncomputable def qj0:Key->Value->Bool
 |.inl k,v=>Value.isInt k v
 |.inr x,v=>Value.isStrOf x v
noncomputable def keyH (w:World):Key->Int
 |.inl k=>hashInt k
 |.inr x=>hashStr w x
theorem qaq:∀{k:Key}{v:Value},qj0 k v=true->(∃i t,k=Ew i/\v=Da i t)\/(∃x t,k=CW x/\v=Dp x t)
 |.inl i,v,h=>by obtain⟨t,e⟩:=Value.isInt_shape (k:=i) (v:=v) h;exact .inl ⟨i,t,Z,e⟩
 |.inr x,v,h=>by obtain⟨t,e⟩:=Value.isStrOf_shape (x:=x) (v:=v) h;exact .inr ⟨x,t,Z,e⟩
theorem qt8 (i:Int)(t:Tok):qj0 (.inl i) (.int i t)=true:=by simp[qj0,Value.isInt]
theorem qt9 (x:Str)(t:Tok):qj0 (.inr x) (.str x t)=true:=by simp[qj0,Value.isStrOf]
theorem key_ll (a b:Int):decide ((Ew a:Key)=Ew b)=(a == b):=by
 by_cases e:a=b
 .subst e;simp
 .have h:¬(Ew a:Key)=Ew b:=λq=>e (Ew.inj q);rw[decide_eq_false h];exact(beq_eq_false_iff_ne.mpr e).symm
theorem key_rr (a b:Str):decide ((CW a:Key)=CW b)=decide (a=b):=by
 by_cases e:a=b
 .subst e;simp
 .have h:¬(CW a:Key)=CW b:=λq=>e (CW.inj q);rw[decide_eq_false h,decide_eq_false e]
theorem key_lr (a:Int)(b:Str):decide ((Ew a:Key)=CW b)=false:=decide_eq_false (λq=>nomatch q)
theorem key_rl (a:Str)(b:Int):decide ((CW a:Key)=Ew b)=false:=decide_eq_false (λq=>nomatch q)
noncomputable def qap (prog:AK)(w:World):PySem.KeyKind prog w Key where
 is:=qj0
 hash:=keyH w
 inj:=λv a b ha hb=>by
  rcases qaq ha with ⟨i,t,rfl,rfl⟩|⟨x,t,rfl,rfl⟩
  .rcases qaq hb with ⟨j,u,rfl,e⟩|⟨y,u,rfl,e⟩
   .injection e with e1 _;rw[e1]
   .exact nomatch e
  .rcases qaq hb with ⟨j,u,rfl,e⟩|⟨y,u,rfl,e⟩
   .exact nomatch e
   .injection e with e1 _;rw[e1]
 byValue:=λk v h=>by rcases qaq h with ⟨i,t,rfl,rfl⟩|⟨x,t,rfl,rfl⟩ <;>rfl
 pyHash:=λhv h=>by
  rcases qaq hv with ⟨i,t,rfl,rfl⟩|⟨x,t,rfl,rfl⟩
  .exact wpAny_pyHash_int h
  .exact wpAny_pyHash_str h
 eqBool:=λhu hv h=>by
  rcases qaq hu with ⟨i,t,rfl,rfl⟩|⟨x,t,rfl,rfl⟩
  .rcases qaq hv with ⟨j,u,rfl,rfl⟩|⟨y,u,rfl,rfl⟩
   .rw[key_ll]at h;exact wpAny_eqBool_int h
   .rw[key_lr]at h;exact AZ.int_str i t y u _ _ _ _ h
  .rcases qaq hv with ⟨j,u,rfl,rfl⟩|⟨y,u,rfl,rfl⟩
   .rw[key_rl]at h;exact AZ.str_int x t j u _ _ _ _ h
   .rw[key_rr]at h;exact wpAny_eqBool_str h
 «strs» := λk x t v h=>by
  rcases qaq h with ⟨i,u,rfl,e⟩|⟨y,u,rfl,e⟩
  .exact nomatch e
  .injection e with e1 _;subst e1;cases v <;>rfl
theorem qpe (prog:AK)(w:World)(i:Int)(t:Tok):(qap prog w).is (.inl i) (.int i t)=true:=qt8 i t
theorem qpf (prog:AK)(w:World)(x:Str)(t:Tok):(qap prog w).is (.inr x) (.str x t)=true:=qt9 x t
end L2
namespace L2
open PySem PySem.Spec PyProof.Rows
inductive V where
 |non|bl (b:Bool)|int (i:Int)|str (x:Str)|byt (b:Array UInt8)|flt (b:UInt64)|ref (a:Addr)|ty (n:String)
 deriving DecidableEq
def RelV:V->Value->Prop
 |.non,u=>u=C6
 |.bl b,u=>u=DZ b
 |.int i,u=>∃t,u=Da i t
 |.str x,u=>∃t,u=Dp x t
 |.byt b,u=>∃t,u=Value.bytes b t
 |.flt b,u=>∃t,u=Value.float b t
 |.ref a,u=>u=Bl a
 |.ty n,u=>u=CZ n
noncomputable abbrev Vals:List V->List Value->Prop:=Dh RelV
theorem Vals.length {xs:List V}{us:List Value}(r:Vals xs us):xs.length=us.length:=Dh.length r
theorem Vals.get:∀{xs:List V}{us:List Value}{i:Nat}{x:V},Vals xs us->xs[i]?=some x->∃u,us[i]?=some u/\RelV x u
 |_,_,_,_,.nil,e=>by simp at e
 |_,_,0,_,.cons r _,e=>by simp at e;subst e;exact⟨_,Z,r⟩
 |_,_,i+1,x,.cons _ t,e=>by obtain⟨u,b,a⟩:=Vals.get (i:=i) (x:=x) t (by simpa using e);exact⟨u,by simpa using b,a⟩
theorem Vals.set {x:V}{u:Value}(r:RelV x u):∀{xs:List V}{us:List Value}(i:Nat),Vals xs us->Vals (xs.set i x) (us.set i u)
 |_,_,_,.nil=>.nil
 |_,_,0,.cons _ t=>.cons r t
 |_,_,i+1,.cons q t=>.cons q (Vals.set r i t)
theorem Vals.append:∀{xs ys:List V}{us a:List Value},Vals xs us->Vals ys a->Vals (xs++ys) (us++a)
 |_,_,_,_,.nil,s=>s
 |_,_,_,_,.cons r t,s=>.cons r (Vals.append t s)
theorem Vals.take:∀{xs:List V}{us:List Value}(n:Nat),Vals xs us->Vals (xs.take n) (us.take n)
 |_,_,0,_=>.nil
 |_,_,_+1,.nil=>.nil
 |_,_,n+1,.cons r t=>.cons r (Vals.take n t)
theorem Vals.drop:∀{xs:List V}{us:List Value}(n:Nat),Vals xs us->Vals (xs.drop n) (us.drop n)
 |_,_,0,r=>r
 |_,_,_+1,.nil=>.nil
 |_,_,n+1,.cons _ t=>Vals.drop n t
def RelO:Option V->Option Value->Prop
 |some v,some u=>RelV v u
 |none,none=>True
 |_,_=>False
noncomputable def KV {κ:Type}:List (κ×V)->List (κ×Value)->Prop:=Dh λ(p:κ×V)(q:κ×Value)=>p.1=q.1/\RelV p.2 q.2
noncomputable def kV:Key->V
 |.inl i=>.int i
 |.inr x=>.str x
inductive HO where
 /-- a list -/
 |lst (xs:List V)
 /-- a tuple (never changes) -/
 |tup (xs:List V)
 /-- a dict whose keys are ints and texts;one whose keys are tuples of ints and texts (the empty one is both) -/
 |dK (kvs:List (Key×V))|dT (kvs:List (List Key×V))
 /-- a set of ints: its members,its size -/
 |set (S:Int->Bool) (n:Nat)
 /-- an instance of the class at C,its dict at dx,its attributes -/
 |ins (C dx:Addr) (fs:List (Str×V))
 /-- the dict of the instance at x -/
 |own (x:Addr)
 /-- the dict of an exception -/
 |xd (fs:List (Str×V))
 /-- a bound method,f of x -/
 |met (f x:Addr)
 /-- a range object lo,lo+1,.. below hi -/
 |rng (lo hi:Int)
 /-- a thing that is known to the object (the script;a dict while a loop walks it): read,never written while it is so -/
 |frz (o:Obj) (u:HO)
 /-- a code object's table -/
 |tbl (ps:Array Value)
 /-- any other thing,by what is true of its one object (a def of one's own: SetO a S n:=HO.ext λh=>..) -/
 |ext (φ:Heap->Prop)
noncomputable abbrev Hp:=Addr->Option HO
noncomputable def upd (H:Hp)(a:Addr)(o:HO):Hp:=λb=>if b=a then some o else H b
theorem qk {H:Hp}{a:Addr}{o:HO}:upd H a o a=some o:=by unfold upd;rw[if_pos Z]
theorem qr {H:Hp}{a b:Addr}{o:HO}(h:b≠a):upd H a o b=H b:=by unfold upd;rw[if_neg h]
theorem qsx {H:Hp}{a:Addr}{o u:HO}:upd (upd H a o) a u=upd H a u:=by funext b;unfold upd;split <;>rfl
theorem ne_of {H:Hp}{a b:Addr}{o u:HO}(h:H a=some o)(h':H b=some u)(d:o≠u):a≠b:=by intro e;subst e;rw[h]at h';exact d (AD h')
theorem qae {H:Hp}{a b:Addr}{o:HO}(h:H a=some o)(h':H b=none):a≠b:=by intro e;subst e;rw[h]at h';cases h'
section
variable (P:AK)(w:World)
def ObjOk (H:Hp)(h:Heap)(a:Addr):HO->Prop
 |.lst xs=>xs.length<=A5/\∃(its:List Value)(n:Nat),Vals xs its/\h.get? a=some {cls:=.type "list",data:=.seq its.toArray n}
 |.tup xs=>xs.length<=A5/\∃its:List Value,Vals xs its/\IsTup h a its.toArray
 |.dK kvs=>kvs.length<=A5/\(a == sysModules)=false/\∃vs,KV kvs vs/\h.DictOf (qap P w) a vs
 |.dT kvs=>kvs.length<=A5/\(a == sysModules)=false/\∃xs:List (List Key×Addr×Value),
   Dh (λ(p:List Key×V)(q:List Key×Addr×Value)=>p.1=q.1/\H q.2.1=some (.tup (p.1.map kV))/\RelV p.2 q.2.2) kvs xs /\
   ∃o es ep,h.get? a=some o/\o.ExactDict/\o.data=.dict es ep/\es.toList=xs.map (entryOfKey (tupleKind (qap P w)))/\(xs.map (·.1)).Nodup
 |.set S n=>h.SetOf (intKind P w) a S n
 |.ins C dx fs=>H dx=some (.own a)/\fs.length<=1000/\dx≠a/\h.get? a=some (Cs C dx) /\
   ∃mA,h.Ns1 dx mA/\(∀f,RelO (fs.lookup f) (mA f))/\Ex mA (fs.map (·.1))
 |.own _=>∃o,h.get? a=some o
 |.xd fs=>∃mA,h.Ns1 a mA/\∀f,RelO (fs.lookup f) (mA f)
 |.rng lo hi=>∃t u v,h.get? a=some {cls:=.type "range",data:=.fields #[.int lo t,.int hi u,.int 1 v]}
 |.frz o u=>h.get? a=some o/\ObjOk H h a u
 |.tbl ps=>h.get? a=some {cls:=.none,data:=.fields ps}
 |.met f x=>h.get? a=some (Ef (.ref f) (.ref x))
 |.ext φ=>φ h/\(∃o,h.get? a=some o)/\∀h1 h2:Heap,φ h1->(∀o,h1.get? a=some o->h2.get? a=some o)->φ h2
def HOk (H:Hp)(h:Heap):Prop:=∀a o,H a=some o->ObjOk P w H h a o
end
section
variable {P:AK}{w:World}{H H':Hp}{h h':Heap}{a:Addr}{o:HO}
theorem ObjOk.lt (x:ObjOk P w H h a o):a<h.objs.size:=by
 cases o with
 |lst xs=>obtain⟨_,_,_,_,e⟩:=x;exact AC e
 |tup xs=>obtain⟨_,_,_,p⟩:=x;exact p.lt
 |dK kvs=>obtain⟨_,_,_,_,o,_,_,e,_⟩:=x;exact AC e
 |dT kvs=>obtain⟨_,_,_,_,o,_,_,e,_⟩:=x;exact AC e
 |set S n=>obtain⟨o,_,_,_,e,_⟩:=x;exact AC e
 |ins C dx fs=>obtain⟨_,_,_,e,_⟩:=x;exact AC e
 |own y=>obtain⟨_,e⟩:=x;exact AC e
 |xd fs=>obtain⟨_,⟨_,_,_,e,_⟩,_⟩:=x;exact AC e
 |rng lo hi=>obtain⟨_,_,_,e⟩:=x;exact AC e
 |frz ob u=>obtain⟨e,_⟩:=x;exact AC e
 |tbl ps=>exact AC (show h.get? a=some _ from x)
 |met f y=>exact AC (show h.get? a=some _ from x)
 |ext φ=>obtain⟨_,⟨_,e⟩,_⟩:=x;exact AC e
theorem Dh.mapP {α β:Type}{F G:α->β->Prop}:∀{c:List α}{d:List β},Dh F c d->(∀a b,F a b->G a b)->Dh G c d
 |_,_,.nil,_=>.nil
 |_,_,.cons r t,f=>.cons (f _ _ r) (Dh.mapP t f)
theorem ObjOk.stay (x:ObjOk P w H h a o)(k:∀b u,(b=a\/H b=some (.own a))->h.get? b=some u->h'.get? b=some u)
  (s:∀b,H b=some (.own a)->H' b=some (.own a))(A:∀b xs,H b=some (.tup xs)->H' b=some (.tup xs)):ObjOk P w H' h' a o:=by
 induction o with
 |lst xs=>obtain⟨z,its,n,r,e⟩:=x;exact⟨z,its,n,r,k _ _ (.inl Z) e⟩
 |tup xs=>obtain⟨z,its,r,g,e,c⟩:=x;exact⟨z,its,r,g,k _ _ (.inl Z) e,c⟩
 |dK kvs=>obtain⟨z,y,vs,r,g,es,ep,e,c⟩:=x;exact⟨z,y,vs,r,g,es,ep,k _ _ (.inl Z) e,c⟩
 |dT kvs =>obtain⟨z,y,xs,r,g,es,ep,e,c⟩:=x;exact⟨z,y,xs,Dh.mapP r λp q z=>⟨z.1,A _ _ z.2.1,z.2.2⟩,g,es,ep,k _ _ (.inl Z) e,c⟩
 |set S n=>obtain⟨g,es,ep,t,e,c⟩:=x;exact⟨g,es,ep,t,k _ _ (.inl Z) e,c⟩
 |ins C dx fs =>obtain⟨d,z,m,e,j,⟨i,es,ep,l,c⟩,r⟩:=x;exact⟨s _ d,z,m,k _ _ (.inl Z) e,j,⟨i,es,ep,k _ _ (.inr d) l,c⟩,r⟩
 |own y=>obtain⟨g,e⟩:=x;exact⟨g,k _ _ (.inl Z) e⟩
 |xd fs=>obtain⟨j,⟨i,es,ep,e,c⟩,r⟩:=x;exact⟨j,⟨i,es,ep,k _ _ (.inl Z) e,c⟩,r⟩
 |rng lo hi=>obtain⟨t,u,v,e⟩:=x;exact⟨t,u,v,k _ _ (.inl Z) e⟩
 |frz g u ih=>obtain⟨e,q⟩:=x;exact⟨k _ _ (.inl Z) e,ih q⟩
 |tbl ps =>have e:h.get? a=some {cls:=.none,data:=.fields ps}:=x;show h'.get? a=some {cls:=.none,data:=.fields ps};exact k a _ (.inl Z) e
 |met f y =>have e:h.get? a=some (Ef (.ref f) (.ref y)):=x;show h'.get? a=some (Ef (.ref f) (.ref y));exact k a _ (.inl Z) e
 |ext φ=>obtain⟨p,⟨o,e⟩,st⟩:=x;exact⟨st _ _ p λo q=>k _ _ (.inl Z) q,⟨o,k _ _ (.inl Z) e⟩,st⟩
theorem HOk.lt (x:HOk P w H h)(e:H a=some o):a<h.objs.size:=(x a o e).lt
theorem HOk.fresh (x:HOk P w H h)(e:h.objs.size<=a):H a=none:=by
 cases q:H a with|none=>rfl|some u=>exact absurd (A0 (x.lt q) e) (BX _)
theorem HOk.kept (x:HOk P w H h)(k:∀b u,h.get? b=some u->h'.get? b=some u):HOk P w H h':=λa o e =>
 (x a o e).stay (λb u _ q=>k b u q) (λ_ q=>q) λ_ _ q=>q
theorem HOk.laid (x:HOk P w H h)(k:∀b u,h.get? b=some u->h'.get? b=some u)(i:h.objs.size<=a)(g:ObjOk P w (upd H a o) h' a o):HOk P w (upd H a o) h':=λb u e=>by
 have d:=x.fresh i;by_cases f:b=a
 .subst f;rw[qk]at e;cases e;exact g
 .rw[qr f]at e;exact(x b u e).stay (λc v _ q=>k c v q) (λc q=>by rw[qr (qae q d)];exact q) λc xs q=>by rw[qr (qae q d)];exact q
end
def Rd (H:Hp)(a:Addr)(u:HO):Prop:=H a=some u \/ ∃o,H a=some (.frz o u)
theorem Rd.ok {P:AK}{w:World}{H:Hp}{h:Heap}{a:Addr}{u:HO}(r:Rd H a u)(x:HOk P w H h):ObjOk P w H h a u:=by
 rcases r with r|⟨o,r⟩
 .exact x a u r
 .obtain⟨_,q⟩:=x a _ r;exact q
def Mut:Option HO->Prop
 |some (.lst _)=>True
 |some (.dK _)=>True
 |some (.dT _)=>True
 |some (.set _ _)=>True
 |some (.ins _ _ _)=>True
 |some (.ext _)=>True
 |_=>False
section
variable {P:AK}{w:World}{H:Hp}{h h':Heap}{x e:Addr}{o':HO}
theorem HOk.write (ok:HOk P w H h)(g:Mut (H x))(n:e=x\/H e=some (.own x))(k:∀b u,b≠e->h.get? b=some u->h'.get? b=some u)(o:∃u,h'.get? e=some u)
  (m:ObjOk P w (upd H x o') h' x o'):HOk P w (upd H x o') h':=λb u q=>by
 have d:∀c y,H c=some (.own y)->c≠x:=λc y r z=>by subst z;rw[r]at g;exact g
 have j:∀c xs,H c=some (.tup xs)->c≠x:=λc xs r z=>by subst z;rw[r]at g;exact g
 by_cases f:b=x
 .subst f;rw[qk]at q;cases q;exact m
 .rw[qr f]at q;by_cases a:b=e
  .have l:H b=some (.own x):=by
    rcases n with z|z
    .exact absurd (a.trans z) f
    .rw[a];exact z
   rw[q]at l;cases l
   obtain⟨v,p⟩:=o
   exact⟨v,by rw[a];exact p⟩
  .refine(ok b u q).stay (λc v i r=>k c v ?_ r) (λc r=>by rw[qr (d c b r)];exact r) λc xs r=>by rw[qr (j c xs r)];exact r
   rcases i with rfl|i
   .exact a
   .rintro rfl;rcases n with z|z
    .exact d c b i z
    .rw[i]at z;cases z;exact f rfl
end
structure Un (fs ex:List Addr)(H H':Hp)(h h':Heap):Prop where
 keep:∀b o,h.get? b=some o->H b=none->b∉fs->b∉ex->h'.get? b=some o
 slot:∀b o,h.get? b=some o->H b=none->b∈fs->b∉ex->∃sl,h'.get? b=some {o with slots:=sl}
 free:∀b o,h.get? b=some o->H b=none->b∉ex->H' b=none
 there:∀b o,h.get? b=some o->b∉ex->∃o',h'.get? b=some o'
 tups:∀b xs,H b=some (.tup xs)->H' b=some (.tup xs)
 frzs:∀b o u,H b=some (.frz o u)->H' b=some (.frz o u)
 tbls:∀b ps,H b=some (.tbl ps)->∃more,H' b=some (.tbl (ps++more))
section
variable {fs fs' ex ex':List Addr}{H H1 H2:Hp}{h h1 h2 h':Heap}{a x e:Addr}{o:HO}
theorem Un.any (u:Un fs ex H H1 h h1){b:Addr}{a:Obj}(q:h.get? b=some a)(n:H b=none)(c:b∉ex):∃sl,h1.get? b=some {a with slots:=sl}:=by
 by_cases d:b∈fs
 .exact u.slot b a q n d c
 .exact⟨a.slots,u.keep b a q n d c⟩
theorem Un.kept (k:∀b u,h.get? b=some u->h'.get? b=some u):Un fs ex H H h h' :=
 ⟨λb a q _ _ _=>k b a q,λb a q _ _ _=>⟨a.slots,k b a q⟩,λ_ _ _ n _=>n,λb a q _=>⟨a,k b a q⟩,λ_ _ q=>q,λ_ _ _ q=>q,λ_ ps q=>⟨#[],by rw[q];simp⟩⟩
theorem Un.refl:Un fs ex H H h h:=Un.kept λ_ _ q=>q
theorem Un.laid (k:∀b u,h.get? b=some u->h'.get? b=some u)(d:h.objs.size<=a)(c:H a=none):Un fs ex H (upd H a o) h h' where
 keep:=λb u q _ _ _=>k b u q
 slot:=λb u q _ _ _=>⟨u.slots,k b u q⟩
 free:=λb u q n _=>by rw[qr (AE (A0 (AC q) d))];exact n
 there:=λb u q _=>⟨u,k b u q⟩
 tups:=λb xs q=>by rw[qr (qae q c)];exact q
 frzs:=λb u xs q=>by rw[qr (qae q c)];exact q
 tbls:=λb ps q=>⟨#[],by rw[qr (qae q c),q];simp⟩
theorem Un.write (a:Mut (H x))(j:e=x\/H e=some (.own x))(k:∀b u,b≠e->h.get? b=some u->h'.get? b=some u)(i:∃u,h'.get? e=some u):Un fs ex H (upd H x o) h h':=by
 have f:∀b,H b=none->b≠x:=λb n z=>by subst z;rw[n]at a;exact a
 have g:∀b,H b=none->b≠e:=λb n z=>by
  subst z;rcases j with r|r
  .exact f b n r
  .rw[n]at r;cases r
 have d:∀b u,H b=some u->¬Mut (some u)->b≠x:=λb u q nm z=>by subst z;rw[q]at a;exact nm a
 refine⟨λb u q n _ _=>k b u (g b n) q,λb u q n _ _=>⟨u.slots,k b u (g b n) q⟩,λb u q n _=>by rw[qr (f b n)];exact n,λb u q _=>?_,
  λb xs q=>by rw[qr (d b _ q λz=>z)];exact q,λb u xs q=>by rw[qr (d b _ q λz=>z)];exact q,λb ps q=>⟨#[],by rw[qr (d b _ q λz=>z),q];simp⟩⟩
 by_cases c:b=e
 .subst c;exact i
 .exact⟨u,k b u c q⟩
end
noncomputable def trk (h:Heap)(H:Hp):List Addr:=(Ao h.objs.size).filter λa=>(H a).isSome
noncomputable def qn6 (h:Heap)(H:Hp):Heap:=PySem.W.hideAll h (trk h H)
theorem qua (h:Heap)(H:Hp):(qn6 h H).objs.size=h.objs.size:=PySem.W.hideAll_size _ _
theorem qh5 {h:Heap}{H:Hp}{b:Addr}{o:Obj}(e:h.get? b=some o)(n:H b=none):(qn6 h H).get? b=some o :=
 PySem.W.hideAll_get _ e λa=>by have q:(H b).isSome=true:=(BQ.mp a).2;rw[n]at q;simp at q
theorem qyv {h:Heap}{H:Hp}{b:Addr}{o:Obj}(e:(qn6 h H).get? b=some o):h.get? b=some o/\H b=none:=by
 have a:h.get? b=some o:=PySem.W.of_hideAll (trk h H) e;refine⟨a,?_⟩;cases q:H b with|none=>rfl|some x =>have c:b∈trk h H:=BQ.mpr ⟨AN.mpr (AC a),by simp[q]⟩;have z:(qn6 h H).get? b=none:=PySem.W.hideAll_none (trk h H) c;rw[z]at e;cases e
noncomputable def qyw (g h:Heap)(L:Addr):List (Addr×Obj):=(Ao h.objs.size).filterMap λa=>if a=L\/(g.get? a).isSome=true then none else (h.get? a).map λo=>(a,o)
noncomputable def qb9 (g h:Heap)(L d:Addr):List (Addr×Obj):=(qyw g h L).filter λp=>decide (p.1≠d)
end L2
namespace L2
open PySem PySem.Spec PyProof.Rows
structure Mod (K:Ah)(mg:Str->Option Value)(base:Heap):Prop where
 kin:K.In base
 glob:base.Ns A6 mg
 blt:∃mb,base.Ns builtinsNs mb/\∀x:Str,x ≠ "__name__" -> mb x=bootBuiltins x
 nolimit:base.NoLimit
structure Cx where
 prog:AK
 w:World
 K:Ah
 mg:Str->Option Value
 base:Heap
 A:AO
 N:List Str
 s₀:Ad
 H₀:Hp
 env:Env
 outer:List Env
 stack:List Env
 ex:List Addr
 fn:Str->Bool
 calm:Bool
 pn:List (Addr×Obj)
 xe:Value->Ad->Prop
noncomputable def frs (l:List Env):List Addr:=l.filterMap (·.frame)
noncomputable abbrev Cx.fs (X:Cx):List Addr:=frs X.outer
def Vis (sc:Scope)(x:Str):Prop:=sc.names.lookup x=some .local\/sc.names.lookup x=some .cell\/sc.names.lookup x=some .free
def Loc (sc:Scope)(x:Str):Prop:=sc.names.lookup x=some .local\/sc.names.lookup x=some .cell
def Look (env:Env)(h:Heap)(m:Str->Option Value)(x:Str)(u:Value):Prop :=
 (env.kindOf x=some .local/\m x=some u)\/((env.kindOf x=some .cell\/env.kindOf x=some .free)/\∃c,env.cells.lookup x=some c/\h.IsCell c (some u))
structure Cx.Ok (X:Cx):Prop where
 mod:Mod X.K X.mg X.base
 kind:X.env.scope.kind=.function
 glob:X.env.globals=A6
 blt:X.env.builtins=builtinsNs
 above:X.s₀.heap.objs.size<=X.env.locals
 inj:∀x y c,X.env.cells.lookup x=some c->X.env.cells.lookup y=some c->x=y
 has:∀x,(X.env.kindOf x=some .cell\/X.env.kindOf x=some .free)->∃c,X.env.cells.lookup x=some c
 cab:∀x c,X.fn x=true->X.env.cells.lookup x=some c->X.s₀.heap.objs.size<=c
 hd:X.calm=true->X.A.handled=none
 frames:X.A.frames=some X.stack
 stk:X.stack=X.outer\/(X.stack=X.env::X.outer/\X.env.frame=some X.env.locals)
 exf:∀b∈X.ex,b≠X.env.locals/\∀x c,X.env.cells.lookup x=some c->c≠b
 bs:∀b o,X.base.get? b=some o->X.s₀.heap.get? b=some o/\X.H₀ b=none
 bsz:X.base.objs.size<=X.s₀.heap.objs.size
 noex:∀b o,X.base.get? b=some o->b∉X.ex
 exfs:∀b∈X.ex,b∉X.fs
 funs:X.s₀.heap.FunFrames X.base X.outer
 frf:∀b∈X.fs,X.H₀ b=none
structure Inv (X:Cx)(pins:List (Addr×Obj))(σ:List (Option V))(H:Hp)(s:Ad):Prop where
 ok:X.Ok
 os:s.os=X.s₀.os
 bare:AllBare s.gens
 base:Un X.fs X.ex X.H₀ H X.s₀.heap s.heap
 loc:∃m,s.heap.Ns X.env.locals m/\∀(i:Nat)(x:Str)(v:V),X.N[i]?=some x->σ[i]?=some (some v)->Vis X.env.scope x->∃u,RelV v u/\Look X.env s.heap m x u
 cell:∀x c,X.env.cells.lookup x=some c->∃v,s.heap.IsCell c v
 free:H X.env.locals=none
 freeC:∀x c,X.env.cells.lookup x=some c->H c=none
 pin:∀p∈X.pn++pins,s.heap.get? p.1=some p.2/\H p.1=none/\p.1≠X.env.locals/\p.1∉X.fs/\∀v,p.2.data ≠ .cell v
 hok:HOk X.prog X.w H s.heap
 len:σ.length=X.N.length
section
variable {X:Cx}{pins:List (Addr×Obj)}{σ:List (Option V)}{H H':Hp}{s:Ad}{h':Heap}
theorem Cx.Ok.nofr (ok:X.Ok){b:Addr}{o:Obj}(e:X.base.get? b=some o):b∉X.fs:=λa=>by have:=(ok.funs.mem a).1;rw[e]at this;cases this
theorem Inv.bs (I:Inv X pins σ H s):∀b o,X.base.get? b=some o->s.heap.get? b=some o/\H b=none:=λb o e =>
 ⟨I.base.keep b o (I.ok.bs b o e).1 (I.ok.bs b o e).2 (I.ok.nofr e) (I.ok.noex b o e),I.base.free b o (I.ok.bs b o e).1 (I.ok.bs b o e).2 (I.ok.noex b o e)⟩
theorem Inv.bk (I:Inv X pins σ H s):∀b o,X.base.get? b=some o->s.heap.get? b=some o:=λb o e=>(I.bs b o e).1
theorem Inv.mod (I:Inv X pins σ H s):Mod X.K X.mg X.base:=I.ok.mod
theorem Inv.kIn (I:Inv X pins σ H s):X.K.In s.heap:=I.ok.mod.kin.keeps I.bk
theorem Inv.nolimit (I:Inv X pins σ H s):s.heap.NoLimit:=I.ok.mod.nolimit.keeps I.bk
theorem Inv.lt (I:Inv X pins σ H s):X.env.locals<s.heap.objs.size:=let ⟨_,hn,_⟩:=I.loc;hn.lt
theorem Inv.sz (I:Inv X pins σ H s):X.s₀.heap.objs.size<=s.heap.objs.size:=A9 I.ok.above (B9 I.lt)
theorem Inv.nofs (I:Inv X pins σ H s){a:Addr}(h:s.heap.objs.size<=a):a∉X.fs:=λc=>by obtain⟨_,o,b,_⟩:=I.ok.funs.mem c;exact absurd (A0 (AC b) (A9 I.sz h)) (BX _)
theorem Inv.cne (I:Inv X pins σ H s):∀x c,X.env.cells.lookup x=some c->c≠X.env.locals:=λx c e z=>by obtain⟨v,o,a,b⟩:=I.cell x c e;obtain⟨m,⟨o',es,ep,d,f,_⟩,_⟩:=I.loc;rw[z,d]at a;cases a;rw[f]at b;cases b
theorem Inv.funs (I:Inv X pins σ H s):s.heap.FunFrames X.base X.outer:=by
 have all:∀(l:List Env),(∀b∈frs l,b∈X.fs)->X.s₀.heap.FunFrames X.base l->s.heap.FunFrames X.base l:=by
  intro l
  induction l with
  |nil=>intro _ _;trivial
  |cons env r ih =>intro f m;obtain⟨i,⟨L,o,c,j,h,g⟩,k⟩:=m;have d:L∈X.fs:=f L (by unfold frs;rw[DT,c];exact Am);obtain⟨sl,e⟩:=I.base.slot L o h (I.ok.frf L d) d λz=>I.ok.exfs L z d;exact⟨i,⟨L,_,c,j,e,g⟩,ih (λb a=>f b (by unfold frs;rw[DT,c];exact Ay _ a)) k⟩
 exact all X.outer (λ_ a=>a) I.ok.funs
theorem Inv.stack (I:Inv X pins σ H s):s.heap.FunFrames X.base X.stack:=by
 rcases I.ok.stk with e|⟨e,b⟩
 .rw[e];exact I.funs
 .rw[e];obtain⟨m,a,_⟩:=I.loc;refine .cons (by rw[I.ok.kind];decide) b a ?_ I.funs;exact Heap.get?_none_of_le (A9 I.ok.bsz I.ok.above)
theorem Inv.stkSub (I:Inv X pins σ H s):∀b∈frs X.stack,b∈X.env.locals::X.fs:=λb a=>by
 rcases I.ok.stk with e|⟨e,c⟩
 .rw[e]at a;exact Ay _ a
 .rw[e]at a;unfold frs at a;rw[DT,c]at a;exact a
theorem Inv.stkFree (I:Inv X pins σ H s):∀b∈frs X.stack,H b=none:=λb a=>by
 rcases Av.mp (I.stkSub b a) with e|a
 .rw[e];exact I.free
 .obtain⟨_,o,c,_⟩:=I.ok.funs.mem a;exact I.base.free b o c (I.ok.frf b a) λz=>I.ok.exfs b z a
theorem Inv.step {g':Array Et}{t':Nat}{d':Drawn}{ch:List Addr}(I:Inv X pins σ H s)
  (h:∀b∈ch,(b∈X.ex\/X.s₀.heap.objs.size<=b)/\b≠X.env.locals/\(∀x c,X.env.cells.lookup x=some c->c≠b)/\∀p∈X.pn++pins,p.1≠b)
  (keep:∀b o,b≠X.env.locals->b∉X.fs->b∉ch->s.heap.get? b=some o->H b=none->h'.get? b=some o)
  (slot:∀b o,b≠X.env.locals->b∈X.fs->b∉ch->s.heap.get? b=some o->H b=none->∃E,h'.get? b=some {o with slots:=E})(free:∀b o,b∉ch->s.heap.get? b=some o->H b=none->H' b=none)
  (there:∀b o,b∉ch->s.heap.get? b=some o->∃o',h'.get? b=some o')
  (tups:∀b xs,H b=some (.tup xs)->H' b=some (.tup xs))(frzs:∀b o u,H b=some (.frz o u)->H' b=some (.frz o u))(tbls:∀b ps,H b=some (.tbl ps)->∃more,H' b=some (.tbl (ps++more)))
  (ns:∀m,s.heap.Ns X.env.locals m->h'.Ns X.env.locals m)(hok:HOk X.prog X.w H' h')(hg:AllBare g') :
  Inv X pins σ H' {s with heap:=h',gens:=g',drawn:=d',toks:=t'}:=by
 have C:∀b o,X.s₀.heap.get? b=some o->b≠X.env.locals:=λb o e=>AE (A0 (AC e) I.ok.above);have y:∀b o,X.s₀.heap.get? b=some o->b∉X.ex->b∉ch:=λb o e a j=>by
  rcases (h b j).1 with z|z
  .exact a z
  .exact absurd (A0 (AC e) z) (BX _)
 have t:∀x c,X.env.cells.lookup x=some c->∀v,s.heap.IsCell c v->h'.IsCell c v:=λx c e v ⟨o,A,D⟩=>by
  have g:c∉ch:=λz=>(h c z).2.2.1 x c e rfl;by_cases J:c∈X.fs
  .obtain⟨E,q⟩:=slot c o (I.cne x c e) J g A (I.freeC x c e);exact⟨_,q,D⟩
  .exact⟨o,keep c o (I.cne x c e) J g A (I.freeC x c e),D⟩
 refine⟨I.ok,I.os,hg,⟨λb o e n j a=>?_,λb o e n j a=>?_,λb o e n a=>?_,λb o e a=>?_,λb xs e=>tups b xs (I.base.tups b xs e),λb o xs e=>frzs b o xs (I.base.frzs b o xs e),λb ps e=>?_⟩,?_,λx c e=>?_,?_,λx c e=>?_,λp K=>?_,hok,I.len⟩
 .exact keep b o (C b o e) j (y b o e a) (I.base.keep b o e n j a) (I.base.free b o e n a)
 .obtain⟨E,f⟩:=I.base.slot b o e n j a;obtain⟨G,B⟩:=slot b _ (C b o e) j (y b o e a) f (I.base.free b o e n a);exact⟨G,B⟩
 .obtain⟨o',f⟩:=I.base.there b o e a;exact free b o' (y b o e a) f (I.base.free b o e n a)
 .obtain⟨o',f⟩:=I.base.there b o e a;exact there b o' (y b o e a) f
 .obtain⟨M,f⟩:=I.base.tbls b ps e;obtain⟨O,B⟩:=tbls b _ f;exact⟨M++O,by rw[B,Array.append_assoc]⟩
 .obtain⟨m,N,P⟩:=I.loc;refine⟨m,ns m N,λi x v f B Q=>?_⟩;obtain⟨u,r,l⟩:=P i x v f B Q;refine⟨u,r,?_⟩;rcases l with l|⟨k,c,e,z⟩
  .exact .inl l
  .exact .inr ⟨k,c,e,t x c e _ z⟩
 .obtain⟨v,z⟩:=I.cell x c e;exact⟨v,t x c e v z⟩
 .obtain⟨m,⟨o,_,_,A,_⟩,_⟩:=I.loc;exact free _ o (λz=>(h _ z).2.1 Z) A I.free
 .obtain⟨v,o,A,D⟩:=I.cell x c e;exact free c o (λz=>(h c z).2.2.1 x c e Z) A (I.freeC x c e)
 .obtain⟨e,n,F,L,d⟩:=I.pin p K;have g:p.1∉ch:=λz=>(h p.1 z).2.2.2 p K rfl;exact⟨keep p.1 p.2 F L g e n,free p.1 p.2 g e n,F,L,d⟩
theorem Inv.un {t':Nat}(I:Inv X pins σ H s)(u:Un X.fs [] H H' s.heap h')(f:HOk X.prog X.w H' h'):Inv X pins σ H' {s with heap:=h',toks:=t'}:=by obtain⟨m,⟨o,es,ep,d,r⟩,_⟩:=id I.loc;obtain⟨sl,k⟩:=u.any d I.free (by simp);exact I.step (g':=s.gens) (d':=s.drawn) (ch:=[]) (λ_ z=>nomatch z) (λb o _ c _ e n=>u.keep b o e n c (by simp)) (λb o _ c _ e n=>u.slot b o e n c (by simp)) (λb o _ e n=>u.free b o e n (by simp)) (λb o _ e=>u.there b o e (by simp)) u.tups u.frzs u.tbls (λm' j=>by obtain⟨o',g,h,a,i⟩:=j;rw[d]at a;cases a;exact⟨_,g,h,k,i⟩) f I.bare
theorem Inv.call {g':Array Et}{t':Nat}{d':Drawn}{ch:List Addr}(I:Inv X pins σ H s)(u:Un (frs X.stack) ch H H' s.heap h')(i:HOk X.prog X.w H' h')(q:AllBare g')
  (f:∀b∈ch,(b∈X.ex\/X.s₀.heap.objs.size<=b)/\b≠X.env.locals/\(∀x c,X.env.cells.lookup x=some c->c≠b)/\∀p∈X.pn++pins,p.1≠b) :
  Inv X pins σ H' {s with heap:=h',gens:=g',drawn:=d',toks:=t'}:=by
 obtain⟨m,⟨o,es,ep,h,r⟩,_⟩:=id I.loc;obtain⟨sl,g⟩:=u.any h I.free λz=>(f _ z).2.1 rfl;exact I.step (ch:=ch) f (λb o g t a e n=>u.keep b o e n (λz=>(Av.mp (I.stkSub b z)).elim g t) a) (λb o _ _ a e n=>u.any e n a) (λb o a e n=>u.free b o e n a) (λb o a e=>u.there b o e a) u.tups u.frzs u.tbls (λm' v=>by obtain⟨o',j,k,d,l⟩:=v;rw[h]at d;cases d;exact⟨_,j,k,g,l⟩) i q
theorem Inv.turned {t':Nat}{it:Addr}(I:Inv X pins σ H s)(k:∀b o,b≠it->s.heap.get? b=some o->h'.get? b=some o)(j:H it=none)(f:it≠X.env.locals)
  (t:it∈X.ex\/X.s₀.heap.objs.size<=it)(i:∀x c,X.env.cells.lookup x=some c->c≠it)(w:∀p∈X.pn++pins,p.1≠it):Inv X pins σ H {s with heap:=h',toks:=t'}:=by
 have d:∀b u,H b=some u->b≠it:=λb u e z=>by rw[z,j]at e;cases e
 refine I.step (g':=s.gens) (d':=s.drawn) (ch:=[it]) (λb h=>?_) (λb o _ _ a e _=>k b o (λz=>a (by simp[z])) e) (λb o _ _ a e _=>⟨o.slots,k b o (λz=>a (by simp[z])) e⟩) (λ_ _ _ _ n=>n)
  (λb o a e=>⟨o,k b o (λz=>a (by simp[z])) e⟩) (λ_ _ e=>e) (λ_ _ _ e=>e) (λb ps e=>⟨#[],by rw[e];simp⟩) (λm l=>?_) (λb u e=>?_) I.bare
 .have e:b=it:=by simpa using h
  subst e;exact⟨t,f,i,w⟩
 .obtain⟨o,es,ep,g,r⟩:=l;exact⟨o,es,ep,k _ o (By f) g,r⟩
 .refine(I.hok b u e).stay (λc v a q=>k c v ?_ q) (λ_ q=>q) λ_ _ q=>q;rcases a with z|z
  .rw[z];exact d b u e
  .exact d c _ z
theorem Inv.tok (I:Inv X pins σ H s)(t:Nat):Inv X pins σ H {s with toks:=t}:=I.un (h':=s.heap) (t':=t) Un.refl I.hok
theorem Inv.kept {t':Nat}(I:Inv X pins σ H s)(k:∀b u,s.heap.get? b=some u->h'.get? b=some u):Inv X pins σ H {s with heap:=h',toks:=t'}:=I.un (Un.kept k) (I.hok.kept k)
theorem Inv.laid {a:Addr}{o:HO}{t':Nat}(I:Inv X pins σ H s)(k:∀b u,s.heap.get? b=some u->h'.get? b=some u)(c:s.heap.objs.size<=a)(d:ObjOk X.prog X.w (upd H a o) h' a o) :
  Inv X pins σ (upd H a o) {s with heap:=h',toks:=t'}:=I.un (Un.laid k c (I.hok.fresh c)) (I.hok.laid k c d)
theorem Inv.write {x e:Addr}{o:HO}{t':Nat}(I:Inv X pins σ H s)(f:Mut (H x))(c:e=x\/H e=some (.own x))(k:∀b u,b≠e->s.heap.get? b=some u->h'.get? b=some u)(a:∃u,h'.get? e=some u)
  (d:ObjOk X.prog X.w (upd H x o) h' x o):Inv X pins σ (upd H x o) {s with heap:=h',toks:=t'}:=I.un (Un.write f c k a) (I.hok.write f c k a d)
theorem Inv.pins_of {a:List (Addr×Obj)}(I:Inv X pins σ H s)(h:∀p∈a,s.heap.get? p.1=some p.2/\H p.1=none/\p.1≠X.env.locals/\p.1∉X.fs/\∀v,p.2.data ≠ .cell v):Inv X a σ H s :=
 ⟨I.ok,I.os,I.bare,I.base,I.loc,I.cell,I.free,I.freeC,λp b=>(A7.mp b).elim (λz=>I.pin p (Bz _ z)) (h p),I.hok,I.len⟩
theorem qpg {N:List Str}(c:N.Nodup){i j:Nat}{x:Str}(a:N[i]?=some x)(b:N[j]?=some x):i=j:=by obtain⟨h1,e⟩:=Ac.mp a;obtain⟨h2,d⟩:=Ac.mp b;exact(List.getElem_inj c).mp (e.trans d.symm)
theorem qub {M:Model}{A:AO}{E:Value->Ad->Prop}{i:Nat}{x:Str}{v:V}{u:Value}{Q:Unit->Ad->Prop}(I:Inv X pins σ H s)(hN:X.N.Nodup)(L:X.N[i]?=some x)(t:Loc X.env.scope x)(r:RelV v u)
  (h:∀s',Inv X pins (σ.set i (some v)) H s'->(∃a,CB a s.heap s'.heap/\(a=X.env.locals\/X.env.cells.lookup x=some a))->Q () s')(hf:X.fn x=true\/X.env.scope.names.lookup x=some .local:=by first|exact .inl rfl|exact .inr rfl|assumption):wpAny M A (storeName X.env x u) Q E s:=by
 obtain⟨m,hn,hl⟩:=id I.loc;have ae:(X.env.scope.kind == .class || (X.env.scope.kind == .module && X.env.locals != X.env.globals))=false:=by rw[I.ok.kind];rfl
 have S:i<σ.length:=by rw[I.len];exact(Ac.mp L).1
 have cne:=I.cne;have B:∀{a:Addr}{h':Heap},(∃o,s.heap.get? a=some o/\H a=none)->CB a s.heap h'->HOk X.prog X.w H h':=λ{a h'} ha f b ob e=>by
  obtain⟨_,_,J⟩:=ha;refine(I.hok b ob e).stay (λc O l q=>(f.2 c ?_).trans q) (λ_ q=>q) λ_ _ q=>q;rintro rfl;rcases l with rfl|l
  .rw[J]at e;cases e
  .rw[J]at l;cases l
 rcases t with D|D
 .refine wpAny_storeName_local D hn (λh' ag f=>?_) ae;obtain⟨oL,_,_,af,_⟩:=id hn;refine h _ ⟨I.ok,I.os,I.bare,⟨λb o e n F t=>?_,λb o e n F t=>?_,I.base.free,λb o e t=>?_,I.base.tups,I.base.frzs,I.base.tbls⟩,⟨_,ag,λj y v' g C e3=>?_⟩,λy c e=>?_,I.free,I.freeC,λp hp=>?_,B ⟨oL,af,I.free⟩ f,by simpa using I.len⟩ ⟨_,f,.inl Z⟩
  .exact(f.2 b (AE (A0 (AC e) I.ok.above))).trans (I.base.keep b o e n F t)
  .obtain⟨sl,g⟩:=I.base.slot b o e n F t;exact⟨sl,(f.2 b (AE (A0 (AC e) I.ok.above))).trans g⟩
  .obtain⟨o',g⟩:=I.base.there b o e t;exact⟨o',(f.2 b (AE (A0 (AC e) I.ok.above))).trans g⟩
  .by_cases G:j=i
   .subst G;rw[L]at g;cases g;rw[Du S]at C;cases C;exact⟨u,r,.inl ⟨D,by simp⟩⟩
   .rw[DK (By G)]at C;obtain⟨u',Y,q⟩:=hl j y v' g C e3;refine⟨u',Y,?_⟩;rcases q with ⟨k,e⟩|⟨k,c,e,z⟩
    .refine .inl ⟨k,?_⟩;have:y≠x:=λe=>G (qpg hN g (e ▸ L));simp[this,e]
    .exact .inr ⟨k,c,e,z.sameBut f (cne y c e)⟩
  .obtain⟨O,z⟩:=I.cell y c e;exact⟨O,z.sameBut f (cne y c e)⟩
  .obtain⟨e,n,R,nf,d⟩:=I.pin p hp;exact⟨(f.2 p.1 R).trans e,n,R,nf,d⟩
 .have K:X.fn x=true:=by
   rcases hf with z|z
   .exact z
   .rw[z]at D;cases D
  obtain⟨c,l⟩:=I.ok.has x (.inl D)
  obtain⟨O,z⟩:=I.cell x c l
  refine wpAny_storeName_cell I.ok.kind D l z (λh' W f=>?_)
  obtain⟨oc,T,ad⟩:=id z
  refine h {s with heap:=h'} ⟨I.ok,I.os,I.bare,⟨λb o e n F t=>?_,λb o e n F t=>?_,I.base.free,λb o e t=>?_,I.base.tups,I.base.frzs,I.base.tbls⟩,⟨m,hn.sameBut f (By (cne x c l)),λj y v' g C e3=>?_⟩,λy P e=>?_,I.free,I.freeC,λp hp=>?_,B ⟨oc,T,I.freeC x c l⟩ f,by simpa using I.len⟩ ⟨c,f,.inr l⟩
  .exact(f.2 b (AE (A0 (AC e) (I.ok.cab x c K l)))).trans (I.base.keep b o e n F t)
  .obtain⟨sl,g⟩:=I.base.slot b o e n F t;exact⟨sl,(f.2 b (AE (A0 (AC e) (I.ok.cab x c K l)))).trans g⟩
  .obtain⟨o',g⟩:=I.base.there b o e t;exact⟨o',(f.2 b (AE (A0 (AC e) (I.ok.cab x c K l)))).trans g⟩
  .by_cases G:j=i
   .subst G;rw[L]at g;cases g;rw[Du S]at C;cases C;exact⟨u,r,.inr ⟨.inl D,c,l,W⟩⟩
   .rw[DK (By G)]at C;obtain⟨u',Y,q⟩:=hl j y v' g C e3;refine⟨u',Y,?_⟩;rcases q with q|⟨k,P,e,z'⟩
    .exact .inl q
    .refine .inr ⟨k,P,e,z'.sameBut f ?_⟩;rintro rfl;exact G (qpg hN g (I.ok.inj _ _ _ e l ▸ L))
  .by_cases U:P=c
   .subst U;exact⟨_,W⟩
   .obtain⟨w2,z2⟩:=I.cell y P e;exact⟨w2,z2.sameBut f U⟩
  .obtain⟨e,n,R,nf,d⟩:=I.pin p hp;refine⟨(f.2 p.1 ?_).trans e,n,R,nf,d⟩;intro q;rw[q,T]at e;have q':oc=p.2:=AD e;exact d O (by rw[<- q'];exact ad)
theorem qkz {M:Model}{A:AO}{E:Value->Ad->Prop}{i:Nat}{x:Str}{v:V}{u:Value}{Q:Unit->Ad->Prop}(I:Inv X pins σ H s)(d:X.N.Nodup)(b:X.N[i]?=some x)(c:Loc X.env.scope x)(r:RelV v u)
  (h:∀a,Inv X pins (σ.set i (some v)) H a->Q () a)(f:X.fn x=true\/X.env.scope.names.lookup x=some .local:=by first|exact .inl rfl|exact .inr rfl|assumption):wpAny M A (storeName X.env x u) Q E s :=
 qub I d b c r (λa e _=>h a e) f
theorem Inv.call' {a:Ad}{ch:List Addr}(I:Inv X pins σ H s)(g:a.os=s.os)(u:Un (frs X.stack) ch H H' s.heap a.heap)(d:HOk X.prog X.w H' a.heap)(h:AllBare a.gens)
  (f:∀b∈ch,(b∈X.ex\/X.s₀.heap.objs.size<=b)/\b≠X.env.locals/\(∀x c,X.env.cells.lookup x=some c->c≠b)/\∀p∈X.pn++pins,p.1≠b):Inv X pins σ H' a:=by
 obtain⟨h',g',d',t',o'⟩:=a;have e:o'=s.os:=g;subst e;exact I.call (g':=g') (t':=t') (d':=d') u d h f
end
abbrev XK:=Value->Option Addr->Hp->Prop
noncomputable abbrev St:=List (Option V)
abbrev VK:=V->Hp->Prop
abbrev TE:=St->Hp->VK->Prop
abbrev TT:=St->Hp->(Bool->Hp->Prop)->Prop
abbrev TA:=St->Hp->(List V->Hp->Prop)->Prop
structure Ends where
 nx:St->Hp->Prop
 rt:VK
 bk:St->Hp->Prop:=λ_ _=>False
 ct:St->Hp->Prop:=λ_ _=>False
abbrev TS:=Ends->St->Hp->Prop
def EP (X:Cx)(pins:List (Addr×Obj))(σ:St)(Q:VK)(u:Value)(s':Ad):Prop:=∃v H',Inv X pins σ H' s'/\RelV v u/\Q v H'
def TP (X:Cx)(pins:List (Addr×Obj))(σ:St)(Q:Bool->Hp->Prop)(b:Bool)(s':Ad):Prop:=∃H',Inv X pins σ H' s'/\Q b H'
def AP (X:Cx)(pins:List (Addr×Obj))(σ:St)(Q:List V->Hp->Prop)(us:List Value)(s':Ad):Prop:=∃vs H',Inv X pins σ H' s'/\Vals vs us/\Q vs H'
def SP (X:Cx)(pins:List (Addr×Obj))(D:Ends)(f:Flow)(s':Ad):Prop :=
 match f with
 |.next=>∃σ' H',Inv X pins σ' H' s'/\D.nx σ' H'
 |.brk=>∃σ' H',Inv X pins σ' H' s'/\D.bk σ' H'
 |.cont=>∃σ' H',Inv X pins σ' H' s'/\D.ct σ' H'
 |.ret u=>∃v σ' H',Inv X pins σ' H' s'/\RelV v u/\D.rt v H'
def PE (X:Cx)(e:Expr)(t:TE):Prop :=
 ∀(pins:List (Addr×Obj))(s:Ad)(σ:St)(H:Hp)(Q:VK),Inv X pins σ H s->t σ H Q->wpAny (model X.prog X.w) X.A (eval e X.env) (EP X pins σ Q) X.xe s
def PT (X:Cx)(e:Expr)(t:TT):Prop :=
 ∀(pins:List (Addr×Obj))(s:Ad)(σ:St)(H:Hp)(Q:Bool->Hp->Prop),Inv X pins σ H s->t σ H Q->wpAny (model X.prog X.w) X.A (isTrue e X.env (eval e X.env)) (TP X pins σ Q) X.xe s
def PW (X:Cx)(e:Expr)(t:TT):Prop :=
 ∀(whole:Sem Value)(pins:List (Addr×Obj))(s:Ad)(σ:St)(H:Hp)(Q:Bool->Hp->Prop),Inv X pins σ H s->t σ H Q->wpAny (model X.prog X.w) X.A (isTrue e X.env whole) (TP X pins σ Q) X.xe s
theorem PW.pt {X:Cx}{e:Expr}{t:TT}(h:PW X e t):PT X e t:=h _
def PA (X:Cx)(es:List Expr)(t:TA):Prop :=
 ∀(pos:Pos)(pins:List (Addr×Obj))(s:Ad)(σ:St)(H:Hp)(Q:List V->Hp->Prop),Inv X pins σ H s->t σ H Q->wpAny (model X.prog X.w) X.A (spliced (backTo pos (starEach es X.env))) (AP X pins σ Q) X.xe s
def PS (X:Cx)(st:Stmt)(t:TS):Prop :=
 ∀(pins:List (Addr×Obj))(s:Ad)(σ:St)(H:Hp)(D:Ends),Inv X pins σ H s->t D σ H->wpAny (model X.prog X.w) X.A (exec st X.env) (SP X pins D) X.xe s
def PSs (X:Cx)(st:List Stmt)(t:TS):Prop :=
 ∀(pins:List (Addr×Obj))(s:Ad)(σ:St)(H:Hp)(D:Ends),Inv X pins σ H s->t D σ H->wpAny (model X.prog X.w) X.A (execs st X.env) (SP X pins D) X.xe s
theorem thn {α:Type}{t:Sem α}{Q b:α->Ad->Prop}{M:Model}{A:AO}{E:Value->Ad->Prop}{s:Ad}(h:wpAny M A t Q E s)(c:∀a s,Q a s->b a s):wpAny M A t b E s:=BR h c λ_ _ x=>x
end L2
namespace L2
open PySem PySem.Spec PyProof.Rows
section
variable {X:Cx}
def tVar (i:Nat):TE:=λσ H Q=>∃v,σ[i]?=some (some v)/\Q v H
def tC (v:V):TE:=λ_ H Q=>Q v H
theorem pe_var {i:Nat}{x:Str}{pos:Pos}(n:X.N[i]?=some x)(q:Vis X.env.scope x)(f:(x == ("__debug__" : Str))=false:=by decide)(hcd:(x == ("__classdict__" : Str))=false:=by decide):PE X (.Name x pos) (tVar i):=by
 intro g s σ H Q I h;obtain⟨v,e,h⟩:=h;obtain⟨m,k,p⟩:=I.loc;obtain⟨u,r,l⟩:=p i x v n e q;have d:EP X g σ Q u s:=⟨v,H,I,r,h⟩;rcases l with ⟨a,o⟩|⟨a,c,j,b⟩
 .exact wpAny_Name (wpAny_loadName_local I.ok.kind a k o d) f
 .rcases a with a|a
  .exact wpAny_Name (wpAny_loadName_cell I.ok.kind a j b d) f
  .exact wpAny_Name (wpAny_loadName_free I.ok.kind a j b d hcd) f
theorem qi {i j pos}:PE X (.Constant (.int i) j pos) (tC (.int i)):=λ_ _ _ H _ I h=>wpAny_Constant_int ⟨.int i,H,I.tok _,⟨_,Z⟩,h⟩
theorem qcg {b j pos}:PE X (.Constant (.bool b) j pos) (tC (.bl b)):=λ_ _ _ H _ I h=>Constant_bool ⟨.bl b,H,I,Z,h⟩
theorem qat {j pos}:PE X (.Constant .none j pos) (tC .non):=λ_ _ _ H _ I h=>Constant_none ⟨.non,H,I,Z,h⟩
theorem zg {x j pos}:PE X (.Constant (.str x) j pos) (tC (.str x)):=λ_ _ _ H _ I h=>Calls.Constant_str ⟨.str x,H,I.tok _,⟨_,Z⟩,h⟩
def Gl (X:Cx)(x:Str):Prop:=X.env.kindOf x=some .globalImplicit
theorem qn7 {E:Value->Ad->Prop}{a:List (Addr×Obj)}{s:Ad}{σ:St}{H:Hp}{x:Str}{u:Value}{pos:Pos}{Q:Value->Ad->Prop}(I:Inv X a σ H s)(b:Gl X x)(d:X.mg x=some u)(h:Q u s)
  (c:(x == ("__debug__" : Str))=false:=by decide):wpAny (model X.prog X.w) X.A (eval (.Name x pos) X.env) Q E s :=
 Calls.Name_function_global I.ok.kind b (Calls.loadGlobal_global (by rw[I.ok.glob];exact I.mod.glob.keeps I.bk) d h) c
theorem qf6 {E:Value->Ad->Prop}{a:List (Addr×Obj)}{s:Ad}{σ:St}{H:Hp}{x:Str}{u:Value}{pos:Pos}{Q:Value->Ad->Prop}(I:Inv X a σ H s)(c:Gl X x)(f:X.mg x=none)(e:bootBuiltins x=some u)(h:Q u s)
  (b:x ≠ "__name__" := by decide)(hd:(x == ("__debug__" : Str))=false:=by decide):wpAny (model X.prog X.w) X.A (eval (.Name x pos) X.env) Q E s:=by
 obtain⟨mb,g,d⟩:=I.mod.blt;exact Calls.Name_function_global I.ok.kind c (Calls.loadGlobal_builtin (by rw[I.ok.glob];exact I.mod.glob.keeps I.bk) f (by rw[I.ok.blt];exact g.keeps I.bk) ((d x b).trans e) h) hd
theorem qbw {x:Str}{v:V}{u:Value}{pos:Pos}(a:Gl X x)(c:X.mg x=some u)(r:RelV v u)(b:(x == ("__debug__" : Str))=false:=by decide):PE X (.Name x pos) (tC v) :=
 λ_ _ _ H _ I h=>qn7 I a c ⟨v,H,I,r,h⟩ b
theorem qh6 {x:Str}{v:V}{u:Value}{pos:Pos}(b:Gl X x)(d:X.mg x=none)(c:bootBuiltins x=some u)(r:RelV v u)(a:x ≠ "__name__" := by decide)(hd:(x == ("__debug__" : Str))=false:=by decide):PE X (.Name x pos) (tC v) :=
 λ_ _ _ H _ I h=>qf6 I b d c ⟨v,H,I,r,h⟩ a hd
variable {a b:Expr}{ta tb:TE}{pos:Pos}
def PC (X:Cx)(op:CmpOp)(a b:Expr)(t:TE):Prop :=
 ∀(pins:List (Addr×Obj))(s:Ad)(σ:St)(H:Hp)(Q:VK),Inv X pins σ H s->t σ H Q ->
  wpAny (model X.prog X.w) X.A (eval a X.env) (λv s₁=>wpAny (model X.prog X.w) X.A (eval b X.env) (λu s₂=>wpAny (model X.prog X.w) X.A (compareOp op v u) (EP X pins σ Q) X.xe s₂) X.xe s₁) X.xe s
def tB (t:TE):TT:=λσ H Q=>t σ H λx H1=>∃c,x=.bl c/\Q c H1
theorem qvw {op:CmpOp}{t:TE}(h:PC X op a b t)(f:behindInMarks op b=false:=by first|exact nobehind _ Uk Uk|rfl):PT X (.Compare a [op] [b] pos) (tB t):=by intro e s σ H Q I i;refine wpAny_isTrue_Compare1 (thn (h e s σ H _ I i) λv s1 f=>thn f λu s2 j=>thn j λc s3 g=>?_) f;obtain⟨x,n,l,k,m⟩:=g;obtain⟨d,rfl,q⟩:=m;cases k;exact B6 ⟨n,l,q⟩
theorem zf {e:Expr}{t:TE}(h:PE X e t)(k:∀whole,isTrue e X.env whole=(do let v <- whole;standAt e.pos;holding [v] (truthy v)):=by intro _;rfl):PT X e (tB t):=by intro a s σ H Q I c;refine isTrue_plain (thn (h a s σ H _ I c) λv s1 b=>?_) (k _);obtain⟨x,f,i,g,j⟩:=b;obtain⟨d,rfl,q⟩:=j;cases g;exact B6 ⟨f,i,q⟩
variable {tA tB':TT}{qb9:List Expr}
def tAnd (t u:TT):TT:=λσ H Q=>t σ H λc H1=>if c=true then u σ H1 Q else Q false H1
def tOr (t u:TT):TT:=λσ H Q=>t σ H λc H1=>if c=true then Q true H1 else u σ H1 Q
def tNot (t:TT):TT:=λσ H Q=>t σ H λc H1=>Q (!c) H1
theorem qco (d:PT X a tA):PW X (.BoolOp .And [a] pos) tA:=by
 intro wh b s σ H Q I h;refine isTrue_and (thn (d b s σ H Q I h) λc s1 e=>?_);cases c with|true=>exact isTrue_and_nil e|false=>exact e
theorem qd2 (d:PT X a tA):PW X (.BoolOp .Or [a] pos) tA:=by
 intro wh b s σ H Q I h;refine isTrue_or (thn (d b s σ H Q I h) λc s1 e=>?_);cases c with|false=>exact isTrue_or_nil e|true=>exact e
theorem qc5 (m:PT X a tA)(j:PW X (.BoolOp .And (b::qb9) pos) tB'):PW X (.BoolOp .And (a::b::qb9) pos) (tAnd tA tB'):=by
 intro k d s σ H Q I h;refine isTrue_and (thn (m d s σ H _ I h) λc l i=>?_);obtain⟨g,e,f⟩:=i;cases c with|true=>exact j k d l σ g Q e f|false=>exact⟨g,e,f⟩
theorem qep (m:PT X a tA)(j:PW X (.BoolOp .Or (b::qb9) pos) tB'):PW X (.BoolOp .Or (a::b::qb9) pos) (tOr tA tB'):=by
 intro k d s σ H Q I h;refine isTrue_or (thn (m d s σ H _ I h) λc l i=>?_);obtain⟨g,e,f⟩:=i;cases c with|true=>exact⟨g,e,f⟩|false=>exact j k d l σ g Q e f
theorem qd3 (d:PT X a tA):PT X (.UnaryOp .Not a pos) (tNot tA):=by intro b s σ H Q I h;exact isTrue_not (d b s σ H (λc e=>Q (!c) e) I h)
def tAndV (ta tb:TE):TE:=λσ H Q=>ta σ H λx H1=>∃c,x=.bl c/\if c=true then tb σ H1 Q else Q (.bl false) H1
def tOrV (ta tb:TE):TE:=λσ H Q=>ta σ H λx H1=>∃c,x=.bl c/\if c=true then Q (.bl true) H1 else tb σ H1 Q
def tNotV (ta:TE):TE:=λσ H Q=>ta σ H λx H1=>∃c,x=.bl c/\Q (.bl (!c)) H1
theorem qf7 {op}{t:TE}(h:PE X a t):PE X (.BoolOp op [a] pos) t:=λb s σ H Q I c=>BoolOp_one (h b s σ H Q I c)
theorem qhk (m:PE X a ta)(j:PE X (.BoolOp .And (b::qb9) pos) tb):PE X (.BoolOp .And (a::b::qb9) pos) (tAndV ta tb):=by
 intro d s σ H Q I h;refine BoolOp_and (thn (m d s σ H _ I h) λv l f=>?_);obtain⟨x,i,g,k,e⟩:=f;obtain⟨c,rfl,e⟩:=e;cases k;refine B6 ?_;cases c with|true=>exact j d l σ i Q g e|false=>exact⟨.bl false,i,g,Z,e⟩
theorem pe_or (m:PE X a ta)(j:PE X (.BoolOp .Or (b::qb9) pos) tb):PE X (.BoolOp .Or (a::b::qb9) pos) (tOrV ta tb):=by
 intro d s σ H Q I h;refine BoolOp_or (thn (m d s σ H _ I h) λv l f=>?_);obtain⟨x,i,g,k,e⟩:=f;obtain⟨c,rfl,e⟩:=e;cases k;refine B6 ?_;cases c with|false=>exact j d l σ i Q g e|true=>exact⟨.bl true,i,g,Z,e⟩
theorem qvx (i:PE X a ta):PE X (.UnaryOp .Not a pos) (tNotV ta):=by intro b s σ H Q I h;refine UnaryOp_ (thn (i b s σ H _ I h) λv s1 e=>?_);obtain⟨x,j,f,g,d⟩:=e;obtain⟨c,rfl,d⟩:=d;cases g;exact not_of (B6 ⟨.bl (!c),j,f,Z,d⟩)
def tIf (t:TT)(ta tb:TE):TE:=λσ H Q=>t σ H λc H1=>if c=true then ta σ H1 Q else tb σ H1 Q
theorem qck {c:Expr}(l:PT X c tA)(n:PE X a ta)(m:PE X b tb):PE X (.IfExp c a b pos) (tIf tA ta tb):=by
 intro e s σ H Q I h;refine wpAny_IfExp (thn (l e s σ H _ I h) λd g k=>?_);obtain⟨j,f,i⟩:=k;cases d with|true=>exact n e g σ j Q f i|false=>exact m e g σ j Q f i
end
end L2
namespace L2
open PySem PySem.Spec PyProof.Rows
def SqL (K:Ah)(H:Hp)(a:Addr)(xs:List V):Prop :=
 Rd H a (.lst xs) \/
  ∃(o:Obj)(its:Array Value)(n:Nat),K.lookup a=some o/\o.cls=.type "list" /\ o.dict=none/\o.data=.seq its n/\its.size<=A5/\Vals xs its.toList
def SqT (K:Ah)(H:Hp)(a:Addr)(xs:List V):Prop :=
 Rd H a (.tup xs) \/
  ∃(o:Obj)(its:Array Value)(n:Nat),K.lookup a=some o/\o.cls=.type "tuple" /\ o.data=.seq its n/\its.size<=A5/\Vals xs its.toList
noncomputable def absV:Value->Option V
 |.none=>some .non
 |.bool b=>some (.bl b)
 |.int i _=>some (.int i)
 |.str x _=>some (.str x)
 |.bytes b _=>some (.byt b)
 |.float b _=>some (.flt b)
 |.ref a=>some (.ref a)
 |.type n=>some (.ty n)
 |_=>none
theorem RelV.abs {x:V}{u:Value}(r:RelV x u):absV u=some x:=by
 cases x with
 |non=>cases r;rfl
 |bl _=>cases r;rfl
 |int _=>obtain⟨t,rfl⟩:=r;rfl
 |str _=>obtain⟨t,rfl⟩:=r;rfl
 |byt _=>obtain⟨t,rfl⟩:=r;rfl
 |flt _=>obtain⟨t,rfl⟩:=r;rfl
 |ref _=>cases r;rfl
 |ty _=>cases r;rfl
theorem RelV.inj {x y:V}{u:Value}(r:RelV x u)(q:RelV y u):x=y:=AD (r.abs.symm.trans q.abs)
theorem Vals.inj:∀{xs ys:List V}{us:List Value},Vals xs us->Vals ys us->xs=ys
 |_,_,_,.nil,.nil=>rfl
 |_,_,_,.cons r t,.cons r' t'=>by rw[r.inj r',Vals.inj t t']
section
variable {X:Cx}{pins:List (Addr×Obj)}{σ:St}{H:Hp}{s:Ad}{a:Addr}{xs ys:List V}
theorem SqL.of {K:Ah}(h:H a=some (.lst xs)):SqL K H a xs:=.inl (.inl h)
theorem SqT.of {K:Ah}(h:H a=some (.tup xs)):SqT K H a xs:=.inl (.inl h)
theorem Inv.list (I:Inv X pins σ H s)(h:SqL X.K H a xs):∃its:List Value,Vals xs its/\PlainL s.heap a its.toArray/\xs.length<=A5:=by
 rcases h with h|⟨o,its,n,d,c,b,f,hz,r⟩
 .obtain⟨z,its,n,r,e⟩:=h.ok I.hok;exact⟨its,r,⟨_,n,e,Z,Z,Z⟩,z⟩
 .refine⟨its.toList,r,⟨o,n,I.kIn a o d,c,b,by simpa using f⟩,?_⟩;have e:=r.length;simp only[Cb]at e;lia
theorem Inv.tuple (I:Inv X pins σ H s)(h:SqT X.K H a xs):∃its:List Value,Vals xs its/\IsTup s.heap a its.toArray/\xs.length<=A5:=by
 rcases h with h|⟨o,its,n,c,b,d,hz,r⟩
 .obtain⟨z,its,r,p⟩:=h.ok I.hok;exact⟨its,r,p,z⟩
 .refine⟨its.toList,r,⟨o,I.kIn a o c,b,n,by simpa using d⟩,?_⟩;have e:=r.length;simp only[Cb]at e;lia
theorem Inv.list_inj (I:Inv X pins σ H s)(h:SqL X.K H a xs)(h':SqL X.K H a ys):xs=ys:=by
 obtain⟨its,r,⟨o,n,e,_,_,d⟩,_⟩:=I.list h;obtain⟨its',c,⟨o',n',b,_,_,d'⟩,_⟩:=I.list h';rw[e]at b;cases b;rw[d]at d';injection d' with d1 _;have:its=its':=by simpa using congrArg Array.toList d1
 subst this;exact r.inj c
end
noncomputable abbrev Cx.wish (X:Cx)(E:Value->Ad->Prop):Cx:={X with xe:=E}
noncomputable abbrev Cx.nox (X:Cx):Cx:=X.wish λ_ _=>False
theorem Cx.Ok.wish {X:Cx}(ok:X.Ok)(E:Value->Ad->Prop):(X.wish E).Ok :=
 ⟨ok.mod,ok.kind,ok.glob,ok.blt,ok.above,ok.inj,ok.has,ok.cab,ok.hd,ok.frames,ok.stk,ok.exf,ok.bs,ok.bsz,ok.noex,ok.exfs,ok.funs,ok.frf⟩
theorem Cx.Ok.unwish {X:Cx}{E:Value->Ad->Prop}(ok:(X.wish E).Ok):X.Ok :=
 ⟨ok.mod,ok.kind,ok.glob,ok.blt,ok.above,ok.inj,ok.has,ok.cab,ok.hd,ok.frames,ok.stk,ok.exf,ok.bs,ok.bsz,ok.noex,ok.exfs,ok.funs,ok.frf⟩
section
variable {X:Cx}{pins:List (Addr×Obj)}{σ:St}{H:Hp}{s:Ad}{E:Value->Ad->Prop}
theorem Inv.wish (I:Inv X pins σ H s)(E:Value->Ad->Prop):Inv (X.wish E) pins σ H s:=⟨I.ok.wish E,I.os,I.bare,I.base,I.loc,I.cell,I.free,I.freeC,I.pin,I.hok,I.len⟩
theorem Inv.unwish (I:Inv (X.wish E) pins σ H s):Inv X pins σ H s:=⟨I.ok.unwish,I.os,I.bare,I.base,I.loc,I.cell,I.free,I.freeC,I.pin,I.hok,I.len⟩
theorem SP.unwish {D:Ends}{f:Flow}{a:Ad}(h:SP (X.wish E) pins D f a):SP X pins D f a:=by
 cases f with
 |next=>obtain⟨σ',H',I,q⟩:=h;exact⟨σ',H',I.unwish,q⟩
 |brk=>obtain⟨σ',H',I,q⟩:=h;exact⟨σ',H',I.unwish,q⟩
 |cont=>obtain⟨σ',H',I,q⟩:=h;exact⟨σ',H',I.unwish,q⟩
 |ret u=>obtain⟨v,σ',H',I,r,q⟩:=h;exact⟨v,σ',H',I.unwish,r,q⟩
theorem PSs.nox {st:List Stmt}{t:TS}(h:PSs X.nox st t):PSs X st t:=λa s σ H D I b =>
 BR (h a s σ H D (I.wish _) b) (λ_ _ q=>q.unwish) λ_ _ z=>Ct z
end
section
variable {X:Cx}{st:Stmt}{qb9:List Stmt}{t u:TS}{e:Expr}{te:TE}{pos:Pos}
def tNext:TS:=λD σ H=>D.nx σ H
def tSeq (t u:TS):TS:=λD σ H=>t {D with nx:=u D} σ H
theorem qaf:PSs X [] tNext:=λ_ _ σ H _ I h=>Dk ⟨σ,H,I,h⟩
theorem qf (e:PS X st t)(b:PSs X qb9 u):PSs X (st::qb9) (tSeq t u):=by
 intro a s σ H D I h;refine wpAny_execs_cons (thn (e a s σ H {D with nx:=u D} I h) λf c q=>?_);cases f with
 |next =>obtain⟨σ',H',d,q⟩:=q;exact b a c σ' H' D d q
 |ret v=>exact q
 |brk=>exact q
 |cont=>exact q
theorem qj (b:PS X st t):PSs X [st] t:=by
 intro a s σ H D I h;refine wpAny_execs_cons (thn (b a s σ H D I h) λf s1 q=>?_);cases f with|next=>exact Dk q|ret v=>exact q|brk=>exact q|cont=>exact q
def tBreak:TS:=λD σ H=>D.bk σ H
theorem qph:PS X (.Break pos) tBreak:=λ_ _ σ H _ I h=>wpAny_Break ⟨σ,H,I,h⟩
theorem Inv.quiet {a:List (Addr×Obj)}{σ:St}{H:Hp}{s:Ad}(I:Inv X a σ H s):interactive X.env=false:=by simp[interactive,I.ok.kind]
def tDrop (te:TE):TS:=λD σ H=>te σ H λ_ H1=>D.nx σ H1
theorem qz (b:PE X e te)(g:swapsWith e none pos.line X.env=pure false:=by rfl):PS X (.Expr e pos) (tDrop te):=by intro a s σ H D I h;exact wpAny_Expr_any (thn (b a s σ H _ I h) λv s1 ⟨x,f,c,r1,d⟩=>⟨σ,f,c,d⟩) I.quiet g
def tRet (te:TE):TS:=λD σ H=>te σ H D.rt
theorem qo (b:PE X e te):PS X (.Return (some e) pos) (tRet te):=by intro a s σ H D I h;exact wpAny_Return_some (thn (b a s σ H _ I h) λv s1 ⟨x,g,c,d,f⟩=>⟨x,σ,g,c,d,f⟩)
def tIfS (c:TT)(t u:TS):TS:=λD σ H=>c σ H λb H1=>if b=true then t D σ H1 else u D σ H1
theorem zb {c:Expr}{a b:List Stmt}{i:TT}(n:PT X c i)(o:PSs X a t)(m:PSs X b u):PS X (.If c a b pos) (tIfS i t u):=by
 intro e s σ H D I h;refine wpAny_If (thn (n e s σ H _ I h) λd k f=>?_);obtain⟨l,g,j⟩:=f;cases d with|true=>exact o e k σ l D g j|false=>exact m e k σ l D g j
def tNever:TS:=λ_ _ _=>False
theorem qfa:PS X st tNever:=λ_ _ _ _ _ _ h=>h.elim
end
abbrev TG:=V->St->Hp->(St->Hp->Prop)->Prop
abbrev TGs:=List V->St->Hp->(St->Hp->Prop)->Prop
def PG (X:Cx)(target:Expr)(t:TG):Prop :=
 ∀(pins:List (Addr×Obj))(s:Ad)(σ:St)(H:Hp)(v:V)(u:Value)(Q:St->Hp->Prop),Inv X pins σ H s->RelV v u->t v σ H Q ->
  wpAny (model X.prog X.w) X.A (assign target X.env u) (λ_ s'=>∃σ' H',Inv X pins σ' H' s'/\Q σ' H') X.xe s
def PGs (X:Cx)(ts:List Expr)(t:TGs):Prop :=
 ∀(pins:List (Addr×Obj))(s:Ad)(σ:St)(H:Hp)(vs:List V)(us:List Value)(Q:St->Hp->Prop),Inv X pins σ H s->Vals vs us->t vs σ H Q ->
  wpAny (model X.prog X.w) X.A (assignInOrder ((assignEach ts X.env).map (·.2)) us) (λ_ s'=>∃σ' H',Inv X pins σ' H' s'/\Q σ' H') X.xe s
abbrev TSet:=V->V->V->Hp->(Hp->Prop)->Prop
def PSet (X:Cx)(t:TSet):Prop :=
 ∀(pins:List (Addr×Obj))(s:Ad)(σ:St)(H:Hp)(o i v:V)(ov iv u:Value)(Q:Hp->Prop),Inv X pins σ H s->RelV o ov->RelV i iv->RelV v u->t o i v H Q ->
  wpAny (model X.prog X.w) X.A (setItem ov iv u) (λ_ s'=>∃H',Inv X pins σ H' s'/\Q H') X.xe s
abbrev TIp:=V->V->Hp->VK->Prop
def PIp (X:Cx)(op:Operator)(t:TIp):Prop :=
 ∀(pins:List (Addr×Obj))(s:Ad)(σ:St)(H:Hp)(x y:V)(v u:Value)(Q:VK),Inv X pins σ H s->RelV x v->RelV y u->t x y H Q ->
  wpAny (model X.prog X.w) X.A (inplaceOp op v u) (EP X pins σ Q) X.xe s
section
variable {X:Cx}{pos:Pos}
def qa8 (i:Nat):TG:=λv σ H Q=>Q (σ.set i (some v)) H
theorem qag {i:Nat}{x:Str}(c:X.N.Nodup)(a:X.N[i]?=some x)(b:Loc X.env.scope x)(d:X.fn x=true\/X.env.scope.names.lookup x=some .local:=by first|exact .inl rfl|exact .inr rfl|assumption):PG X (.Name x pos) (qa8 i):=by intro pins s σ H v u Q I r h;exact wpAny_assign_Name (qkz I c a b r (λs' e=>⟨_,H,e,h⟩) d)
def gNil:TGs:=λvs σ H Q=>vs=[]/\Q σ H
def gCons (t:TG)(u:TGs):TGs:=λvs σ H Q=>∃v r,vs=v::r/\t v σ H λσ' H'=>u r σ' H' Q
theorem qde:PGs X [] gNil:=by intro pins s σ H vs us Q I r h;obtain⟨e,h⟩:=h;subst e;cases r;exact assignInOrder_nil ⟨σ,H,I,h⟩
theorem qar {e:Expr}{es:List Expr}{t:TG}{u:TGs}(j:PG X e t)(d:PGs X es u)
  (c:(assignEach (e::es) X.env).map (·.2)=assign e X.env::(assignEach es X.env).map (·.2):=by rfl):PGs X (e::es) (gCons t u):=by
 intro a s σ H vs us Q I r h;obtain⟨v,vr,f,h⟩:=h;subst f;cases r with
 |cons r rr =>rw[c];refine assignInOrder_cons (thn (j a s σ H _ _ _ I r h) λ_ k b=>?_);obtain⟨σ1,l,g,i⟩:=b;exact d a k σ1 l _ _ Q g rr i
def qyx (K:Ah)(n:Nat)(t:TGs):TG:=λv σ H Q=>∃a xs,v=.ref a/\SqT K H a xs/\xs.length=n/\t xs σ H Q
theorem qe0 {es:List Expr}{k:Nat}{t:TGs}{n:Nat}(p:X.calm=true)(h:PGs X es t)
  (j:(assignEach es X.env).length=n:=by rfl)(hst:(assignEach es X.env).findIdx? (·.1)=none:=by rfl):PG X (.Tuple es k pos) (qyx X.K n t):=by
 intro c s σ H v u Q I r d;obtain⟨a,xs,i,g,m,d⟩:=d;subst i;cases r;obtain⟨its,rv,q,hz⟩:=I.tuple g;refine assign_Tuple_tuple (I.ok.hd p) q (by simp[j,<- m,rv.length]) hst λh' f=>?_;have l:Inv X c σ H {s with heap:=h'}:=I.kept (t':=s.toks) λb o e=>f b o (AE (AC e)) e;exact h c _ σ H xs _ Q l (by simpa using rv) d
def gSub (to ti:TE)(t:TSet):TG:=λv σ H Q=>to σ H λo H1=>ti σ H1 λi H2=>t o i v H2 λH3=>Q σ H3
theorem pg_sub {o i:Expr}{e d:TE}{t:TSet}(k:PE X o e)(l:PE X i d)(j:PSet X t)
  (E:∀v,assign (.Subscript o i pos) X.env v=(do
   let ov <- holding [v] (eval o X.env)
   let c <- holding [v,ov] (eval i X.env)
   standAt pos
   holding [v,ov,c] (setItem ov c v)
   release [v,ov,c] []):=by intro _;rfl):PG X (.Subscript o i pos) (gSub e d t):=by
 intro b s σ H v u Q I r h
 rw[E]
 refine Az (CS (thn (k b s σ H _ I h) λov D a=>?_))
 obtain⟨x,F,q,n,w⟩:=a
 refine Az (CS (thn (l b D σ F _ q w) λc m a=>?_))
 obtain⟨y,f,g,C,p⟩:=a
 refine Az (En (Az (CS (thn (j b m σ f x y v ov c u _ g n C r p) λ_ s3 a=>?_))))
 obtain⟨A,z,B⟩:=a
 exact wpAny_release ⟨σ,A,z,B⟩
def qyy (te:TE)(g:TG):TS:=λD σ H=>te σ H λx H1=>g x σ H1 D.nx
theorem ps_asg {a e:Expr}{d:TE}{g:TG}(n:PE X e d)(j:PG X a g)(i:swapsWithSole [a] e pos.line X.env=pure false:=by rfl)(hw:swappedStores [a] e X.env=pure none:=by rfl)
  (h1:(assignEach [a] X.env).map (·.2)=[assign a X.env]:=by rfl):PS X (.Assign [a] e pos) (qyy d g):=by
 intro b s σ H D I h;refine wpAny_Assign_stores (thn (n b s σ H _ I h) λv o c=>?_) i hw;obtain⟨x,f,l,k,m⟩:=c;rw[h1];exact thn (j b o σ f x v _ l k m) λ_ s2 q=>q
theorem qu {i:Nat}{x:Str}{e:Expr}{d:TE}{a:Pos}(n:X.N.Nodup)(k:X.N[i]?=some x)(f:Loc X.env.scope x)(p:PE X e d)(j:swapsWith e (some (.Name x a)) pos.line X.env=pure false:=by rfl)(hf:X.fn x=true\/X.env.scope.names.lookup x=some .local:=by first|exact .inl rfl|exact .inr rfl|assumption) :
  PS X (.Assign [.Name x a] e pos) (qyy d (qa8 i)):=by
 intro b s σ H D I h;refine wpAny_Assign_Name (thn (p b s σ H _ I h) λv s1 c=>?_) j;obtain⟨y,q,m,l,o⟩:=c;exact qkz m n k f l (λs2 g=>⟨_,q,g,o⟩) hf
def tAug (i:Nat)(te:TE)(ti:TIp):TS:=λD σ H=>∃x,σ[i]?=some (some x)/\te σ H λy H1=>ti x y H1 λz H2=>D.nx (σ.set i (some z)) H2
theorem qk0 {i:Nat}{x:Str}{e:Expr}{q:TE}{op:Operator}{n:TIp}{j:Pos}(P:X.N.Nodup)(p:X.N[i]?=some x)(g:Loc X.env.scope x)(U:PE X e q)(G:PIp X op n)(Q:X.fn x=true\/X.env.scope.names.lookup x=some .local:=by first|exact .inl rfl|exact .inr rfl|assumption) :
  PS X (.AugAssign (.Name x j) op e pos) (tAug i q n):=by
 intro b s σ H D I h;obtain⟨v,L,h⟩:=h;obtain⟨m,M,V⟩:=I.loc;have o:Vis X.env.scope x:=by rcases g with k|k;exact .inl k;exact .inr (.inl k)
 obtain⟨u,r,l⟩:=V i x v p L o;refine wpAny_AugAssign_Name ?_;have t:wpAny (model X.prog X.w) X.A (eval e X.env) (λw C=>wpAny (model X.prog X.w) X.A (inplaceOp op u w) (λr E=>wpAny (model X.prog X.w) X.A (storeName X.env x r) (λ_=>SP X b D .next) X.xe E) X.xe C) X.xe s:=by refine thn (U b s σ H _ I h) λw s1 d=>?_;obtain⟨y,H1,O,J,R⟩:=d;refine thn (G b s1 σ H1 v y u w _ O r J R) λz s2 d=>?_;obtain⟨zv,B,F,Y,K⟩:=d;exact qkz F P p g Y (λs3 T=>⟨_,B,T,K⟩) Q
 rcases l with ⟨a,S⟩|⟨a,c,W,f⟩
 .exact wpAny_loadName_local I.ok.kind a M S t
 .rcases a with a|a
  .exact wpAny_loadName_cell I.ok.kind a W f t
  .rcases g with k|k
   .have:X.env.scope.names.lookup x=some .free:=a;rw[k]at this;cases this
   .have:X.env.scope.names.lookup x=some .free:=a;rw[k]at this;cases this
noncomputable def ipI (f:Int->Int->Int):TIp:=λx y H Q=>∃i j,x=.int i/\y=.int j/\Q (.int (f i j)) H
theorem qrf:PIp X .Add (ipI λi j=>i+j):=by intro pins s σ H x y v u Q I b d h;obtain⟨i,j,c,a,q⟩:=h;subst c;subst a;obtain⟨t,rfl⟩:=b;obtain⟨t',rfl⟩:=d;exact iadd_int ⟨.int _,H,I.tok _,⟨_,Z⟩,q⟩
theorem ip_sub:PIp X .Sub (ipI λi j=>i-j):=by intro pins s σ H x y v u Q I b d h;obtain⟨i,j,c,a,q⟩:=h;subst c;subst a;obtain⟨t,rfl⟩:=b;obtain⟨t',rfl⟩:=d;exact isub_int ⟨.int _,H,I.tok _,⟨_,Z⟩,q⟩
end
section
variable {X:Cx}{pos:Pos}
def tWhile (c:TT)(tb:TS):TS:=λD σ H=>∃W:Nat->St->Hp->Prop,(∃m,W m σ H)/\∀m σ H,W m σ H ->
 c σ H λb H1=>if b=true then ∃N:St->Hp->Prop,(∀σ' H',N σ' H'->∃m',m'<m/\W m' σ' H')/\tb {D with nx:=N,ct:=N,bk:=D.nx} σ H1 else D.nx σ H1
theorem qf8 {c:Expr}{d:List Stmt}{x:TT}{tb:TS}(y:AW (model X.prog X.w) X.A X.env X.xe)(J:PT X c x)(C:PSs X d tb):PS X (.While c d [] pos) (tWhile x tb):=by
 intro a s σ H D I h;obtain⟨W,⟨M,L⟩,p⟩:=h;refine wpAny_While (codeAny_whileLoop (λn B=>∃σ' H',Inv X a σ' H' B/\W n σ' H') ?_ M ⟨σ,H,I,L⟩);rintro n K ⟨σ1,z,G,F⟩;refine BA y (thn (J a K σ1 z _ G (p n σ1 z F)) λb E t=>?_);obtain⟨q,r,g⟩:=t;cases b with
 |true =>
  obtain⟨N,u,g⟩:=g;rw[if_pos Z];refine BA y (thn (C a E σ1 q _ r g) λf s3 i=>?_);cases f with
  |next =>obtain⟨σ3,e,m,o⟩:=i;obtain⟨k,l,j⟩:=u σ3 e o;exact⟨k,l,σ3,e,m,j⟩
  |cont =>obtain⟨σ3,e,m,o⟩:=i;obtain⟨k,l,j⟩:=u σ3 e o;exact⟨k,l,σ3,e,m,j⟩
  |brk=>exact i
  |ret v=>exact i
 |false =>rw[if_neg AF];exact Dk ⟨σ1,q,r,g⟩
end
structure It where
 go:Nat->Hp->Prop
 yld:Nat->Hp->V->Hp->Prop
 stop:Nat->Hp->Prop
def qi5 (X:Cx)(pins:List (Addr×Obj))(H:Hp)(b:Addr):Prop :=
 H b=none/\b≠X.env.locals/\b∉X.fs/\(b∈X.ex\/X.s₀.heap.objs.size<=b)/\(∀x c,X.env.cells.lookup x=some c->c≠b)/\∀p∈X.pn++pins,p.1≠b
theorem Inv.fpOk {X:Cx}{a:List (Addr×Obj)}{σ:St}{H H':Hp}{s:Ad}{b:Addr}(I:Inv X a σ H s)(d:s.heap.objs.size<=b)(f:H' b=none):qi5 X a H' b:=by
 refine⟨f,Ci (A0 I.lt d),I.nofs d,.inr (A9 I.sz d),λx c e z=>?_,λp g z=>?_⟩
 .obtain⟨v,q⟩:=I.cell x c e;exact absurd (A0 q.lt (by rw[z];exact d)) (BX _)
 .exact absurd (A0 (AC (I.pin p g).1) (by rw[z];exact d)) (BX _)
structure Turn (P:AK)(w:World)(K:Ah)(tg:Expr)(J:It)(fp:List Addr)(it:Addr)(tn:Nat->Heap->Prop):Prop where
 mem:it∈fp
 obj:∀i h,tn i h->∀b∈fp,∃o,h.get? b=some o/\∀v,o.data ≠ .cell v
 keep:∀i h h',tn i h->(∀b∈fp,∀o,h.get? b=some o->h'.get? b=some o)->tn i h'
 item:∀(X:Cx),X.prog=P->X.w=w->X.K=K->X.calm=true->∀(i:Nat)(pins:List (Addr×Obj))(s:Ad)(σ:St)(H:Hp)(E:Value->Ad->Prop),Inv X pins σ H s->(∀b∈fp,qi5 X pins H b)->tn i s.heap->J.go i H ->
  wpAny (model P w) X.A (pyNext (.ref it)) (λr s1=>∃u,r=some u /\
   wpAny (model P w) X.A (letOwnedTupleGo tg (.ref it) u) (λ_ s2=>∃x H',Inv X pins σ H' s2/\RelV x u/\J.yld i H x H'/\tn (i+1) s2.heap/\∀b∈fp,H' b=none) E s1) E s
 done:∀(X:Cx),X.prog=P->X.w=w->X.K=K->X.calm=true->∀(i:Nat)(pins:List (Addr×Obj))(s:Ad)(σ:St)(H:Hp)(E:Value->Ad->Prop),Inv X pins σ H s->(∀b∈fp,qi5 X pins H b)->tn i s.heap->J.stop i H ->
  wpAny (model P w) X.A (pyNext (.ref it)) (λr s1=>r=none/\Inv X pins σ H s1) E s
 self:∀(A:AO)(i:Nat)(s:Ad)(Q:Value->Ad->Prop)(E:Value->Ad->Prop),tn i s.heap->Q (.ref it) s->wpAny (model P w) A (pyIter (.ref it)) Q E s
abbrev TI:=St->Hp->(It->Hp->Prop)->Prop
def PIE (X:Cx)(pins:List (Addr×Obj))(σ:St)(tg:Expr)(R:It->Hp->Prop)(itv:Value)(s2:Ad):Prop :=
 ∃(it:Addr)(fp:List Addr)(tn:Nat->Heap->Prop)(J:It)(H':Hp),itv=.ref it/\Inv X pins σ H' s2/\Turn X.prog X.w X.K tg J fp it tn/\tn 0 s2.heap/\(∀b∈fp,qi5 X pins H' b)/\R J H'
def PI (X:Cx)(tg iter:Expr)(wi:TI):Prop :=
 ∀(pins:List (Addr×Obj))(s:Ad)(σ:St)(H:Hp)(R:It->Hp->Prop),Inv X pins σ H s->wi σ H R ->
  wpAny (model X.prog X.w) X.A (eval iter X.env) (λv s1=>wpAny (model X.prog X.w) X.A (pyIter v) (PIE X pins σ tg R) X.xe s1) X.xe s
theorem go_of {M:Model}{A:AO}{E:Value->Ad->Prop}{s:Ad}{b:Expr}{it:Addr}{u:Value}{o:Obj}{n:String}{vs:Array Value}{Q:Unit->Ad->Prop}(c:s.heap.get? it=some o)(f:o.cls=.type n)(e:o.data=.fields vs)
  (d:["enumerate","zip","dict_itemiterator","dict_reverseitemiterator","odict_iterator","itertools.zip_longest","itertools.pairwise"].contains n=false)(a:Q () s):wpAny M A (letOwnedTupleGo b (.ref it) u) Q E s:=by
 unfold letOwnedTupleGo;cases b <;>first
  |exact Bf a
  | (cases u <;>first
    |exact Bf a
    | (refine Az (wpAny_load c ?_)
       rw[f,e]
       show wpAny M A (if (["enumerate","zip","dict_itemiterator","dict_reverseitemiterator","odict_iterator","itertools.zip_longest","itertools.pairwise"].contains n && vs[0]? == some (rawInt _))=true then _ else _) Q E s
       rw[if_neg (by intro h;rw[d,CI]at h;cases h)]
       exact Bf a))
noncomputable def Itl (K:Ah)(a:Addr):It :=
 ⟨λi H=>∃xs x,SqL K H a xs/\xs[i]?=some x,λi H x H'=>H'=H/\∀xs,SqL K H a xs->xs[i]?=some x,λi H=>∃xs,SqL K H a xs/\xs.length<=i⟩
noncomputable def Itr (lo:Int)(n:Nat):It:=⟨λi _=>i<n,λi H x H'=>H'=H/\x=.int (lo+i),λi _=>n<=i⟩
theorem quc {P:AK}{w:World}{K:Ah}{M:Expr}(a it:Addr):Turn P w K M (Itl K a) [it] it (λi h=>h.IsListIter it a i) where
 mem:=by simp
 obj:=λi h st b f=>by
  have e:b=it:=by simpa using f
  subst e;obtain⟨o,e,c,d⟩:=st;exact⟨o,e,λv z=>by rw[d]at z;cases z⟩
 keep:=λi h h' st k=>st.at λo e=>k it (by simp) o e
 item:=by intro X n r A G i g s σ H E I l st y;subst n r A;obtain⟨xs,x,j,q⟩:=y;obtain⟨its,rv,p,hz⟩:=I.list j;obtain⟨u,S,Q⟩:=rv.get q;obtain⟨F,C,L,B,D,t⟩:=l it (by simp);refine wpAny_pyNext_list_item st p.isList (x:=u) (by simpa using S) λh' m N=>?_;have O:Inv X g σ H {s with heap:=h'}:=I.turned (t':=s.toks) (λb o f e=>(N.2 b f).trans e) F C B D t;obtain⟨o,e,c,d⟩:=id m;exact⟨u,Z,go_of (s:={s with heap:=h'}) e c d Uk ⟨x,H,O,Q,⟨Z,λys J=>by rw[I.list_inj J j];exact q⟩,m,λb f=>(l b f).1⟩⟩
 done:=by intro X n r A G i g s σ H E I l st y;subst n r A;obtain⟨xs,j,q⟩:=y;obtain⟨its,rv,p,hz⟩:=I.list j;obtain⟨F,C,L,B,D,t⟩:=l it (by simp);have hl:=rv.length;exact wpAny_pyNext_list_end (I.ok.hd G) st p.isList (by simp;lia) λh' R=>⟨Z,I.turned (t':=s.toks) (λb o f e=>R b o f e) F C B D t⟩
 self:=λ_ _ _ _ _ st h=>wpAny_pyIter_listiter st h
theorem qrg {P:AK}{w:World}{K:Ah}{C:Expr}(it:Addr)(lo:Int)(n:Nat):Turn P w K C (Itr lo n) [it] it (λi h=>IsRangeIter h it (lo+(i:Nat)*1) ((n:Int)-(i:Nat)) 1) where
 mem:=by simp
 obj:=λi h st b a=>by
  have e:b=it:=by simpa using a
  subst e;exact⟨_,st,λv z=>by have F:Data.fields _=Data.cell v:=z;cases F⟩
 keep:=λi h h' st k=>k it (by simp) _ st
 item:=by intro X g j p x i c s σ H E I d st m;subst g j p;obtain⟨y,r,B,q,u,l⟩:=d it (by simp);have W:=Walks.range (prog:=X.prog) (w:=X.w) (I.ok.hd x) it lo 1 n;refine W.item i s _ _ m st λv h' tk J f A=>?_;obtain⟨t,rfl⟩:=J;have D:Inv X c σ H {s with heap:=h',toks:=tk}:=I.turned (λb o a e=>A b o (by simpa using a) e) y r q u l;refine⟨_,Z,go_of (s:={s with heap:=h',toks:=tk}) (n := "range_iterator") f Z Z Uk ⟨.int (lo+i),H,D,⟨t,?_⟩,⟨Z,Z⟩,f,λb a=>(d b a).1⟩⟩;rw[Int.mul_one]
 done:=by intro X g j p x i c s σ H E I d st m;subst g j p;obtain⟨y,r,B,q,u,l⟩:=d it (by simp);exact wpAny_pyNext_range_end (I.ok.hd x) st (by have:n<=i:=m;lia) λh' G=>⟨Z,I.turned (t':=s.toks) (λb o a e=>G b o a e) y r q u l⟩
 self:=λ_ _ _ _ _ st h=>wpAny_pyIter_rangeiter st h
end L2
namespace L2
open PySem PySem.Spec PyProof.Rows
section
variable {X:Cx}{tg:Expr}
def iList (K:Ah)(tl:TE):TI:=λσ H R=>tl σ H λx H1=>∃a,x=.ref a/\(∃xs,SqL K H1 a xs)/\R (Itl K a) H1
theorem qa0 {l:Expr}{g:TE}(t:PE X l g):PI X tg l (iList X.K g):=by
 intro f s σ H R I h;refine thn (t f s σ H _ I h) λv d i=>?_;obtain⟨x,j,c,m,r⟩:=i;obtain⟨a,e,⟨xs,n⟩,q⟩:=r;subst e;cases m;obtain⟨its,rv,p,hz⟩:=c.list n;refine wpAny_pyIter_list p.isList ?_;refine⟨d.heap.objs.size,[d.heap.objs.size],_,_,j,Z,c.kept (t':=d.toks) λb o e=>As _ e,quc a _,⟨_,AT _ Z,Z,Z⟩,λb k=>?_,q⟩;have e:b=d.heap.objs.size:=by simpa using k
 subst e;exact c.fpOk (Al _) (c.hok.fresh (Al _))
theorem qvy {c:List (Addr×Obj)}{σ:St}{H:Hp}{s:Ad}{R:It->Hp->Prop}{E:Value->Ad->Prop}{lo a:Int}{t u v:Tok}{tk:Nat}(I:Inv X c σ H s)(k : -(2 ^ 62)<=lo)(h:lo<2 ^ 62)(l : -(2 ^ 62)<=a)(j:a<2 ^ 62)
  (q:R (Itr lo (a-lo).toNat) H):wpAny (model X.prog X.w) X.A (pyIter (.ref s.heap.objs.size)) (PIE X c σ tg R) E {s with heap:=s.heap.push {cls:=.type "range",data:=.fields #[.int lo t,.int a u,.int 1 v]},toks:=tk}:=by
 refine wpAny_pyIter_range (IsRange.new ..) (small_one k h l j) ?_;have d:Inv X c σ H {s with heap:=s.heap.push {cls:=.type "range",data:=.fields #[.int lo t,.int a u,.int 1 v]},toks:=tk}:=I.kept λb o e=>As _ e;refine⟨(s.heap.push {cls:=.type "range",data:=.fields #[.int lo t,.int a u,.int 1 v]}).objs.size,[(s.heap.push {cls:=.type "range",data:=.fields #[.int lo t,.int a u,.int 1 v]}).objs.size],_,_,H,Z,
  d.kept (t':=tk) λb o e=>As _ e,qrg _ lo (a-lo).toNat,?_,λb g=>?_,q⟩
 .have i:lo+((0:Nat):Int)*1=lo:=by simp
  have f:(((a-lo).toNat:Nat):Int)-((0:Nat):Int)=BD.Range.rangeSize lo a 1:=by rw[rangeSize_one];split <;>lia
  show IsRangeIter _ _ (lo+((0:Nat):Int)*1) ((((a-lo).toNat:Nat):Int)-((0:Nat):Int)) 1;rw[i,f];exact AT _ rfl
 .have e:b=(s.heap.push {cls:=.type "range",data:=.fields #[.int lo t,.int a u,.int 1 v]}).objs.size:=by simpa using g
  subst e;exact d.fpOk (Al _) (d.hok.fresh (Al _))
def iRng1 (ta:TA):TI:=λσ H R=>ta σ H λvs H1=>∃j:Int,vs=[.int j] /\ -(2 ^ 62)<=j/\j<2 ^ 62/\R (Itr 0 j.toNat) H1
theorem qbp {a:Expr}{f:TA}{p pos:Pos}(i:Gl X "range")(n:X.mg "range"=none)(o:PA X [a] f)(g:starEach [a] X.env=[(false,eval a X.env)]:=by rfl):PI X tg (.Call (.Name "range" p) [a] [] pos) (iRng1 f):=by
 intro b s σ H R I h;refine Call_ (qf6 I i n boot_range (BW (thn (o pos b s σ H _ I h) λus s1 d=>?_) g Z));obtain⟨vs,H1,m,k,c⟩:=d;obtain⟨j,e,c,l,q⟩:=c;subst e;cases k with
 |cons r rr =>cases rr;obtain⟨t,rfl⟩:=r;exact call_range_1 (qvy m (by lia) (by lia) c l (by simpa using q))
def tFor (wi:TI)(g:TG)(tb:TS):TS:=λD σ H=>wi σ H λJ H1=>∃W:Nat->Nat->St->Hp->Prop,(∃m,W 0 m σ H1)/\∀i m σ H,W i m σ H ->
 (J.stop i H/\D.nx σ H)\/(J.go i H/\∃N:St->Hp->Prop,(∀σ' H',N σ' H'->∃m',m'<m/\W (i+1) m' σ' H')/\∀x H',J.yld i H x H'->g x σ H' λσ2 H2=>tb {D with nx:=N,ct:=N,bk:=D.nx} σ2 H2)
noncomputable def qi6 (fp:List Addr)(h:Heap):List (Addr×Obj):=fp.filterMap λb=>(h.get? b).map λo=>(b,o)
theorem qd4 {fp:List Addr}{h:Heap}{b:Addr}{o:Obj}(a:b∈fp)(e:h.get? b=some o):(b,o)∈qi6 fp h:=BS.mpr ⟨b,a,by rw[e];rfl⟩
theorem qud {fp:List Addr}{h:Heap}{p:Addr×Obj}(d:p∈qi6 fp h):p.1∈fp/\h.get? p.1=some p.2:=by
 obtain⟨b,c,e⟩:=BS.mp d;cases q:h.get? b with|none=>rw[q]at e;cases e|some o =>rw[q]at e;have a:(b,o)=p:=AD e;subst a;exact⟨c,q⟩
theorem Inv.pinned {a:List (Addr×Obj)}{σ:St}{H:Hp}{s:Ad}{fp:List Addr}(I:Inv X a σ H s)(i:∀b∈fp,qi5 X a H b)(g:∀b∈fp,∃o,s.heap.get? b=some o/\∀v,o.data ≠ .cell v):Inv X (a++qi6 fp s.heap) σ H s :=
 I.pins_of λp k=>(A7.mp k).elim (λz=>I.pin p (A1 _ z)) λz=>by obtain⟨f,e⟩:=qud z;obtain⟨l,j,h,_⟩:=i p.1 f;obtain⟨o,c,d⟩:=g p.1 f;rw[e]at c;cases c;exact⟨e,l,j,h,d⟩
theorem Inv.unpinned {a pl:List (Addr×Obj)}{σ:St}{H:Hp}{s:Ad}(I:Inv X (a++pl) σ H s):Inv X a σ H s:=I.pins_of λp b=>I.pin p (A1 _ (Bz _ b))
theorem qa3 {q:Expr}{E:List Stmt}{wi:TI}{g:TG}{tb:TS}{pos:Pos}(B:AW (model X.prog X.w) X.A X.env X.xe)(hc:X.calm=true)(hi:PI X tg q wi)(hg:PG X tg g)(j:PSs X E tb)
  (hs:∀x,foldedSetIterable q X.env x=pure x:=by intro _;rfl):PS X (.For tg q E [] pos) (tFor wi g tb):=by
 intro a s σ H D I h;refine wpAny_For (thn (hi a s σ H _ I h) λv s1 h1=>thn h1 λitv s2 h2=>?_) hs;obtain⟨it,fp,V,J,H2,e,I2,T,S,f2,W,⟨m0,w0⟩,L⟩:=h2;subst e
 -- what stays true of the iterator's objects through the loop
 have t:∀{H':Hp},(∀b∈fp,H' b=none)->∀b∈fp,qi5 X a H' b:=λhn b j=>⟨hn b j,(f2 b j).2⟩;refine codeAny_forLoop_any (λn P=>∃i σ' H',Inv X a σ' H' P/\V i P.heap/\(∀b∈fp,H' b=none)/\W i n σ' H') ?_ m0 ⟨0,σ,H2,I2,S,λb j=>(f2 b j).1,w0⟩;rintro n U ⟨i,σ3,F,I3,G,K,w3⟩;rcases L i n σ3 F w3 with ⟨stop,qn⟩|⟨go,N,hN,step⟩
 .refine BA B (thn (T.done X Z Z Z hc i a U σ3 F X.xe I3 (t K) G stop) λr s4 c=>?_);obtain⟨O,I4⟩:=c;subst O;exact Dk ⟨σ3,F,I4,qn⟩
 .refine BA B (thn (T.item X Z Z Z hc i a U σ3 F X.xe I3 (t K) G go) λr s4 c=>?_);obtain⟨u,O,h4⟩:=c;subst O;refine BA B (thn h4 λ_ Q c=>?_);obtain⟨x,H5,I5,r5,y5,C,Y⟩:=c;have R:=I5.pinned (t Y) (T.obj _ _ C);refine BA B (thn (hg _ Q σ3 H5 x u _ R r5 (step x H5 y5)) λ_ s6 c=>?_);obtain⟨σ6,H6,I6,q6⟩:=c;refine BA B (thn (j _ s6 σ6 H6 _ I6 q6) λf M p=>?_);have y:∀{σ7:St}{k:Hp},Inv X (a++qi6 fp Q.heap) σ7 k M->N σ7 k->∃m,m<n/\∃i σ' H',Inv X a σ' H' M/\V i M.heap/\(∀b∈fp,H' b=none)/\W i m σ' H':=λ{σ7 k} l z=>by obtain⟨m',hm,w7⟩:=hN σ7 k z;refine⟨m',hm,i+1,σ7,k,l.unpinned,T.keep _ _ _ C λb j o e=>(l.pin (b,o) (A1 _ (A1 _ (qd4 j e)))).1,λb j=>?_,w7⟩;obtain⟨o,e,d⟩:=T.obj _ _ C b j;exact(l.pin (b,o) (A1 _ (A1 _ (qd4 j e)))).2.1
  cases f with
  |next=>obtain⟨σ7,k,l,z⟩:=p;exact y l z
  |cont=>obtain⟨σ7,k,l,z⟩:=p;exact y l z
  |brk=>obtain⟨σ7,k,l,p⟩:=p;exact⟨σ7,k,l.unpinned,p⟩
  |ret v=>obtain⟨x7,σ7,k,l,r7,p⟩:=p;exact⟨x7,σ7,k,l.unpinned,r7,p⟩
end
theorem qa5 {K:Ah}{a:Addr}{xs:List V}{g:TG}{tb:TS}{D:Ends}{σ:St}{H:Hp}(b:Nat->St->Hp->Prop)(h:b 0 σ H)(k:∀i σ H,i<=xs.length->b i σ H->SqL K H a xs)
  (l:∀i x σ H,xs[i]?=some x->b i σ H->g x σ H λσ2 d=>tb {D with nx:=b (i+1),ct:=b (i+1),bk:=D.nx} σ2 d)(hd:∀σ H,b xs.length σ H->D.nx σ H) :
  ∃W:Nat->Nat->St->Hp->Prop,(∃m,W 0 m σ H)/\∀i m σ H,W i m σ H ->
   ((Itl K a).stop i H/\D.nx σ H)\/((Itl K a).go i H/\∃N:St->Hp->Prop,(∀σ' H',N σ' H'->∃m',m'<m/\W (i+1) m' σ' H')/\∀x H',(Itl K a).yld i H x H'->g x σ H' λσ2 d=>tb {D with nx:=N,ct:=N,bk:=D.nx} σ2 d):=by
 refine⟨λi m σ H=>m=xs.length-i/\i<=xs.length/\b i σ H,⟨xs.length,by simp,AQ _,h⟩,?_⟩
 rintro i m σ H ⟨rfl,j,p⟩
 have q:=k i σ H j p
 by_cases c:i<xs.length
 .refine .inr ⟨⟨xs,xs[i],q,by simp[c]⟩,b (i+1),λσ' H' f=>⟨xs.length-(i+1),by lia,Z,c,f⟩,λx H' y=>?_⟩;obtain⟨e,y⟩:=y;subst e;exact l i x σ _ (y xs q) p
 .have e:i=xs.length:=by lia
  subst e;exact .inl ⟨⟨xs,q,Al _⟩,hd σ H p⟩
theorem qc6 {lo:Int}{n:Nat}{g:TG}{tb:TS}{D:Ends}{σ:St}{H:Hp}(a:Nat->St->Hp->Prop)(f:a 0 σ H)
  (h:∀i σ H,i<n->a i σ H->g (.int (lo+i)) σ H λσ2 c=>tb {D with nx:=a (i+1),ct:=a (i+1),bk:=D.nx} σ2 c)(hd:∀σ H,a n σ H->D.nx σ H) :
  ∃W:Nat->Nat->St->Hp->Prop,(∃m,W 0 m σ H)/\∀i m σ H,W i m σ H ->
   ((Itr lo n).stop i H/\D.nx σ H)\/((Itr lo n).go i H/\∃N:St->Hp->Prop,(∀σ' H',N σ' H'->∃m',m'<m/\W (i+1) m' σ' H')/\∀x H',(Itr lo n).yld i H x H'->g x σ H' λσ2 c=>tb {D with nx:=N,ct:=N,bk:=D.nx} σ2 c):=by
 refine⟨λi m σ H=>m=n-i/\i<=n/\a i σ H,⟨n,by simp,AQ _,f⟩,?_⟩
 rintro i m σ H ⟨rfl,hi,p⟩
 by_cases b:i<n
 .refine .inr ⟨b,a (i+1),λσ' H' d=>⟨n-(i+1),by lia,Z,b,d⟩,λx H' y=>?_⟩;obtain⟨e,y⟩:=y;subst e y;exact h i σ _ b p
 .have e:i=n:=by lia
  subst e;exact .inl ⟨Al _,hd σ H p⟩
end L2
namespace L2
open PySem PySem.Spec PyProof.Rows
abbrev R2:=V->V->Hp->VK->Prop
def OpR (X:Cx)(f:Value->Value->Sem Value)(r:R2):Prop :=
 ∀(pins:List (Addr×Obj))(s:Ad)(σ:St)(H:Hp)(x y:V)(v u:Value)(Q:VK),Inv X pins σ H s->RelV x v->RelV y u->r x y H Q ->
  wpAny (model X.prog X.w) X.A (f v u) (EP X pins σ Q) X.xe s
def UnR (X:Cx)(f:Value->Sem Value)(r:V->Hp->VK->Prop):Prop :=
 ∀(pins:List (Addr×Obj))(s:Ad)(σ:St)(H:Hp)(x:V)(v:Value)(Q:VK),Inv X pins σ H s->RelV x v->r x H Q ->
  wpAny (model X.prog X.w) X.A (f v) (EP X pins σ Q) X.xe s
def qf9 (X:Cx)(f:Value)(r:List V->Hp->VK->Prop):Prop :=
 ∀(pins:List (Addr×Obj))(s:Ad)(σ:St)(H:Hp)(xs:List V)(us:List Value)(Q:VK),Inv X pins σ H s->Vals xs us->r xs H Q ->
  wpAny (model X.prog X.w) X.A (call f us) (EP X pins σ Q) X.xe s
def TruR (X:Cx)(r:V->Hp->(Bool->Hp->Prop)->Prop):Prop :=
 ∀(pins:List (Addr×Obj))(s:Ad)(σ:St)(H:Hp)(x:V)(v:Value)(Q:Bool->Hp->Prop),Inv X pins σ H s->RelV x v->r x H Q ->
  wpAny (model X.prog X.w) X.A (truthy v) (TP X pins σ Q) X.xe s
def tOp (r:R2)(ta tb:TE):TE:=λσ H Q=>ta σ H λx H1=>tb σ H1 λy H2=>r x y H2 Q
def tUn (r:V->Hp->VK->Prop)(ta:TE):TE:=λσ H Q=>ta σ H λx H1=>r x H1 Q
def rI (C:Int->Int->Prop)(g:Int->Int->V):R2:=λx y H Q=>∃i j,x=.int i/\y=.int j/\C i j/\Q (g i j) H
def rI0 (g:Int->Int->V):R2:=λx y H Q=>∃i j,x=.int i/\y=.int j/\Q (g i j) H
noncomputable def rU (g:Int->V):V->Hp->VK->Prop:=λx H Q=>∃i,x=.int i/\Q (g i) H
section
variable {X:Cx}{a b c:Expr}{ta tb tc:TE}{pos:Pos}
theorem binT (B:PE X a ta)(m:PE X b tb){c:List (Addr×Obj)}{s:Ad}{σ:St}{H:Hp}{R:V->V->Hp->Prop}(I:Inv X c σ H s)
  (h:ta σ H λx i=>tb σ i λy d=>R x y d){Q:Value->Ad->Prop}{f:Value->Value->Sem Value}
  (q:∀v u g x y d,Inv X c σ d g->RelV x v->RelV y u->R x y d->wpAny (model X.prog X.w) X.A (f v u) Q X.xe g) :
  wpAny (model X.prog X.w) X.A (eval a X.env) (λv l=>wpAny (model X.prog X.w) X.A (eval b X.env) (λu j=>wpAny (model X.prog X.w) X.A (f v u) Q X.xe j) X.xe l) X.xe s:=by
 refine thn (B c s σ H _ I h) λv z e=>?_;obtain⟨x,i,p,n,r⟩:=e;refine thn (m c z σ i _ p r) λu g e=>?_;obtain⟨y,d,k,t,o⟩:=e;exact q v u g x y d k n t o
theorem qv {op:Operator}{r:R2}(g:OpR X (binaryOp op) r)(l:PE X a ta)(i:PE X b tb):PE X (.BinOp a op b pos) (tOp r ta tb):=by intro c s σ H Q I h;exact wpAny_BinOp (binT l i I h λv u j x y d f e k q=>g c j σ d x y v u Q f e k q)
theorem qeq {op:UnaryOp}{r:V->Hp->VK->Prop}(c:UnR X (unaryOp op) r)(g:PE X a ta):PE X (.UnaryOp op a pos) (tUn r ta):=by intro b s σ H Q I h;exact UnaryOp_ (thn (g b s σ H _ I h) λv e ⟨x,j,d,f,i⟩=>c b e σ j x v Q d f i)
theorem opI {f:Value->Value->Sem Value}{C:Int->Int->Prop}{g:Int->Int->Int}
  (rule:∀(i j:Int)(t u:Tok)(s:Ad)(Q:Value->Ad->Prop)(E:Value->Ad->Prop),C i j->Q (.int (g i j) s.toks) {s with toks:=s.toks+1}->wpAny (model X.prog X.w) X.A (f (.int i t) (.int j u)) Q E s) :
  OpR X f (rI C λi j=>.int (g i j)):=by
 intro pins s σ H x y v u Q I a b h;obtain⟨i,j,rfl,rfl,c,q⟩:=h;obtain⟨t,rfl⟩:=a;obtain⟨t',rfl⟩:=b;exact rule i j t t' s _ _ c ⟨.int (g i j),H,I.tok _,⟨_,Z⟩,q⟩
theorem opI0 {f:Value->Value->Sem Value}{g:Int->Int->Int}
  (rule:∀(i j:Int)(t u:Tok)(s:Ad)(Q:Value->Ad->Prop)(E:Value->Ad->Prop),Q (.int (g i j) s.toks) {s with toks:=s.toks+1}->wpAny (model X.prog X.w) X.A (f (.int i t) (.int j u)) Q E s) :
  OpR X f (rI0 λi j=>.int (g i j)):=by
 intro pins s σ H x y v u Q I a b h;obtain⟨i,j,rfl,rfl,q⟩:=h;obtain⟨t,rfl⟩:=a;obtain⟨t',rfl⟩:=b;exact rule i j t t' s _ _ ⟨.int (g i j),H,I.tok _,⟨_,Z⟩,q⟩
theorem qyz {f:Value->Value->Sem Value}{g:Int->Int->Bool}
  (rule:∀(i j:Int)(t u:Tok)(s:Ad)(Q:Value->Ad->Prop)(E:Value->Ad->Prop),Q (.bool (g i j)) s->wpAny (model X.prog X.w) X.A (f (.int i t) (.int j u)) Q E s) :
  OpR X f (rI0 λi j=>.bl (g i j)):=by
 intro pins s σ H x y v u Q I a b h;obtain⟨i,j,rfl,rfl,q⟩:=h;obtain⟨t,rfl⟩:=a;obtain⟨t',rfl⟩:=b;exact rule i j t t' s _ _ ⟨.bl (g i j),H,I,Z,q⟩
def CDiv (i j:Int):Prop:=0<j/\j<1073741824
def CPow (i j:Int):Prop:=0<=j/\j<=1000000/\i.natAbs<2 ^ 64
def CMul (i j:Int):Prop:=(-(2 ^ 64)<i/\i<2 ^ 64)\/(-(2 ^ 64)<j/\j<2 ^ 64)
theorem CMul.ok {i j:Int}(h:CMul i j):IntMulOk i j:=by
 rcases h with ⟨b,a⟩|⟨b,a⟩
 .exact .of_left (intBits_le_64 b a)
 .exact .of_right (intBits_le_64 b a)
theorem qah:OpR X (binaryOp .Add) (rI0 λi j=>.int (i+j)):=opI0 λ_ _ _ _ _ _ _ q=>add_int q
theorem qbq:OpR X (binaryOp .Sub) (rI0 λi j=>.int (i-j)):=opI0 λ_ _ _ _ _ _ _ q=>sub_int q
theorem qbl:OpR X (binaryOp .Mult) (rI CMul λi j=>.int (i*j)):=opI λ_ _ _ _ _ _ _ a q=>mul_int q a.ok
theorem qa1:OpR X (binaryOp .FloorDiv) (rI CDiv λi j=>.int (i / j)):=opI λi j _ _ _ _ _ a q=>by have h1:(0:Int)<j:=a.1;have h2:j<1073741824:=a.2;exact floordiv_int (by lia) (by rw[Int.fdiv_eq_ediv_of_nonneg i (by lia)];exact q) (.inl (PyProof.noPylong_small (by lia)))
theorem qau:OpR X (binaryOp .Mod) (rI (λ_ j=>0<j) λi j=>.int (i % j)):=opI λi j _ _ _ _ _ a q=>by have h1:(0:Int)<j:=a;exact mod_int' (by lia) (by rw[Int.fmod_eq_emod_of_nonneg i (by lia)];exact q)
theorem op_pow:OpR X (binaryOp .Pow) (rI CPow λi j=>.int (i ^ j.toNat)):=opI λ_ _ _ _ _ _ _ a q=>pow_int_small a.1 a.2.1 a.2.2 q
theorem unI {f:Value->Sem Value}{g:Int->Int}
  (rule:∀(i:Int)(t:Tok)(s:Ad)(Q:Value->Ad->Prop)(E:Value->Ad->Prop),Q (.int (g i) s.toks) {s with toks:=s.toks+1}->wpAny (model X.prog X.w) X.A (f (.int i t)) Q E s) :
  UnR X f (rU λi=>.int (g i)):=by
 intro pins s σ H x v Q I a h;obtain⟨i,rfl,q⟩:=h;obtain⟨t,rfl⟩:=a;exact rule i t s _ _ ⟨.int (g i),H,I.tok _,⟨_,Z⟩,q⟩
theorem qcx:UnR X (unaryOp .USub) (rU λi=>.int (-i)):=unI λ_ _ _ _ _ q=>neg_int q
end
noncomputable def qy0:V->V->Bool
 |.non,.non=>true | .non,.int _=>true | .int _,.non=>true | .non,.bl _=>true | .bl _,.non=>true | .non,.str _=>true | .str _,.non=>true
 |.int _,.int _=>true | .bl _,.bl _=>true | .str _,.str _=>true | .byt _,.byt _=>true
 |.int _,.str _=>true | .str _,.int _=>true | .bl _,.str _=>true | .str _,.bl _=>true
 |_,_=>false
def rEq:R2:=λx y H Q=>qy0 x y=true/\Q (.bl (decide (x=y))) H
def rNe:R2:=λx y H Q=>qy0 x y=true/\Q (.bl (!decide (x=y))) H
theorem qsy {i j:Int}:decide (V.int i=V.int j)=(i == j):=by rw[CA];simp
theorem qvz {i j:Bool}:decide (V.bl i=V.bl j)=(i == j):=by rw[CA];simp
theorem qsz {i j:Str}:decide (V.str i=V.str j)=(i == j):=by rw[CA];simp
theorem qs0 {i j:Array UInt8}:decide (V.byt i=V.byt j)=(i.toList == j.toList):=by rw[CA];cases i;cases j;simp
section
variable {X:Cx}{a b c:Expr}{ta tb tc:TE}{pos:Pos}
theorem qax {a:List (Addr×Obj)}{σ:St}{H:Hp}{s:Ad}{Q:VK}{k b:Bool}(I:Inv X a σ H s)(q:Q (.bl k) H)(e:k=b):EP X a σ Q (.bool b) s:=by subst e;exact⟨.bl k,H,I,Z,q⟩
theorem qch:OpR X (compareOp .Eq) rEq:=by
 intro pins s σ H x y v u Q I c a h;obtain⟨b,q⟩:=h;cases x with
 |non =>
  cases c;cases y with
  |non=>cases a;exact PySem.EqNone.eq_none_none (qax I q (by simp))
  |bl j=>cases a;exact PySem.EqNone.eq_none_bool (qax I q (by simp))
  |int j=>obtain⟨t',rfl⟩:=a;exact PySem.EqNone.eq_none_int (qax I q (by simp))
  |str j=>obtain⟨t',rfl⟩:=a;exact PySem.EqNone.eq_none_str (qax I q (by simp))
  |_=>exact absurd (show false=true from b) AF
 |bl i =>
  cases c;cases y with
  |non=>cases a;exact PySem.EqNone.eq_bool_none (qax I q (by simp))
  |bl j=>cases a;exact eq_bool (qax I q qvz)
  |str j=>obtain⟨t',rfl⟩:=a;exact PySem.EqMixed.eq_bool_str (qax I q (by simp))
  |_=>exact absurd (show false=true from b) AF
 |int i =>
  obtain⟨t,rfl⟩:=c;cases y with
  |non=>cases a;exact PySem.EqNone.eq_int_none (qax I q (by simp))
  |int j=>obtain⟨t',rfl⟩:=a;exact eq_int (qax I q qsy)
  |str j=>obtain⟨t',rfl⟩:=a;exact PySem.EqMixed.eq_int_str (qax I q (by simp))
  |_=>exact absurd (show false=true from b) AF
 |str i =>
  obtain⟨t,rfl⟩:=c;cases y with
  |non=>cases a;exact PySem.EqNone.eq_str_none (qax I q (by simp))
  |bl j=>cases a;exact PySem.EqMixed.eq_str_bool (qax I q (by simp))
  |int j=>obtain⟨t',rfl⟩:=a;exact PySem.EqMixed.eq_str_int (qax I q (by simp))
  |str j=>obtain⟨t',rfl⟩:=a;exact eq_str (qax I q qsz)
  |_=>exact absurd (show false=true from b) AF
 |byt i =>
  obtain⟨t,rfl⟩:=c;cases y with
  |byt j=>obtain⟨t',rfl⟩:=a;exact PySem.W.eq_bytes (qax I q qs0)
  |_=>exact absurd (show false=true from b) AF
 |_=>cases y <;>exact absurd (show false=true from b) AF
theorem op_ne:OpR X (compareOp .NotEq) rNe:=by
 intro pins s σ H x y v u Q I c a h;obtain⟨b,q⟩:=h;cases x with
 |non =>
  cases c;cases y with
  |non=>cases a;exact PySem.EqNone.ne_none_none (qax I q (by simp))
  |bl j=>cases a;exact PySem.EqNone.ne_none_bool (qax I q (by simp))
  |int j=>obtain⟨t',rfl⟩:=a;exact PySem.EqNone.ne_none_int (qax I q (by simp))
  |str j=>obtain⟨t',rfl⟩:=a;exact PySem.EqNone.ne_none_str (qax I q (by simp))
  |_=>exact absurd (show false=true from b) AF
 |bl i =>
  cases c;cases y with
  |non=>cases a;exact PySem.EqNone.ne_bool_none (qax I q (by simp))
  |bl j=>cases a;exact ne_bool (qax I q (congrArg not qvz))
  |str j=>obtain⟨t',rfl⟩:=a;exact PySem.EqMixed.ne_bool_str (qax I q (by simp))
  |_=>exact absurd (show false=true from b) AF
 |int i =>
  obtain⟨t,rfl⟩:=c;cases y with
  |non=>cases a;exact PySem.EqNone.ne_int_none (qax I q (by simp))
  |int j=>obtain⟨t',rfl⟩:=a;exact ne_int (qax I q (congrArg not qsy))
  |str j=>obtain⟨t',rfl⟩:=a;exact PySem.EqMixed.ne_int_str (qax I q (by simp))
  |_=>exact absurd (show false=true from b) AF
 |str i =>
  obtain⟨t,rfl⟩:=c;cases y with
  |non=>cases a;exact PySem.EqNone.ne_str_none (qax I q (by simp))
  |bl j=>cases a;exact PySem.EqMixed.ne_str_bool (qax I q (by simp))
  |int j=>obtain⟨t',rfl⟩:=a;exact PySem.EqMixed.ne_str_int (qax I q (by simp))
  |str j=>obtain⟨t',rfl⟩:=a;exact ne_str (qax I q (congrArg not qsz))
  |_=>exact absurd (show false=true from b) AF
 |byt i =>
  obtain⟨t,rfl⟩:=c;cases y with
  |byt j=>obtain⟨t',rfl⟩:=a;exact PySem.W.ne_bytes (qax I q (congrArg not qs0))
  |_=>exact absurd (show false=true from b) AF
 |_=>cases y <;>exact absurd (show false=true from b) AF
theorem qc3:OpR X (compareOp .Lt) (rI0 λi j=>.bl (decide (i<j))):=qyz λ_ _ _ _ _ _ _ q=>lt_int q
theorem qga:OpR X (compareOp .LtE) (rI0 λi j=>.bl (decide (i<=j))):=qyz λ_ _ _ _ _ _ _ q=>le_int q
theorem qpi:OpR X (compareOp .Gt) (rI0 λi j=>.bl (decide (j<i))):=qyz λ_ _ _ _ _ _ _ q=>gt_int q
theorem op_ge:OpR X (compareOp .GtE) (rI0 λi j=>.bl (decide (j<=i))):=qyz λ_ _ _ _ _ _ _ q=>ge_int q
theorem qcb:OpR X (compareOp .Is) (λx y H Q=>y=.non/\Q (.bl (decide (x=.non))) H):=by
 intro pins s σ H x y v u Q I a b h;obtain⟨rfl,q⟩:=h;cases b;refine is_none_gen (qax I q ?_);cases x <;>first
  | (cases a;rfl)
  | (obtain⟨t,rfl⟩:=a;rfl)
theorem qh7:OpR X (compareOp .IsNot) (λx y H Q=>y=.non/\Q (.bl (!decide (x=.non))) H):=by
 intro pins s σ H x y v u Q I a b h;obtain⟨rfl,q⟩:=h;cases b;refine isnot_none_gen (qax I q ?_);cases x <;>first
  | (cases a;rfl)
  | (obtain⟨t,rfl⟩:=a;rfl)
theorem qad (b:Expr){op:CmpOp}(h:op ≠ .In:=by decide)(h2:op ≠ .NotIn:=by decide):behindInMarks op b=false:=by
 have c:(op == CmpOp.In)=false:=by cases op <;>first|rfl|exact absurd rfl h
 have a:(op == CmpOp.NotIn)=false:=by cases op <;>first|rfl|exact absurd rfl h2
 cases b <;>simp[behindInMarks,c,a]
theorem qdw {op:CmpOp}{r:R2}(g:OpR X (compareOp op) r)(m:PE X a ta)(i:PE X b tb)(l:behindInMarks op b=false):PE X (.Compare a [op] [b] pos) (tOp r ta tb):=by intro c s σ H Q I h;exact wpAny_Compare1 (binT m i I h λv u j x y d f e k q=>g c j σ d x y v u Q f e k q) l
def tTest (t:TE):TT:=λσ H Q=>t σ H λx H'=>∃k,x=.bl k/\Q k H'
theorem qt {op:CmpOp}{r:R2}(i:OpR X (compareOp op) r)(D:PE X a ta)(j:PE X b tb)(q:behindInMarks op b=false):PT X (.Compare a [op] [b] pos) (tTest (tOp r ta tb)):=by
 intro d s σ H Q I h;refine wpAny_isTrue_Compare1 (thn (D d s σ H _ I h) λv C ⟨x,F,o,m,p⟩=>thn (j d C σ F _ o p) λu l ⟨y,f,g,B,n⟩ =>
  thn (i d l σ f x y v u _ g m B n) λc s3 ⟨z,w,t,E,k,e,A⟩=>?_) q
 subst e;cases E;exact B6 ⟨w,t,A⟩
def tChain (r r':R2)(ta tb tc:TE):TE:=λσ H Q=>ta σ H λx H1=>tb σ H1 λy H2=>r x y H2 λz H3=>∃k,z=.bl k /\
 (if k=true then tc σ H3 λw' H4=>r' y w' H4 Q else Q (.bl false) H3)
theorem qpj {op g:CmpOp}{r i:R2}(B:OpR X (compareOp op) r)(n:OpR X (compareOp g) i)(T:PE X a ta)(C:PE X b tb)(R:PE X c tc)
  (N:lastMarks [op,g] [b,c]=false:=by with_unfolding_all rfl):PE X (.Compare a [op,g] [b,c] pos) (tChain r i ta tb tc):=by
 intro f s σ H Q I h;refine Compare_chain (thn (T f s σ H _ I h) λv S ⟨x,V,L,J,M⟩=>chain_link (thn (C f S σ V _ L M) λu G ⟨y,p,A,o,K⟩ =>
  thn (B f G σ p x y v u _ A J o K) λd F ⟨z,l,j,U,k,e,m⟩=>?_)) N
 subst e;cases U;refine B6 ?_;cases k with|false=>exact ite_ff ⟨.bl false,l,j,Z,m⟩|true=>exact ite_tt (chain_last (thn (R f F σ l _ j m) λt w ⟨O,q,D,P,E⟩=>n f w σ q y O u t Q D o P E))
def TruV (K:Ah)(x:V)(H:Hp)(k:Bool):Prop :=
 match x with
 |.non=>k=false
 |.bl b=>k=b
 |.int i=>k=(i != 0)
 |.str y=>y.length<=A5/\k=((y.length:Int) != 0)
 |.byt y=>y.size<=A5/\k=((y.size:Int) != 0)
 |.ref p=>(∃xs,SqL K H p xs/\k = !xs.isEmpty)\/(∃xs,SqT K H p xs/\k = !xs.isEmpty) \/ ∃kvs,H p=some (.dK kvs)/\k = !kvs.isEmpty
 |_=>False
theorem qrh {κ:Type}{kvs:List (κ×V)}{vs:List (κ×Value)}(r:KV kvs vs):(!vs.isEmpty) = !kvs.isEmpty:=by cases r <;>rfl
theorem qk1 {xs:List V}{its:List Value}(r:Vals xs its):(!its.toArray.isEmpty) = !xs.isEmpty:=by cases r <;>simp
theorem qi7:(A5:Nat)<2 ^ 63:=by rw[Bq];decide
theorem tru_ok:TruR X (λx H Q=>∃k,TruV X.K x H k/\Q k H):=by
 intro pins s σ H x v Q I c h;obtain⟨k,e,q⟩:=h;have hl:=qi7;have hs:A5=16777216:=Bq;cases x with
 |non =>cases c;have a:k=false:=e;subst a;exact truthy_none ⟨H,I,q⟩
 |bl b =>cases c;have a:k=b:=e;subst a;exact B6 ⟨H,I,q⟩
 |int i =>obtain⟨t,rfl⟩:=c;have a:k=(i != 0):=e;subst a;exact PySem.P.truthy_int ⟨H,I,q⟩
 |str y =>obtain⟨t,rfl⟩:=c;obtain⟨hy,a⟩:y.length<=A5/\k=((y.length:Int) != 0):=e;subst a;exact PySem.P.truthy_str (by lia) ⟨H,I.tok _,q⟩
 |byt y =>obtain⟨t,rfl⟩:=c;obtain⟨hy,a⟩:y.size<=A5/\k=((y.size:Int) != 0):=e;subst a;exact PySem.W.truthy_bytes (by lia) ⟨H,I.tok _,q⟩
 |ref p =>
  cases c;have a:(∃xs,SqL X.K H p xs/\k = !xs.isEmpty)\/(∃xs,SqT X.K H p xs/\k = !xs.isEmpty) \/ ∃kvs,H p=some (.dK kvs)/\k = !kvs.isEmpty:=e;rcases a with ⟨xs,d,a⟩|⟨xs,d,a⟩|⟨kvs,d,a⟩
  .subst a;obtain⟨its,r,pl,hz⟩:=I.list d;have f:=r.length;exact wpAny_truthy_list pl.isList (by simp only[Aj];lia) ⟨H,I.tok _,by rw[qk1 r];exact q⟩
  .subst a;obtain⟨its,r,pl,hz⟩:=I.tuple d;have f:=r.length;exact truthy_tuple pl (by simp only[Aj];lia) ⟨H,I.tok _,by rw[qk1 r];exact q⟩
  .subst a;obtain⟨hz,hS,vs,r,m⟩:kvs.length<=A5/\(p == sysModules)=false/\∃vs,KV kvs vs/\s.heap.DictOf (qap X.prog X.w) p vs:=I.hok p _ d;have f:kvs.length=vs.length:=Dh.length r;exact wpAny_truthy_dict hS m (by lia) ⟨H,I.tok _,by rw[qrh r];exact q⟩
 |_=>exact(show False from e).elim
theorem qv0 (i:PE X a ta)(d:∀whole,isTrue a X.env whole=(do let v <- whole;standAt a.pos;holding [v] (truthy v))) :
  PT X a (λσ H Q=>ta σ H λx H'=>∃k,TruV X.K x H' k/\Q k H'):=by
 intro b s σ H Q I h;exact isTrue_plain (thn (i b s σ H _ I h) λv f ⟨x,c,e,g,j⟩=>tru_ok b f σ c x v Q e g j) (d _)
theorem qri:OpR X (binaryOp .Add) (λx y H Q=>∃i j,x=.str i/\y=.str j/\i.length+j.length<=A5/\Q (.str (i++j)) H):=by intro pins s σ H x y v u Q I a b h;obtain⟨i,j,rfl,rfl,hz,q⟩:=h;obtain⟨t,rfl⟩:=a;obtain⟨t',rfl⟩:=b;exact add_str (λt' tk=>⟨.str (i++j),H,I.tok _,⟨_,Z⟩,q⟩) hz
theorem qm9 {x:V}{us:List Value}(r:Vals [x] us):∃u,us=[u]/\RelV x u:=by
 cases r with|cons r1 r2=>cases r2;exact⟨_,Z,r1⟩
theorem vals2 {x y:V}{us:List Value}(r:Vals [x,y] us):∃u w',us=[u,w']/\RelV x u/\RelV y w':=by
 cases r with
 |cons r1 r2 =>
  cases r2 with|cons r3 r4=>cases r4;exact⟨_,_,Z,r1,r3⟩
theorem qi8 (b:X.calm=true):qf9 X (.builtin "max") (λxs H Q=>∃i j,xs=[.int i,.int j]/\Q (.int (if j > i then j else i)) H):=by
 intro pins s σ H xs us Q I r h;obtain⟨i,j,rfl,q⟩:=h;obtain⟨u,w',rfl,⟨t,rfl⟩,⟨t',rfl⟩⟩:=vals2 r;refine max_two_ints (I.ok.hd b) λh' tk k=>⟨_,H,I.kept k,?_,q⟩;by_cases a:j > i
 .rw[if_pos a,if_pos a];exact⟨_,Z⟩
 .rw[if_neg a,if_neg a];exact⟨_,Z⟩
theorem qna (b:X.calm=true):qf9 X (.builtin "min") (λxs H Q=>∃i j,xs=[.int i,.int j]/\Q (.int (if j<i then j else i)) H):=by
 intro pins s σ H xs us Q I r h;obtain⟨i,j,rfl,q⟩:=h;obtain⟨u,w',rfl,⟨t,rfl⟩,⟨t',rfl⟩⟩:=vals2 r;refine min_two_ints (I.ok.hd b) λh' tk k=>⟨_,H,I.kept k,?_,q⟩;by_cases a:j<i
 .rw[if_pos a,if_pos a];exact⟨_,Z⟩
 .rw[if_neg a,if_neg a];exact⟨_,Z⟩
def LenV (K:Ah)(x:V)(H:Hp)(n:Nat):Prop :=
 match x with
 |.str y=>y.length<=A5/\n=y.length
 |.byt y=>y.size<=A5/\n=y.size
 |.ref p=>(∃xs,SqL K H p xs/\n=xs.length) \/ ∃xs,SqT K H p xs/\n=xs.length
 |_=>False
theorem qb1:qf9 X (.builtin "len") (λxs H Q=>∃x n,xs=[x]/\LenV X.K x H n/\Q (.int n) H):=by
 intro pins s σ H xs us Q I r h;obtain⟨x,n,rfl,e,q⟩:=h;obtain⟨u,rfl,f⟩:=qm9 r;have hl:=qi7;have hs:A5=16777216:=Bq;cases x with
 |str y =>obtain⟨t,rfl⟩:=f;obtain⟨hy,a⟩:y.length<=A5/\n=y.length:=e;subst a;exact len_str (by lia) ⟨.int _,H,I.tok _,⟨_,Z⟩,q⟩
 |byt y =>obtain⟨t,rfl⟩:=f;obtain⟨hy,a⟩:y.size<=A5/\n=y.size:=e;subst a;exact PySem.W.len_bytes (by lia) ⟨.int _,H,I.tok _,⟨_,Z⟩,q⟩
 |ref p =>
  cases f;have a:(∃xs,SqL X.K H p xs/\n=xs.length) \/ ∃xs,SqT X.K H p xs/\n=xs.length:=e;rcases a with ⟨xs,c,a⟩|⟨xs,c,a⟩
  .subst a;obtain⟨its,d,pl,hz⟩:=I.list c;have b:=d.length;exact Calls.call_len_list pl.isList (by simp only[Aj];lia) ⟨.int xs.length,H,I.tok _,⟨_,by simp only[Aj];rw[b]⟩,q⟩
  .subst a;obtain⟨its,d,pl,hz⟩:=I.tuple c;have b:=d.length;exact len_tuple pl (by simp only[Aj];lia) ⟨.int xs.length,H,I.tok _,⟨_,by simp only[Aj];rw[b]⟩,q⟩
 |_=>exact(show False from e).elim
end
end L2
namespace L2
open PySem PySem.Spec PyProof.Rows
structure ObjM (h:Heap)(x dx C:Addr)(mA:Str->Option Value):Prop where
 obj:h.get? x=some (Cs C dx)
 ns:h.Ns1 dx mA
 ne:dx≠x
theorem que {h:Heap}{d:Addr}{f:Str->Option Value}(n:h.Ns1 d f):∃od,h.get? d=some od/\∀b,Ea b od=some (f b):=by
 obtain⟨o,es,ep,j,g,k,_,m⟩:=n;refine⟨o,j,λb=>?_⟩;have e:=m b;unfold nsFind findBy at e;rw[<- Array.find?_toList]at e;unfold Ea;rw[g];dsimp only;split
 .rename_i y q;rw[q]at e;exact congrArg some e
 .rename_i q;rw[q]at e;have a:es.toList.any (·.refKey)=false:=by rw[List.any_eq_false];intro y i;obtain⟨z,t,c⟩:=k y (Array.mem_toList_iff.mp i);simp[DictEntry.refKey,c]
  have l:¬es.toList.any (·.refKey)=true:=by rw[a];exact AF
  rw[if_neg l];exact congrArg some e
theorem ObjM.look {h:Heap}{x a C:Addr}{b:Str->Option Value}(I:ObjM h x a C b):∃od,PySem.W.InstAt h x (Cs C a) C (some od)/\∀name,Ea name od=some (b name) :=
 let ⟨od,ho,hl⟩:=que I.ns
 ⟨od,⟨I.obj,Z,Z,ho⟩,hl⟩
section
variable {prog:AK}{w:World}{A:AO}{E:Value->Ad->Prop}{s:Ad}{K:Ah}{x dx C f:Addr}{mA:Str->Option Value}{name:Str}{v:Value}
theorem qy1 {a:Bool}{Q:Value->Ad->Prop}(X:K.In s.heap)(I:ObjM s.heap x dx C mA)(c:Db K C name=true)(g:Dv K C=true)
  (e:Be K (.ref C) name=some none)(f:mA name=some v)(b:PySem.W.handedIn v=true)(h:Q v {s with toks:=s.toks+1}) :
  wpAny (model prog w) A (getAttr (.ref x) name a) Q E s:=by
 obtain⟨od,J,d⟩:=I.look;exact PySem.W.get_value X J (DU c).1 (PySem.W.findObj_own g e Z (by rw[d,f])) b h
theorem qv1 {pl:Sem Bool}{Q:Value×List Value->Ad->Prop}(X:K.In s.heap)(I:ObjM s.heap x dx C mA)(a:Db K C name=true)
  (c:Be K (.ref C) name=some (some (.ref f)))(d:DW K (.ref f)=true)(e:mA name=none)(h:Q (.ref f,[.ref x]) s) :
  wpAny (model prog w) A (getMethod (.ref x) name pl) Q E s:=by
 obtain⟨g,J,b⟩:=I.look;exact PySem.W.method_fn X J (DU a).1 (DU a).2 c (beq_iff_eq.mp d) (by show (Ea name g).map (·.isSome)=some false;rw[b,e];rfl) h
theorem qy2 {ns:List Str}{Q:Unit->Ad->Prop}(X:K.In s.heap)(I:ObjM s.heap x dx C mA)
  (l:Be K (.ref C) "__setattr__"=some (some (.builtin "object.__setattr__")))(o:Eg K C=true)(p:PySem.W.takerIn K C name=some none)(m:Dv K C=true)
  (k:Ex mA ns)(hsz:ns.length<=A5)
  (h:∀h',ObjM h' x dx C (λy=>if y=name then some v else mA y)->CB dx s.heap h'->Q () {s with heap:=h',toks:=s.toks+2}) :
  wpAny (model prog w) A (setAttr (.ref x) name v) Q E s:=by
 obtain⟨od,J,hl⟩:=I.look;refine PySem.W.set_plain X J l (PySem.W.osa_open (s:={s with toks:=s.toks+1}) (r:=none) X J o p λb=>?_);obtain⟨cd,n,i⟩:=PySem.W.any_some m;have j:s.heap.get? x=some ⟨.ref C,some dx,.plain,#[]⟩:=I.obj;refine Az (Bf (Az (Az (wpAny_loadPart j (Az (PySem.W.Looks.here (s:={s with toks:=s.toks+1}) (PySem.W.looks_clsIn X n) ?_))))));rw[i];refine Bf (a:=some dx) (Az (Bf (Az ?_)));refine wpAny_nsSet1 (s:={s with toks:=s.toks+1}) I.ns λh' d c=>?_;obtain⟨oD,esD,epD,e,g,f⟩:=d.count (Ex.cons name v k);refine Az (wpAny_lookBehind e (by rw[g];exact pastItsLine_dict (A9 f (by rw[AG];lia))) ?_);exact Bf (h _ ⟨(c.2 _ (By I.ne)).trans I.obj,d,I.ne⟩ c)
theorem qv2 {R:Result->Ad->Prop}{vs:List Value}{kw:List (Str×Value)}(X:K.In s.heap)(e:PySem.W.makesIn K C=true)
  (b:Be K (.ref C) "__init__"=some (some (.ref f)))(c:C7 K (.ref f)=some (.type "function"))
  (h:codeAny (model prog w) (A.under (.builtin "type.__call__" ⟨.ref C::vs,kw⟩)) (.call (.ref f) ⟨.ref (s.heap.objs.size+1)::vs,kw⟩) (PySem.W.InitBack (s.heap.objs.size+1) R)
   {s with heap:=(s.heap.push BM).push (Cs C s.heap.objs.size)}) :
  codeAny (model prog w) A (.call (.ref C) ⟨vs,kw⟩) R s:=by
 obtain⟨hh,g,d,t,os⟩:=s;exact PySem.W.make_core (PySem.W.makes_of X e) (PySem.W.looks_findIn X b) (λa=>PySem.W.bind_fn X a c) (.inl Z) h
end
noncomputable def qbf (f:Str)(v:V):List (Str×V)->List (Str×V)
 | []=>[(f,v)]
 | (g,x)::r=>if g=f then (g,v)::r else (g,x)::qbf f v r
theorem qj1 (f g:Str)(v:V):∀fs:List (Str×V),(qbf f v fs).lookup g=if g=f then some v else fs.lookup g
 | []=>by
  show CL g [(f,v)]=_;by_cases h:g=f
  .have a:(g == f)=true:=beq_iff_eq.mpr h;simp only[CL,a,if_pos h]
  .have a:(g == f)=false:=beq_eq_false_iff_ne.mpr h;simp only[CL,a,if_neg h]
 | (k,x)::r=>by
  have c:=qj1 f g v r;rw[show qbf f v ((k,x)::r)=(if k=f then (k,v)::r else (k,x)::qbf f v r) from Z];by_cases b:k=f
  .rw[if_pos b];by_cases h:g=k
   .have a:(g == k)=true:=beq_iff_eq.mpr h;simp only[CL,a,if_pos (h.trans b)]
   .have a:(g == k)=false:=beq_eq_false_iff_ne.mpr h;simp only[CL,a,if_neg (λe:g=f=>h (e.trans b.symm))]
  .rw[if_neg b];by_cases h:g=k
   .have a:(g == k)=true:=beq_iff_eq.mpr h;simp only[CL,a,if_neg (λe:g=f=>b (h.symm.trans e))]
   .have a:(g == k)=false:=beq_eq_false_iff_ne.mpr h;simp only[CL,a];exact c
theorem qi9 (f:Str)(v:V):∀fs:List (Str×V),f∈(qbf f v fs).map (·.1)/\∀g,g∈fs.map (·.1)->g∈(qbf f v fs).map (·.1)
 | []=>⟨by simp[qbf],λg h=>by simp at h⟩
 | (k,x)::r=>by
  obtain⟨b,c⟩:=qi9 f v r;rw[show qbf f v ((k,x)::r)=(if k=f then (k,v)::r else (k,x)::qbf f v r) from Z];by_cases a:k=f
  .rw[if_pos a];subst a;exact⟨by simp,λg h=>by simpa using h⟩
  .rw[if_neg a];refine⟨?_,λg h=>?_⟩
   .rw[AX];exact Ay _ b
   .rw[AX]at h |-;rcases Av.mp h with e|e
    .exact Av.mpr (.inl e)
    .exact Ay _ (c g e)
theorem qj2 (f:Str)(v:V):∀fs:List (Str×V),(qbf f v fs).length<=fs.length+1
 | []=>by simp[qbf]
 | (k,x)::r=>by
  have ih:=qj2 f v r;rw[show qbf f v ((k,x)::r)=(if k=f then (k,v)::r else (k,x)::qbf f v r) from Z];by_cases a:k=f
  .rw[if_pos a,AG,AG];lia
  .rw[if_neg a,AG,AG];lia
theorem RelO.some_of {v:V}{o:Option Value}(r:RelO (some v) o):∃u,o=some u/\RelV v u:=by
 cases o with|none=>exact(show False from r).elim|some u=>exact⟨u,Z,r⟩
theorem RelO.none_of {o:Option Value}(r:RelO none o):o=none:=by
 cases o with|none=>rfl|some u=>exact(show False from r).elim
theorem quf {v:V}{u:Value}(r:RelV v u):PySem.W.handedIn u=true:=by
 cases v with
 |non=>cases (show u=C6 from r);rfl
 |bl b=>cases (show u=DZ b from r);rfl
 |int i=>obtain⟨t,e⟩:=(show ∃t,u=Da i t from r);cases e;rfl
 |str x=>obtain⟨t,e⟩:=(show ∃t,u=Dp x t from r);cases e;rfl
 |byt b=>obtain⟨t,e⟩:=(show ∃t,u=Value.bytes b t from r);cases e;rfl
 |flt b=>obtain⟨t,e⟩:=(show ∃t,u=Value.float b t from r);cases e;rfl
 |ref a=>cases (show u=Bl a from r);rfl
 |ty n=>cases (show u=CZ n from r);rfl
section
variable {P:AK}{w:World}{H H':Hp}{h h':Heap}{a C dx:Addr}{fs fs':List (Str×V)}
theorem qkl (c:HOk P w H h)(e:H a=some (.ins C dx fs)):∃b,ObjM h a dx C b/\(∀f,RelO (fs.lookup f) (b f))/\Ex b (fs.map (·.1))/\fs.length<=1000/\H dx=some (.own a):=by obtain⟨d,z,g,i,b,n,r,q⟩:=(show ObjOk P w H h a (.ins C dx fs) from c a _ e);exact⟨b,⟨i,n,g⟩,r,q,z,d⟩
end
structure Cls (K:Ah)(C:Addr):Prop where
 pg:Db K C Ba=true
 hd:Dv K C=true
 po:Eg K C=true
 sa:Be K (.ref C) "__setattr__"=some (some (.builtin "object.__setattr__"))
theorem Cls.get {K:Ah}{C:Addr}(c:Cls K C)(f:Str):Db K C f=true:=c.pg
def NoAttr (K:Ah)(C:Addr)(f:Str):Prop:=Be K (.ref C) f=some none
theorem NoAttr.taker {K:Ah}{C:Addr}{f:Str}(n:NoAttr K C f):PySem.W.takerIn K C f=some none:=by unfold PySem.W.takerIn;rw[show Be K (.ref C) f=some none from n];rfl
structure Meth (K:Ah)(C:Addr)(m:Str)(f:Addr):Prop where
 at_:Be K (.ref C) m=some (some (.ref f))
 fn:DW K (.ref f)=true
 kp:Br K (.ref f)=true
section
variable {X:Cx}{pins:List (Addr×Obj)}{σ:St}{H:Hp}{s:Ad}{a C dx:Addr}{fs:List (Str×V)}{f:Str}{v:V}{A:AO}{E:Value->Ad->Prop}
theorem qk2 {b:Bool}{Q:Value->Ad->Prop}(I:Inv X pins σ H s)(e:H a=some (.ins C dx fs))(c:Cls X.K C)(n:NoAttr X.K C f)(l:fs.lookup f=some v)
  (h:∀u s',Inv X pins σ H s'->RelV v u->Q u s'):wpAny (model X.prog X.w) A (getAttr (.ref a) f b) Q E s:=by
 obtain⟨i,O,r,_,_,_⟩:=qkl I.hok e;obtain⟨u,g,d⟩:=RelO.some_of (v:=v) (o:=i f) (by rw[<- l];exact r f);exact qy1 I.kIn O (c.get f) c.hd n g (quf d) (h u _ (I.tok _) d)
theorem qhl {m:Str}{g:Addr}{pl:Sem Bool}{Q:Value×List Value->Ad->Prop}(I:Inv X pins σ H s)(e:H a=some (.ins C dx fs))(c:Cls X.K C)(k:Meth X.K C m g)(l:fs.lookup m=none)
  (h:Q (.ref g,[.ref a]) s):wpAny (model X.prog X.w) A (getMethod (.ref a) m pl) Q E s:=by
 obtain⟨d,O,r,_,_,_⟩:=qkl I.hok e;have b:d m=none:=RelO.none_of (by rw[<- l];exact r m);exact qv1 I.kIn O (c.get m) k.at_ k.fn b h
theorem qk3 {y:V}{u:Value}{Q:Unit->Ad->Prop}(I:Inv X pins σ H s)(e:H a=some (.ins C dx fs))(c:Cls X.K C)(n:NoAttr X.K C f)(hl:fs.length<1000)(p:RelV y u)
  (h:∀s',Inv X pins σ (upd H a (.ins C dx (qbf f y fs))) s'->Q () s'):wpAny (model X.prog X.w) A (setAttr (.ref a) f u) Q E s:=by
 obtain⟨k,O,r,j,_,i⟩:=qkl I.hok e;have hz:(fs.map (·.1)).length<=A5:=by rw[Ab,Bq];lia
 refine qy2 I.kIn O c.sa c.po n.taker c.hd j hz λh' d t=>h _ ?_;have hd:∃o,h'.get? dx=some o:=let ⟨o,_,_,e',_⟩:=d.ns;⟨o,e'⟩;refine I.write (x:=a) (e:=dx) (by rw[e];exact CG) (.inr i) (λb q m z=>(t.2 b m).trans z) hd ?_;refine⟨by rw[qr O.ne];exact i,?_,O.ne,d.obj,_,d.ns,λg=>?_,λg l=>?_⟩
 .have:=qj2 f y fs;lia
 .show RelO ((qbf f y fs).lookup g) (if g=f then some u else k g);rw[qj1];by_cases q:g=f
  .rw[if_pos q,if_pos q];exact p
  .rw[if_neg q,if_neg q];exact r g
 .by_cases q:g=f
  .rw[q];exact(qi9 f y fs).1
  .refine(qi9 f y fs).2 g (j g λz=>l ?_);show (if g=f then some u else k g)=none;rw[if_neg q];exact z
theorem Inv.made (I:Inv X pins σ H s):Inv X pins σ (upd (upd H s.heap.objs.size (.own (s.heap.objs.size+1))) (s.heap.objs.size+1) (.ins C s.heap.objs.size []))
  {s with heap:=(s.heap.push BM).push (Cs C s.heap.objs.size)}:=by
 have d:(s.heap.push BM).get? s.heap.objs.size=some BM:=AT s.heap rfl;have i:((s.heap.push BM).push (Cs C s.heap.objs.size)).get? (s.heap.objs.size+1)=some (Cs C s.heap.objs.size):=by
  have:=AT (s.heap.push BM) (o:=Cs C s.heap.objs.size) rfl
  rwa [Dw]at this
 have j:(s.heap.push BM).Ns s.heap.objs.size (λ_=>none):=⟨BM,#[],_,d,Z,(λe f=>absurd f (by simp)),λ_=>rfl⟩;have h:=I.laid (a:=s.heap.objs.size) (o:=.own (s.heap.objs.size+1)) (h':=s.heap.push BM) (t':=s.toks) (λb u q=>As _ q) (Al _) ⟨_,d⟩;refine h.laid (a:=s.heap.objs.size+1) (o:=.ins C s.heap.objs.size []) (t':=s.toks) (λb u q=>As _ q) (BY (Dw _ _)) ?_;have c:s.heap.objs.size≠s.heap.objs.size+1:=AE (BU _);refine⟨by rw[qr c,qk],AQ _,c,i,λ_=>none,(Heap.Ns1.of_empty j).at λo q=>As _ q,λ_=>CG,λy g=>absurd Z g⟩
theorem qy3 {prog:AK}{w:World}{env:Env}{e:Expr}{f:Str}{pos:Pos}{s:Ad}{Q:Value->Ad->Prop}(b:attributeBase e f env (eval e env)=eval e env)
  (h:wpAny (model prog w) A (eval e env) (λo a=>wpAny (model prog w) A (getAttr o f true) Q E a) E s):wpAny (model prog w) A (eval (.Attribute e f pos) env) Q E s :=
 Attribute_any_ h (by rw[arm_eval_Attribute,b])
end
def tFld (K:Ah)(ta:TE)(f:Str):TE:=λσ H Q=>ta σ H λx H1=>∃a C dx fs v,x=.ref a/\H1 a=some (.ins C dx fs)/\Cls K C/\NoAttr K C f/\fs.lookup f=some v/\Q v H1
def sFld (K:Ah)(ta tv:TE)(f:Str):TS:=λD σ H=>tv σ H λy H1=>ta σ H1 λx H2=>∃a C dx fs,x=.ref a/\H2 a=some (.ins C dx fs)/\Cls K C/\NoAttr K C f/\fs.length<1000 /\
 D.nx σ (upd H2 a (.ins C dx (qbf f y fs)))
def InOp (X:Cx)(op:Operator)(rd:V->V->Hp->VK->Prop):Prop :=
 ∀(pins:List (Addr×Obj))(s:Ad)(σ:St)(H:Hp)(x y:V)(u v:Value)(Q:VK),Inv X pins σ H s->RelV x u->RelV y v->rd x y H Q->wpAny (model X.prog X.w) X.A (inplaceOp op u v) (EP X pins σ Q) X.xe s
def qy4 (K:Ah)(ta tv:TE)(rd:V->V->Hp->VK->Prop)(f:Str):TS:=λD σ H=>ta σ H λx H1=>∃a C dx fs v,x=.ref a/\H1 a=some (.ins C dx fs)/\Cls K C/\NoAttr K C f/\fs.lookup f=some v /\
 tv σ H1 λy H2=>rd v y H2 λz H3=>∃dx' fs',H3 a=some (.ins C dx' fs')/\fs'.length<1000/\D.nx σ (upd H3 a (.ins C dx' (qbf f z fs')))
section
variable {X:Cx}{o e value:Expr}{f:Str}{pos pos' tpos:Pos}{ta tv:TE}
theorem qab (p:PE X e ta)(k:attributeBase e f X.env (eval e X.env)=eval e X.env):PE X (.Attribute e f pos) (tFld X.K ta f):=by intro b s σ H Q I h;refine qy3 k (thn (p b s σ H _ I h) λu s1 d=>?_);obtain⟨x,r,m,i,a,C,dx,fs,v,ex,g,c,n,l,q⟩:=d;subst ex;obtain rfl:u=Bl a:=i;exact qk2 m g c n l λu' s2 j o=>⟨v,r,j,o,q⟩
theorem qay (w:PE X o ta)(z:PE X value tv)(k:swapsWith value (some (.Attribute o f pos')) pos.line X.env=pure false):PS X (.Assign [.Attribute o f pos'] value pos) (sFld X.K ta tv f):=by intro b s σ H D I h;refine plainObj_wpAny_Assign_Attribute (thn (z b s σ H _ I h) λu v ⟨y,j,r,p,q⟩=>thn (w b v σ j _ r q) λov s2 d=>?_) k;obtain⟨x,H2,i,g,a,C,dx,fs,ex,e,c,n,l,m⟩:=d;subst ex;obtain rfl:ov=Bl a:=g;exact qk3 i e c n l p λs3 t=>⟨σ,_,t,m⟩
theorem qug {op:Operator}{rd:V->V->Hp->VK->Prop}(O:PE X o ta)(P:PE X value tv)(g:InOp X op rd):PS X (.AugAssign (.Attribute o f tpos) op value pos) (qy4 X.K ta tv rd f):=by intro b s σ H D I h;refine wpAny_AugAssign_AttributeAny (thn (O b s σ H _ I h) λov s1 d=>?_);obtain⟨x,Q,J,p,a,C,dx,fs,v,ex,m,c,n,l,q⟩:=d;subst ex;obtain rfl:ov=Bl a:=p;refine qk2 J m c n l λu B r M=>thn (P b B σ Q _ r q) λE A ⟨y,i,L,F,N⟩=>thn (g b A σ i v y u E _ L M F N) λw4 s4 d=>?_;obtain⟨z,H3,t,j,dx',fs',e,G,w⟩:=d;exact qk3 t e c n G j λs5 k=>⟨σ,_,k,w⟩
noncomputable def rAdd:V->V->Hp->VK->Prop:=λx y H Q=>∃i j,x=.int i/\y=.int j/\Q (.int (i+j)) H
theorem in_add:InOp X .Add rAdd:=by rintro pins s σ H x y u v Q I a b ⟨i,j,rfl,rfl,q⟩;obtain⟨t,rfl⟩:=(show ∃t,u=Da i t from a);obtain⟨t',rfl⟩:=(show ∃t',v=Da j t' from b);exact PyProof.Rows.iadd_int ⟨.int (i+j),H,I.tok _,⟨_,Z⟩,q⟩
end
section
variable {X:Cx}{pins:List (Addr×Obj)}{σ:St}{H:Hp}{s:Ad}{A:AO}{E Q:Value->Ad->Prop}{c:Value}{b:Bool}
inductive TyOf (K:Ah) (H:Hp):V->Value->Prop where
 |non:TyOf K H .non (.type "NoneType")
 |bl (x:Bool):TyOf K H (.bl x) (.type "bool")
 |int (i:Int):TyOf K H (.int i) (.type "int")
 |str (x:Str):TyOf K H (.str x) (.type "str")
 |flt (x:UInt64):TyOf K H (.flt x) (.type "float")
 |lst {a:Addr} {xs:List V} (e:H a=some (.lst xs)):TyOf K H (.ref a) (.type "list")
 |frz {a:Addr} {o:Obj} {xs:List V} (e:H a=some (.frz o (.lst xs))):TyOf K H (.ref a) (.type "list")
 |tup {a:Addr} {xs:List V} (e:H a=some (.tup xs)):TyOf K H (.ref a) (.type "tuple")
 |dK {a:Addr} {kvs:List (Key×V)} (e:H a=some (.dK kvs)):TyOf K H (.ref a) (.type "dict")
 |dT {a:Addr} {kvs:List (List Key×V)} (e:H a=some (.dT kvs)):TyOf K H (.ref a) (.type "dict")
 |ins {a C dx:Addr} {fs:List (Str×V)} (e:H a=some (.ins C dx fs)) (cl:Cls K C) (ha:Be K (.ref C) "__class__"=some (some (.builtin "object.__class__")))
   (hn:PySem.W.specialIn K (.builtin "object.__class__") "__get__"=some (some (.builtin "getset_descriptor.__get__"))) (htk:PySem.W.takesIn K (.builtin "object.__class__")=some true)
   (hm:PySem.W.mroIn K C (.type "object")=some true):TyOf K H (.ref a) (.ref C)
theorem quh {x:V}{u t:Value}(I:Inv X pins σ H s)(d:RelV x u)(ty:TyOf X.K H x t)(e:AR X.K t c=some b)(h:∀tk,Q (.bool b) {s with toks:=tk}) :
  wpAny (model X.prog X.w) A (call (.builtin "isinstance") [u,c]) Q E s:=by
 cases ty with
 |non=>cases (show u=C6 from d);exact BJ PySem.W.kitx_none I.kIn CG e (λz=>nomatch z) h
 |bl y=>cases (show u=DZ y from d);exact BJ PySem.W.kitx_bool I.kIn CG e (λz=>nomatch z) h
 |int i=>obtain⟨t,q⟩:=(show ∃t,u=Da i t from d);cases q;exact BJ PySem.W.kitx_int I.kIn CG e (λz=>nomatch z) h
 |str y=>obtain⟨t,q⟩:=(show ∃t,u=Dp y t from d);cases q;exact BJ PySem.W.kitx_str I.kIn CG e (λz=>nomatch z) h
 |flt y=>obtain⟨t,q⟩:=(show ∃t,u=Value.float y t from d);cases q;exact BJ PySem.W.kitx_float I.kIn CG e (λz=>nomatch z) h
 | @lst a xs ea =>cases (show u=Bl a from d);obtain⟨_,_,n,_,f⟩:=(show ObjOk X.prog X.w H s.heap a (.lst xs) from I.hok a _ ea);exact BJ PySem.W.kitx_list I.kIn ⟨_,f,Z⟩ e (λz=>nomatch z) h
 | @frz a ob xs ea =>cases (show u=Bl a from d);obtain⟨_,_,_,n,_,f⟩:=(show ObjOk X.prog X.w H s.heap a (.frz ob (.lst xs)) from I.hok a _ ea);exact BJ PySem.W.kitx_list I.kIn ⟨_,f,Z⟩ e (λz=>nomatch z) h
 | @tup a xs ea =>cases (show u=Bl a from d);obtain⟨_,_,_,p⟩:=(show ObjOk X.prog X.w H s.heap a (.tup xs) from I.hok a _ ea);obtain⟨o,f,g,_⟩:=p;exact BJ PySem.W.kitx_tuple I.kIn ⟨o,f,g⟩ e (λz=>nomatch z) h
 | @dK a kvs ea =>cases (show u=Bl a from d);obtain⟨_,_,vs,_,p⟩:=(show ObjOk X.prog X.w H s.heap a (.dK kvs) from I.hok a _ ea);obtain⟨o,es,ep,f,g,_⟩:=p;exact BJ PySem.W.kitx_dict I.kIn ⟨o,f,g.1⟩ e (λz=>nomatch z) h
 | @dT a kvs ea =>cases (show u=Bl a from d);obtain⟨_,_,xs,_,o,es,ep,f,g,_⟩:=(show ObjOk X.prog X.w H s.heap a (.dT kvs) from I.hok a _ ea);exact BJ PySem.W.kitx_dict I.kIn ⟨o,f,g.1⟩ e (λz=>nomatch z) h
 | @ins a C dx fs ea cl ha hn htk hm =>cases (show u=Bl a from d);obtain⟨mA,O,_⟩:=qkl I.hok ea;obtain⟨od,J,_⟩:=O.look;exact BJ (PySem.W.kitx_own (cl.get _) cl.hd ha hn htk hm) I.kIn J e (λz=>nomatch z) h
end
end L2
namespace L2
open PySem PySem.Spec PyProof.Rows
structure Room (k:Nat)(A:AO):Prop where
 hd:A.handled=none
 dp:A.depth+3*k+5<recursionLimit
 un:A.units+16*k+200<cLine
theorem Room.mono {j k:Nat}{A:AO}(r:Room k A)(h:j<=k):Room j A:=⟨r.hd,by have:=r.dp;lia,by have:=r.un;lia⟩
theorem Room.deeper {k:Nat}{A:AO}(r:Room (k+1) A)(env:Env):Room k (A.deeper env) :=
 ⟨r.hd,by have:=r.dp;show A.depth+1+3*k+5<_;lia,by have:=r.un;show A.units+3+16*k+200<_;lia⟩
theorem Room.in1 {k:Nat}{A:AO}(r:Room (k+1) A):Room k A.in1 :=
 ⟨r.hd,by have:=r.dp;show A.depth+3*k+5<_;lia,by have:=r.un;show A.units+1+16*k+200<_;lia⟩
theorem qrj {A:AO}{C:Addr}{us:List Value}{kw:List (Str×Value)}:(A.under (.builtin "type.__call__" ⟨.ref C::us,kw⟩)).depth=A.depth+1:=by
 first|rfl|simp[AO.under,Code.weight,Code.isCreation,Code.isGuard,Code.isCaller,Code.frames,Code.isFrame,guardIds]
theorem qrk {A:AO}{C:Addr}{us:List Value}{kw:List (Str×Value)}:(A.under (.builtin "type.__call__" ⟨.ref C::us,kw⟩)).units=A.units+1:=by
 first|rfl|simp[AO.under,Code.cUnits,Code.frames,Code.isFrame]
theorem Room.make {k:Nat}{A:AO}(r:Room (k+1) A)(C:Addr)(us:List Value)(kw:List (Str×Value)):Room k (A.under (.builtin "type.__call__" ⟨.ref C::us,kw⟩)) :=
 ⟨r.hd,by have:=r.dp;rw[qrj];lia,by have:=r.un;rw[qrk];lia⟩
theorem Room.depth {k:Nat}{A:AO}(r:Room k A):A.depth<recursionLimit:=by have:=r.dp;lia
theorem Room.units {k:Nat}{A:AO}(r:Room k A):A.units+64<cLine:=by have:=r.un;lia
def tNil:TA:=λ_ H Q=>Q [] H
def tCons (ta:TE)(tr:TA):TA:=λσ H Q=>ta σ H λx H1=>tr σ H1 λxs H2=>Q (x::xs) H2
section
variable {X:Cx}{e:Expr}{es:List Expr}{te:TE}{t:TA}{pos:Pos}
theorem qg:PA X [] tNil:=λ_ _ _ _ H Q I h=>Dx ⟨[],H,I,.nil,h⟩
theorem qd (o:PE X e te)(l:PA X es t)(f:starEach (e::es) X.env=(false,eval e X.env)::starEach es X.env:=by rfl):PA X (e::es) (tCons te t):=by intro pos a s σ H Q I h;rw[f];show wpAny _ _ (spliced ((false,eval e X.env)::backTo pos (starEach es X.env))) _ _ s;refine CM (thn (o a s σ H _ I h) λu n b=>?_);obtain⟨x,p,j,g,k⟩:=b;exact thn (l pos a n σ p _ j k) λus s2 ⟨xs,c,d,m,i⟩=>⟨x::xs,c,d,.cons g m,i⟩
def tTup (t:TA):TE:=λσ H Q=>t σ H λxs H1=>xs.length<=A5/\∀p,H1 p=none->Q (.ref p) (upd H1 p (.tup xs))
def tLst (t:TA):TE:=λσ H Q=>t σ H λxs H1=>xs.length<=A5/\∀p,H1 p=none->Q (.ref p) (upd H1 p (.lst xs))
theorem zj {x1}(h:PA X es t):PE X (.Tuple es x1 pos) (tTup t):=by intro c s σ H Q I g;refine wpAny_Tuple_spliced (thn (h pos c s σ H _ I g) λus a ⟨xs,d,f,r,z,q⟩=>⟨by rw[<- r.length];exact z,?_⟩);have i:d a.heap.objs.size=none:=f.hok.fresh (Al _);refine⟨.ref a.heap.objs.size,upd d a.heap.objs.size (.tup xs),f.laid (t':=a.toks) (λb u e=>As _ e) (Al _) ?_,Z,q _ i⟩;exact⟨z,us,r,⟨_,AT _ Z,Z,_,Z⟩⟩
theorem zh (h:PA X es t):PE X (.List es pos) (tLst t):=by intro c s σ H Q I g;refine wpAny_List_spliced (thn (h pos c s σ H _ I g) λus a ⟨xs,d,f,r,z,q⟩=>⟨by rw[<- r.length];exact z,?_⟩);have i:d a.heap.objs.size=none:=f.hok.fresh (Al _);refine⟨.ref a.heap.objs.size,upd d a.heap.objs.size (.lst xs),f.laid (t':=a.toks) (λb u e=>As _ e) (Al _) ?_,Z,q _ i⟩;exact⟨z,us,0,r,AT _ Z⟩
end
abbrev Sp:=List V->Hp->VK->XK->Prop
abbrev CXT:=List Env->Hp->Ad->XK->Value->Ad->Prop
structure Env0 (P:AK)(w:World)(K:Ah)(mg:Str->Option Value)(base:Heap)(A:AO)(outer:List Env)(s:Ad)(H:Hp):Prop where
 frames:A.frames=some outer
 mod:Mod K mg base
 bs:∀b o,base.get? b=some o->s.heap.get? b=some o/\H b=none
 bsz:base.objs.size<=s.heap.objs.size
 funs:s.heap.FunFrames base outer
 frf:∀b∈frs outer,H b=none
 hok:HOk P w H s.heap
 bare:AllBare s.gens
def CE (outer:List Env)(P:AK)(w:World)(H:Hp)(s:Ad)(Q:VK)(u:Value)(s':Ad):Prop :=
 ∃v H',s'.os=s.os/\AllBare s'.gens/\Un (frs outer) [] H H' s.heap s'.heap/\HOk P w H' s'.heap/\RelV v u/\Q v H'
def CR (CX:CXT)(outer:List Env)(P:AK)(w:World)(H:Hp)(s:Ad)(Q:VK)(E:XK)(r:Result)(s':Ad):Prop :=
 match r with
 |.ok (.ret u)=>CE outer P w H s Q u s'
 |.ok _=>False
 |.error e=>CX outer H s E e s'
structure FnOk (P:AK)(w:World)(K:Ah)(mg:Str->Option Value)(base:Heap)(CX:CXT)(k:Nat)(f:Addr)(fd:Aw)(ps:List Str)(sp:Sp):Prop where
 len:∀vs H Q E,sp vs H Q E->vs.length=ps.length
 run:∀(A:AO)(outer:List Env)(s:Ad)(H:Hp)(args:Args)(us:List Value)(vs:List V)(Q:VK)(E:XK),Room k A->Env0 P w K mg base A outer s H->BindsTo s fd args (ps.zip us)->Vals vs us->sp vs H Q E ->
  codeAny (model P w) A (.call (.ref f) args) (CR CX outer P w H s Q E) s
theorem Env0.make {P:AK}{w:World}{K:Ah}{mg:Str->Option Value}{base:Heap}{A:AO}{outer:List Env}{s:Ad}{H:Hp}(e:Env0 P w K mg base A outer s H)(C:Addr)(us:List Value)(kw:List (Str×Value)) :
  Env0 P w K mg base (A.under (.builtin "type.__call__" ⟨.ref C::us,kw⟩)) outer s H:=⟨by first|exact e.frames | (simpa [AO.under,Code.envs,Code.isFrame,pushEnvs] using e.frames),e.mod,e.bs,e.bsz,e.funs,e.frf,e.hok,e.bare⟩
section
variable {X:Cx}{pins:List (Addr×Obj)}{σ:St}{H:Hp}{s s':Ad}
theorem Inv.env0 (I:Inv X pins σ H s):Env0 X.prog X.w X.K X.mg X.base X.A X.stack s H :=
 ⟨I.ok.frames,I.ok.mod,I.bs,A9 I.ok.bsz I.sz,I.stack,I.stkFree,I.hok,I.bare⟩
theorem Inv.after {Q:VK}{u:Value}(I:Inv X pins σ H s)(h:CE X.stack X.prog X.w H s Q u s'):EP X pins σ Q u s':=by obtain⟨v,H',os,a,un,c,r,q⟩:=h;obtain⟨f,g,d,t,e⟩:=s';obtain rfl:e=s.os:=os;exact⟨v,H',I.call (h':=f) (g':=g) (d':=d) (t':=t) (ch:=[]) un c a (λb z=>absurd z (by simp)),r,q⟩
end
def tCall (sp:Sp)(dvs:List V)(E:XK)(t:TA):TE:=λσ H Q=>t σ H λvs H1=>sp (vs++dvs) H1 Q E
def tMeth (C:Addr)(m:Str)(sp:Sp)(dvs:List V)(E:XK)(ta:TE)(t:TA):TE:=λσ H Q=>ta σ H λx H1=>∃a dx fs,x=.ref a/\H1 a=some (.ins C dx fs)/\fs.lookup m=none /\
 t σ H1 λvs H2=>sp (x::(vs++dvs)) H2 Q E
def tMake (C:Addr)(sp:Sp)(dvs:List V)(E:XK)(t:TA):TE:=λσ H Q=>t σ H λvs H1=>∀x dx,H1 x=none->H1 dx=none->dx≠x ->
 sp (.ref x::(vs++dvs)) (upd (upd H1 dx (.own x)) x (.ins C dx [])) (λv H2=>v=.non/\Q (.ref x) H2) E
def Binds (K:Ah)(fd:Aw)(ps:List Str)(ds:List Value):Prop :=
 ∀(s:Ad)(us:List Value),K.In s.heap->(us++ds).length=ps.length->BindsTo s fd ⟨us,[]⟩ (ps.zip (us++ds))
theorem Binds.all {K:Ah}{fd:Aw}{ps:List Str}(h:∀us:List Value,us.length=ps.length->bindArgs fd ⟨us,[]⟩=pure (ps.zip us)):Binds K fd ps []:=λs us _ a=>by rw[BC]at a |-;exact .of_eq (h us a)
def qgb (CX:CXT)(X:Cx)(E:XK):Prop:=∀(pins:List (Addr×Obj))(σ:St)(H:Hp)(s:Ad)(e:Value)(s':Ad),Inv X pins σ H s->CX X.stack H s E e s'->X.xe e s'
section
variable {X:Cx}{CX:CXT}{k:Nat}{f C:Addr}{fd:Aw}{ps:List Str}{sp:Sp}{dvs:List V}{ds:List Value}{E:XK}{x m:Str}{p pos apos:Pos}{e o:Expr}{es:List Expr}{ta:TE}{t:TA}
theorem qn8 {a:List (Addr×Obj)}{σ:St}{H:Hp}{s:Ad}{Q:VK}{us:List Value}{vs:List V}(F:FnOk X.prog X.w X.K X.mg X.base CX k f fd ps sp)(m:Room k X.A)(j:Binds X.K fd ps ds)(d:Vals dvs ds)(g:qgb CX X E)
  (I:Inv X a σ H s)(r:Vals vs us)(h:sp (vs++dvs) H Q E):wpAny (model X.prog X.w) X.A (call (.ref f) us) (EP X a σ Q) X.xe s:=by
 have c:Vals (vs++dvs) (us++ds):=r.append d;have i:(us++ds).length=ps.length:=by rw[<- c.length];exact F.len _ _ _ _ h
 refine wpAny_call (codeAny_mono (F.run X.A X.stack s H ⟨us,[]⟩ (us++ds) (vs++dvs) Q E m I.env0 (j s us I.kIn i) c h) λr l b=>?_);cases r with
 |error e=>exact g a σ H s e l I b
 |ok fl =>
  cases fl with|ret u=>exact I.after b|next=>exact Ct b|brk=>exact Ct b|cont=>exact Ct b
theorem zc (F:FnOk X.prog X.w X.K X.mg X.base CX k f fd ps sp)(n:Room k X.A)(i:Gl X x)(m:X.mg x=some (.ref f))(l:Br X.K (.ref f)=true)(j:Binds X.K fd ps ds)(d:Vals dvs ds)(g:qgb CX X E)
  (o:PA X (e::es) t)(b:(x == ("__debug__" : Str))=false:=by decide)(he:starEach (e::es) X.env=(false,eval e X.env)::starEach es X.env:=by rfl)(hpl:(backTo pos (starEach es X.env)).any (·.1)=false:=by rfl) :
  PE X (.Call (.Name x p) (e::es) [] pos) (tCall sp dvs E t):=by
 intro a s σ H Q I h;refine Cg (qn7 I i m ?_ b);refine Dm (h₀:=X.base) I.ok.mod.kin l (thn (o pos a s σ H _ I h) λus s1 ⟨vs,H1,c,r,q⟩=>⟨c.kIn,?_⟩) he hpl;exact qn8 F n j d g c r q
theorem qal {pl:Sem Bool}(J:PE X o ta)(c:Cls X.K C)(n:Meth X.K C m f)(F:FnOk X.prog X.w X.K X.mg X.base CX k f fd ps sp)(G:Room k X.A)(B:Binds X.K fd ps ds)(p:Vals dvs ds)(v:qgb CX X E)(M:PA X (e::es) t)
  (i:starEach (e::es) X.env=(false,eval e X.env)::starEach es X.env:=by rfl)(hpl:(backTo pos (starEach es X.env)).any (·.1)=false:=by rfl)
  (ht:eval (.Call (.Attribute o m apos) (e::es) [] pos) X.env=(do
   let ov <- eval o X.env
   standAt apos.atName
   let (f,first) <- holding [ov] (getMethod ov m pl)
   callWith pos f first (backTo pos (starEach (e::es) X.env)) (backToKw pos (keywordEach [] X.env))):=by rfl) :
  PE X (.Call (.Attribute o m apos) (e::es) [] pos) (tMeth C m sp dvs E ta t):=by
 intro b s σ H Q I h;refine D8 (pl:=pl) (thn (J b s σ H _ I h) λu L g=>?_) ht;obtain⟨x,N,j,z,a,dx,fs,ex,y,l,q⟩:=g;subst ex;obtain rfl:u=Bl a:=z;refine qhl j y c n l ?_;refine Dm (first:=[.ref a]) (h₀:=X.base) I.ok.mod.kin n.kp (thn (M pos b L σ N _ j q) λus s2 ⟨vs,H2,d,r,D⟩=>⟨d.kIn,?_⟩) i hpl;exact qn8 (us:=.ref a::us) (vs:=.ref a::vs) F G B p v d (.cons Z r) D
theorem qbg {pl:Sem Bool}(v:PE X o ta)(c:Cls X.K C)(g:Meth X.K C m f)(F:FnOk X.prog X.w X.K X.mg X.base CX k f fd ps sp)(t:Room k X.A)(r:Binds X.K fd ps ds)(i:Vals dvs ds)(j:qgb CX X E)
  (y:eval (.Call (.Attribute o m apos) [] [] pos) X.env=(do
   let ov <- eval o X.env
   standAt apos.atName
   let (f,first) <- holding [ov] (getMethod ov m pl)
   callWith pos f first (backTo pos (starEach [] X.env)) (backToKw pos (keywordEach [] X.env))):=by rfl) :
  PE X (.Call (.Attribute o m apos) [] [] pos) (tMeth C m sp dvs E ta tNil):=by
 intro b s σ H Q I h;refine D8 (pl:=pl) (thn (v b s σ H _ I h) λu s1 e=>?_) y;obtain⟨x,H1,d,p,a,dx,fs,ex,n,l,q⟩:=e;subst ex;obtain rfl:u=Bl a:=p;refine qhl d n c g l ?_;exact PySem.W.callWith_K0 (first:=[.ref a]) d.kIn g.kp (qn8 (us:=[.ref a]) (vs:=[.ref a]) F t r i j d (.cons Z .nil) q)
structure Mk (K:Ah)(C f:Addr):Prop where
 makes:PySem.W.makesIn K C=true
 init:Be K (.ref C) "__init__"=some (some (.ref f))
 fn:DW K (.ref f)=true
 kp:Br K (.ref C)=true
theorem qv3 {b:List (Addr×Obj)}{σ:St}{H:Hp}{s:Ad}{Q:VK}{us:List Value}{vs:List V}(M:Mk X.K C f)(F:FnOk X.prog X.w X.K X.mg X.base CX k f fd ps sp)(q:Room (k+1) X.A)(n:Binds X.K fd ps ds)(j:Vals dvs ds)
  (l:qgb CX X E)(I:Inv X b σ H s)(r:Vals vs us)
  (h:∀x dx,H x=none->H dx=none->dx≠x->sp (.ref x::(vs++dvs)) (upd (upd H dx (.own x)) x (.ins C dx [])) (λv i=>v=.non/\Q (.ref x) i) E) :
  wpAny (model X.prog X.w) X.A (call (.ref C) us) (EP X b σ Q) X.xe s:=by
 have d:=h (s.heap.objs.size+1) s.heap.objs.size (I.hok.fresh (C3 _)) (I.hok.fresh (Al _)) (AE (BU _));have c:=Inv.made (C:=C) I;have g:Vals (V.ref (s.heap.objs.size+1)::(vs++dvs)) (Bl (s.heap.objs.size+1)::(us++ds)):=.cons rfl (r.append j);have y:(Bl (s.heap.objs.size+1)::us++ds).length=ps.length:=by have e:=g.length;rw[F.len _ _ _ _ d]at e;exact e.symm
 refine wpAny_call (qv2 (f:=f) I.kIn M.makes M.init (beq_iff_eq.mp M.fn) (codeAny_mono (F.run _ X.stack _ _ ⟨Bl (s.heap.objs.size+1)::us,[]⟩ (Bl (s.heap.objs.size+1)::(us++ds)) _ _ E (q.make C us [])
  (c.env0.make C us []) (n _ (Bl (s.heap.objs.size+1)::us) c.kIn y) g d) λr m a=>?_))
 cases r with
 |error e=>exact l b σ _ _ e m c a
 |ok fl =>
  cases fl with
  |ret u =>obtain⟨v,H',p,rv,o,t⟩:=c.after a;subst o;exact⟨rv,⟨V.ref (s.heap.objs.size+1),H',p,Z,t⟩⟩
  |next=>exact Ct a
  |brk=>exact Ct a
  |cont=>exact Ct a
theorem qdx (M:Mk X.K C f)(F:FnOk X.prog X.w X.K X.mg X.base CX k f fd ps sp)(m:Room (k+1) X.A)(i:Gl X x)(l:X.mg x=some (.ref C))(j:Binds X.K fd ps ds)(d:Vals dvs ds)(g:qgb CX X E)
  (n:PA X (e::es) t)(b:(x == ("__debug__" : Str))=false:=by decide)(he:starEach (e::es) X.env=(false,eval e X.env)::starEach es X.env:=by rfl)(hpl:(backTo pos (starEach es X.env)).any (·.1)=false:=by rfl) :
  PE X (.Call (.Name x p) (e::es) [] pos) (tMake C sp dvs E t):=by
 intro a s σ H Q I h;refine Cg (qn7 I i l ?_ b);refine Dm (h₀:=X.base) I.ok.mod.kin M.kp (thn (n pos a s σ H _ I h) λus s1 ⟨vs,H1,c,r,q⟩=>⟨c.kIn,?_⟩) he hpl;exact qv3 M F m j d g c r q
end
section
variable {X:Cx}{CX:CXT}{k:Nat}{f C:Addr}{fd:Aw}{ps ks:List Str}{sp:Sp}{E:XK}{x m:Str}{p pos apos kpos:Pos}{e o:Expr}{es:List Expr}{kws:List Keyword}{te ta:TE}{t tk:TA}{nm:Option Str}
variable {g:List Value->List Value->List Value}{gV:List V->List V->List V}
end
structure FnScope (N P:List Str)(sc:Scope):Prop where
 kind:sc.kind=.function
 co:sc.isCoroutine=false
 gen:sc.isGenerator=false
 nd:N.Nodup
 pre:N.take P.length=P
 par:∀x∈P,sc.names.lookup x=some .local\/sc.names.lookup x=some .cell
 nofree:∀y∈sc.names,y.2 ≠ .free
theorem qnb {a:Str->Option Bu}{x:Str}:∀{binds:List (Str×Value)}{m:Str->Option Value},(∀v,(x,v)∉binds)->bindL a binds m x=m x
 | [],_,_=>rfl
 | (n,v)::r,m,h=>by
  unfold bindL;rw[qnb λw b=>h w (Ay _ b)];split
  .have:x≠n:=by rintro rfl;exact h v Am
   simp[this]
  .rfl
theorem qnc {a:Str->Option Bu}{x:Str}:∀{binds:List (Str×Value)}{m:Str->Option Value},(∀v,(x,v)∉binds)->bindC a binds m x=m x
 | [],_,_=>rfl
 | (n,v)::r,m,h=>by
  unfold bindC;rw[qnc λw b=>h w (Ay _ b)];split
  .rfl
  .have:x≠n:=by rintro rfl;exact h v Am
   simp[this]
theorem qnd {a:Str->Option Bu}{x:Str}{v:Value}:∀{P:List Str}{vs:List Value}{i:Nat}{m:Str->Option Value},P.Nodup->P[i]?=some x->vs[i]?=some v->a x=some .local ->
  bindL a (P.zip vs) m x=some v
 | [],_,_,_,_,h,_,_=>by simp at h
 |_::_,[],_,_,_,_,h,_=>by simp at h
 |p::P,w::vs,0,m,nd,h1,h2,hk=>by simp at h1 h2;subst h1;subst h2;show bindL a ((p,w)::P.zip vs) m p=_;unfold bindL;rw[qnb λv b=>(Cu.mp nd).1 (List.of_mem_zip b).1,if_pos hk];simp
 |p::P,w::vs,i+1,m,nd,h1,h2,hk=>by show bindL a ((p,w)::P.zip vs) m x=_;unfold bindL;exact qnd (i:=i) (Cu.mp nd).2 (by simpa using h1) (by simpa using h2) hk
theorem qne {a:Str->Option Bu}{x:Str}{v:Value}:∀{P:List Str}{vs:List Value}{i:Nat}{m:Str->Option Value},P.Nodup->P[i]?=some x->vs[i]?=some v->a x≠some .local ->
  bindC a (P.zip vs) m x=some v
 | [],_,_,_,_,h,_,_=>by simp at h
 |_::_,[],_,_,_,_,h,_=>by simp at h
 |p::P,w::vs,0,m,nd,h1,h2,hk=>by simp at h1 h2;subst h1;subst h2;show bindC a ((p,w)::P.zip vs) m p=_;unfold bindC;rw[qnc λv b=>(Cu.mp nd).1 (List.of_mem_zip b).1,if_neg hk];simp
 |p::P,w::vs,i+1,m,nd,h1,h2,hk=>by show bindC a ((p,w)::P.zip vs) m x=_;unfold bindC;exact qne (i:=i) (Cu.mp nd).2 (by simpa using h1) (by simpa using h2) hk
noncomputable def start (N:List Str)(vs:List V):St:=vs.map some++List.replicate (N.length-vs.length) none
noncomputable def qpk (CX:CXT)(P:AK)(w:World)(K:Ah)(mg:Str->Option Value)(base:Heap)(N:List Str)(qual:Str)(scope:Scope)(f:Addr)(cd:Value)(A:AO)(outer:List Env)(s:Ad)(H:Hp)(E:XK):Cx where
 prog:=P
 w:=w
 K:=K
 mg:=mg
 base:=base
 A:=A.deeper (envOfC qual scope s.heap.objs.size f cd)
 N:=N
 s₀:=s
 H₀:=H
 env:=envOfC qual scope s.heap.objs.size f cd
 outer:=outer
 stack:=envOfC qual scope s.heap.objs.size f cd::outer
 ex:=[]
 calm:=true
 fn:=λ_=>true
 pn:=[]
 xe:=λe s'=>wpAny (model P w) (A.deeper (envOfC qual scope s.heap.objs.size f cd)) (leaving (envOfC qual scope s.heap.objs.size f cd) e) (λ_ s''=>CX outer H s E e s'') (λe' s''=>CX outer H s E e' s'') s'
theorem qpl {a:Scope}{n:Nat}{x:Str}(h:a.names.lookup x=some .cell):∃c,(cellsFrom n a.names []).lookup x=some c:=by have q:=PySem.W.cellsFrom_some a.names n [] (.inl h);exact BP.mp q
theorem qui {CX:CXT}{P:AK}{w:World}{K:Ah}{mg:Str->Option Value}{base:Heap}{N ps:List Str}{j:Str}{scope:Scope}{f:Addr}{C:Value}{A:AO}{outer:List Env}{s G:Ad}{H:Hp}{E:XK}{us:List Value}{vs:List V}
  (S:FnScope N ps scope)(J:A.handled=none)(g:Env0 P w K mg base A outer s H)(hl:vs.length=ps.length)(r:Vals vs us)
  (x:InCallC s s.heap.objs.size (bindL (envOfC j scope s.heap.objs.size f C).kindOf (ps.zip us) λ_=>none) (cellsFrom (s.heap.objs.size+1) scope.names []) (bindC (envOfC j scope s.heap.objs.size f C).kindOf (ps.zip us) λ_=>none) G) :
  Inv (qpk CX P w K mg base N j scope f C A outer s H E) [] (start N vs) H G:=by
 have hpl:ps.length<=N.length:=by have:=congrArg Dq S.pre;rw[Bj]at this;lia
 obtain⟨B,tk,rfl,F⟩:=x.done;have m:∀b:Addr,b∉(qpk CX P w K mg base N j scope f C A outer s H E).ex:=λb z=>absurd (show b∈([]:List Addr) from z) (by simp);refine⟨⟨g.mod,S.kind,Z,Z,Al _,λy z c B d=>?_,λy l=>?_,λy c _ h=>?_,λ_=>J,AO.frames_deeper g.frames,.inr ⟨Z,Z⟩,λb z=>absurd z (m b),g.bs,g.bsz,λb _ _=>m b,λb z=>absurd z (m b),g.funs,g.frf⟩,
  rfl,g.bare,Un.kept F,⟨_,x.toInCall.ns,λi y v B d h3=>?_⟩,λy c h=>⟨_,x.cell y c h⟩,g.hok.fresh (Al _),λy c h=>?_,λp o=>absurd (show p∈([]:List (Addr×Obj)) from o) (by simp),g.hok.kept F,?_⟩
 .exact name_of_addr x.apart (Cc B) (Cc d)
 .have l:scope.names.lookup y=some .cell\/scope.names.lookup y=some .free:=l;rcases l with l|l
  .exact qpl l
  .exact absurd rfl (S.nofree _ (Cc l))
 .exact B9 (x.above y c (Cc h))
 .have t:i<vs.length:=by
   unfold start at d
   by_cases t:i<vs.length
   .exact t
   .rw[AS (by simpa using t)]at d;rw[List.getElem?_replicate]at d;split at d <;>cases d
  have L:vs[i]?=some v:=by
   unfold start at d;rw[AH (by simpa using t),Ag]at d;cases e:vs[i]? with|none=>rw[e]at d;cases d|some a=>rw[e]at d;cases d;rfl
  obtain⟨u,I,rv⟩:=r.get L
  have o:ps[i]?=some y:=by rw[<- S.pre,List.getElem?_take_of_lt (by lia)];exact B
  have D:ps.Nodup:=by rw[<- S.pre];exact S.nd.sublist (List.take_sublist _ _)
  refine⟨u,rv,?_⟩
  rcases S.par y (A2 o) with k|k
  .exact .inl ⟨k,qnd D o I k⟩
  .obtain⟨c,e⟩:=qpl (n:=s.heap.objs.size+1) k;refine .inr ⟨.inl k,c,e,?_⟩;have q:=x.cell y c e;rw[qne D o I (by show scope.names.lookup y≠_;rw[k];decide)]at q;exact q
 .exact g.hok.fresh (B9 (x.above y c (Cc h)))
 .unfold start;show _=N.length;rw[Af,Ab,List.length_replicate];lia
theorem qv4 {CX:CXT}{P:AK}{w:World}{K:Ah}{mg:Str->Option Value}{base:Heap}{k:Nat}{f:Addr}{j a:Str}{d:Arguments}{g:List Stmt}{scope:Scope}{G kV B R c ct oc:Value}{F od:Option Addr}
  {O:Array (Option Value)}{N ps:List Str}{sp:Sp}(lk:K.lookup f=some ⟨oc,od,.func (Bh j a d g scope G kV B R F c ct),O⟩)(M:B3 K c a=true)(S:FnScope N ps scope)
  (len:∀vs H Q E,sp vs H Q E->vs.length=ps.length)
  (l:∀(A:AO)(outer:List Env)(s:Ad)(H:Hp)(vs:List V)(Q:VK)(E:XK),Room k (A.deeper (envOfC a scope s.heap.objs.size f c))->sp vs H Q E ->
   ∃t,PSs (qpk CX P w K mg base N a scope f c A outer s H E) g t/\t {nx:=λ_ H'=>Q .non H',rt:=Q} (start N vs) H) :
  FnOk P w K mg base CX (k+1) f (Bh j a d g scope G kV B R F c ct) ps sp:=by
 refine⟨len,λA outer s H args us vs Q E D i hb r z=>?_⟩;have hl:=len _ _ _ _ z;have L:K.In s.heap:=i.mod.kin.keeps λb o e=>(i.bs b o e).1;have T:s.heap.NoLimit:=i.mod.nolimit.keeps λb o e=>(i.bs b o e).1;have m:∀y∈ps.zip us,scope.names.lookup y.1=some .local\/(scope.names.lookup y.1=some .cell/\((cellsFrom (s.heap.objs.size+1) scope.names []).lookup y.1).isSome=true):=λ⟨n,v⟩ Y=>by
  rcases S.par n (List.of_mem_zip Y).1 with q|q
  .exact .inl q
  .exact .inr ⟨q,PySem.W.cellsFrom_some _ _ _ (.inl q)⟩
 refine codeAny_call_function D.depth (L _ _ lk) rfl S.co S.gen rfl (PySem.W.codeRec_of L M) (hb _ _ _ _ ?_);refine wpAny_newFunctionEnv_cells S.kind m λenv he U x=>?_;subst he;refine⟨T.keeps x.toInCall.keep,codeAny_func ?_⟩;obtain⟨t,ht,hq⟩:=l A outer s H vs Q E (D.deeper _) z;have I:Inv (qpk CX P w K mg base N a scope f c A outer s H E) [] (start N vs) H U:=qui S D.hd i hl r x;refine BR (ht [] U (start N vs) H _ I hq) (λX C h=>?_) λe C h=>h;have p:∀{σ':St}{H':Hp}{v:V}{u:Value},Inv (qpk CX P w K mg base N a scope f c A outer s H E) [] σ' H' C->RelV v u->Q v H'->CE outer P w H s Q u C :=
  λ{σ' H' v u} J rv q=>⟨v,H',J.os,J.bare,J.base,J.hok,rv,q⟩
 cases X with
 |ret u =>obtain⟨v,σ',H',J,rv,q⟩:=h;exact p J rv q
 |next =>obtain⟨σ',H',J,q⟩:=h;exact p (v:=V.non) (u:=C6) J rfl q
 |brk =>obtain⟨_,_,_,q⟩:=h;exact Ct q
 |cont =>obtain⟨_,_,_,q⟩:=h;exact Ct q
end L2
namespace L2
open PySem PySem.Spec PyProof.Rows
section
variable {X:Cx}{x:Str}{p pos:Pos}{e:Expr}{es:List Expr}{t:TA}{id T:String}{r:List V->Hp->VK->Prop}
def tCB (r:List V->Hp->VK->Prop)(t:TA):TE:=λσ H Q=>t σ H λvs H1=>r vs H1 Q
theorem zd (j:qf9 X (.builtin id) r)(b:Gl X x)(i:X.mg x=none)(m:bootBuiltins x=some (.builtin id))(l:PA X (e::es) t)(d:x ≠ "__name__" := by decide)(hdb:(x == ("__debug__" : Str))=false:=by decide)
  (he:starEach (e::es) X.env=(false,eval e X.env)::starEach es X.env:=by rfl)(hpl:(backTo pos (starEach es X.env)).any (·.1)=false:=by rfl):PE X (.Call (.Name x p) (e::es) [] pos) (tCB r t):=by
 intro a s σ H Q I h;refine Cg (qf6 I b i m ?_ d hdb);exact PyProof.Rows.callWith_builtin1 (thn (l pos a s σ H _ I h) λus k ⟨vs,n,f,c,g⟩=>j a k σ n vs us Q f c g) he hpl
theorem qb6 (j:qf9 X (.type T) r)(b:Gl X x)(i:X.mg x=none)(m:bootBuiltins x=some (.type T))(l:PA X (e::es) t)(d:x ≠ "__name__" := by decide)(hdb:(x == ("__debug__" : Str))=false:=by decide)
  (he:starEach (e::es) X.env=(false,eval e X.env)::starEach es X.env:=by rfl)(hpl:(backTo pos (starEach es X.env)).any (·.1)=false:=by rfl):PE X (.Call (.Name x p) (e::es) [] pos) (tCB r t):=by
 intro a s σ H Q I h;refine Cg (qf6 I b i m ?_ d hdb);exact BW (thn (l pos a s σ H _ I h) λus k ⟨vs,n,f,c,g⟩=>j a k σ n vs us Q f c g) he hpl
end
end L2
namespace HT
open PySem PyProof.Rows
section
open PySem.SeqAt
open PySem.AutoSeq1 (wpAny_loadPart')
open PySem.MeetsSeq PySem.MeetsSeq2 PySem.MeetsSeq3
end
section
variable {prog:AK}{w:World}{A:AO}{E:Value->Ad->Prop}{s:Ad}
noncomputable def sIx (n d:Nat):Option Int->Nat
 |none=>d
 |some v=>if v<0 then (v+(n:Int)).toNat else min v.toNat n
theorem sIx_none (n d:Nat):sIx n d none=d:=rfl
theorem sIx_nat (n d k:Nat):sIx n d (some (k:Int))=min k n:=by show (if (k:Int)<0 then ((k:Int)+(n:Int)).toNat else min (k:Int).toNat n)=min k n;rw[if_neg (by lia),B8]
end
end HT
namespace L2
open PySem PySem.Spec PyProof.Rows
abbrev TO:=St->Hp->(Option Int->Hp->Prop)->Prop
def PO (X:Cx)(e:Option Expr)(t:TO):Prop :=
 ∀(pins:List (Addr×Obj))(s:Ad)(σ:St)(H:Hp)(Q:Option Int->Hp->Prop),Inv X pins σ H s->t σ H Q ->
  wpAny (model X.prog X.w) X.A (evalPart e X.env) (λu s'=>∃o H',Inv X pins σ H' s'/\IsPart u o/\Q o H') X.xe s
noncomputable def qy5:TO:=λ_ H Q=>Q none H
noncomputable def tPart (t:TE):TO:=λσ H Q=>t σ H λx H1=>∃i,x=.int i/\Q (some i) H1
section
variable {X:Cx}{e:Expr}{te:TE}{lo hi:Option Expr}{tl th:TO}{pos p2:Pos}
theorem qh8:PO X none qy5:=by intro pins s σ H Q I h;rw[Eo];exact Bf ⟨none,H,I,.none,h⟩
theorem qfi (h:PE X e te):PO X (some e) (tPart te):=by intro a s σ H Q I c;rw[evalPart_some];refine thn (h a s σ H _ I c) λu s1 b=>?_;obtain⟨x,d,g,f,j⟩:=b;obtain⟨i,rfl,q⟩:=j;obtain⟨t,rfl⟩:=f;exact⟨some i,d,g,.int i t,q⟩
def SlR (X:Cx)(r:V->Option Int->Option Int->Hp->VK->Prop):Prop :=
 ∀(pins:List (Addr×Obj))(s:Ad)(σ:St)(H:Hp)(x:V)(v vl vu:Value)(lo hi:Option Int)(sl:Addr)(Q:VK),Inv X pins σ H s->RelV x v->s.heap.IsSliceOf sl vl vu .none->IsPart vl lo->IsPart vu hi->r x lo hi H Q ->
  ∃T id,typeLookup (.type T) "__getitem__"=pure (some (.builtin id))/\s.TypeIs v T/\wpAny (model X.prog X.w) X.A (getItem v (.ref sl)) (EP X pins σ Q) X.xe s
def tSl (r:V->Option Int->Option Int->Hp->VK->Prop)(te:TE)(tl th:TO):TE:=λσ H Q=>te σ H λx H1=>tl σ H1 λl H2=>th σ H2 λu H3=>r x l u H3 Q
theorem qgc {r:V->Option Int->Option Int->Hp->VK->Prop}(E:SlR X r)(G:PE X e te)(J:PO X lo tl)(L:PO X hi th):PE X (.Subscript e (.Slice lo hi none p2) pos) (tSl r te tl th):=by intro a s σ H Q I h;refine Subscript_ (thn (G a s σ H _ I h) λv K d=>?_);obtain⟨x,N,z,p,B⟩:=d;refine wpAny_Slice (thn (J a K σ N _ z B) λf o ⟨l,j,k,pl,t⟩=>thn (L a o σ j _ k t) λg c d=>?_);obtain⟨u,i,D,C,F⟩:=d;rw[Eo];refine Bf ?_;have n:Inv X a σ i {c with heap:=c.heap.push {cls:=.type "slice",data:=.fields #[f,g,.none]} }:=D.kept (t':=c.toks) λb ob q=>As _ q;obtain⟨T,id,y,M,m⟩:=E a {c with heap:=c.heap.push {cls:=.type "slice",data:=.fields #[f,g,.none]} } σ i x v f g l u c.heap.objs.size Q n p (Heap.IsSliceOf.new ..) pl C F;show wpAny (model X.prog X.w) X.A (subscriptTail e (.Slice lo hi none p2) v (.ref c.heap.objs.size)) (EP X a σ Q) X.xe {c with heap:=c.heap.push {cls:=.type "slice",data:=.fields #[f,g,.none]} };exact tail_any (ops:=[.ref c.heap.objs.size,v]) M y m (by with_unfolding_all rfl)
noncomputable def qkc (xs:List V)(lo hi:Option Int):List V:=(xs.drop (HT.sIx xs.length 0 lo)).take (HT.sIx xs.length xs.length hi-HT.sIx xs.length 0 lo)
theorem qpm (xs:List V)(lo a:Option Int):(qkc xs lo a).length<=xs.length:=by unfold qkc;rw[Bj,BE];lia
end
end L2
namespace L2
open PySem PySem.Spec PyProof.Rows
noncomputable def ixN (n:Nat)(i:Int):Option Nat:=if 0<=i then (if i<n then some i.toNat else none) else if -(n:Int)<=i then some (i+n).toNat else none
noncomputable def atI {α:Type}(xs:List α)(i:Int):Option α:=(ixN xs.length i).bind λj=>xs[j]?
theorem qs1 {n:Nat}{i:Int}{j:Nat}(h:ixN n i=some j):seqIndex? i n=some j/\j<n /\ -(n:Int)<=i/\i<n:=by
 unfold ixN at h;by_cases b:0<=i
 .rw[if_pos b]at h;by_cases a:i<n
  .rw[if_pos a]at h;have e:i.toNat=j:=AD h;exact⟨by rw[seqIndex_of b a,e],by lia,by lia,a⟩
  .rw[if_neg a]at h;cases h
 .rw[if_neg b]at h;by_cases a : -(n:Int)<=i
  .rw[if_pos a]at h;have e:(i+n).toNat=j:=AD h;exact⟨by rw[seqIndex_neg (by lia) a,e],by lia,a,by lia⟩
  .rw[if_neg a]at h;cases h
theorem qn9 {α:Type}{xs:List α}{i:Int}{v:α}(h:atI xs i=some v):∃j,seqIndex? i xs.length=some j/\xs[j]?=some v/\j<xs.length /\ -(xs.length:Int)<=i/\i<xs.length:=by
 unfold atI at h;cases e:ixN xs.length i with
 |none=>rw[e]at h;cases h
 |some j =>rw[e]at h;obtain⟨d,a,c,b⟩:=qs1 e;exact⟨j,d,h,a,c,b⟩
theorem qao {α:Type}{xs:List α}{j:Nat}{v:α}(h:xs[j]?=some v):atI xs (j:Int)=some v:=by
 have hj:j<xs.length:=(Ac.mp h).1;have e:ixN xs.length (j:Int)=some j:=by unfold ixN;rw[if_pos (by lia),if_pos (by lia)];simp
 unfold atI;rw[e];exact h
theorem qd5 {α:Type}(xs:List α)(v:α):atI (xs++[v]) (-1)=some v:=by
 have a:(xs++[v]).length=xs.length+1:=by simp
 have e:ixN (xs++[v]).length (-1)=some xs.length:=by
  unfold ixN;rw[a,if_neg Uk,if_pos (by lia)]
  congr 1
  lia
 unfold atI;rw[e];show (xs++[v])[xs.length]?=some v;simp
def qy6 (b:Expr):Prop:=∀o i,subscripted b false o i=operate [o,i] (getItem o i)
def IxR (X:Cx)(r:R2):Prop :=
 ∀(value slice:Expr)(pins:List (Addr×Obj))(s:Ad)(σ:St)(H:Hp)(x y:V)(v u:Value)(Q:VK),Inv X pins σ H s->RelV x v->RelV y u->r x y H Q ->
  subscripted slice false v u=operate [v,u] (getItem v u)->wpAny (model X.prog X.w) X.A (subscriptTail value slice v u) (EP X pins σ Q) X.xe s
def MtR (X:Cx)(id:String)(r:V->List V->Hp->VK->Prop):Prop :=
 ∀(pins:List (Addr×Obj))(s:Ad)(σ:St)(H:Hp)(x:V)(xs:List V)(v:Value)(us:List Value)(Q:VK),Inv X pins σ H s->RelV x v->Vals xs us->r x xs H Q ->
  wpAny (model X.prog X.w) X.A (call (.builtin id) (v::us)) (EP X pins σ Q) X.xe s
section
variable {X:Cx}{a b:Expr}{ta tb:TE}{pos:Pos}
theorem zp {r:R2}(l:IxR X r)(m:PE X a ta)(i:PE X b tb)(g:qy6 b):PE X (.Subscript a b pos) (tOp r ta tb):=by intro c s σ H Q I h;exact Subscript_ (binT m i I h λv u j x y d f e k q=>l a b c j σ d x y v u Q f e k q (g _ _))
def rIxL (K:Ah):R2:=λx y H Q=>∃p xs i v,x=.ref p/\y=.int i/\SqL K H p xs/\atI xs i=some v/\Q v H
def rIxT (K:Ah):R2:=λx y H Q=>∃p xs i v,x=.ref p/\y=.int i/\SqT K H p xs/\atI xs i=some v/\Q v H
def rIxS:R2:=λx y H Q=>∃z i c,x=.str z/\y=.int i/\z.length<=A5/\atI z.cps.toList i=some c/\Q (.str ⟨#[c]⟩) H
theorem zr:IxR X (rIxL X.K):=by
 intro value slice a s σ H x y v u Q I m A h f;obtain⟨p,xs,i,z,rfl,rfl,o,C,q⟩:=h;cases m;obtain⟨t,rfl⟩:=A;obtain⟨its,r,pl,hz⟩:=I.list o;obtain⟨j,b,n,h3,B,E⟩:=qn9 C;obtain⟨w,k,g⟩:=r.get n;have D:=r.length;have hn:=qi7;have c:EP X a σ Q w s:=⟨z,H,I,g,q⟩;by_cases e:0<=i
 .have d:i.toNat=j:=by
   rw[seqIndex_of e E]at b
   exact AD b
  exact item_listR pl.isList e (by lia) (by rw[d];simpa using k) c f
 .have d:(i+(its.toArray.size:Int)).toNat=j:=by
   rw[seqIndex_neg (by lia) B]at b
   rw[Aj,<- D]
   exact AD b
  exact subscriptTail_builtinR (x:=w) pl.isList.typeIs Eh.lookup
   (wpAny_getItem_list_neg (Q:=λr l=>r=w/\EP X a σ Q r l) pl.isList (by lia) (by rw[Aj] <;>lia) (by lia) (by rw[d];simpa using k) ⟨Z,c⟩) f
theorem zq:IxR X (rIxT X.K):=by
 intro value slice a s σ H x y v u Q I e l h f;obtain⟨p,xs,i,z,rfl,rfl,k,n,q⟩:=h;cases e;obtain⟨t,rfl⟩:=l;obtain⟨its,r,pl,hz⟩:=I.tuple k;obtain⟨j,m,g,h3,h4,h5⟩:=qn9 n;obtain⟨w,A,c⟩:=r.get g;have o:=r.length;have hn:=qi7;have b:EP X a σ Q w s:=⟨z,H,I,c,q⟩;exact subscriptTail_builtinR (x:=w) pl.typeIs slot_tuple_getitem.lookup
  (getItem_tuple (j:=j) (Q:=λr d=>r=w/\EP X a σ Q r d) pl (by lia) (by lia) (by rw[Aj,<- o];exact m) (by simpa using A) ⟨Z,b⟩) f
theorem ix_str:IxR X rIxS:=by
 intro value slice pins s σ H x y v u Q I d k h e;obtain⟨z,i,c,rfl,rfl,hz,m,q⟩:=h;obtain⟨t,rfl⟩:=d;obtain⟨t',rfl⟩:=k;obtain⟨j,a,f,h3,l,o⟩:=qn9 m;have n:z.cps.toList.length=z.length:=by simp[Str.length]
 rw[n]at a l o;have hn:=qi7;exact tail_any (typeIs_str s z t) slot_str_getitem.lookup (getItem_str (c:=c) (by have g:decide (i < -(2 ^ 63:Int))=false:=decide_eq_false (by lia);have b:decide (i ≥ 2 ^ 63)=false:=decide_eq_false (by lia);rw[g,b,Ep]) (by rw[a];simpa using f) ⟨.str ⟨#[c]⟩,H,I.tok _,⟨_,Z⟩,q⟩) e
theorem qrl (its:List Value)(n j:Nat)(u:Value):B1 (·.setIfInBounds j u) {cls:=.type "list",data:=.seq its.toArray n}={cls:=.type "list",data:=.seq (its.set j u).toArray n}:=by simp[B1]
theorem Inv.lst {a:List (Addr×Obj)}{σ:St}{H:Hp}{s:Ad}{p:Addr}{xs:List V}(I:Inv X a σ H s)(h:H p=some (.lst xs)) :
  ∃(its:List Value)(n:Nat),Vals xs its/\s.heap.get? p=some {cls:=.type "list",data:=.seq its.toArray n}/\xs.length<=A5:=by
 obtain⟨z,its,n,r,e⟩:=I.hok p _ h;exact⟨its,n,r,e,z⟩
theorem Inv.lstUpd {a:List (Addr×Obj)}{σ:St}{H:Hp}{s:Ad}{p:Addr}{xs ys:List V}{its its':List Value}{n c:Nat}{f:Obj->Obj}(I:Inv X a σ H s)(h:H p=some (.lst xs))
  (d:s.heap.get? p=some {cls:=.type "list",data:=.seq its.toArray n})(hf:f {cls:=.type "list",data:=.seq its.toArray n}={cls:=.type "list",data:=.seq its'.toArray c})(r:Vals ys its')(hz:ys.length<=A5)(t:Nat) :
  Inv X a σ (upd H p (.lst ys)) {s with heap:=s.heap.update p f,toks:=t}:=by
 have e:(s.heap.update p f).get? p=some {cls:=.type "list",data:=.seq its'.toArray c}:=by rw[Heap.get?_update_self f d (by rw[hf] <;>rfl),hf]
 refine I.write (x:=p) (e:=p) (by rw[h];trivial) (.inl Z) (λb u g q=>(Dy _ _ (By g)).trans q) ⟨_,e⟩ ?_;exact⟨hz,its',c,r,e⟩
noncomputable def rSetL:V->V->V->Hp->(Hp->Prop)->Prop:=λo i v H Q=>∃p xs k j,o=.ref p/\i=.int k/\H p=some (.lst xs)/\ixN xs.length k=some j/\Q (upd H p (.lst (xs.set j v)))
theorem qv5:PSet X rSetL:=by
 intro d s σ H o i v ov iv u Q I x z rv h;obtain⟨p,xs,k,j,rfl,rfl,l,y,q⟩:=h;cases x;obtain⟨t,rfl⟩:=z;obtain⟨its,n,r,b,hz⟩:=I.lst l;obtain⟨a,h2,w,g⟩:=qs1 y;have e:=r.length;have hn:=qi7;have m:Inv X d σ (upd H p (.lst (xs.set j v))) {s with heap:=s.heap.update p (B1 (·.setIfInBounds j u))} :=
  I.lstUpd l b (qrl its n j u) (r.set rv j) (by rw[List.length_set];exact hz) s.toks
 by_cases f:0<=k
 .have c:k.toNat=j:=by
   rw[seqIndex_of f g]at a
   exact AD a
  exact PySem.W.ki_setAt b f (by lia) (by rw[Aj,<- e];exact g) (by rw[c];exact⟨_,m,q⟩)
 .have c:(k+(its.toArray.size:Int)).toNat=j:=by
   rw[seqIndex_neg (by lia) w]at a
   rw[Aj,<- e]
   exact AD a
  exact PySem.W.ki_setBack b (by lia) (by rw[Aj,<- e];exact w) (by lia) (by rw[c];exact⟨_,m,q⟩)
theorem qoa (lo a:Option Int)(n:Nat):(sliceBounds lo a none n).1=((HT.sIx n 0 lo:Nat):Int)/\(sliceBounds lo a none n).2.1=((HT.sIx n n a:Nat):Int)/\(sliceBounds lo a none n).2.2=1:=by
 refine⟨?_,?_,Z⟩
 .cases lo with
  |none=>simp[sliceBounds,HT.sIx]
  |some i =>
   simp only[sliceBounds,HT.sIx,Option.getD_none,show (1:Int) > 0 by decide,if_true];by_cases h:i<0
   .simp only[h,if_true] <;>lia
   .simp only[h,if_false] <;>lia
 .cases a with
  |none=>simp[sliceBounds,HT.sIx]
  |some i =>
   simp only[sliceBounds,HT.sIx,Option.getD_none,show (1:Int) > 0 by decide,if_true];by_cases h:i<0
   .simp only[h,if_true] <;>lia
   .simp only[h,if_false] <;>lia
theorem qms (its:List Value)(lo a:Option Int):slicePick its.toArray lo a none=((its.drop (HT.sIx its.length 0 lo)).take (HT.sIx its.length its.length a-HT.sIx its.length 0 lo)).toArray:=by obtain⟨d,b,c⟩:=qoa lo a its.toArray.size;unfold slicePick;rw[d,b,c];simp only[sliceRange_one,pick_run,Aj] <;>rfl
noncomputable def rSlL (K:Ah):V->Option Int->Option Int->Hp->VK->Prop:=λx lo hi H Q=>∃a xs,x=.ref a/\SqL K H a xs/\∀p,H p=none->Q (.ref p) (upd H p (.lst (qkc xs lo hi)))
theorem qh9:SlR X (rSlL X.K):=by intro pins s σ H x v vl vu lo c sl Q I g i pl j h;obtain⟨a,xs,rfl,f,q⟩:=h;cases g;obtain⟨its,r,e,hz⟩:=I.list f;have d:=r.length;refine⟨"list",_,Eh.lookup,e.isList.typeIs,?_⟩;refine wpAny_getItem_list_slice e.isList i pl j .none (by simp) ?_ (by rw[Aj] <;>lia);rw[qms,<- d];refine⟨.ref s.heap.objs.size,_,I.laid (t':=s.toks) (o:=.lst (qkc xs lo c)) (λb ob q=>As _ q) (Al _) ?_,Z,q _ (I.hok.fresh (Al _))⟩;exact⟨A9 (qpm xs lo c) hz,_,0,(r.drop (HT.sIx xs.length 0 lo)).take (HT.sIx xs.length xs.length c-HT.sIx xs.length 0 lo),AT _ Z⟩
noncomputable def qb2:V->Bool
 |.non=>true
 |.bl _=>true
 |.int _=>true
 |.str _=>true
 |_=>false
noncomputable def eqV:V->V->Bool
 |.non,.non=>true
 |.bl a,.bl b=>a == b
 |.bl a,.int b=>(if a then 1 else 0) == b
 |.int a,.bl b=>a == (if b then 1 else 0)
 |.int a,.int b=>a == b
 |.str a,.str b=>a == b
 |_,_=>false
theorem qrm {A:AO}{s:Ad}{y x:V}{u v:Value}(e:RelV y u)(c:RelV x v)(fy:qb2 y=true)(d:qb2 x=true):AZ A s u v (eqV y x):=by
 cases y with
 |non =>
  cases e;cases x with
  |non=>cases c;exact AZ.same _
  |bl b=>cases c;exact AZ.none_bool b
  |int b=>obtain⟨t,rfl⟩:=c;exact AZ.none_int b t
  |str b=>obtain⟨t,rfl⟩:=c;exact AZ.none_str b t
  |_=>exact absurd (show false=true from d) AF
 |bl a =>
  cases e;cases x with
  |non=>cases c;exact AZ.bool_none a
  |bl b=>cases c;exact AZ.bool_bool a b
  |int b=>obtain⟨t,rfl⟩:=c;exact AZ.bool_int a b t
  |str b=>obtain⟨t,rfl⟩:=c;exact AZ.bool_str a b t
  |_=>exact absurd (show false=true from d) AF
 |int a =>
  obtain⟨t',rfl⟩:=e;cases x with
  |non=>cases c;exact AZ.int_none a t'
  |bl b=>cases c;exact AZ.int_bool a t' b
  |int b=>obtain⟨t,rfl⟩:=c;exact AZ.int_int a t' b t
  |str b=>obtain⟨t,rfl⟩:=c;exact AZ.int_str a t' b t
  |_=>exact absurd (show false=true from d) AF
 |str a =>
  obtain⟨t',rfl⟩:=e;cases x with
  |non=>cases c;exact AZ.str_none a t'
  |bl b=>cases c;exact AZ.str_bool a t' b
  |int b=>obtain⟨t,rfl⟩:=c;exact AZ.str_int a t' b t
  |str b=>obtain⟨t,rfl⟩:=c;exact AZ.str_str a t' b t
  |_=>exact absurd (show false=true from d) AF
 |_=>exact absurd (show false=true from fy) AF
noncomputable def eqU (x:V)(u:Value):Bool:=match u with
 |.none=>eqV .non x
 |.bool b=>eqV (.bl b) x
 |.int i _=>eqV (.int i) x
 |.str z _=>eqV (.str z) x
 |_=>false
theorem qv6 {x y:V}{u:Value}(r:RelV y u)(f:qb2 y=true):eqU x u=eqV y x:=by
 cases y with
 |non=>cases r;rfl
 |bl b=>cases r;rfl
 |int i=>obtain⟨t,rfl⟩:=r;rfl
 |str z=>obtain⟨t,rfl⟩:=r;rfl
 |_=>exact absurd (show false=true from f) AF
theorem qia {x:V}:∀{xs:List V}{us:List Value},Vals xs us->xs.all qb2=true->us.any (eqU x)=xs.any λy=>eqV y x
 |_,_,.nil,_=>rfl
 |y::xs,u::us,.cons r t,f=>by rw[List.all_cons,B4]at f;rw[DG,DG,qv6 r f.1,qia t f.2]
theorem qgd {A:AO}{s:Ad}{x:V}{v:Value}(c:RelV x v)(b:qb2 x=true):∀{xs:List V}{us:List Value},Vals xs us->xs.all qb2=true->∀u∈us,AZ A s u v (eqU x u)
 |_,_,.nil,_=>λu a=>by cases a
 |y::xs,u::us,.cons r t,f=>λu' a=>by
  rw[List.all_cons,B4]at f;rcases Av.mp a with rfl|a
  .rw[qv6 r f.1];exact qrm r c f.1 b
  .exact qgd c b t f.2 u' a
noncomputable def inV (x:V)(xs:List V):Bool:=xs.any λy=>eqV y x
def rIn (K:Ah)(neg:Bool):R2:=λx y H Q=>∃p xs,y=.ref p/\(SqL K H p xs\/SqT K H p xs)/\qb2 x=true/\xs.all qb2=true/\Q (.bl (if neg then !inV x xs else inV x xs)) H
theorem qc7:OpR X (compareOp .In) (rIn X.K false):=by
 intro pins s σ H x y v u Q I c e h;obtain⟨p,xs,rfl,a,d,fs,q⟩:=h;cases e;rcases a with a|a
 .obtain⟨its,r,pl,hz⟩:=I.list a;refine SeqAt.in_listAt (eqU x) pl.isList (λw b=>qgd c d r fs w (by simpa using b)) ⟨.bl _,H,I,Z,?_⟩;rw[show its.toArray.any (eqU x)=its.any (eqU x) by simp,qia r fs];exact q
 .obtain⟨its,r,pl,hz⟩:=I.tuple a;refine SeqAt.in_tupleAt (eqU x) pl (λw b=>qgd c d r fs w (by simpa using b)) ⟨.bl _,H,I,Z,?_⟩;rw[show its.toArray.any (eqU x)=its.any (eqU x) by simp,qia r fs];exact q
theorem qib:OpR X (compareOp .NotIn) (rIn X.K true):=by
 intro pins s σ H x y v u Q I c e h;obtain⟨p,xs,rfl,a,d,fs,q⟩:=h;cases e;rcases a with a|a
 .obtain⟨its,r,pl,hz⟩:=I.list a;refine SeqAt.notIn_listAt (eqU x) pl.isList (λw b=>qgd c d r fs w (by simpa using b)) ⟨.bl _,H,I,Z,?_⟩;rw[show its.toArray.any (eqU x)=its.any (eqU x) by simp,qia r fs];exact q
 .obtain⟨its,r,pl,hz⟩:=I.tuple a;refine SeqAt.notIn_tupleAt (eqU x) pl (λw b=>qgd c d r fs w (by simpa using b)) ⟨.bl _,H,I,Z,?_⟩;rw[show its.toArray.any (eqU x)=its.any (eqU x) by simp,qia r fs];exact q
theorem qce:qf9 X (.type "list") (λxs H Q=>∃p ys,xs=[.ref p]/\(SqL X.K H p ys\/SqT X.K H p ys)/\∀l,H l=none->Q (.ref l) (upd H l (.lst ys))):=by
 intro k s σ H xs us Q I r h;obtain⟨p,ys,rfl,d,q⟩:=h;obtain⟨u,rfl,t⟩:=qm9 r;cases t;have f:∀(its:List Value),Vals ys its->ys.length<=A5->∀(h':Heap)(c:Nat),(∀b o',s.heap.get? b=some o'->h'.get? b=some o') ->
   h'.get? s.heap.objs.size=some {cls:=.type "list",dict:=none,data:=.seq its.toArray c,slots:=#[]}->EP X k σ Q (.ref s.heap.objs.size) {s with heap:=h'}:=λits a hz h' c kp e =>
  ⟨.ref s.heap.objs.size,_,I.laid (t':=s.toks) kp (Al _) (show ObjOk X.prog X.w _ h' _ (.lst ys) from ⟨hz,its,c,a,e⟩),Z,q _ (I.hok.fresh (Al _))⟩
 rcases d with d|d
 .obtain⟨its,a,pl,hz⟩:=I.list d;have j:=a.length;obtain⟨o,i,m,n,g⟩:=pl.isList;exact call_list_seq p (.inl Z) i m g (λh' c kp e=>f its a hz h' c kp e) (by simp only[Aj] <;>lia)
 .obtain⟨its,a,pl,hz⟩:=I.tuple d;have j:=a.length;obtain⟨o,i,m,n,g⟩:=pl;exact call_list_seq p (.inr Z) i m g (λh' c kp e=>f its a hz h' c kp e) (by simp only[Aj] <;>lia)
def tyV (K:Ah)(T:String)(x:V)(H:Hp):Prop:=match x with
 |.str _=>T = "str"
 |.int _=>T = "int"
 |.ref p=>(T = "list" /\ ∃xs,SqL K H p xs)\/(T = "tuple" /\ ∃o,K.lookup p=some o/\o.cls=.type "tuple" /\ o.dict=none) \/
   (T = "dict" /\ ((∃kvs,H p=some (.dK kvs)) \/ ∃kvs,H p=some (.dT kvs)))\/(T = "set" /\ ∃S n,H p=some (.set S n))
 |_=>False
theorem qv7 {g:List (Addr×Obj)}{σ:St}{H:Hp}{s:Ad}{T:String}{x:V}{v:Value}(I:Inv X g σ H s)(r:RelV x v)(ty:tyV X.K T x H) :
  s.TypeIs v T/\∀a,v=.ref a->∃ob,s.heap.get? a=some ob/\ob.dict=none:=by
 cases x with
 |str z =>obtain⟨t,rfl⟩:=r;cases (show T = "str" from ty);exact⟨typeIs_str s z t,λ_ e=>nomatch e⟩
 |int i =>obtain⟨t,rfl⟩:=r;cases (show T = "int" from ty);exact⟨typeIs_int s i t,λ_ e=>nomatch e⟩
 |ref p =>
  cases r;rcases ty with ⟨rfl,xs,h⟩|⟨rfl,o,b,j,d⟩|⟨rfl,b⟩|⟨rfl,S,n,b⟩
  .obtain⟨its,_,pl,_⟩:=I.list h;refine⟨pl.isList.typeIs,λa e=>?_⟩;cases e;obtain⟨o,n,e,c,d,_⟩:=pl;exact⟨o,e,d⟩
  .refine⟨⟨o,I.kIn p o b,j⟩,λa e=>?_⟩;cases e;exact⟨o,I.kIn _ o b,d⟩
  .have z:∃o,s.heap.get? p=some o/\o.ExactDict:=by
    rcases b with ⟨kvs,b⟩|⟨kvs,b⟩
    .obtain⟨_,_,_,_,o,_,_,e,ex,_⟩:=I.hok p _ b;exact⟨o,e,ex⟩
    .obtain⟨_,_,_,_,o,_,_,e,ex,_⟩:=I.hok p _ b;exact⟨o,e,ex⟩
   obtain⟨o,e,ex⟩:=z
   refine⟨⟨o,e,ex.1⟩,λa f=>?_⟩
   cases f
   exact⟨o,e,ex.2.1⟩
  .obtain⟨o,_,_,_,e,ex,_⟩:=I.hok p _ b;refine⟨⟨o,e,ex.1⟩,λa f=>?_⟩;cases f;exact⟨o,e,ex.2.1⟩
 |_=>exact Ct ty
def tBM0 (K:Ah)(T:String)(r:V->List V->Hp->VK->Prop)(to:TE):TE:=λσ H Q=>to σ H λx H1=>tyV K T x H1/\r x [] H1 Q
def tBM (K:Ah)(T:String)(r:V->List V->Hp->VK->Prop)(to:TE)(t:TA):TE:=λσ H Q=>to σ H λx H1=>tyV K T x H1/\t σ H1 λxs H2=>r x xs H2 Q
variable {o e:Expr}{es:List Expr}{to:TE}{t:TA}{name:Str}{apos cpos:Pos}{T id:String}{r:V->List V->Hp->VK->Prop}
theorem qv8 (i:PlainAttrs T)(c:Slot T name id)(e:typeOf (.builtin id)=pure (.type "method_descriptor"))(m:MtR X id r)(j:PE X o to)
  (b:attributeBase o name X.env (eval o X.env)=eval o X.env:=by rfl)(hline:(apos.endLine == cpos.line)=true:=by rfl):PE X (.Call (.Attribute o name apos) [] [] cpos) (tBM0 X.K T r to):=by
 intro a s σ H Q I h;refine wpAny_Call_method0_late b hline (thn (j a s σ H _ I h) λv p d=>?_);obtain⟨x,q,g,f,ty,l⟩:=d;obtain⟨n,k⟩:=qv7 g f ty;exact⟨T,id,i,c,e,n,k,CN Z (PySem.evalArgs_none (m a p σ q x [] v [] Q g f .nil l))⟩
theorem qbr (p:PlainAttrs T)(d:Slot T name id)(g:typeOf (.builtin id)=pure (.type "method_descriptor"))(A:MtR X id r)(q:PE X o to)(E:PA X (e::es) t)
  (c:attributeBase o name X.env (eval o X.env)=eval o X.env:=by rfl)
  (hfew:((backTo cpos (starEach (e::es) X.env)).all (λx=>!x.1) && (backToKw cpos (keywordEach [] X.env)).all (λx=>x.1.isSome)
   && decide ((e::es).length+([]:List Keyword).length+(if ([]:List Keyword).isEmpty then 0 else 1)<30))=true:=by rfl)
  (hline:(apos.endLine == cpos.line)=true:=by rfl)(hs:starEach (e::es) X.env=(false,eval e X.env)::starEach es X.env:=by rfl)(hplain:(backTo cpos (starEach es X.env)).any (·.1)=false:=by rfl) :
  PE X (.Call (.Attribute o name apos) (e::es) [] cpos) (tBM X.K T r to t):=by
 intro b s σ H Q I h;refine wpAny_Call_method_late c hfew hline rfl (thn (q b s σ H _ I h) λv D f=>?_);obtain⟨x,F,j,i,ty,z⟩:=f;obtain⟨B,u⟩:=qv7 j i ty;refine⟨T,id,p,d,g,B,u,?_⟩;have k:=E cpos b D σ F _ j z;rw[hs]at k |-;refine CN (by show (false || (backTo cpos (starEach es X.env)).any (·.1))=false;rw[hplain] <;>rfl) (DL ?_);exact thn k λus w ⟨vs,l,n,C,y⟩=>A b w σ l x vs v us Q n i C y
/- xs.append(e),list.index on a module's tuple .. are MtR facts of 06m -/
end
end L2
namespace L2
open PySem PySem.Spec PyProof.Rows
def MtM (X:Cx)(id:String)(r:V->List V->Hp->VK->Prop):Prop :=
 ∀(pins:List (Addr×Obj))(s:Ad)(σ:St)(H:Hp)(x:V)(xs:List V)(v:Value)(us:List Value)(Q:VK),Inv X pins σ H s->RelV x v->Vals xs us->r x xs H Q ->
  wpAny (model X.prog X.w) X.A (call (.builtin id) (v::us)) (EP X pins σ Q) X.xe s
theorem Vals.one {x:V}{us:List Value}(h:Vals [x] us):∃u,us=[u]/\RelV x u:=by cases h with|cons r t=>cases t;exact⟨_,Z,r⟩
theorem Vals.two {x y:V}{us:List Value}(h:Vals [x,y] us):∃u v,us=[u,v]/\RelV x u/\RelV y v:=by cases h with|cons r t=>cases t with|cons q t=>cases t;exact⟨_,_,Z,r,q⟩
theorem Vals.zero:∀{us:List Value},Vals [] us->us=[]
 |_,.nil=>rfl
theorem Vals.dropLast {xs:List V}{us:List Value}(h:Vals xs us):Vals xs.dropLast us.dropLast:=by
 induction h with
 |nil=>exact .nil
 |cons r t ih =>
  cases t with|nil=>exact .nil|cons q t'=>exact .cons r ih
theorem Vals.reverse {xs:List V}{us:List Value}(h:Vals xs us):Vals xs.reverse us.reverse:=by
 induction h with
 |nil=>exact .nil
 |cons r t ih=>rw[Cm,Cm];exact Vals.append ih (.cons r .nil)
theorem qrn {α:Type}(l:List α):l.eraseIdx (l.length-1)=l.dropLast:=by
 induction l with
 |nil=>rfl
 |cons a r ih =>
  cases r with
  |nil=>rfl
  |cons b r =>
   have e:(a::b::r).length-1=((b::r).length-1)+1:=by have h1:(a::b::r).length=r.length+2:=rfl;have h2:(b::r).length=r.length+1:=rfl;lia
   rw[e,List.eraseIdx_cons_succ,ih];all_goals rfl
section
variable {X:Cx}{pins:List (Addr×Obj)}{σ:St}{H:Hp}{s:Ad}{l b:Addr}{xs ys zs:List V}
theorem Inv.lset {its its':List Value}{n:Nat}{f:Array Value->Array Value}{t':Nat}(I:Inv X pins σ H s)(c:H l=some (.lst xs))
  (e:s.heap.get? l=some {cls:=.type "list",data:=.seq its.toArray n})(hf:f its.toArray=its'.toArray)(hv:Vals ys its')(hz:ys.length<=A5) :
  Inv X pins σ (upd H l (.lst ys)) {s with heap:=s.heap.update l (B1 f),toks:=t'}:=by
 have q:=PySem.IsL.update e f;rw[hf]at q;refine I.write (x:=l) (e:=l) (by rw[c];exact trivial) (.inl Z) (λb' u a b=>(Dy s.heap (B1 f) (By a)).trans b) ⟨_,q⟩ ?_;exact⟨hz,its',_,hv,q⟩
theorem Inv.lnew {its:List Value}{t':Nat}(I:Inv X pins σ H s)(a:Vals ys its)(hz:ys.length<=A5) :
  Inv X pins σ (upd H s.heap.objs.size (.lst ys)) {s with heap:=s.heap.push {cls:=.type "list",data:=.seq its.toArray},toks:=t'} :=
 I.laid (λ_ _ q=>As _ q) (Al _) ⟨hz,its,0,a,AT _ Z⟩
theorem Inv.fresh (I:Inv X pins σ H s):H s.heap.objs.size=none:=I.hok.fresh (Al _)
theorem Inv.lstM (I:Inv X pins σ H s)(a:H l=some (.lst xs)):xs.length<=A5/\∃(its:List Value)(n:Nat),Vals xs its/\xs.length=its.length/\s.heap.get? l=some {cls:=.type "list",data:=.seq its.toArray n}:=by obtain⟨z,its,n,r,e⟩:=I.hok l _ a;exact⟨z,its,n,r,r.length,e⟩
theorem qk4 {n:Nat}(h:n<=A5):BD.List.listTooLong n=false:=by unfold BD.List.listTooLong;exact decide_eq_false (by lia)
end
section
variable {X:Cx}
noncomputable def qy7:V->List V->Hp->VK->Prop:=λx vs H Q=>∃l xs y,x=.ref l/\vs=[y]/\H l=some (.lst xs)/\xs.length<A5/\Q .non (upd H l (.lst (xs++[y])))
theorem qam:MtM X "list.append" qy7:=by intro pins s σ H x vs v us Q I b rv h;obtain⟨l,xs,y,rfl,rfl,a,hz,q⟩:=h;cases b;obtain⟨u,rfl,c⟩:=rv.one;obtain⟨z,its,n,r,hl,e⟩:=I.lstM a;refine DB F.slot_list_append ⟨_,e,Z⟩ F.entry_list_append (F.args_list_append_2 _ _) (PySem.list_append l its.toArray n u (by rw[Aj];lia)) ⟨e,?_⟩;refine⟨.non,_,I.lset (its':=its++[u]) a e (by simp) (r.append (.cons c .nil)) ?_,Z,q⟩;rw[Af,AY];lia
noncomputable def qy8:V->List V->Hp->VK->Prop:=λx vs H Q=>∃l b xs zs,x=.ref l/\vs=[.ref b]/\H l=some (.lst xs)/\H b=some (.lst zs)/\xs.length+zs.length<=A5/\Q .non (upd H l (.lst (xs++zs)))
theorem qnf:MtM X "list.extend" qy8:=by
 intro pins s σ H x vs v us Q I i rv h;obtain⟨l,b,xs,zs,rfl,rfl,d,j,hz,q⟩:=h;cases i;obtain⟨u,rfl,k⟩:=rv.one;cases k;obtain⟨z,its,n,r,hl,e⟩:=I.lstM d;obtain⟨z2,a,g,m,hl2,f⟩:=I.lstM j;have hsz:its.toArray.size+a.toArray.size<=A5:=by rw[Aj,Aj];lia
 have c:¬(!its.toArray.isEmpty && BD.List.listTooLong (its.toArray.size+a.toArray.size))=true:=by rw[qk4 hsz,Ck];exact AF
 refine DB F.slot_list_extend ⟨_,e,Z⟩ F.entry_list_extend (F.args_list_extend_2 _ _)
  (AutoSeq1.list_extend_list_list_0 l its.toArray n b a.toArray g c (by rw[Aj];lia) (by lia)) ⟨e,f,?_⟩
 refine⟨.non,_,I.lset (its':=its++a) d e (by simp) (r.append m) ?_,Z,q⟩;rw[Af];lia
noncomputable def rPop:V->List V->Hp->VK->Prop:=λx vs H Q=>∃l xs y,x=.ref l/\vs=[]/\H l=some (.lst xs)/\xs[xs.length-1]?=some y/\Q y (upd H l (.lst xs.dropLast))
theorem mt_pop:MtM X "list.pop" rPop:=by
 intro pins s σ H x vs v us Q I d rv h;obtain⟨l,xs,y,rfl,rfl,a,f,q⟩:=h;cases d;have c:=rv.zero;subst c;obtain⟨z,its,n,r,i,e⟩:=I.lstM a;obtain⟨u,j,g⟩:=r.get f;have b:its.toArray[its.toArray.size-1]?=some u:=by show its.toArray[its.length-1]?=some u;rw[<- D9,<- i];exact j
 refine DB F.slot_list_pop ⟨_,e,Z⟩ F.entry_list_pop (F.args_list_pop_1 _) (MeetsSeq.list_pop_last l its.toArray n u b (by rw[Aj];lia)) ⟨e,?_⟩;refine⟨y,_,I.lset (its':=its.dropLast) a e ?_ r.dropLast ?_,g,q⟩
 .show its.toArray.eraseIdxIfInBounds (its.toArray.size-1)=its.dropLast.toArray;rw[Aj,List.eraseIdxIfInBounds_toArray,qrn]
 .rw[CD];lia
noncomputable def qv9:V->List V->Hp->VK->Prop:=λx vs H Q=>∃l xs,x=.ref l/\vs=[]/\H l=some (.lst xs)/\Q .non (upd H l (.lst xs.reverse))
theorem qro:MtM X "list.reverse" qv9:=by intro pins s σ H x vs v us Q I c rv h;obtain⟨l,xs,rfl,rfl,a,q⟩:=h;cases c;have b:=rv.zero;subst b;obtain⟨z,its,n,r,hl,e⟩:=I.lstM a;refine DB F.slot_list_reverse ⟨_,e,Z⟩ F.entry_list_reverse (F.args_list_reverse_1 _) (AutoSeq1.list_reverse_list_0 l its.toArray n (by rw[Aj];lia)) ⟨e,?_⟩;refine⟨.non,_,I.lset (its':=its.reverse) a e (by simp) r.reverse ?_,Z,q⟩;rw[Bx];lia
def rCat:R2:=λx y H Q=>∃l b xs zs,x=.ref l/\y=.ref b/\H l=some (.lst xs)/\H b=some (.lst zs)/\xs.length+zs.length<=A5/\∀p,H p=none->Q (.ref p) (upd H p (.lst (xs++zs)))
theorem qk5:OpR X (binaryOp .Add) rCat:=by
 intro pins s σ H x y v u Q I g j h;obtain⟨l,b,xs,zs,rfl,rfl,f,i,hz,q⟩:=h;cases g;cases j;obtain⟨z,its,n,r,hl,e⟩:=I.lstM f;obtain⟨z2,a,n2,k,hl2,c⟩:=I.lstM i;refine PySem.P.add_list e c ?_ (by rw[Aj,Aj];lia);have d:its.toArray++a.toArray=(its++a).toArray:=by simp
 rw[d];exact⟨.ref _,_,I.lnew (t':=s.toks) (r.append k) (by rw[Af];lia),Z,q _ I.fresh⟩
end
section
variable {prog:AK}{w:World}{A:AO}{E:Value->Ad->Prop}{s:Ad}
end
section
variable {X:Cx}
end
end L2
namespace Att
open PySem PySem.W PySem.Calls PyProof.Rows
theorem qkd {P:Params}{h:Heap}:∀(c:List Int)(vs:List Value),WellAll P h vs (c.map WData.int)->IntsAre vs c:=by
 intro c
 induction c with
 |nil =>intro vs w;rw[List.map_nil]at w;cases w;exact .nil
 |cons n c ih =>
  intro vs w;rw[AX]at w;cases w with|cons a b =>cases a;exact .cons _ _ (ih _ b)
theorem quj {l:OpenLaw}{n:Nat}(s:l.most=some n){P:Params}{h:Heap}{args:List WData}{e:List Value}
  (c:l.row.toRowW.claim.pre args=true)(k:WellAll P h e args) :
  ∃a vs b,e=[Bl a]/\args=[WData.list (b.map WData.int)]/\h.get? a=some {cls:=.type "list",data:=.seq vs.toArray}/\IntsAre vs b/\b.length<=n:=by
 have j:WShape.hasAll [] args [.list .int]=true:=(pre_splitW c).1;have m:l.pre.holds [] {args:=args}=true:=(pre_splitW c).2;obtain⟨d,r,rfl,t,p⟩:=hasAllW_cons j;obtain rfl:=hasAllW_nil p;obtain⟨xs,rfl,u⟩:=hasW_list t;obtain⟨b,rfl⟩:=items_int u;have i:b.length<=n:=by
  unfold OpenLaw.pre at m;have f:(WTm.not (.lt (.lit (.int (n:Int))) (.len (.arg 0)))).holds [] {args:=[.list (b.map .int)]}=true:=by have f:=(holds_andW m).1;rw[s]at f;exact f
  have g:=condW_of f (w_not (w_lt w_lit (w_len_list (w_arg Z))));rw[Ab]at g;refine Nat.le_of_not_lt λq=>?_;have o:(n:Int)<((b.length:Nat):Int):=by lia
  first
   | (rw[decide_eq_true o]at g;exact absurd g Uk)
   | (simp at g;lia)
 cases k with
 |cons w1 w2 =>
  cases w2;cases w1 with|list ho hall=>exact⟨_,_,b,Z,Z,ho,qkd b _ hall,i⟩
theorem quk (l:OpenLaw)(args:List WData):l.row.toRowW.claim.post args (.bool true) args=true :=
 postW_of (r:=l.row.toRowW) (X:=(true == true))
  (show WShape.has [] (.bool true) .bool=true by first|rfl|decide|simp[WShape.has,WShape.arms,WShape.armsAll])
  (show (WTm.eq .res (.lit (.bool true))).value [] {args:=args,res:=some (.bool true),after:=args}=some (.bool (true == true)) from w_eq_bool (w_res Z) w_lit) rfl
theorem attach_call {l:OpenLaw}{n:Nat}{q:AK}{c:List Str}{z:(Str->Option Value)->Heap->Prop}{D:World->Heap->Prop}{d:DefRec}
  (L:l.most=some n)(y:d.params.defaults=[])
  (call:∀(w:World)(p b:Ad)(mg u:Str->Option Value)(e:Addr)(o:Obj)(t j g:Value)(a:Addr)(vs:List Value)(i:List Int),
   Ground q c [] z w p mg u b.heap->D w b.heap ->
   b.heap.get? e=some o->o.data=.func (docDef d.name d.params d.body d.scope t j g)->b.heap.CodeRec j d.name->mg d.name=some (.ref e) ->
   b.heap.get? a=some {cls:=.type "list",data:=.seq vs.toArray}->IntsAre vs i->i.length<=n->b.gens=#[] ->
   codeAny (model l.prog w) callerA (.call (.ref e) ⟨[.ref a],[]⟩) (λr h=>r=.ok (.ret (.bool true))/\OldK b.heap h.heap/\h.os=b.os/\AllBare h.gens) b) :
  WalkO q c z D l.row.toRowW d [] (λf vs=>PySem.call f vs):=by
 intro w p b mg u G Y e o t j g F kV H E A C x I args vals as v hlay hrd B hlo;obtain rfl:F=.none:=Dflts.none C y;obtain rfl:kV=.none:=Dflts.noKw C;obtain⟨a,vs,i,rfl,rfl,s,k,m⟩:=quj L v B;refine enter_call (codeAny_mono (call w p b mg u e o t j g a vs i G Y H (fd_plain E) A x s k m I) λr h K=>?_);obtain⟨rfl,J,O,M⟩:=K;exact⟨.inl ⟨.bool true,.bool true,[],Z,λ_=>rfl,.bool true,quk l _,λ_=>⟨Ei,λ_ N=>(nomatch N)⟩⟩,J,O,M⟩
section
variable {prog:AK}{w:World}{A:AO}{E:Value->Ad->Prop}{s:Ad}{K:Frag}
noncomputable def ledger (h:Heap)(L d:Addr):List (Addr×Obj):=(Ao h.objs.size).filterMap λa=>if a=L\/a=d then none else (h.get? a).map λo=>(a,o)
end
end Att
namespace L2
open PySem PySem.Spec PyProof.Rows
theorem qng:∀{vs:List Value}{a:List Int},IntsAre vs a->Vals (a.map V.int) vs
 |_,_,.nil=>.nil
 |_,_,.cons n t h=>.cons ⟨t,Z⟩ (qng h)
end L2
namespace L2
open PySem PySem.Spec PyProof.Rows
noncomputable abbrev KOf {K:Ah}{h:Heap}(_:K.In h):Ah:=K
end L2
/- THE LAST THEOREM (shape;LID,My.* are yours):
   My.Adr: a structure of the addresses that your layer names (classes,functions);My.Txt K t: a structure (Prop) of the equations over K;
   My.txt_mk:{K} {implicit addresses ..} (e1:nsIn K A6 "law"=some (some (.ref f))) (e2:K.lookup f=some ⟨oc,od,.func (fnOf "law" "law" params body scope dV kV doc pm an cdv ct),sl⟩) (e3:codeIn K cdv "law"=true) .. : ∃t,My.Txt K t
set_option maxRecDepth 100000 in
set_option maxHeartbeats 0 in
theorem PySem.Challenge.cw_LID_holds : PySem.Challenge.rw_LID.Holds:=by
 w_on;o_law;k_head;(case hw=>w_witness2)
 k_fill
 refine L2.walk_of (l:=PySem.Challenge.rw_LID) (n:=63) (k:=40) (x := "script") (CX:=λw=>..) (sp:=λ_=>My.sp_law) rfl Uk rfl ⟨Z,Uk,Uk⟩ (λw h Y=>PySem.W.kIn_of Y) ?F ?S ?C
 case F =>
  intro w mg g h d G e;have T:∃t,My.Txt (L2.KOf d) t:=by
   dsimp only[L2.KOf]                          -- K must stand as «<heap const> w.params» for k_is;refine' My.txt_mk ?e1 ?e2 ?e3 ..
   (case e1=>PySem.W.k_is)                    -- in the order: a name->its address->its object->its parts
   (case e2=>PySem.W.k_is)
   ..
  obtain⟨t,T⟩:=T;have f:=e.symm.trans (Bc d G T.law);cases f                                       -- g is the law's own address;exact⟨_,λs u=>.of_eq Z,λbase kb c=>My.law_fn T kb c⟩     -- if «.of_eq rfl» comes too early: refine' ⟨_,?b,λbase kb c=>My.law_fn T kb c⟩;exact λs u=>.of_eq rfl
 case S=>exact λw H a ns hl hO hS=>..
 case C=>exact ..
(the tactic k_is has no namespace: write k_is) -/
namespace L2
open PySem PySem.Spec PyProof.Rows
noncomputable def qak (s:Stmt)(j:Nat):Stmt:=match s with
 |.ClassDef _ _ _ body _ _ _ _ _ _ _=>body.getD j (.Pass ⟨0,0,0,0⟩)
 |_=>.Pass ⟨0,0,0,0⟩
noncomputable def qa6 (s:Stmt):Arguments:=match s with
 |.FunctionDef _ a _ _ _ _ _ _ _ _=>a
 |_=>{posonlyargs:=[],args:=[],vararg:=none,kwonlyargs:=[],kw_defaults:=[],kwarg:=none,defaults:=[]}
noncomputable def qav (s:Stmt):List Stmt:=match s with
 |.FunctionDef _ _ b _ _ _ _ _ _ _=>b
 |_=>[]
noncomputable def qaa (s:Stmt):Scope:=match s with
 |.FunctionDef _ _ _ _ _ _ sc _ _ _=>sc
 |_=>{kind:=.function,names:=[],isGenerator:=false,isCoroutine:=false}
abbrev CX0:CXT:=λ_ _ _ _ _ _=>False
abbrev E0:XK:=λ_ _ _=>False
theorem qac {X:Cx}:qgb CX0 X E0:=λ_ _ _ _ _ _ _ h=>h.elim
structure Fun (K:Ah)(x qual:Str)(st:Stmt)(f:Addr)(fd:Aw):Prop where
 ex:∃(oc:Value)(od:Option Addr)(kV doc pm:Value)(an:Option Addr)(cdv ct:Value)(osl:Array (Option Value)),
  fd=Bh x qual (qa6 st) (qav st) (qaa st) .none kV doc pm an cdv ct/\K.lookup f=some ⟨oc,od,.func fd,osl⟩/\B3 K cdv qual=true
 kp:Br K (.ref f)=true
section
variable {P:AK}{w:World}{K:Ah}{mg:Str->Option Value}{base:Heap}
theorem Fun.ok {x a:Str}{st:Stmt}{f:Addr}{fd:Aw}{N ps:List Str}{k:Nat}{sp:Sp}(F:Fun K x a st f fd)(S:FnScope N ps (qaa st))(len:∀vs H Q E,sp vs H Q E->vs.length=ps.length)
  (c:∀(b:Value)(A:AO)(outer:List Env)(s:Ad)(H:Hp)(vs:List V)(Q:VK)(E:XK),Room k (A.deeper (envOfC a (qaa st) s.heap.objs.size f b))->sp vs H Q E ->
   ∃t,PSs (qpk CX0 P w K mg base N a (qaa st) f b A outer s H E).nox (qav st) t/\t {nx:=λ_ H'=>Q .non H',rt:=Q} (start N vs) H):FnOk P w K mg base CX0 (k+1) f fd ps sp:=by
 obtain⟨oc,od,kV,doc,pm,an,b,ct,osl,rfl,g,d⟩:=F.ex
 refine qv4 g d S len λA outer s H vs Q E i e=>?_
 obtain⟨t,h,q⟩:=c b A outer s H vs Q E i e
 exact⟨t,h.nox,q⟩
theorem Fun.binds {x a:Str}{st:Stmt}{f:Addr}{fd:Aw}{ps:List Str}(F:Fun K x a st f fd)
  (h:∀(kV b e:Value)(d:Option Addr)(c ct:Value)(us:List Value),us.length=ps.length->bindArgs (Bh x a (qa6 st) (qav st) (qaa st) .none kV b e d c ct) ⟨us,[]⟩=pure (ps.zip us)):Binds K fd ps []:=by
 obtain⟨oc,od,kV,b,e,d,c,ct,osl,rfl,lk,hcd⟩:=F.ex;exact .all (h kV b e d c ct)
theorem qob {x a:Str}{st:Stmt}{f:Addr}{i:Value}{j g:Option Addr}{e:Array (Option Value)}{kV d h b ct:Value}(l:K.lookup f=some ⟨i,j,.func (Bh x a (qa6 st) (qav st) (qaa st) .none kV d h g b ct),e⟩)
  (c:B3 K b a=true)(k:Br K (.ref f)=true):Fun K x a st f (Bh x a (qa6 st) (qav st) (qaa st) .none kV d h g b ct):=⟨⟨i,j,kV,d,h,g,b,ct,e,Z,l,c⟩,k⟩
end
theorem qci {A:AO}{k:Nat}(a:Room k A):A.units+1<cLine:=CO (Nat.add_le_add_left (by decide:1<=64) _) a.units
theorem qnh {n:Nat}(h:n<=1000):n<A5:=CO h Uk
section
variable {X:Cx}
theorem pv (i:Nat){x:Str}{pos:Pos}(a:X.N[i]?=some x:=by rfl)(hv:Vis X.env.scope x:=by first|exact Au rfl|exact DC (Au rfl)|exact DC (DC rfl))(hd:(x == ("__debug__" : Str))=false:=by decide)
  (hcd:(x == ("__classdict__" : Str))=false:=by decide):PE X (.Name x pos) (tVar i):=pe_var a hv hd hcd
end
theorem qbs {A B:Prop}(h:B):if false=true then A else B:=by rw[if_neg AF];exact h
theorem qd6 {A B:Prop}(h:A):if true=true then A else B:=by rw[if_pos Z];exact h
theorem qbx {c A B:Prop}[Decidable c](b:c->A)(a:¬c->B):if c then A else B:=by
 by_cases h:c
 .rw[if_pos h];exact b h
 .rw[if_neg h];exact a h
theorem iteNS {c A B:Prop}[Decidable c](a:c)(h:B):if (!decide c)=true then A else B:=by rw[decide_eq_true a];exact qbs h
def Same (H H':Hp):Prop:=∀b o,H b=some o->H' b=some o
theorem Same.refl (H:Hp):Same H H:=λ_ _ h=>h
theorem Same.trans {H e d:Hp}(a:Same H e)(b:Same e d):Same H d:=λc o h=>b c o (a c o h)
theorem Same.free {H H':Hp}(e:Same H H'){l:Addr}(h:H' l=Option.none):H l=Option.none:=by
 cases q:H l with|none=>rfl|some o =>rw[e l o q]at h;cases h
theorem Same.seq {K:Ah}{H H':Hp}{a:Addr}{xs:List V}(e:Same H H')(h:SqL K H a xs):SqL K H' a xs:=by
 rcases h with (h|⟨o,h⟩)|h
 .exact .inl (.inl (e _ _ h))
 .exact .inl (.inr ⟨o,e _ _ h⟩)
 .exact .inr h
end L2
namespace L2
open PySem PySem.Spec PyProof.Rows
section
variable {κ:Type}[DecidableEq κ]
noncomputable def qbh (kvs:List (κ×V))(k:κ):Option V:=(kvs.find? λkv=>decide (kv.1=k)).map (·.2)
noncomputable def qc2 (kvs:List (κ×V))(k:κ)(v:V):List (κ×V) :=
 if (kvs.any λkv=>decide (kv.1=k))=true then kvs.map (λkv=>if kv.1=k then (kv.1,v) else kv) else kvs++[(k,v)]
theorem qb3 {p:κ×V}{r:List (κ×V)}{k:κ}(e:p.1=k):qbh (p::r) k=some p.2:=by simp[qbh,Cv,e]
theorem qbt {p:κ×V}{r:List (κ×V)}{k:κ}(e:¬p.1=k):qbh (p::r) k=qbh r k:=by simp[qbh,Cv,e]
theorem qfb (k:κ):∀kvs:List (κ×V),(kvs.any λa=>decide (a.1=k))=(qbh kvs k).isSome
 | []=>rfl
 |p::r=>by
  rw[DG];by_cases e:p.1=k
  .simp only[qb3 e,decide_eq_true e,Bool.true_or,Option.isSome_some]
  .rw[qbt e,decide_eq_false e,DH];exact qfb k r
theorem qpn (k j:κ)(y:V):∀kvs:List (κ×V),qbh (kvs.map λa=>if a.1=k then (a.1,y) else a) j=(qbh kvs j).map λx=>if j=k then y else x
 | []=>rfl
 |p::r=>by
  have b:=qpn k j y r;rw[AX];by_cases h:p.1=k
  .rw[if_pos h];by_cases e:p.1=j
   .rw[qb3 (p:=(p.1,y)) e,qb3 e,Dl,if_pos (e.symm.trans h)]
   .rw[qbt (p:=(p.1,y)) e,qbt e,b]
  .rw[if_neg h];by_cases e:p.1=j
   .rw[qb3 (p:=p) e,qb3 e,Dl,if_neg (λz=>h (e.trans z))]
   .rw[qbt (p:=p) e,qbt e,b]
theorem qni (k j:κ)(y:V):∀kvs:List (κ×V),qbh kvs k=none->qbh (kvs++[(k,y)]) j=if j=k then some y else qbh kvs j
 | [],_=>by
  by_cases e:k=j
  .rw[if_pos e.symm];exact qb3 (p:=(k,y)) e
  .rw[if_neg (λz=>e z.symm)];exact qbt (p:=(k,y)) e
 |p::r,hn=>by
  rw[List.cons_append];have a:¬p.1=k:=λz=>by rw[qb3 z]at hn;cases hn
  rw[qbt a]at hn;have b:=qni k j y r hn;by_cases e:p.1=j
  .rw[qb3 e,qb3 e,if_neg (λz=>a (e.trans z))]
  .rw[qbt e,qbt e,b]
theorem qk6 (kvs:List (κ×V))(k j:κ)(y:V):qbh (qc2 kvs k y) j=if j=k then some y else qbh kvs j:=by
 unfold qc2;by_cases a:(kvs.any λc=>decide (c.1=k))=true
 .rw[if_pos a,qpn];rw[qfb]at a;by_cases e:j=k
  .obtain⟨x,b⟩:=BP.mp a;rw[if_pos e,e,b,Dl,if_pos Z]
  .rw[if_neg e];cases qbh kvs j with|none=>rfl|some x=>rw[Dl,if_neg e]
 .rw[if_neg a];refine qni k j y kvs ?_;rw[qfb]at a;cases q:qbh kvs k with|none=>rfl|some x=>rw[q]at a;exact(a Z).elim
theorem qcs (kvs:List (κ×V))(k:κ)(v:V):(qc2 kvs k v).length<=kvs.length+1:=by
 unfold qc2;split
 .rw[Ab];lia
 .rw[Af,AG,DR];lia
theorem qic {kvs:List (κ×V)}{k:κ}(v:V)(h:qbh kvs k=none):qc2 kvs k v=kvs++[(k,v)]:=by unfold qc2;rw[qfb,h];exact if_neg Uk
theorem RelO.isSome_eq {o:Option V}{u:Option Value}(r:RelO o u):o.isSome=u.isSome:=by
 cases o with
 |none=>cases u with
  |none=>rfl
  |some _=>exact(show False from r).elim
 |some _=>cases u with
  |none=>exact(show False from r).elim
  |some _=>rfl
theorem RelO.getD {o:Option V}{u:Option Value}{d:V}{d':Value}(r:RelO o u)(rd:RelV d d'):RelV (o.getD d) (u.getD d'):=by
 cases o with
 |none=>cases u with
  |none=>exact rd
  |some _=>exact(show False from r).elim
 |some _=>cases u with
  |none=>exact(show False from r).elim
  |some _=>exact r
theorem KV.val {kvs:List (κ×V)}{vs:List (κ×Value)}(r:KV kvs vs)(k:κ):RelO (qbh kvs k) (valueAt vs k):=by
 unfold KV at r
 induction r with
 |nil=>exact CG
 | @cons p q ps qs h t ih =>
  obtain⟨c,d⟩:=h;by_cases e:p.1=k
  .have a:q.1=k:=c.symm.trans e;have b:valueAt (q::qs) k=some q.2:=by simp[valueAt,Cv,a]
   rw[qb3 e,b];exact d
  .have a:¬q.1=k:=λz=>e (c.trans z);have b:valueAt (q::qs) k=valueAt qs k:=by simp[valueAt,Cv,a]
   rw[qbt e,b];exact ih
theorem KV.any {kvs:List (κ×V)}{vs:List (κ×Value)}(r:KV kvs vs)(k:κ):(kvs.any λa=>decide (a.1=k))=vs.any λa=>decide (a.1=k):=by
 unfold KV at r
 induction r with
 |nil=>rfl
 |cons h t ih=>rw[DG,DG,ih,h.1]
theorem KV.repl {kvs:List (κ×V)}{vs:List (κ×Value)}(r:KV kvs vs)(k:κ){y:V}{u:Value}(d:RelV y u) :
  KV (kvs.map λa=>if a.1=k then (a.1,y) else a) (vs.map λa=>if a.1=k then (a.1,u) else a):=by
 unfold KV at r |-
 induction r with
 |nil=>exact .nil
 | @cons p q ps qs h t ih =>
  rw[AX,AX];refine .cons ?_ ih;obtain⟨b,c⟩:=h;by_cases e:p.1=k
  .rw[if_pos e,if_pos (b.symm.trans e)];exact⟨b,d⟩
  .rw[if_neg e,if_neg (λz=>e (b.trans z))];exact⟨b,c⟩
theorem KV.put {kvs:List (κ×V)}{vs:List (κ×Value)}(r:KV kvs vs)(k:κ){y:V}{u:Value}(a:RelV y u):KV (qc2 kvs k y) (stored vs k u):=by
 unfold qc2 stored;rw[r.any k];by_cases e:(vs.any λb=>decide (b.1=k))=true
 .rw[if_pos e,if_pos e];exact r.repl k a
 .rw[if_neg e,if_neg e];exact Dh.snoc r ⟨Z,a⟩
theorem KV.keys {kvs:List (κ×V)}{vs:List (κ×Value)}(r:KV kvs vs):kvs.map (·.1)=vs.map (·.1):=by
 unfold KV at r
 induction r with
 |nil=>rfl
 |cons h t ih=>rw[AX,AX,ih,h.1]
theorem KV.length {kvs:List (κ×V)}{vs:List (κ×Value)}(r:KV kvs vs):kvs.length=vs.length:=Dh.length r
end
theorem qk7 {P:AK}{w:World}{k:Key}{u:Value}(r:RelV (kV k) u):(qap P w).is k u=true:=by
 cases k with
 |inl i=>obtain⟨t,e⟩:=(show ∃t,u=Da i t from r);subst e;exact qpe P w i t
 |inr x=>obtain⟨t,e⟩:=(show ∃t,u=Dp x t from r);subst e;exact qpf P w x t
theorem qnj {P:AK}{w:World}:∀{ks:List Key}{us:List Value},Vals (ks.map kV) us->ItemsAre (qap P w) ks us
 | [],_,r=>by rw[List.map_nil]at r;cases r;exact .nil
 |k::ks,_,r=>by
  rw[AX]at r;cases r with|cons h t=>exact .cons (qk7 h) (qnj t)
noncomputable abbrev KT (H:Hp):List (List Key×V)->List (List Key×Addr×Value)->Prop:=Dh λp q=>p.1=q.1/\H q.2.1=some (.tup (p.1.map kV))/\RelV p.2 q.2.2
theorem KT.val {H:Hp}{kvs:List (List Key×V)}{xs:List (List Key×Addr×Value)}(r:KT H kvs xs)(k:List Key):RelO (qbh kvs k) ((atKey xs k).map (·.2)):=by
 induction r with
 |nil=>exact CG
 | @cons p q ps qs h t ih =>
  obtain⟨c,_,d⟩:=h;by_cases e:p.1=k
  .have a:q.1=k:=c.symm.trans e;have b:atKey (q::qs) k=some q.2:=by simp[atKey,Cv,a]
   rw[qb3 e,b];exact d
  .have a:¬q.1=k:=λz=>e (c.trans z);have b:atKey (q::qs) k=atKey qs k:=by simp[atKey,Cv,a]
   rw[qbt e,b];exact ih
theorem KT.repl {H:Hp}{kvs:List (List Key×V)}{xs:List (List Key×Addr×Value)}(r:KT H kvs xs)(k:List Key){y:V}{u:Value}(f:RelV y u) :
  KT H (kvs.map λb=>if b.1=k then (b.1,y) else b) (xs.map (putAt k u)):=by
 induction r with
 |nil=>exact .nil
 | @cons p q ps qs h t ih =>
  rw[AX,AX];refine .cons ?_ ih;obtain⟨a,c,d⟩:=h;unfold putAt;by_cases e:p.1=k
  .rw[if_pos e,if_pos (a.symm.trans e)];exact⟨a,c,f⟩
  .rw[if_neg e,if_neg (λz=>e (a.trans z))];exact⟨a,c,d⟩
theorem KT.put {H:Hp}{kvs:List (List Key×V)}{xs:List (List Key×Addr×Value)}(r:KT H kvs xs)(k:List Key){b:Addr}{y:V}{u:Value}(c:H b=some (.tup (k.map kV)))(a:RelV y u) :
  KT H (qc2 kvs k y) (storedH xs k b u):=by
 have e:(kvs.any λd=>decide (d.1=k))=(atKey xs k).isSome:=by rw[qfb,(r.val k).isSome_eq,Ej]
 unfold qc2 storedH;rw[e];by_cases q:(atKey xs k).isSome=true
 .rw[if_pos q,if_pos q];exact r.repl k a
 .rw[if_neg q,if_neg q];exact Dh.snoc r ⟨Z,c,a⟩
theorem KT.keeps {H H':Hp}{kvs:List (List Key×V)}{xs:List (List Key×Addr×Value)}(r:KT H kvs xs)(a:∀b ys,H b=some (.tup ys)->H' b=some (.tup ys)):KT H' kvs xs :=
 Dh.mapP r λ_ _ z=>⟨z.1,a _ _ z.2.1,z.2.2⟩
section
variable {P:AK}{w:World}{H:Hp}{h:Heap}{a:Addr}
theorem rd_of {u:HO}(ok:HOk P w H h)(e:Rd H a u):ObjOk P w H h a u:=e.ok ok
theorem qer {kvs:List (Key×V)}(ok:HOk P w H h)(e:Rd H a (.dK kvs)):kvs.length<=A5/\(a == sysModules)=false/\∃vs,KV kvs vs/\h.DictOf (qap P w) a vs :=
 show ObjOk P w H h a (.dK kvs) from rd_of ok e
theorem qwa {kvs:List (Key×V)}(ok:HOk P w H h)(e:H a=some (.dK kvs)):kvs.length<=A5/\(a == sysModules)=false/\∃vs,KV kvs vs/\h.DictOf (qap P w) a vs:=qer ok (.inl e)
theorem qhm {ks:List Key}(ok:HOk P w H h)(e:H a=some (.tup (ks.map kV))):(tupleKind (qap P w)).is h ks a:=by obtain⟨_,its,r,o,d,b,n,c⟩:=(show ObjOk P w H h a (.tup (ks.map kV)) from ok a _ e);exact⟨o,its.toArray,n,d,b,c,by simpa using qnj r⟩
theorem qj3 {kvs:List (List Key×V)}(ok:HOk P w H h)(e:Rd H a (.dT kvs)):kvs.length<=A5/\(a == sysModules)=false /\
  ∃xs,KT H kvs xs/\h.DictOfH (tupleKind (qap P w)) a xs:=by
 obtain⟨z,y,xs,r,o,es,ep,f,c,i,d,g⟩:=(show ObjOk P w H h a (.dT kvs) from rd_of ok e);refine⟨z,y,xs,r,o,es,ep,f,c,i,d,λx b=>?_,g⟩;have all:∀{l:List (List Key×V)}{m:List (List Key×Addr×Value)},KT H l m->∀x∈m,(tupleKind (qap P w)).is h x.1 x.2.1:=by
  intro l m q
  induction q with
  |nil=>intro x b;exact nomatch b
  | @cons p q ps qs hq t ih =>
   intro x b;rcases Av.mp b with e|b
   .subst e;exact qhm ok (by rw[<- hq.1];exact hq.2.1)
   .exact ih x b
 exact all r x b
theorem dt_of {kvs:List (List Key×V)}(ok:HOk P w H h)(e:H a=some (.dT kvs)):kvs.length<=A5/\(a == sysModules)=false /\
  ∃xs,KT H kvs xs/\h.DictOfH (tupleKind (qap P w)) a xs:=qj3 ok (.inl e)
end
def DGet (H:Hp)(a:Addr)(y:V)(r:Option V):Prop :=
 (∃kvs k,Rd H a (.dK kvs)/\y=kV k/\r=qbh kvs k) \/ ∃kvs k b,Rd H a (.dT kvs)/\y=.ref b/\H b=some (.tup (k.map kV))/\r=qbh kvs k
def DPut (H:Hp)(a:Addr)(y v:V)(H':Hp):Prop :=
 (∃kvs k,H a=some (.dK kvs)/\y=kV k/\kvs.length<A5/\H'=upd H a (.dK (qc2 kvs k v))) \/
 ∃kvs k b,H a=some (.dT kvs)/\y=.ref b/\H b=some (.tup (k.map kV))/\kvs.length<A5/\H'=upd H a (.dT (qc2 kvs k v))
theorem DGet.k {H:Hp}{a:Addr}{kvs:List (Key×V)}{k:Key}(e:H a=some (.dK kvs)):DGet H a (kV k) (qbh kvs k):=.inl ⟨kvs,k,.inl e,Z,Z⟩
theorem DPut.k {H:Hp}{a:Addr}{kvs:List (Key×V)}{k:Key}{v:V}(e:H a=some (.dK kvs))(b:kvs.length<A5):DPut H a (kV k) v (upd H a (.dK (qc2 kvs k v))):=.inl ⟨kvs,k,e,Z,b,Z⟩
section
variable {X:Cx}{pins:List (Addr×Obj)}{σ:St}{H:Hp}{s:Ad}{a:Addr}{y v:V}{u r:Value}{o:Option V}{A:AO}{E:Value->Ad->Prop}
theorem Inv.big (I:Inv X pins σ H s):sysModules<s.heap.objs.size:=by have h:A6<s.heap.objs.size:=(I.mod.glob.keeps I.bk).lt;exact Nat.lt_trans Uk h
theorem qul {Q:Value->Ad->Prop}(B:A.units+1<cLine)(I:Inv X pins σ H s)(g:DGet H a y (some v))(n:RelV y u)(h:∀c s',Inv X pins σ H s'->RelV v c->Q c s') :
  wpAny (model X.prog X.w) A (getItem (.ref a) u) Q E s:=by
 rcases g with ⟨kvs,k,e,m,l⟩|⟨kvs,k,b,e,m,x,l⟩
 .subst m;obtain⟨z,r,vs,f,j⟩:=qer I.hok e;obtain⟨c,i,d⟩:=RelO.some_of (v:=v) (o:=valueAt vs k) (by rw[l];exact f.val k);exact wpAny_getItem_of (qk7 n) j.mapOf i (h c _ (I.tok _) d)
 .subst m;cases (show u=Bl b from n);obtain⟨z,r,xs,f,j⟩:=qj3 I.hok e;obtain⟨c,i,d⟩:=RelO.some_of (v:=v) (o:=(atKey xs k).map (·.2)) (by rw[l];exact f.val k);obtain⟨p,t,q⟩:=Option.map_eq_some_iff.mp i;refine wpAny_getItem_heap (C8 B) (qhm I.hok x) j t ?_;rw[q];exact h c _ (I.tok _) d
theorem d_in {Q:Value->Ad->Prop}(n:A.units+1<cLine)(I:Inv X pins σ H s)(g:DGet H a y o)(j:RelV y u)(h:∀s',Inv X pins σ H s'->Q (.bool o.isSome) s') :
  wpAny (model X.prog X.w) A (compareOp .In u (.ref a)) Q E s:=by
 rcases g with ⟨kvs,k,e,i,l⟩|⟨kvs,k,b,e,i,m,l⟩
 .subst i;obtain⟨z,d,vs,c,f⟩:=qer I.hok e;refine wpAny_in_of (qk7 j) d f.mapOf ?_;rw[<- (c.val k).isSome_eq,<- l];exact h _ (I.tok _)
 .subst i;cases (show u=Bl b from j);obtain⟨z,d,xs,c,f⟩:=qj3 I.hok e;refine wpAny_in_heap (C8 n) (qhm I.hok m) d f ?_;have q:=(c.val k).isSome_eq;rw[Ej]at q;rw[<- q,<- l];exact h _ (I.tok _)
theorem qy9 {Q:Value->Ad->Prop}(n:A.units+1<cLine)(I:Inv X pins σ H s)(g:DGet H a y o)(j:RelV y u)(h:∀s',Inv X pins σ H s'->Q (.bool (!o.isSome)) s') :
  wpAny (model X.prog X.w) A (compareOp .NotIn u (.ref a)) Q E s:=by
 rcases g with ⟨kvs,k,e,i,l⟩|⟨kvs,k,b,e,i,m,l⟩
 .subst i;obtain⟨z,d,vs,c,f⟩:=qer I.hok e;refine wpAny_notIn_of (qk7 j) d f.mapOf ?_;rw[<- (c.val k).isSome_eq,<- l];exact h _ (I.tok _)
 .subst i;cases (show u=Bl b from j);obtain⟨z,d,xs,c,f⟩:=qj3 I.hok e;refine wpAny_notIn_heap (C8 n) (qhm I.hok m) d f ?_;have q:=(c.val k).isSome_eq;rw[Ej]at q;rw[<- q,<- l];exact h _ (I.tok _)
theorem qs2 {h':Heap}{t':Nat}{c:HO}(I:Inv X pins σ H s)(h:Mut (H a))(i:CB a s.heap h')(f:∃q,h'.get? a=some q)(d:ObjOk X.prog X.w (upd H a c) h' a c) :
  Inv X pins σ (upd H a c) {s with heap:=h',toks:=t'} :=
 I.write (x:=a) (e:=a) h (.inl Z) (λb q g z=>(i.2 b g).trans z) f d
theorem dk_new {P:AK}{w:World}{H':Hp}{h':Heap}{kvs:List (Key×V)}{vs:List (Key×Value)}(z:kvs.length<=A5)(c:(a == sysModules)=false)(b:KV kvs vs)(d:h'.DictOf (qap P w) a vs) :
  ObjOk P w H' h' a (.dK kvs):=⟨z,c,vs,b,d⟩
theorem qum {H':Hp}{Q:Unit->Ad->Prop}(K:A.units+1<cLine)(I:Inv X pins σ H s)(g:DPut H a y v H')(B:RelV y u)(rv:RelV v r)(h:∀s',Inv X pins σ H' s'->Q () s') :
  wpAny (model X.prog X.w) A (setItem (.ref a) u r) Q E s:=by
 rcases g with ⟨kvs,k,e,o,l,m⟩|⟨kvs,k,b,e,o,C,l,m⟩
 .subst o m;obtain⟨z,j,vs,d,n⟩:=qwa I.hok e;have hz:vs.length<=A5:=by rw[<- d.length];exact z
  have p:(qc2 kvs k v).length<=A5:=by have:=qcs kvs k v;lia
  refine wpAny_setItem_pairs (hsz:=hz) (qk7 B) n λh' f t=>h _ ?_;have G:∃q,h'.get? a=some q:=let ⟨q,_,_,i,_⟩:=f;⟨q,i⟩;exact qs2 I (by rw[e];exact CG) t G (dk_new p j (d.put k rv) f)
 .subst o m;cases (show u=Bl b from B);obtain⟨z,j,xs,d,n⟩:=dt_of I.hok e;have hz:xs.length<=A5:=by rw[<- Dh.length d];exact z
  have p:(qc2 kvs k v).length<=A5:=by have:=qcs kvs k v;lia
  refine wpAny_setItem_heap (hsz:=hz) (C8 K) (qhm I.hok C) n λh' f t=>h _ ?_;obtain⟨q,es,ep,i,D,L,F,_,J⟩:=f;refine qs2 I (by rw[e];exact CG) t ⟨q,i⟩ ⟨p,j,_,(d.put k C rv).keeps λc ys x=>?_,q,es,ep,i,D,L,F,J⟩;rw[qr (ne_of x e (λz=>nomatch z))];exact x
end
section
variable {X:Cx}{pins:List (Addr×Obj)}{σ:St}{H:Hp}{s:Ad}{a:Addr}{kvs:List (Key×V)}{k:Key}{u:Value}{A:AO}{E:Value->Ad->Prop}
end
def NoSl (i:Expr):Prop:=∀ov iv,subscripted i false ov iv=operate [ov,iv] (getItem ov iv)
theorem subD_of {prog:AK}{w:World}{A:AO}{E:Value->Ad->Prop}{s:Ad}{env:Env}{b a:Expr}{pos:Pos}{T id:String}{Q:Value->Ad->Prop}
  (m:typeLookup (.type T) "__getitem__"=pure (some (.builtin id)))(n:NoSl a)
  (h:wpAny (model prog w) A (eval b env) (λo g=>wpAny (model prog w) A (eval a env) (λi d=>d.TypeIs o T/\wpAny (model prog w) A (getItem o i) Q E d) E g) E s) :
  wpAny (model prog w) A (eval (.Subscript b a pos) env) Q E s:=by
 refine Subscript_ (BR h (λo g k=>BR k (λi d e=>?_) λ_ _ x=>x) λ_ _ x=>x);obtain⟨j,e⟩:=e;unfold subscriptTail;refine Az ?_;rw[getitemInPython_of_ne j.not_modules];refine Az (wpAny_specialOf j m ?_);have c:wpAny (model prog w) A (subscripted a false o i) (λr f=>wpAny (model prog w) A (letTemporaryGo b o r >>= λ_=>pure r) Q E f) E d:=by rw[n o i];exact wpAny_operating (BR e (λr f l=>Az (wpAny_letTemporaryGo (Bf l))) λ_ _ x=>x)
 first
  |exact Bf (Az c)
  |exact Az (Bf (Az c))
  |exact Az c
theorem qpo {X:Cx}{c:List (Addr×Obj)}{σ:St}{H:Hp}{s:Ad}{a:Addr}{y:V}{o:Option V}(I:Inv X c σ H s)(g:DGet H a y o):s.TypeIs (.ref a) "dict" := by
 rcases g with ⟨kvs,k,e,_,_⟩|⟨kvs,k,b,e,_,_,_⟩
 .obtain⟨_,_,vs,_,d⟩:=qer I.hok e;exact d.typeIs
 .obtain⟨_,_,xs,_,d⟩:=qj3 I.hok e;exact d.typeIs
def tDGet (td ty:TE):TE:=λσ H Q=>td σ H λx H1=>ty σ H1 λy H2=>∃a v,x=.ref a/\DGet H2 a y (some v)/\Q v H2
def tDNotIn (ty td:TE):TE:=λσ H Q=>ty σ H λy H1=>td σ H1 λx H2=>∃a o,x=.ref a/\DGet H2 a y o/\Q (.bl (!o.isSome)) H2
def sDPut (td ty tv:TE):TS:=λD σ H=>tv σ H λv H1=>td σ H1 λx H2=>ty σ H2 λy H3=>∃a H4,x=.ref a/\DPut H3 a y v H4/\D.nx σ H4
section
variable {X:Cx}{o i e value:Expr}{pos pos' tpos:Pos}{td ty tv:TE}
theorem qdf (z:X.A.units+1<cLine)(l:PE X o td)(m:PE X i ty)(k:NoSl i):PE X (.Subscript o i pos) (tDGet td ty):=by intro b s σ H Q I h;refine subD_of PySem.F.slot_dict_getitem.lookup k (thn (l b s σ H _ I h) λu w ⟨x,B,q,j,r⟩=>thn (m b w σ B _ q r) λiv s2 d=>?_);obtain⟨y,f,c,p,a,v,ex,g,n⟩:=d;subst ex;obtain rfl:u=Bl a:=j;exact⟨qpo c g,qul z c g p λw' s3 t e=>⟨v,f,t,e,n⟩⟩
theorem qun (t:X.A.units+1<cLine)(k:PE X i ty)(j:PE X o td):PC X .NotIn i o (tDNotIn ty td):=by intro b s σ H Q I h;refine thn (k b s σ H _ I h) λiv r ⟨y,v,n,m,p⟩=>thn (j b r σ v _ n p) λu s2 c=>?_;obtain⟨x,d,f,e,a,ov,ex,g,l⟩:=c;subst ex;obtain rfl:u=Bl a:=e;exact qy9 t f g m λs3 q=>⟨.bl (!ov.isSome),d,q,Z,l⟩
theorem qes (F:X.A.units+1<cLine)(l:PE X o td)(m:PE X i ty)(G:PE X value tv)(k:swapsWith value (some (.Subscript o i pos')) pos.line X.env=pure false) :
  PS X (.Assign [.Subscript o i pos'] value pos) (sDPut td ty tv):=by
 intro b s σ H D I h;refine wpAny_Assign_Subscript (thn (G b s σ H _ I h) λr E ⟨v,J,w,rv,z⟩=>thn (l b E σ J _ w z) λu p ⟨x,d,j,f,q⟩=>thn (m b p σ d _ j q) λiv s3 c=>?_) k;obtain⟨y,H3,B,t,a,e,ex,g,C⟩:=c;subst ex;obtain rfl:u=Bl a:=f;exact qum F B g t rv λs4 n=>⟨σ,e,n,C⟩
end
theorem qwb {P:AK}{w:World}{H:Hp}(h:Heap)(a:sysModules<h.objs.size):ObjOk P w H (h.push {cls:=.type "dict",data:=.dict #[]}) h.objs.size (.dK []) :=
 ⟨AQ _,beq_eq_false_iff_ne.mpr (By (AE a)),[],.nil,Heap.DictOf.new h⟩
def tDNewK:TE:=λ_ H Q=>∀p,H p=none->Q (.ref p) (upd H p (.dK []))
section
variable {X:Cx}{pos:Pos}
theorem qdl:PE X (.Dict [] [] pos) tDNewK:=λpins s σ H Q I h =>
 wpAny_Dict_empty ⟨.ref s.heap.objs.size,_,I.laid (a:=s.heap.objs.size) (o:=.dK []) (t':=s.toks) (λ_ _ q=>As _ q) (Al _) (qwb s.heap I.big),Z,h _ (I.hok.fresh (Al _))⟩
end
structure M1 (X:Cx)(o:Expr)(m:Str)(apos:Pos)(e:Expr)(cpos:Pos):Prop where
 base:attributeBase o m X.env (eval o X.env)=eval o X.env
 few:((backTo cpos (starEach [e] X.env)).all (λx=>!x.1) && (backToKw cpos (keywordEach [] X.env)).all (λx=>x.1.isSome)
  && decide (([e]:List Expr).length+([]:List Keyword).length+(if ([]:List Keyword).isEmpty then 0 else 1)<30))=true
 line:(apos.endLine == cpos.line)=true
 trees:backTo cpos (starEach [e] X.env)=[(false,eval e X.env)]
structure M2 (X:Cx)(o:Expr)(m:Str)(apos:Pos)(e f:Expr)(cpos:Pos):Prop where
 base:attributeBase o m X.env (eval o X.env)=eval o X.env
 few:((backTo cpos (starEach [e,f] X.env)).all (λx=>!x.1) && (backToKw cpos (keywordEach [] X.env)).all (λx=>x.1.isSome)
  && decide (([e,f]:List Expr).length+([]:List Keyword).length+(if ([]:List Keyword).isEmpty then 0 else 1)<30))=true
 line:(apos.endLine == cpos.line)=true
 trees:backTo cpos (starEach [e,f] X.env)=[(false,eval e X.env),(false,eval f X.env)]
def IsD (H:Hp)(a:Addr):Prop:=(∃kvs,Rd H a (.dK kvs)) \/ ∃kvs,Rd H a (.dT kvs)
theorem qwc {X:Cx}{i:List (Addr×Obj)}{σ:St}{H:Hp}{s:Ad}{a:Addr}(I:Inv X i σ H s)(d:IsD H a) :
  s.TypeIs (.ref a) "dict" /\ (∀b,Bl a=.ref b->∃c,s.heap.get? b=some c/\c.dict=none)/\(a == sysModules)=false:=by
 rcases d with ⟨kvs,e⟩|⟨kvs,e⟩
 .obtain⟨_,g,vs,_,f⟩:=qer I.hok e;refine⟨f.typeIs,λb q=>?_,g⟩;cases q;obtain⟨c,_,_,j,h,_⟩:=f;exact⟨c,j,h.2.1⟩
 .obtain⟨_,g,xs,_,f⟩:=qj3 I.hok e;refine⟨f.typeIs,λb q=>?_,g⟩;cases q;obtain⟨c,_,_,j,h,_⟩:=f;exact⟨c,j,h.2.1⟩
section
variable {X:Cx}{pins:List (Addr×Obj)}{σ:St}{H:Hp}{s:Ad}{a:Addr}{y d:V}{u r:Value}{o:Option V}{A:AO}{E:Value->Ad->Prop}
theorem d_get1 {Q:Value->Ad->Prop}(n:A.units+1<cLine)(I:Inv X pins σ H s)(g:DGet H a y o)(j:RelV y u)(h:∀w' s',Inv X pins σ H s'->RelV (o.getD .non) w'->Q w' s') :
  wpAny (model X.prog X.w) A (call (.builtin "dict.get") [.ref a,u]) Q E s:=by
 rcases g with ⟨kvs,k,e,i,l⟩|⟨kvs,k,b,e,i,m,l⟩
 .subst i;obtain⟨z,f,vs,d,c⟩:=qer I.hok e;refine DX BN c.typeIs C0 (Dr _ _) (meets_dict_get (qap X.prog X.w) a (qk7 j) f) ⟨_,c.mapOf,h _ _ (I.tok _) ?_⟩;rw[l];exact(d.val k).getD rfl
 .subst i;cases (show u=Bl b from j);obtain⟨z,f,xs,d,c⟩:=qj3 I.hok e;refine DX BN c.typeIs C0 (Dr _ _) (meetsH_dict_get (tupleKind (qap X.prog X.w)) a b f) ⟨C8 n,k,xs,qhm I.hok m,c,h _ _ (I.tok _) ?_⟩;rw[l];exact(d.val k).getD rfl
theorem d_get2 {Q:Value->Ad->Prop}(p:A.units+1<cLine)(I:Inv X pins σ H s)(g:DGet H a y o)(m:RelV y u)(rd:RelV d r)(h:∀w' s',Inv X pins σ H s'->RelV (o.getD d) w'->Q w' s') :
  wpAny (model X.prog X.w) A (call (.builtin "dict.get") [.ref a,u,r]) Q E s:=by
 rcases g with ⟨kvs,k,e,j,l⟩|⟨kvs,k,b,e,j,n,l⟩
 .subst j;obtain⟨z,i,vs,f,c⟩:=qer I.hok e;refine DX BN c.typeIs C0 (PySem.F.args_dict_get_3 _ _ _) (meets_dict_get_default (qap X.prog X.w) a (qk7 m) i r) ⟨_,c.mapOf,h _ _ (I.tok _) ?_⟩;rw[l];exact(f.val k).getD rd
 .subst j;cases (show u=Bl b from m);obtain⟨z,i,xs,f,c⟩:=qj3 I.hok e;refine DX BN c.typeIs C0 (PySem.F.args_dict_get_3 _ _ _) (meetsH_dict_get_default (tupleKind (qap X.prog X.w)) a b i r) ⟨C8 p,k,xs,qhm I.hok n,c,h _ _ (I.tok _) ?_⟩;rw[l];exact(f.val k).getD rd
end
def tDGet2 (td ty tx:TE):TE:=λσ H Q=>td σ H λx H1=>∃a,x=.ref a/\IsD H1 a/\ty σ H1 λy H2=>tx σ H2 λz H3=>∃o,DGet H3 a y o/\Q (o.getD z) H3
section
variable {X:Cx}{o e f:Expr}{apos cpos:Pos}{td ty tx:TE}
theorem qwd (N:X.A.units+1<cLine)(r:PE X o td)(K:PE X e ty)(C:PE X f tx)(m:M2 X o "get" apos e f cpos):PE X (.Call (.Attribute o "get" apos) [e,f] [] cpos) (tDGet2 td ty tx):=by
 intro b s σ H Q I h;refine wpAny_Call_method m.base m.few m.line PySem.F.plainAttrs_dict BN PySem.F.type_dict_get (thn (r b s σ H _ I h) λu M c=>?_);obtain⟨x,q,j,n,a,ex,d,D⟩:=c;subst ex;obtain rfl:u=Bl a:=n;obtain⟨O,L,_⟩:=qwc j d;refine⟨O,L,?_⟩;rw[m.trees];refine CN rfl (DL (CM (thn (K b M σ q _ j D) λiv v ⟨y,k,p,B,w⟩ =>
  CM (thn (C b v σ k _ p w) λfv s3 ⟨z,G,E,l,ov,g,J⟩=>Dx ?_))))
 exact d_get2 N E g B l λw' s4 t i=>⟨_,G,t,i,J⟩
end
section
variable {X:Cx}{pins:List (Addr×Obj)}{σ:St}{H:Hp}{s:Ad}{a:Addr}{kvs:List (Key×V)}{A:AO}{E:Value->Ad->Prop}
end
section
variable {X:Cx}{pins:List (Addr×Obj)}{σ:St}{H:Hp}{s:Ad}{a:Addr}{y:V}{u:Value}{A:AO}{E:Value->Ad->Prop}
end
end L2
namespace L2
open PySem PySem.Spec PyProof.Rows
section
variable {κ:Type}[DecidableEq κ]
theorem valV_in {kvs:List (κ×V)}{k:κ}{v:V}(h:qbh kvs k=some v):k∈kvs.map (·.1):=by
 have q:(kvs.any λb=>decide (b.1=k))=true:=by rw[qfb,h];all_goals rfl
 obtain⟨p,a,e⟩:=CJ.mp q;exact AU.mpr ⟨p,a,of_decide_eq_true e⟩
end
end L2
namespace Add
open PySem PySem.Spec PyProof.Rows L2
theorem pos {j:Int}(h:0<j):0<j:=h
theorem mulL {i j:Int}(h : -1000000<i)(h':i<1000000):CMul i j:=.inl ⟨by lia,by lia⟩
section
variable {K:Ah}
theorem qpp:AR K (.type "int") (.type "int")=some true:=by kernel_rfl
theorem qoc:AR K (.type "int") (.type "bool")=some false:=by kernel_rfl
theorem qke:AR K (.type "tuple") (.type "tuple")=some true:=by kernel_rfl
end
section
variable {X:Cx}
theorem qge:qf9 X (.builtin "isinstance") (λxs H Q=>∃x t c b,xs=[x,.ty c]/\TyOf X.K H x t/\AR X.K t (.type c)=some b/\Q (.bl b) H):=by intro pins s σ H xs us Q I r h;obtain⟨x,t,c,b,rfl,ty,e,q⟩:=h;obtain⟨u,u',rfl,a,d⟩:=Vals.two r;cases (show u'=CZ c from d);exact quh I a ty e λtk=>⟨.bl b,H,I.tok tk,Z,q⟩
end
section
variable {X:Cx}{tg:Expr}
end
section
open PySem.SeqAt
open PySem.AutoSeq1 (wpAny_loadPart')
open PySem.MeetsSeq PySem.MeetsSeq2 PySem.MeetsSeq3
open HT
end
section
variable {prog:AK}{w:World}{A:AO}{E:Value->Ad->Prop}{s:Ad}
end
section
variable {X:Cx}
end
theorem qhn {env:Env}:∀(names:List (Str×Bu))(b:List (Str×Addr)),(∀x∈names,x.2=.free->∃c,env.cells.lookup x.1=some c) ->
  (∀x c,b.lookup x=some c->env.cells.lookup x=some c) ->
  ∃f,(forIn names b λ(x:Str×Bu)(t:List (Str×Addr))=>if (x.2 == Bp)=true then (do let a <- cellOf env x.1;pure (CQ ((x.1,a)::t))) else (pure (CQ t):Sem (ForInStep (List (Str×Addr)))))=pure f /\
   (∀x c,f.lookup x=some c->env.cells.lookup x=some c)/\(∀x,(b.lookup x).isSome=true->(f.lookup x).isSome=true)/\∀x∈names,x.2=.free->(f.lookup x.1).isSome=true
 | [],b,_,ha=>⟨b,Z,ha,λ_ h=>h,λ_ h=>absurd h (by simp)⟩
 | (n,k)::r,b,hf,ha=>by
  have u:∀x∈r,x.2=.free->∃c,env.cells.lookup x.1=some c:=λx g=>hf x (Ay _ g);rw[List.forIn_cons];cases m:(k == Bp) with
  |false =>
   obtain⟨f,e,p,j,s⟩:=qhn r b u ha;refine⟨f,?_,p,j,λx g i=>?_⟩
   .simp only[m,Eb,if_false];exact e
   .rcases Av.mp g with z|z
    .subst z;have A:k=.free:=i;subst A;exact absurd m Uk
    .exact s x z i
  |true =>
   have w:k=.free:=by simpa using m
   obtain⟨c,y⟩:=hf (n,k) Am w;have v:∀x d,((n,c)::b).lookup x=some d->env.cells.lookup x=some d:=λx d e=>by
    rw[BK]at e;cases q:x == n with
    |true =>
     rw[q]at e;have B:x=n:=by simpa using q
     subst B;rw[y];exact e
    |false=>rw[q]at e;exact ha x d e
   obtain⟨f,e,p,j,s⟩:=qhn r ((n,c)::b) u v;have o:((((n,c)::b).lookup n).isSome)=true:=by simp
   refine⟨f,?_,p,λx g=>j x ?_,λx g i=>?_⟩
   .have l:cellOf env n=pure c:=by unfold cellOf;rw[y]
    simp only[m,if_true,l];exact e
   .rw[BK];cases q:x == n with|true=>rfl|false=>exact g
   .rcases Av.mp g with z|z
    .subst z;exact j n o
    .exact s x z i
theorem qho {env:Env}{scope:Scope}(d:∀x∈scope.names,x.2=.free->∃c,env.cells.lookup x.1=some c) :
  ∃a,closureFor scope env=pure a/\(∀x c,a.lookup x=some c->env.cells.lookup x=some c)/\∀x∈scope.names,x.2=.free->(a.lookup x.1).isSome=true:=by
 obtain⟨a,e,g,_,b⟩:=qhn scope.names [] d (λx c h=>absurd h (by simp));refine⟨a,?_,g,b⟩;unfold closureFor;exact(congrArg (λz=>z >>= λf=>(pure f:Sem (List (Str×Addr)))) e).trans rfl
noncomputable def qk8 (N:List Str)(js:List (Option Nat))(XN:List Str)(xs scope:Scope):Bool :=
 (scope.kind == .function) && (scope.names.all λx=>x.2 != .cell) && (scope.names.all λx=>x.2 != .local || (scope.names.lookup x.1 == some .local)) &&
 (scope.names.all λx=>x.2 != .free || (xs.names.lookup x.1 == some .cell || xs.names.lookup x.1 == some .free)) && (N.length == js.length) &&
 ((N.zip js).all λp=>match p.2 with|none=>true|some j=>(XN[j]? == some p.1) && (xs.names.lookup p.1 == some .cell || xs.names.lookup p.1 == some .free) && (scope.names.any λx=>x.1 == p.1 && x.2 == .free) && (scope.names.lookup p.1 == some .free))
structure CompNm (N:List Str)(js:List (Option Nat))(XN:List Str)(xs scope:Scope):Prop where
 kind:scope.kind=.function
 nocell:∀x∈scope.names,x.2 ≠ .cell
 names:∀x∈scope.names,x.2=.local->scope.names.lookup x.1=some .local
 clos:∀x∈scope.names,x.2=.free->(xs.names.lookup x.1=some .cell\/xs.names.lookup x.1=some .free)
 len:N.length=js.length
 free:∀(i j:Nat)(x:Str),N[i]?=some x->js[i]?=some (some j)->XN[j]?=some x/\(xs.names.lookup x=some .cell\/xs.names.lookup x=some .free)/\(x,Bp)∈scope.names/\scope.names.lookup x=some .free
theorem qja {N:List Str}{js:List (Option Nat)}{XN:List Str}{xs scope:Scope}(h:qk8 N js XN xs scope=true):CompNm N js XN xs scope:=by
 unfold qk8 at h;simp only[B4,C4,beq_iff_eq,Bool.or_eq_true,bne_iff_ne,ne_eq]at h;obtain⟨⟨⟨⟨⟨q,k⟩,v⟩,p⟩,t⟩,n⟩:=h;refine⟨q,λx a=>k x a,λx a e=>?_,λx a e=>?_,t,λi j x m d=>?_⟩
 .rcases v x a with z|z
  .exact absurd e z
  .exact z
 .rcases p x a with z|z
  .exact absurd e z
  .exact z
 .have hz:(N.zip js)[i]?=some (x,some j):=by rw[List.getElem?_zip_eq_some];exact⟨m,d⟩
  have:=n _ (A2 hz);simp only[B4,beq_iff_eq,Bool.or_eq_true,CJ]at this;obtain⟨⟨⟨f,u⟩,y,g,r,l⟩,s⟩:=this;refine⟨f,u,?_,s⟩;obtain⟨w,o⟩:=y;have c:w=x:=r;have b:o=.free:=l;subst c b;exact g
theorem qpq {env:Env}{scope:Scope}{x:Str}(h:scope.names.lookup x=some .free):(relabel scope env).names.lookup x=some .cell\/(relabel scope env).names.lookup x=some .free:=by
 have b:∀(l:List (Str×Bu)),l.lookup x=some .free->((l.map λ(n,k)=>if (k == Bp && env.scope.kind == .function && env.kindOf n == some .cell) then (n,Bu.cell) else (n,k)).lookup x=some .cell\/(l.map λ(n,k)=>if (k == Bp && env.scope.kind == .function && env.kindOf n == some .cell) then (n,Bu.cell) else (n,k)).lookup x=some .free):=by
  intro l
  induction l with
  |nil=>intro h;simp at h
  |cons y r ih =>
   obtain⟨n,k⟩:=y;intro h;rw[BK]at h;rw[AX];cases q:x == n with
   |false =>
    rw[q]at h;have:=ih h;by_cases a:(k == Bp && env.scope.kind == .function && env.kindOf n == some .cell)=true
    .simpa [a,BK,q] using this
    .simpa [a,BK,q] using this
   |true =>
    rw[q]at h;have h':k=.free:=AD h;subst h';by_cases a:(Bp == Bp && env.scope.kind == .function && env.kindOf n == some .cell)=true
    .exact .inl (by show CL x ((if (Bp == Bp && env.scope.kind == .function && env.kindOf n == some .cell)=true then (n,Bu.cell) else (n,Bp))::_)=_;rw[if_pos a,BK,q])
    .exact .inr (by show CL x ((if (Bp == Bp && env.scope.kind == .function && env.kindOf n == some .cell)=true then (n,Bu.cell) else (n,Bp))::_)=_;rw[if_neg a,BK,q])
 exact b scope.names h
noncomputable def qby (X:Cx)(N:List Str)(scope:Scope)(cl:List (Str×Addr))(C:Addr)(s:Ad)(H:Hp)(fp:List Addr)(E:Value->Ad->Prop):Cx :=
 {X with N:=N,s₀:=s,H₀:=H,env:=compEnvC scope cl C X.env,outer:=X.stack,ex:=fp,fn:=λ_=>false,pn:=[],xe:=E}
noncomputable def qc8 (js:List (Option Nat))(σ:L2.St):L2.St:=js.map λj=>j.bind λk=>(σ[k]?).join
section
variable {prog:AK}{w:World}{A:AO}{R:Result->Ad->Prop}{s:Ad}
theorem qrp {g a d:Expr}{i:List Expr}{scope:Scope}{pos:Pos}{it f:Value}{env:Env}(I:Nat->Ad->Prop)
  (o:∀n s,I n s->wpAny (model prog w) A (pyNext it) (λr l=>match r with
   |none=>R (.ok .next) l
   |some v=>wpAny (model prog w) A (letOwnedTupleGo a it v) (λ_ j=>wpAny (model prog w) A (assign a env v) (λ_ p =>
     wpAny (model prog w) A (forIn i true λc r=>if r=true then do let ok <- isTrue c env (eval c env);pure (CQ ok) else pure (CQ r)) (λok k =>
      if ok=true then wpAny (model prog w) A (eval g env) (λx q =>
       wpAny (model prog w) A (call (.builtin "list.append") [f,x]) (λ_ t=>∃m,m<n/\I m t) (notedBy (model prog w) A env λe b=>R (.error e) b) q) (notedBy (model prog w) A env λe b=>R (.error e) b) k
      else ∃m,m<n/\I m k) (notedBy (model prog w) A env λe b=>R (.error e) b) p) (notedBy (model prog w) A env λe b=>R (.error e) b) j)
     (notedBy (model prog w) A env λe b=>R (.error e) b) l) (notedBy (model prog w) A env λe b=>R (.error e) b) s)
  (n:Nat)(h:I n s):codeAny (model prog w) A (.compLoop (.ListComp g [⟨a,d,i,0⟩] scope pos) 0 it f env) R s:=by
 refine codeAny_loop rfl I (λn s C=>?_) n h;show wpAny _ A ((compTurn (.ListComp g [⟨a,d,i,0⟩] scope pos) 0 it f env).onRaise (λx=>do noteFrame x env;theTreesLotGoes x)) _ _ s;refine wpAny_noted ?_;rw[compTurn_list];refine Az (En (Az (BR (o n s C) (λr l u=>?_) λ_ _ h'=>h')));cases r with
 |none=>exact Bf u
 |some v =>
  refine Az (BR u (λ_ j z=>?_) λ_ _ h'=>h');refine Az (BR z (λ_ p E=>Az (BR E (λok k y=>?_) λ_ _ h'=>h')) λ_ _ h'=>h');cases ok with|false=>exact Bf ⟨Z,y⟩|true =>exact Az (Az (BR y (λx q D=>Az (BR D (λ_ t B=>Bf (Bf ⟨Z,B⟩)) λ_ _ h'=>h')) λ_ _ h'=>h'))
end
def PTs (X:Cx)(ifs:List Expr)(t:TT):Prop :=
 ∀(pins:List (Addr×Obj))(s:Ad)(σ:L2.St)(H:Hp)(Q:Bool->Hp->Prop),Inv X pins σ H s->t σ H Q ->
  wpAny (model X.prog X.w) X.A (forIn ifs true λc r=>if r=true then do let ok <- isTrue c X.env (eval c X.env);pure (CQ ok) else pure (CQ r)) (TP X pins σ Q) X.xe s
def qs3:TT:=λ_ H Q=>Q true H
theorem qfj {X:Cx}:PTs X [] qs3:=λ_ _ _ H _ I h=>wpAny_tests_nil ⟨H,I,h⟩
theorem qs4 {X:Cx}{c:Expr}{t:TT}(b:PT X c t):PTs X [c] t:=λa s σ H Q I h=>wpAny_tests_one (b a s σ H Q I h)
def qjb (js:List (Option Nat))(g:TG)(tc:TT)(te:TE)(σ:L2.St)(Q:VK)(J:It)(H1:Hp):Prop:=∀p,H1 p=none ->
 ∃W:Nat->Nat->L2.St->Hp->Prop,(∃m,W 0 m (qc8 js σ) (upd H1 p (.lst [])))/\∀i m σ' H',W i m σ' H' ->
  (J.stop i H'/\Q (.ref p) H')\/(J.go i H'/\∃N:L2.St->Hp->Prop,(∀σ2 H2,N σ2 H2->∃m',m'<m/\W (i+1) m' σ2 H2) /\
   ∀x H2,J.yld i H' x H2->g x σ' H2 λσ3 H3=>tc σ3 H3 λk H4=>if k=true then te σ3 H4 λv H5=>∃xs,H5 p=some (.lst xs)/\xs.length<A5/\N σ3 (upd H5 p (.lst (xs++[v]))) else N σ3 H4)
def tComp (js:List (Option Nat))(wi:TI)(g:TG)(tc:TT)(te:TE):TE:=λσ H Q=>wi σ H (qjb js g tc te σ Q)
section
variable {X:Cx}{N XN:List Str}{js:List (Option Nat)}{xs scope:Scope}{elt target iter:Expr}{ifs:List Expr}{pos:Pos}{g:TG}{tc:TT}{te:TE}
theorem qk9 {L:List (Addr×Obj)}{σ:L2.St}{H2:Hp}{D:Ad}{it:Addr}{fp:List Addr}{tn:Nat->Heap->Prop}{J:It}{f:List (Str×Addr)}{Q:V->Hp->Prop}{RR:Value->Addr->Result->Ad->Prop}{E:Value->Ad->Prop}
  (O:X.calm=true)(hN:X.N=XN)(hS:X.env.scope=xs)(nm:CompNm N js XN xs scope)(F:∀x c,f.lookup x=some c->X.env.cells.lookup x=some c)(ag:∀x∈scope.names,x.2=.free->(f.lookup x.1).isSome=true)
  (hg:∀(f:List (Str×Addr))(C:Addr)(s:Ad)(H:Hp)(fp:List Addr)(E:Value->Ad->Prop),PG (qby X N scope f C s H fp E) target g)
  (ht:∀(f:List (Str×Addr))(C:Addr)(s:Ad)(H:Hp)(fp:List Addr)(E:Value->Ad->Prop),PTs (qby X N scope f C s H fp E) ifs tc)
  (he:∀(f:List (Str×Addr))(C:Addr)(s:Ad)(H:Hp)(fp:List Addr)(E:Value->Ad->Prop),PE (qby X N scope f C s H fp E) elt te)
  (I2:Inv X L σ H2 D)(T:Turn X.prog X.w X.K target J fp it tn)(aj:tn 0 D.heap)(f2:∀b∈fp,qi5 X L H2 b)
  (hW:qjb js g tc te σ Q J H2)
  (bi:∀(p C:Addr)(H':Hp)(G:Ad)(m:Str->Option Value),Inv X L σ H' G->G.heap.Ns C m->D.heap.objs.size<=C->H' C=none->Q (.ref p) H'->RR (.ref p) C (.ok .next) G) :
  wpAny (model X.prog X.w) X.A (newList []) (λbc s₃=>wpAny (model X.prog X.w) X.A (newFunctionEnv scope X.env.globals f [] X.env.qual none .none (some X.env)) (λam s₄ =>
   codeAny (model X.prog X.w) X.A (.compStart (.ListComp elt [⟨target,iter,ifs,0⟩] scope pos) 0 (.ref it) bc {am with scope:=relabel scope X.env}) (RR bc am.locals) s₄) E s₃) E D:=by
 refine wpAny_newObj_type (wpAny_newFunctionEnv nm.nocell (by intro y hy;simp at hy) (λh₁ U ad=>?_) nm.kind)
 obtain⟨W,⟨m0,w0⟩,ai⟩:=hW D.heap.objs.size I2.fresh
 have B:Inv X L σ (upd H2 D.heap.objs.size (.lst [])) {D with heap:=D.heap.push {cls:=.type "list",data:=.seq ([]:List Value).toArray} }:=I2.lnew (ys:=[]) (its:=[]) (t':=D.toks) .nil (AQ _)
 generalize c7:({D with heap:=D.heap.push {cls:=.type "list",data:=.seq ([]:List Value).toArray} }:Ad)=s3 at B U ad |-
 have ar:s3.heap=D.heap.push {cls:=.type "list",data:=.seq ([]:List Value).toArray}:=by rw[<- c7]
 have z3:s3.heap.objs.size=D.heap.objs.size+1:=by rw[ar,Dw]
 generalize hP:D.heap.objs.size=P at w0 ai B z3 |-
 have aq:∀b∈fp,upd H2 P (.lst []) b=none:=λb a=>by
  have nb:b≠P:=by obtain⟨o,eo,_⟩:=T.obj 0 D.heap aj b a;have:=AC eo;rw[hP]at this;exact AE this
  rw[qr nb];exact(f2 b a).1
 generalize hH:upd H2 P (.lst [])=H3 at w0 B aq
 have R:∀b∈fp,b≠X.env.locals/\b∉X.fs/\(b∈X.ex\/X.s₀.heap.objs.size<=b)/\(∀x c,X.env.cells.lookup x=some c->c≠b)/\∀p∈X.pn++L,p.1≠b:=λb a=>(f2 b a).2
 have al:∀b∈fp,b<s3.heap.objs.size:=λb a=>by obtain⟨o,eo,_⟩:=T.obj 0 D.heap aj b a;have hl:=AC eo;exact A0 hl (by rw[z3,hP];exact C3 _)
 have av:tn 0 s3.heap:=T.keep 0 _ _ aj λb _ o e=>by rw[ar];exact As _ e
 generalize hC:s3.heap.objs.size=C at U ad z3 al |-
 have M:∀b o,s3.heap.get? b=some o->h₁.get? b=some o:=λb o e=>ad.extBut b o (by have hl:=AC e;rw[hC]at hl;exact AE hl) (As _ e)
 have stk:∀b∈fp,b∉frs X.stack:=λb a z=>by
  rcases Av.mp (B.stkSub b z) with q|q
  .exact(R b a).1 q
  .exact(R b a).2.1 q
 have ok:∀E',(qby X N scope f C s3 H3 fp E').Ok:=λE'=>{
  mod:=B.ok.mod
  kind:=nm.kind
  glob:=B.ok.glob
  blt:=B.ok.blt
  above:=BY hC
  inj:=λx y c h1 h2=>B.ok.inj x y c (F x c h1) (F y c h2)
  has:=λx hx=>by
   have bf:(x,Bp)∈scope.names:=by
    have hl:(relabel scope X.env).names.lookup x=some .cell\/(relabel scope X.env).names.lookup x=some .free:=hx;have c8:∀(l:List (Str×Bu)),(∀y∈l,y.2 ≠ .cell)->((l.map λ(n,k)=>if (k == Bp && X.env.scope.kind == .function && X.env.kindOf n == some .cell) then (n,Bu.cell) else (n,k)).lookup x=some .cell\/(l.map λ(n,k)=>if (k == Bp && X.env.scope.kind == .function && X.env.kindOf n == some .cell) then (n,Bu.cell) else (n,k)).lookup x=some .free)->(x,Bp)∈l:=by
     intro l
     induction l with
     |nil=>intro _ h;rcases h with h|h <;>simp at h
     |cons y r ih =>
      obtain⟨n,k⟩:=y;intro hn h;have hr:=ih (λy hy=>hn y (Ay _ hy));have hk:k ≠ .cell:=hn (n,k) Am;rw[AX]at h;cases q:x == n with
      |false =>
       refine Ay _ (hr ?_);by_cases O:(k == Bp && X.env.scope.kind == .function && X.env.kindOf n == some .cell)=true
       .simpa [O,BK,q] using h
       .simpa [O,BK,q] using h
      |true =>
       have q':x=n:=by simpa using q
       subst q';by_cases O:(k == Bp && X.env.scope.kind == .function && X.env.kindOf x == some .cell)=true
       .have:k=.free:=by
         simp only[B4,beq_iff_eq]at O
         exact O.1.1
        subst this
        exact Am
       .have h':k=.cell\/k=.free:=by simpa [O,BK] using h
        rcases h' with z|z
        .exact absurd z hk
        .subst z;exact Am
    exact c8 scope.names nm.nocell hl
   exact BP.mp (ag _ bf Z)
  cab:=λ_ _ h _=>nomatch h
  hd:=B.ok.hd
  frames:=B.ok.frames
  stk:=.inl Z
  exf:=λb a=>⟨AE (al b a),λx c e=>(R b a).2.2.2.1 x c (F x c e)⟩
  bs:=B.bs
  bsz:=A9 B.ok.bsz B.sz
  noex:=λb o e a=>by
   rcases (R b a).2.2.1 with z|z
   .exact B.ok.noex b o e z
   .have h1:=AC e;have h2:=B.ok.bsz;exact absurd (A0 h1 (A9 h2 z)) (BX _)
  exfs:=stk
  funs:=B.stack
  frf:=B.stkFree}
 have start:∀E',Inv (qby X N scope f C s3 H3 fp E') [] (qc8 js σ) H3 {s3 with heap:=h₁,toks:=s3.toks+([]:List (Str×Value)).length}:=λE'=>{
  ok:=ok E'
  os:=rfl
  bare:=B.bare
  base:=Un.kept M
  loc:=by
   refine⟨_,U,λi x v e1 e2 e3=>?_⟩;have S:((js[i]?).map λj=>j.bind λk=>(σ[k]?).join)=some (some v):=by
    have:=e2;unfold qc8 at this
    rwa [Ag]at this
   cases hj:js[i]? with
   |none=>rw[hj]at S;cases S
   |some jo =>
    rw[hj]at S;cases jo with
    |none=>cases S
    |some j =>
     have I:(σ[j]?).join=some v:=AD S;have e4:σ[j]?=some (some v):=by
      cases q:σ[j]? with
      |none=>rw[q]at I;cases I
      |some o=>rw[q]at I;cases o with
       |none=>cases I
       |some y=>cases I;rfl
     obtain⟨a1,a2,a3,a4⟩:=nm.free i j x e1 hj;obtain⟨mX,hnX,lX⟩:=B.loc;have cg:Vis X.env.scope x:=by rw[hS];exact .inr a2
     obtain⟨u,ru,lu⟩:=lX j x v (by rw[hN];exact a1) e4 cg;refine⟨u,ru,?_⟩;rcases lu with ⟨k1,_⟩|⟨k1,c,e5,z⟩
     .exfalso;have ak:X.env.scope.names.lookup x=some .local:=k1;rw[hS]at ak;rcases a2 with q|q <;>rw[q]at ak <;>cases ak
     .obtain⟨c',e6⟩:=BP.mp (ag _ a3 Z);have e7:=F x c' e6;rw[e5]at e7;cases e7;refine .inr ⟨?_,c,e6,?_⟩
      .rcases e3 with q|q|q
       .exfalso;have:=qpq (env:=X.env) a4;rcases this with t|t <;>(have q':(relabel scope X.env).names.lookup x=some .local:=q;rw[t]at q';cases q')
       .exact .inl q
       .exact .inr q
      .obtain⟨o,ho,hd⟩:=z;exact⟨o,M c o ho,hd⟩
  cell:=λx c e=>by obtain⟨v,o,ho,hd⟩:=B.cell x c (F x c e);exact⟨v,o,M c o ho,hd⟩
  free:=B.hok.fresh (BY hC)
  freeC:=λx c e=>B.freeC x c (F x c e)
  pin:=λp hp=>absurd (show p∈([]:List (Addr×Obj)) from hp) (by simp)
  hok:=B.hok.kept M
  len:=by unfold qc8;rw[Ab];exact nm.len.symm}
 have done:∀{E':Value->Ad->Prop}{σ':L2.St}{H':Hp}{G:Ad},Inv (qby X N scope f C s3 H3 fp E') [] σ' H' G->Q (.ref P) H'->RR (.ref P) C (.ok .next) G:=λ{E' σ' H' G} J' q=>by obtain⟨m',bu,_⟩:=J'.loc;refine bi P C H' G m' (B.call' (ch:=fp) J'.os J'.base J'.hok J'.bare λb a=>⟨(R b a).2.2.1,(R b a).1,(R b a).2.2.2.1,(R b a).2.2.2.2⟩) bu (by rw[z3,hP];exact C3 _) J'.free q
 have ah:∀s₄:Ad,s₄={s3 with heap:=h₁,toks:=s3.toks+([]:List (Str×Value)).length} ->
   codeAny (model X.prog X.w) X.A (.compLoop (.ListComp elt [⟨target,iter,ifs,0⟩] scope pos) 0 (.ref it) (.ref P) (compEnvC scope f C X.env)) (RR (.ref P) C) s₄:=by
  rintro s₄ rfl;generalize cr:notedBy (model X.prog X.w) X.A (compEnvC scope f C X.env) (λe G=>RR (.ref P) C (.error e) G)=NB;have ae:∀{H':Hp},(∀b∈fp,H' b=none)->∀b∈fp,qi5 (qby X N scope f C s3 H3 fp NB) [] H' b:=λhn b a =>
   ⟨hn b a,AE (al b a),stk b a,.inl a,λx c e=>(R b a).2.2.2.1 x c (F x c e),λp hp=>absurd (show p∈([]:List (Addr×Obj)) from hp) (by simp)⟩
  refine qrp (λn G=>∃i σ' H',Inv (qby X N scope f C s3 H3 fp NB) [] σ' H' G/\tn i G.heap/\(∀b∈fp,H' b=none)/\W i n σ' H') ?_ m0 ⟨0,qc8 js σ,H3,start NB,T.keep 0 _ _ av λb _ o e=>M b o e,aq,w0⟩;rw[cr];rintro n s5 ⟨i,σ5,H5,I5,ay,aw,w5⟩;rcases ai i n σ5 H5 w5 with ⟨stop,qn⟩|⟨go,Nx,cx,step⟩
  .refine thn (T.done (qby X N scope f C s3 H3 fp NB) Z Z Z O i [] s5 σ5 H5 NB I5 (ae aw) ay stop) λr s6 ⟨hr,I6⟩=>?_;subst hr;exact done I6 qn
  .refine thn (T.item (qby X N scope f C s3 H3 fp NB) Z Z Z O i [] s5 σ5 H5 NB I5 (ae aw) ay go) λr s6 ⟨u,hr,h6⟩=>?_;subst hr;refine thn h6 λ_ s7 ⟨x,H7,I7,r7,y7,ao,cw⟩=>?_;have bj:=I7.pinned (ae cw) (T.obj _ _ ao);have af:∀{σ8:L2.St}{Y:Hp}{s8:Ad},Inv (qby X N scope f C s3 H3 fp NB) ([]++qi6 fp s7.heap) σ8 Y s8->Nx σ8 Y->∃m,m<n/\∃i σ' H',Inv (qby X N scope f C s3 H3 fp NB) [] σ' H' s8/\tn i s8.heap/\(∀b∈fp,H' b=none)/\W i m σ' H':=λ{σ8 Y s8} I8 n8=>by obtain⟨m',hm,w8⟩:=cx σ8 Y n8;refine⟨m',hm,i+1,σ8,Y,I8.unpinned,T.keep _ _ _ ao λb a o e=>(I8.pin (b,o) (A1 _ (A1 _ (qd4 a e)))).1,λb a=>?_,w8⟩;obtain⟨o,e,d⟩:=T.obj _ _ ao b a;exact(I8.pin (b,o) (A1 _ (A1 _ (qd4 a e)))).2.1
   refine thn (hg f C s3 H3 fp NB _ s7 σ5 H7 x u _ bj r7 (step x H7 y7)) λ_ s8 ⟨σ8,Y,I8,q8⟩=>?_;refine thn (ht f C s3 H3 fp NB _ s8 σ8 Y _ I8 q8) λk s9 ⟨H9,I9,q9⟩=>?_;cases k with
   |false =>rw[if_neg Uk]at q9 |-;exact af I9 q9
   |true =>rw[if_pos Z]at q9 |-;refine thn (he f C s3 H3 fp NB _ s9 σ8 H9 _ I9 q9) λuv bh ⟨v,bw,cq,bq,bz,bt,ca,cp⟩=>?_;refine thn (qam (X:=qby X N scope f C s3 H3 fp NB) _ bh σ8 bw (.ref P) [v] (.ref P) [uv] (λ_ au=>Nx σ8 au) cq Z (.cons bq .nil) ⟨P,bz,v,Z,Z,bt,ca,cp⟩) λ_ s11 ⟨_,au,cz,_,c9⟩=>?_;exact af cz c9
 exact codeAny_compStart_list (ah _ Z) (T.self _ 0 _ _ _ (T.keep 0 _ _ av λb _ o e=>M b o e) (ah _ Z))
end
section
variable {X:Cx}{N XN:List Str}{js:List (Option Nat)}{xs scope:Scope}{elt target iter:Expr}{ifs:List Expr}{pos:Pos}{wi:TI}{g:TG}{tc:TT}{te:TE}
theorem qj4 {a:List (Addr×Obj)}{σ σ':L2.St}{H H':Hp}{s d:Ad}{C:Addr}{h':Heap}(f:Inv X a σ H s)(J:Inv X a σ' H' d)(g:s.heap.objs.size<=C)(i:H' C=none)(j:CB C d.heap h'):Inv X a σ' H' {d with heap:=h'} :=
 J.turned (t':=d.toks) (it:=C) (λb o h e=>j.extBut b o h e) i (Ci (A0 f.lt g)) (.inr (A9 f.sz g))
  (λx c e=>by obtain⟨v,q⟩:=f.cell x c e;exact AE (A0 q.lt g)) λp k=>AE (A0 (AC (f.pin p k).1) g)
theorem qfk (O:X.calm=true)(K:X.N=XN)(c:X.env.scope=xs)(j:qk8 N js XN xs scope=true)(u:PI X target iter wi)
  (y:∀(a:List (Str×Addr))(C:Addr)(s:Ad)(H:Hp)(fp:List Addr)(E:Value->Ad->Prop),PG (qby X N scope a C s H fp E) target g)
  (R:∀(a:List (Str×Addr))(C:Addr)(s:Ad)(H:Hp)(fp:List Addr)(E:Value->Ad->Prop),PTs (qby X N scope a C s H fp E) ifs tc)
  (M:∀(a:List (Str×Addr))(C:Addr)(s:Ad)(H:Hp)(fp:List Addr)(E:Value->Ad->Prop),PE (qby X N scope a C s H fp E) elt te)
  (t:∀x,foldedSetIterable iter X.env x=pure x:=by intro _;rfl):PE X (.ListComp elt [⟨target,iter,ifs,0⟩] scope pos) (tComp js wi g tc te):=by
 intro b s σ H Q I h;have nm:=qja j;obtain⟨a,hcl,r,n⟩:=qho (env:=X.env) (scope:=scope) λx o e=>I.ok.has x.1 (by
  rcases nm.clos x o e with q|q
  .exact .inl (by show X.env.scope.names.lookup _=_;rw[c];exact q)
  .exact .inr (by show X.env.scope.names.lookup _=_;rw[c];exact q))
 rw[eval_ListComp];refine wpAny_comprehension_free (use:=none) rfl t hcl nm.kind nm.names (thn (u b s σ H _ I h) λv s1 L=>thn L λitv s2 z=>?_);obtain⟨it,fp,tn,J,H2,e,f,T,d,F,D⟩:=z;subst e;refine qk9 (RR:=λi C=>compPost (model X.prog X.w) X.A X.xe none (EP X b σ Q) i C) O K c nm r n y R M f T d F D λp C H' s' m B G P k q=>?_;exact⟨m,G,λh' l=>⟨.ref p,H',qj4 f B P k l,Z,q⟩⟩
theorem qla {i:Nat}{x:Str}{d f:Pos}(P:X.N.Nodup)(F:X.N[i]?=some x)(j:X.env.scope.names.lookup x=some .local)(hc:X.calm=true)(hN:X.N=XN)(n:X.env.scope=xs)(S:qk8 N js XN xs scope=true)(W:PI X target iter wi)
  (hg:∀(c:List (Str×Addr))(C:Addr)(s:Ad)(H:Hp)(fp:List Addr)(E:Value->Ad->Prop),PG (qby X N scope c C s H fp E) target g)
  (ht:∀(c:List (Str×Addr))(C:Addr)(s:Ad)(H:Hp)(fp:List Addr)(E:Value->Ad->Prop),PTs (qby X N scope c C s H fp E) ifs tc)
  (he:∀(c:List (Str×Addr))(C:Addr)(s:Ad)(H:Hp)(fp:List Addr)(E:Value->Ad->Prop),PE (qby X N scope c C s H fp E) elt te)
  (t:swapsWith (.ListComp elt [⟨target,iter,ifs,0⟩] scope pos) (some (.Name x d)) f.line X.env=pure true:=by rfl)
  (hs:∀x,foldedSetIterable iter X.env x=pure x:=by intro _;rfl):PS X (.Assign [.Name x d] (.ListComp elt [⟨target,iter,ifs,0⟩] scope pos) f) (qyy (tComp js wi g tc te) (qa8 i)):=by
 intro a s σ H D I h;have nm:=qja S;obtain⟨c,hcl,c1,V⟩:=qho (env:=X.env) (scope:=scope) λx hx e=>I.ok.has x.1 (by
  rcases nm.clos x hx e with q|q
  .exact .inl (by show X.env.scope.names.lookup _=_;rw[n];exact q)
  .exact .inr (by show X.env.scope.names.lookup _=_;rw[n];exact q))
 rw[exec_Assign_Name_used _ _ _ _ t];refine Az (En (Az ?_));show wpAny _ X.A (do let _ <- comprehension (.ListComp elt [⟨target,iter,ifs,0⟩] scope pos) scope X.env _ (newList []) false (eval iter X.env) (some (assign (.Name x d) X.env))) _ _ s;refine Az (BR (wpAny_comprehension_free (use:=some (assign (.Name x d) X.env)) (Q:=λ_ b=>SP X a D .next b) Z hs hcl nm.kind nm.names
  (thn (W a s σ H _ I h) λv s1 h1=>thn h1 λitv s2 h2=>?_)) (λ_ b hq=>Bf (Bf hq)) λ_ _ e=>e)
 obtain⟨it,fp,tn,J,H2,e,k,T,L,f2,Y⟩:=h2;subst e;refine qk9 (Q:=λx H1=>qa8 i x σ H1 D.nx) (RR:=λR C=>compPost (model X.prog X.w) X.A X.xe (some (assign (.Name x d) X.env)) (λ_ b=>SP X a D .next b) R C) hc hN n nm c1 V hg ht he k T L f2 Y λp C H' b m u hn l B q=>?_;obtain⟨o,es,ep,ho,G,hr⟩:=id hn;have Jp:Inv X (a++[(C,o)]) σ H' b:=u.pins_of λz hz=>(A7.mp hz).elim (λy=>u.pin z (A1 _ y)) λy=>by
  have e:z=(C,o):=by simpa using y
  subst e;exact⟨ho,B,Ci (A0 k.lt l),k.nofs l,λv z=>by rw[G]at z;cases z⟩
 refine thn (qag (X:=X) (pos:=d) P F (.inl j) (.inr j) (a++[(C,o)]) b σ H' (.ref p) (.ref p) _ Jp Z q) λ_ s'' ⟨σ'',r,K,O⟩=>?_;have M:=K.pin (C,o) (A1 _ (A1 _ (by simp)));refine⟨m,⟨o,es,ep,M.1,G,hr⟩,λh' U=>⟨σ'',r,qj4 k K.unpinned l M.2.1 U,O⟩⟩
end
def qnk (J:It)(H:Hp)(xs:List V):Prop:=∀H',Same H H'->(∀i x,xs[i]?=some x->J.go i H'/\∀y H2,J.yld i H' y H2->y=x/\H2=H')/\J.stop xs.length H'
theorem qd7 {K:Ah}{H:Hp}{a:Addr}{xs:List V}(h:SqL K H a xs):qnk (Itl K a) H xs:=λH' e =>
 ⟨λi x b=>⟨⟨xs,x,e.seq h,b⟩,λy H2 c=>by obtain⟨d,f⟩:=c;have:=f xs (e.seq h);rw[b]at this;exact⟨(AD this).symm,d⟩⟩,⟨xs,e.seq h,Al _⟩⟩
theorem qet {H:Hp}{lo:Int}{n:Nat}:qnk (Itr lo n) H ((Ao n).map λi=>V.int (lo+(i:Nat))):=λH' _ =>
 ⟨λi x a=>by
  rw[Ag]at a;cases q:(Ao n)[i]? with
  |none=>rw[q]at a;cases a
  |some j =>
   have c:i<n:=by obtain⟨f,_⟩:=Ac.mp q;simpa using f
   have e:j=i:=by obtain⟨_,d⟩:=Ac.mp q;simpa using d.symm
   rw[q]at a;subst e;exact⟨c,λy H2 b=>⟨b.2.trans (AD a),b.1⟩⟩,by show n<=_;simp⟩
theorem qg2 {js:List (Option Nat)}{g:TG}{n:TE}{J:It}{σ:L2.St}{H:Hp}{Q:VK}{xs:List V}(f:V->V)(c:L2.St->Prop)(F:qnk J H xs)(hz:xs.length<=A5)(B:c (qc8 js σ))
  (step:∀(x:V)(σ':L2.St)(H':Hp)(R:L2.St->VK),x∈xs->Same H H'->c σ'->(∀σ3,c σ3->R σ3 (f x) H')->g x σ' H' λσ3 h=>n σ3 h (R σ3))
  (y:∀(x:V)(σ':L2.St)(H':Hp)(R k:L2.St->Hp->Prop),(∀σ3 h,R σ3 h->k σ3 h)->g x σ' H' R->g x σ' H' k)
  (l:∀p,H p=none->Q (.ref p) (upd H p (.lst (xs.map f)))) :
  qjb js g qs3 n σ Q J H:=by
 intro p t;have s:∀o,Same H (upd H p o):=λo b u e=>by rw[qr (qae e t)];exact e
 refine⟨λi m σ' H'=>m=xs.length-i/\i<=xs.length/\c σ'/\H'=upd H p (.lst ((xs.take i).map f)),⟨xs.length,by simp,AQ _,B,by simp⟩,?_⟩;rintro i m σ' H' ⟨rfl,hi,E,rfl⟩;obtain⟨w,D⟩:=F _ (s (.lst ((xs.take i).map f)));by_cases d:i<xs.length
 .have ex:xs[i]?=some xs[i]:=by simp[d]
  obtain⟨G,A⟩:=w i _ ex;refine .inr ⟨G,λσ2 j=>c σ2/\j=upd H p (.lst ((xs.take (i+1)).map f)),λσ2 j ⟨a,b⟩=>⟨xs.length-(i+1),by lia,Z,d,a,b⟩,λx j C=>?_⟩;obtain⟨rfl,rfl⟩:=A x j C;refine y _ _ _ _ _ (λσ3 h z=>?_) (step xs[i] σ' _ (λσ3 v r=>∃ys,r p=some (.lst ys)/\ys.length<A5/\(c σ3/\upd r p (.lst (ys++[v]))=upd H p (.lst ((xs.take (i+1)).map f)))) (BV d) (s _) E λσ3 q=>?_)
  .exact z
  .refine⟨_,qk,?_,q,?_⟩
   .rw[Ab,Bj];lia
   .rw[qsx,B0,ex,Ar];rfl
 .have e:i=xs.length:=by lia
  subst e;refine .inl ⟨D,?_⟩;rw[Bw];exact l p t
theorem qeu {i:Nat}(x:V)(σ':L2.St)(H':Hp)(R a:L2.St->Hp->Prop)(h:∀σ3 H3,R σ3 H3->a σ3 H3)(z:qa8 i x σ' H' R):qa8 i x σ' H' a:=h _ _ z
section
variable {X:Cx}{tg:Expr}
end
section
variable {X:Cx}
theorem qpr {a b}{es:List Expr}{env:Env}:starEach (.List a b::es) env=(false,eval (.List a b) env)::starEach es env:=by rw[starEach];intro e p' h;cases h
theorem zo {a b c}{es:List Expr}{env:Env}:starEach (.Tuple a b c::es) env=(false,eval (.Tuple a b c) env)::starEach es env:=by rw[starEach];intro e p' h;cases h
theorem qwe {a b c d}{es:List Expr}{env:Env}:starEach (.ListComp a b c d::es) env=(false,eval (.ListComp a b c d) env)::starEach es env:=by rw[starEach];intro e p' h;cases h
theorem ql {a b c}{es:List Expr}{env:Env}:starEach (.Constant a b c::es) env=(false,eval (.Constant a b c) env)::starEach es env:=by rw[starEach];intro e p' h;cases h
theorem qe {a b}{es:List Expr}{env:Env}:starEach (.Name a b::es) env=(false,eval (.Name a b) env)::starEach es env:=by rw[starEach];intro e p' h;cases h
theorem zl {a b c d}{es:List Expr}{env:Env}:starEach (.Call a b c d::es) env=(false,eval (.Call a b c d) env)::starEach es env:=by rw[starEach];intro e p' h;cases h
theorem zm {a b c d}{es:List Expr}{env:Env}:starEach (.BinOp a b c d::es) env=(false,eval (.BinOp a b c d) env)::starEach es env:=by rw[starEach];intro e p' h;cases h
theorem zn {a b c}{es:List Expr}{env:Env}:starEach (.Subscript a b c::es) env=(false,eval (.Subscript a b c) env)::starEach es env:=by rw[starEach];intro e p' h;cases h
theorem qan {a b c}{es:List Expr}{env:Env}:starEach (.Attribute a b c::es) env=(false,eval (.Attribute a b c) env)::starEach es env:=by rw[starEach];intro e p' h;cases h
theorem qwf {a b c d}{es:List Expr}{env:Env}:starEach (.IfExp a b c d::es) env=(false,eval (.IfExp a b c d) env)::starEach es env:=by rw[starEach];intro e p' h;cases h
end
section
variable {K:Ah}
theorem qps:AR K (.type "str") (.type "str")=some true:=by kernel_rfl
end
section
variable {prog:AK}{w:World}{A:AO}{E:Value->Ad->Prop}{h:Heap}{g:Array Et}{d:Drawn}{t:Nat}{os:OsState}
variable {nm q:Str}{C N:Addr}{bs bm bmB:List Value}{hdct:Bool}{sn:List Str}{sub:List Value}{ab:Bool}{col:Option Bool}{dd:Option Addr}{k0 k1 k2 k3 k5:Option Value}{B Bn newId nid initId inN:String}{bmN:List Value}
end
section
open PySem.W
variable {prog:AK}{w:World}{A:AO}{E:Value->Ad->Prop}{s:Ad}{K:Frag}{x C:Addr}{ox:Obj}{od:Option Obj}{name:Str}{expr:Bool}
end
section
open PySem.W
variable {prog:AK}{w:World}{A:AO}{E:Value->Ad->Prop}{s:Ad}{K:Frag}{x C:Addr}{ox:Obj}{od:Option Obj}{name:Str}{expr:Bool}
end
section
open PySem.W
variable {prog:AK}{w:World}{A:AO}{E:Value->Ad->Prop}{s:Ad}{K:Frag}{x C:Addr}{o:Obj}{name:Str}{v:Value}
end
section
variable {prog:AK}{w:World}{A:AO}{E:Value->Ad->Prop}{K:Ah}{C fI:Addr}{s:Ad}{qb9:List Value}
end
section
variable {P:AK}{w:World}{H:Hp}{h:Heap}{x C dx:Addr}{od:Option Addr}{fr:Bool}{fs:List (Str×V)}
end
section
variable {X:Cx}{pins:List (Addr×Obj)}{σ:L2.St}{H:Hp}{s:Ad}{A:AO}{E:Value->Ad->Prop}
variable {CX:CXT}{k:Nat}{f:Addr}{fd:Aw}{ps:List Str}{sp:Sp}{ds:List Value}{dvs:List V}{EX:XK}
end
section
variable {X:Cx}{pins:List (Addr×Obj)}{σ:L2.St}{H:Hp}{s:Ad}{E:Value->Ad->Prop}
end
section
variable {X:Cx}
theorem qpt:∀{x:V},qb2 x=true->eqV x x=true
 |.non,_=>rfl
 |.bl b,_=>by cases b <;>rfl
 |.int i,_=>by simp[eqV]
 |.str y,_=>by simp[eqV]
 |.byt _,h=>by simp[qb2]at h
 |.flt _,h=>by simp[qb2]at h
 |.ref _,h=>by simp[qb2]at h
 |.ty _,h=>by simp[qb2]at h
end
noncomputable def xNo (K:Ah)(C:Addr)(ns:List Str):Bool:=ns.all λn=>Be K (.ref C) n == some none
theorem qp {K:Ah}{C:Addr}{a:List Str}{n:Str}(h:xNo K C a=true)(m:n∈a):Be K (.ref C) n=some none:=beq_iff_eq.mp (C4.mp h n m)
structure MethAt (K:Ah)(x qual:Str)(st:Stmt)(ps:List Str)(f:Addr)(fd:Aw):Prop where
 fn:Fun K x qual st f fd
 bd:Binds K fd ps []
 ty:C7 K (.ref f)=some (.type "function")
section
variable {X:Cx}{K:Ah}
theorem qod {e:Expr}{f:Str}{pos:Pos}{a:TE}(d:X.K=K)(b:PE X e a)(c:attributeBase e f X.env (eval e X.env)=eval e X.env):PE X (.Attribute e f pos) (tFld K a f):=d ▸ qab b c
end
section
variable {M:Model}{A:AO}{E:Value->Ad->Prop}{s:Ad}{base:Heap}{env:Env}{outer:List Env}{L x C:Addr}{od:Option Addr}{vs:Array Value}{sl:Array (Option Value)}
end
section
variable {X:Cx}{pins:List (Addr×Obj)}{σ:L2.St}{H:Hp}{s:Ad}{E:Value->Ad->Prop}{x C:Addr}{od:Option Addr}
end
section
variable {P:AK}{w:World}{K:Ah}{mg:Str->Option Value}{base:Heap}
end
section
variable {X:Cx}{k:Nat}{f C:Addr}{fd:Aw}{ps:List Str}{sp:Sp}{dvs:List V}{ds:List Value}{EX:L2.St->XK}{x m:Str}{p pos apos:Pos}{e o:Expr}{es:List Expr}{ta:TE}{t:TA}
end
noncomputable abbrev _root_.L2.Cx.tr (X:Cx)(pins:List (Addr×Obj))(W:Value->Ad->Prop):Cx:={X with pn:=X.pn++pins,xe:=W}
section
variable {X:Cx}{pins pins':List (Addr×Obj)}{σ:L2.St}{H:Hp}{s:Ad}{W:Value->Ad->Prop}{e:Value}
end
abbrev TH:=Ends->L2.St->Addr->Addr->Option Addr->Hp->Prop
section
variable {X:Cx}{pins:List (Addr×Obj)}{σ:L2.St}{H:Hp}{s:Ad}{E:Value->Ad->Prop}
end
def PC (X:Cx)(t:Expr)(c:Value):Prop:=∀(e:Value)(E:Value->Ad->Prop)(pins:List (Addr×Obj))(s:Ad)(σ:L2.St)(H:Hp)(Q:Value->Ad->Prop),Inv X pins σ H s->Q c s->wpAny (model X.prog X.w) (X.A.mark (some e)) (eval t X.env) Q E s
section
variable {X:Cx}{t:Expr}{b₀:Stmt}{body:List Stmt}{pos:Pos}{qb9:List ExceptHandler}{c:Value}{ts:Addr->TS}{tr:TH}
end
section
variable {X:Cx}
theorem qwg {e:Expr}:PE X e λ_ _ _=>False:=λ_ _ _ _ _ _ h=>h.elim
end
noncomputable abbrev TJ:=Str->TE
section
variable {X:Cx}{e:Expr}{es:List Expr}{te:TE}{tj:TJ}{pos:Pos}
end
open Builtin Builtin.Str
section
variable {X:Cx}
end
end Add
namespace Add
open PySem PySem.Spec PyProof.Rows L2
section
variable {K:Ah}{C f:Addr}{m:Str}
noncomputable def qmt (K:Ah)(C:Addr):Bool:=Db K C Ba && Dv K C && Eg K C && (Be K (.ref C) "__setattr__" == some (some (.builtin "object.__setattr__")))
theorem qgf (h:qmt K C=true):Cls K C:=by unfold qmt at h;simp only[B4,beq_iff_eq]at h;obtain⟨⟨⟨d,a⟩,c⟩,b⟩:=h;exact⟨d,a,c,b⟩
noncomputable def mkB (K:Ah)(C f:Addr):Bool:=PySem.W.makesIn K C && (Be K (.ref C) "__init__" == some (some (.ref f))) && DW K (.ref f) && Br K (.ref C)
theorem qj5 (h:mkB K C f=true):Mk K C f:=by unfold mkB at h;simp only[B4,beq_iff_eq]at h;obtain⟨⟨⟨d,a⟩,c⟩,b⟩:=h;exact⟨d,a,c,b⟩
noncomputable def qaw (K:Ah)(C:Addr)(m:Str)(f:Addr):Bool:=(Be K (.ref C) m == some (some (.ref f))) && DW K (.ref f) && Br K (.ref f)
theorem qaj (h:qaw K C m f=true):Meth K C m f:=by unfold qaw at h;simp only[B4,beq_iff_eq]at h;obtain⟨⟨a,c⟩,b⟩:=h;exact⟨a,c,b⟩
end
open Builtin Builtin.Str
section
variable {X:Cx}
end
end Add
namespace Add
open PySem PySem.Spec PyProof.Rows L2
open Builtin Builtin.Str
end Add
namespace Add
open PySem PySem.Spec PyProof.Rows L2
theorem qai {H H':Hp}{p:Addr}{o:HO}(s:Same H H')(n:H p=none):Same H (upd H' p o):=λb u e=>by rw[qr (qae e n)];exact s _ _ e
theorem qnl {js:List (Option Nat)}{g:TG}{u:TE}{J:It}{σ:L2.St}{H:Hp}{Q:VK}{xs:List V}(f:V->V)(h:L2.St->Prop)(F:qnk J H xs)(hz:xs.length<=A5)(C:h (qc8 js σ))
  (step:∀(x:V)(σ':L2.St)(H':Hp)(R:L2.St->VK),x∈xs->Same H H'->h σ'->(∀σ3 d,h σ3->Same H' d->R σ3 (f x) d)->g x σ' H' λσ3 l=>u σ3 l (R σ3))
  (A:∀(x:V)(σ':L2.St)(H':Hp)(R r:L2.St->Hp->Prop),(∀σ3 l,R σ3 l->r σ3 l)->g x σ' H' R->g x σ' H' r)
  (t:∀p H',H p=none->Same H H'->H' p=some (.lst (xs.map f))->Q (.ref p) H') :
  qjb js g qs3 u σ Q J H:=by
 intro p q;refine⟨λi m σ' H'=>m=xs.length-i/\i<=xs.length/\h σ'/\Same H H'/\H' p=some (.lst ((xs.take i).map f)),⟨xs.length,by simp,AQ _,C,qai (Same.refl H) q,by rw[qk];rfl⟩,?_⟩;rintro i m σ' H' ⟨rfl,hi,G,n,o⟩;obtain⟨y,E⟩:=F _ n;by_cases k:i<xs.length
 .have ex:xs[i]?=some xs[i]:=by simp[k]
  obtain⟨I,B⟩:=y i _ ex;refine .inr ⟨I,λσ2 j=>h σ2/\Same H j/\j p=some (.lst ((xs.take (i+1)).map f)),λσ2 j ⟨a,b,c⟩=>⟨xs.length-(i+1),by lia,Z,k,a,b,c⟩,λx j D=>?_⟩;obtain⟨rfl,rfl⟩:=B x j D;refine A _ _ _ _ _ (λσ3 l z=>?_) (step xs[i] σ' _ (λσ3 v d=>∃ys,d p=some (.lst ys)/\ys.length<A5/\(h σ3/\Same H (upd d p (.lst (ys++[v])))/\upd d p (.lst (ys++[v])) p=some (.lst ((xs.take (i+1)).map f)))) (BV k) n G λσ3 d w s=>?_)
  .exact z
  .refine⟨_,s _ _ o,?_,w,qai (n.trans s) q,?_⟩
   .rw[Ab,Bj];lia
   .rw[qk,B0,ex,Ar];rfl
 .have e:i=xs.length:=by lia
  subst e;refine .inl ⟨E,?_⟩;rw[Bw]at o;exact t p _ q n o
theorem qnm {js:List (Option Nat)}{g:TG}{w:TT}{t:TE}{J:It}{σ:L2.St}{H:Hp}{Q:VK}{xs:List V}(b:V->Bool)(f:V->V)(c:L2.St->Prop)(F:qnk J H xs)(hz:xs.length<=A5)(G:c (qc8 js σ))
  (step:∀(x:V)(σ':L2.St)(H':Hp)(N:L2.St->Hp->Prop)(R:L2.St->VK),x∈xs->Same H H'->c σ'->(∀σ3,c σ3->b x=false->N σ3 H')->(∀σ3,c σ3->b x=true->R σ3 (f x) H') ->
   g x σ' H' λσ3 l=>w σ3 l λk q=>if k=true then t σ3 q (R σ3) else N σ3 q)
  (D:∀(x:V)(σ':L2.St)(H':Hp)(R r:L2.St->Hp->Prop),(∀σ3 l,R σ3 l->r σ3 l)->g x σ' H' R->g x σ' H' r)
  (s:∀p,H p=none->Q (.ref p) (upd H p (.lst ((xs.filter b).map f)))) :
  qjb js g w t σ Q J H:=by
 intro p B;have A:∀o,Same H (upd H p o):=λo=>qai (Same.refl H) B;have I:∀i,((xs.take i).filter b).length<=i:=λi=>A9 (CU b (xs.take i)) (by rw[Bj];lia);refine⟨λi m σ' H'=>m=xs.length-i/\i<=xs.length/\c σ'/\H'=upd H p (.lst (((xs.take i).filter b).map f)),⟨xs.length,by simp,AQ _,G,by simp⟩,?_⟩;rintro i m σ' H' ⟨rfl,hi,M,rfl⟩;obtain⟨C,L⟩:=F _ (A (.lst (((xs.take i).filter b).map f)));by_cases h:i<xs.length
 .have ex:xs[i]?=some xs[i]:=by simp[h]
  obtain⟨O,E⟩:=C i _ ex;have u:(xs.take (i+1)).filter b=(xs.take i).filter b++(if b xs[i]=true then [xs[i]] else []):=by
   rw[B0,ex,Ch]
   congr 1
   show List.filter b [xs[i]]=_;rw[DD];rfl
  refine .inr ⟨O,λσ2 d=>c σ2/\d=upd H p (.lst (((xs.take (i+1)).filter b).map f)),λσ2 d ⟨a,b⟩=>⟨xs.length-(i+1),by lia,Z,h,a,b⟩,λx d K=>?_⟩;obtain⟨rfl,rfl⟩:=E x d K;refine D _ _ _ _ _ (λσ3 l z=>?_) (step xs[i] σ' _ (λσ2 d=>c σ2/\d=upd H p (.lst (((xs.take (i+1)).filter b).map f))) (λσ3 v y=>∃ys,y p=some (.lst ys)/\ys.length<A5/\(c σ3/\upd y p (.lst (ys++[v]))=upd H p (.lst (((xs.take (i+1)).filter b).map f)))) (BV h) (A _) M (λσ3 j n=>?_) λσ3 j n=>?_)
  .exact z
  .refine⟨j,?_⟩;rw[u,n];simp
  .refine⟨_,qk,?_,j,?_⟩
   .rw[Ab];have:=I i;lia
   .rw[qsx,u,n,if_pos Z,Ar];rfl
 .have e:i=xs.length:=by lia
  subst e;refine .inl ⟨L,?_⟩;rw[Bw];exact s p B
end Add
namespace Wri
open PySem PySem.Spec PyProof.Rows PySem.W PySem.W.KIN PySem.NumText
noncomputable def plain (x:Str):Bool:=decide (x=Aa "0") || !decide (x.cps.toList.head?=some 48)
end Wri
namespace Add
open PySem PySem.Spec PyProof.Rows L2
inductive Tups (H:Hp):List V->List (List V)->Prop where
 |nil:Tups H [] []
 |cons {a:Addr} {r vs:List V} {rs:List (List V)} (h:H a=some (.tup r)) (t:Tups H vs rs):Tups H (.ref a::vs) (r::rs)
theorem Tups.same {H H':Hp}{vs:List V}{rs:List (List V)}(t:Tups H vs rs)(s:Same H H'):Tups H' vs rs:=by
 induction t with
 |nil=>exact .nil
 |cons h _ ih=>exact .cons (s _ _ h) ih
theorem Tups.length {H:Hp}{vs:List V}{rs:List (List V)}(t:Tups H vs rs):vs.length=rs.length:=by
 induction t with
 |nil=>rfl
 |cons _ _ ih=>rw[AG,AG,ih]
theorem Tups.get {H:Hp}{vs:List V}{rs:List (List V)}(t:Tups H vs rs):∀{i:Nat}{r:List V},rs[i]?=some r->∃a,vs[i]?=some (.ref a)/\H a=some (.tup r):=by
 induction t with
 |nil=>intro i r h;cases i <;>cases h
 |cons h _ ih =>
  intro i r' h';cases i with|zero=>cases h';exact⟨_,Z,h⟩|succ i=>exact ih (i:=i) h'
theorem Tups.get' {H:Hp}{vs:List V}{rs:List (List V)}(t:Tups H vs rs){i:Nat}{v:V}(h:vs[i]?=some v):∃a r,v=.ref a/\rs[i]?=some r/\H a=some (.tup r):=by
 have b:i<rs.length:=by rw[<- t.length];exact(Ac.mp h).1
 obtain⟨a,e,q⟩:=t.get (i:=i) (r:=rs[i]) (by simp[b]);rw[h]at e;cases e;exact⟨a,_,Z,by simp[b],q⟩
theorem Tups.app {H:Hp}{vs us:List V}{rs ts:List (List V)}(t:Tups H vs rs)(u:Tups H us ts):Tups H (vs++us) (rs++ts):=by
 induction t with
 |nil=>exact u
 |cons h _ ih=>exact .cons h ih
theorem Tups.snoc {H:Hp}{vs:List V}{rs:List (List V)}{a:Addr}{r:List V}(t:Tups H vs rs)(h:H a=some (.tup r)):Tups H (vs++[.ref a]) (rs++[r]):=t.app (.cons h .nil)
theorem Tups.take {H:Hp}{vs:List V}{rs:List (List V)}(t:Tups H vs rs):∀n,Tups H (vs.take n) (rs.take n):=by
 induction t with
 |nil=>intro n;rw[List.take_nil,List.take_nil];exact .nil
 |cons h _ ih =>
  intro n;cases n with|zero=>exact .nil|succ n=>exact .cons h (ih n)
theorem Tups.drop {H:Hp}{vs:List V}{rs:List (List V)}(t:Tups H vs rs):∀n,Tups H (vs.drop n) (rs.drop n):=by
 induction t with
 |nil=>intro n;rw[List.drop_nil,List.drop_nil];exact .nil
 |cons h t ih =>
  intro n;cases n with|zero=>exact .cons h t|succ n=>exact ih n
theorem Tups.upd {H:Hp}{vs:List V}{rs:List (List V)}{p:Addr}{xs:List V}{o:HO}(t:Tups H vs rs)(a:H p=some (.lst xs)):Tups (L2.upd H p o) vs rs:=by
 induction t with
 |nil=>exact .nil
 |cons h _ ih=>exact .cons (by rw[qr (λz=>by rw[z,a]at h;cases h)];exact h) ih
theorem Tups.setLast {H:Hp}{vs:List V}{rs:List (List V)}{v:V}{r b:List V}{a:Addr}(t:Tups H (vs++[v]) (rs++[r]))(h:H a=some (.tup b)):Tups H (vs++[.ref a]) (rs++[b]):=by have:=t.take vs.length;have c:=t.length;simp only[Af,AG,DR]at c;rw[List.take_left,show vs.length=rs.length by lia,List.take_left]at this;exact this.snoc h
section
variable {X:Cx}
theorem qkm {a:Addr}{u:Value}(r:RelV (.ref a) u):u=.ref a:=by cases r;rfl
theorem qkn {K:Ah}(h:X.K=K):IxR X (rIxT K):=by subst h;exact zq
theorem qpu {K:Ah}(h:X.K=K):IxR X (rIxL K):=by subst h;exact zr
end
end Add
namespace Lay
section
variable {W:Type}[DecidableEq W]
noncomputable abbrev Row (W:Type):=Int×Int×W
noncomputable def qba (a:W)(rs:List (Row W))(d:Int):W:=rs.foldl (λa r=>if r.1<=d/\d<=r.2.1 then r.2.2 else a) a
noncomputable def cnt (es:List Int)(d:Int):Nat:=(es.filter λe=>decide (e<d)).length
noncomputable abbrev ends (rs:List (Row W)):List Int:=rs.map λr=>r.2.1
structure Dis (rs:List (Row W)):Prop where
 ok:∀r∈rs,r.1<=r.2.1
 pw:rs.Pairwise λr s=>r.2.1<s.1
noncomputable def left (rs:List (Row W))(f:Int):List (Row W):=rs.filterMap λr=>if r.1<f then some (r.1,min r.2.1 (f-1),r.2.2) else none
noncomputable def right (rs:List (Row W))(l:Int):List (Row W):=rs.filterMap λr=>if l<r.2.1 then some (max r.1 (l+1),r.2.1,r.2.2) else none
noncomputable def over (rs:List (Row W))(f l:Int)(w:W):List (Row W):=left rs f++(f,l,w)::right rs l
theorem qrq:∀{es:List Int}{d:Int}{k:Nat},k<=es.length->(∀i e,es[i]?=some e->i<k->e<d)->(∀i e,es[i]?=some e->k<=i->¬e<d)->cnt es d=k
 | [],d,k,hk,_,_=>by
  have:k=0:=by simpa using hk
  subst this;rfl
 |e::es,d,0,_,h1,h2=>by have b:=qrq (es:=es) (d:=d) (k:=0) (AQ _) (λ_ _ _ z=>absurd z (Bg _)) λi x a _=>h2 (i+1) x a (AQ _);have c:=h2 0 e rfl (Al _);unfold cnt at b |-;rw[DD,if_neg (by simpa using c)];exact b
 |e::es,d,k+1,hk,h1,h2=>by have b:=qrq (es:=es) (d:=d) (k:=k) (by simpa using hk) (λi x a z=>h1 (i+1) x a (by lia)) λi x a z=>h2 (i+1) x a (by lia);have c:=h1 0 e rfl (by lia);unfold cnt at b |-;rw[DD,if_pos (by simpa using c),AG,b]
theorem qd8 (e:Int)(es:List Int)(d:Int):cnt (e::es) d=if e<d then cnt es d+1 else cnt es d:=by unfold cnt;rw[DD];by_cases h:e<d <;>simp[h]
theorem qoe (es:List Int)(d:Int):cnt es d<=es.length:=CU _ _
theorem qid {es:List Int}{d:Int}(h:∀e∈es,¬e<d):cnt es d=0:=by unfold cnt;rw[List.filter_eq_nil_iff.mpr (λe a=>by simpa using h e a)];rfl
theorem Dis.tail {r:Row W}{rs:List (Row W)}(h:Dis (r::rs)):Dis rs:=⟨λs a=>h.ok s (Ay _ a),(Bs.mp h.pw).2⟩
theorem Dis.later {r:Row W}{rs:List (Row W)}(h:Dis (r::rs)){s:Row W}(a:s∈rs):r.2.1<s.1/\s.1<=s.2.1:=⟨(Bs.mp h.pw).1 s a,h.ok s (Ay _ a)⟩
theorem qwh {rs:List (Row W)}{f:Int}(h:∀s∈rs,¬s.1<f):left rs f=[]:=by unfold left;rw[List.filterMap_eq_nil_iff];intro s a;rw[if_neg (h s a)]
theorem qjc:∀{rs:List (Row W)}(f:Int),Dis rs->left rs f=rs.take (cnt (ends rs) f)++(match rs[cnt (ends rs) f]? with|some r=>if r.1<f then [(r.1,f-1,r.2.2)] else [] | none=>[])
 | [],f,_=>rfl
 |r::rs,f,h=>by
  have k:=h.ok r Am;by_cases c:r.2.1<f
  .have e:cnt (ends (r::rs)) f=cnt (ends rs) f+1:=by rw[show ends (r::rs)=r.2.1::ends rs from Z,qd8,if_pos c]
   have l:=qjc f h.tail;rw[e,List.take_succ_cons,Dt,List.cons_append,<- l];show Dz _ (r::rs)=_;have g:min r.2.1 (f-1)=r.2.1:=Int.min_eq_left (Int.le_sub_one_of_lt c);rw[BF (b:=r) (by rw[if_pos (Ec k c),g])];rfl
  .have e:cnt (ends (r::rs)) f=0:=qid λx j=>by
    obtain⟨s,a,rfl⟩:=AU.mp j
    rcases Av.mp a with rfl|a
    .exact c
    .exact λz=>c (CF (Bb (h.later a).1 (h.later a).2) z)
   have i:left rs f=[]:=qwh λs a z=>c (CF (h.later a).1 z)
   rw[e,D3,List.nil_append,List.getElem?_cons_zero]
   show Dz _ (r::rs)=_
   by_cases d:r.1<f
   .have g:min r.2.1 (f-1)=f-1:=Int.min_eq_right (Bm (Dc (Int.sub_lt_self f Uk)) (B2.mp c));rw[BF (b:=(r.1,f-1,r.2.2)) (by rw[if_pos d,g])];show _::left rs f=_;rw[i];exact(if_pos d).symm
   .rw[CH (by rw[if_neg d])];show left rs f=_;rw[i];exact(if_neg d).symm
theorem qnn:∀{rs:List (Row W)}{l:Int},(∀s∈rs,l<s.1/\s.1<=s.2.1)->right rs l=rs
 | [],_,_=>rfl
 |r::rs,l,h=>by have a:=h r Am;have c:=qnn (l:=l) λs e=>h s (Ay _ e);show Dz _ (r::rs)=_;have d:max r.1 (l+1)=r.1:=Int.max_eq_left a.1;rw[BF (b:=r) (by rw[if_pos (Bb a.1 a.2),d])];show r::right rs l=_;rw[c]
theorem qhp:∀{rs:List (Row W)}(l:Int),Dis rs->right rs l=(match rs[cnt (ends rs) (l+1)]? with|some r=>if r.1<=l then (l+1,r.2.1,r.2.2)::rs.drop (cnt (ends rs) (l+1)+1) else rs.drop (cnt (ends rs) (l+1))|none=>[])
 | [],l,_=>rfl
 |r::rs,l,h=>by
  have h0:=h.ok r Am;by_cases c:r.2.1<l+1
  .have e:cnt (ends (r::rs)) (l+1)=cnt (ends rs) (l+1)+1:=by rw[show ends (r::rs)=r.2.1::ends rs from Z,qd8,if_pos c]
   have j:=qhp l h.tail;rw[e,Dt,List.drop_succ_cons,List.drop_succ_cons,<- j];show Dz _ (r::rs)=_;rw[CH (by rw[if_neg (B2.mpr (DM c))])];rfl
  .have e:cnt (ends (r::rs)) (l+1)=0:=qid λx i=>by
    obtain⟨s,a,rfl⟩:=AU.mp i
    rcases Av.mp a with rfl|a
    .exact c
    .exact λz=>c (CF (Bb (h.later a).1 (h.later a).2) z)
   have g:right rs l=rs:=qnn λs a=>⟨CF (B2.mp c) (h.later a).1,(h.later a).2⟩
   rw[e,List.getElem?_cons_zero]
   show Dz _ (r::rs)=if r.1<=l then (l+1,r.2.1,r.2.2)::rs else r::rs
   by_cases d:r.1<=l
   .have f:max r.1 (l+1)=l+1:=Int.max_eq_right (Ed d);rw[BF (b:=(l+1,r.2.1,r.2.2)) (by rw[if_pos (show l<r.2.1 from B2.mp c),f]),if_pos d];show _::right rs l=_;rw[g]
   .have f:max r.1 (l+1)=r.1:=Int.max_eq_left (Int.not_le.mp d);rw[BF (b:=r) (by rw[if_pos (show l<r.2.1 from B2.mp c),f]),if_neg d];show _::right rs l=_;rw[g]
theorem qd9 (a:W)(rs b:List (Row W))(d:Int):qba a (rs++b) d=qba (qba a rs d) b d:=by unfold qba;rw[CY]
theorem qb7 (a:W)(r:Row W)(rs:List (Row W))(d:Int):qba a (r::rs) d=qba (if r.1<=d/\d<=r.2.1 then r.2.2 else a) rs d:=rfl
theorem qjd:∀(a:W)(rs:List (Row W))(f d:Int),qba a (left rs f) d=if d<f then qba a rs d else a
 |a,[],f,d=>by show a=if d<f then a else a;split <;>rfl
 |a,r::rs,f,d=>by
  by_cases c:r.1<f
  .have e:left (r::rs) f=(r.1,min r.2.1 (f-1),r.2.2)::left rs f:=BF (by rw[if_pos c]);rw[e,qb7,qjd];by_cases q:d<f
   .rw[if_pos q,if_pos q,qb7];have hz:(r.1<=d/\d<=min r.2.1 (f-1))↔(r.1<=d/\d<=r.2.1):=and_congr_right λ_=>⟨λz=>Bm z (Int.min_le_left _ _),λz=>Int.le_min.mpr ⟨z,Int.le_sub_one_of_lt q⟩⟩;simp only[hz]
   .rw[if_neg q,if_neg q,if_neg (show ¬(r.1<=d/\d<=min r.2.1 (f-1)) from λz=>q (Int.lt_of_le_sub_one (Bm z.2 (Int.min_le_right _ _))))]
  .have e:left (r::rs) f=left rs f:=CH (by rw[if_neg c]);rw[e,qjd];by_cases q:d<f
   .rw[if_pos q,if_pos q,qb7,if_neg (λz=>c (Ec z.1 q))]
   .rw[if_neg q,if_neg q]
theorem qhq:∀(a:W)(rs:List (Row W))(l d:Int),qba a (right rs l) d=if l<d then qba a rs d else a
 |a,[],l,d=>by show a=if l<d then a else a;split <;>rfl
 |a,r::rs,l,d=>by
  by_cases c:l<r.2.1
  .have e:right (r::rs) l=(max r.1 (l+1),r.2.1,r.2.2)::right rs l:=BF (by rw[if_pos c]);rw[e,qb7,qhq];by_cases q:l<d
   .rw[if_pos q,if_pos q,qb7];have hz:(max r.1 (l+1)<=d/\d<=r.2.1)↔(r.1<=d/\d<=r.2.1):=and_congr_left λ_=>⟨λz=>Bm (Int.le_max_left _ _) z,λz=>Int.max_le.mpr ⟨z,q⟩⟩;simp only[hz]
   .rw[if_neg q,if_neg q,if_neg (show ¬(max r.1 (l+1)<=d/\d<=r.2.1) from λz=>q (Bm (Int.le_max_right _ _) z.1))]
  .have e:right (r::rs) l=right rs l:=CH (by rw[if_neg c]);rw[e,qhq];by_cases q:l<d
   .rw[if_pos q,if_pos q,qb7,if_neg (λz=>c (Bb q z.2))]
   .rw[if_neg q,if_neg q]
theorem quo (a:W)(rs:List (Row W)){f l:Int}(w:W)(h:f<=l)(d:Int):qba a (over rs f l w) d=if f<=d/\d<=l then w else qba a rs d:=by
 unfold over;rw[qd9,qb7,qjd,qhq];by_cases b:d<f
 .rw[if_pos b,if_neg (B2.mpr (Bm (Dc b) h)),if_neg (show ¬(f<=d/\d<=l) from λz=>B2.mpr z.1 b)]
 .by_cases c:l<d
  .rw[if_neg b,if_pos c,if_neg (show ¬(f<=d/\d<=l) from λz=>B2.mpr z.2 c)];exact(if_neg (show ¬(f<=d/\d<=l) from λz=>B2.mpr z.2 c)).symm
  .rw[if_neg b,if_neg c,if_pos (show f<=d/\d<=l from ⟨B2.mp b,B2.mp c⟩)];exact(if_pos (show f<=d/\d<=l from ⟨B2.mp b,B2.mp c⟩)).symm
theorem qpv {rs:List (Row W)}{f l:Int}(w:W)(h:Dis rs)(n:f<=l):Dis (over rs f l w):=by
 have p:∀r∈left rs f,r.1<=r.2.1/\r.2.1<f:=λr i=>by
  obtain⟨s,m,e⟩:=BS.mp i;have:=h.ok s m;split at e
  .injection e with e;subst e;show s.1<=min s.2.1 (f-1)/\min s.2.1 (f-1)<f;lia
  .cases e
 have i:∀r∈right rs l,r.1<=r.2.1/\l<r.1:=λr i=>by
  obtain⟨s,m,e⟩:=BS.mp i;have:=h.ok s m;split at e
  .injection e with e;subst e;show max s.1 (l+1)<=s.2.1/\l<max s.1 (l+1);lia
  .cases e
 refine⟨λr g=>?_,?_⟩
 .rcases A7.mp g with g|g
  .exact(p r g).1
  .rcases Av.mp g with rfl|g
   .exact n
   .exact(i r g).1
 .refine Bk.mpr ⟨?_,Bs.mpr ⟨λr g=>(i r g).2,?_⟩,λa q b k=>?_⟩
  .refine List.pairwise_filterMap.mpr (h.pw.imp λ{r s} j x c y d=>?_);split at c
   .split at d
    .injection c with c;injection d with d;subst c;subst d;exact Ec (Int.min_le_left _ _) j
    .cases d
   .cases c
  .refine List.pairwise_filterMap.mpr (h.pw.imp λ{r s} j x c y d=>?_);split at c
   .split at d
    .injection c with c;injection d with d;subst c;subst d;exact Bb j (Int.le_max_left _ _)
    .cases d
   .cases c
  .have o:=p a q;rcases Av.mp k with rfl|k
   .exact o.2
   .exact CF (Bb o.2 n) (i b k).2
noncomputable def jn1 (told:List (Row W))(r:Row W):List (Row W):=match told.getLast? with
 |some t=>if t.2.2=r.2.2/\t.2.1+1=r.1 then told.dropLast++[(t.1,r.2.1,r.2.2)] else told++[r]
 |none=>told++[r]
def Nx (r s:Row W):Prop:=r.2.1<s.1/\(s.1=r.2.1+1->r.2.2≠s.2.2)
structure Ap (rs:List (Row W)):Prop where
 ok:∀r∈rs,r.1<=r.2.1
 nx:∀i r s,rs[i]?=some r->rs[i+1]?=some s->Nx r s
theorem qof {rs:List (Row W)}{t:Row W}(h:Ap rs)(j:t.1<=t.2.1)(g:∀z,rs.getLast?=some z->Nx z t):Ap (rs++[t]):=by
 refine⟨λr b=>?_,λi r s d a=>?_⟩
 .rcases A7.mp b with b|b
  .exact h.ok r b
  .rw[Ai.mp b];exact j
 .have f:i+1<rs.length+1:=by
   have:=(Ac.mp a).1
   simpa using this
  rw[AH (Nat.lt_of_succ_lt_succ f)]at d
  by_cases c:i+1<rs.length
  .rw[AH c]at a;exact h.nx i r s d a
  .have e:i+1=rs.length:=Nat.le_antisymm (Nat.le_of_lt_succ f) (DE.mp c);rw[AS (DE.mp c),e,D4]at a;cases a;refine g r ?_;rw[Df,show rs.length-1=i by rw[<- e];rfl];exact d
theorem ap_init {rs:List (Row W)}{t:Row W}(h:Ap (rs++[t])):Ap rs/\t.1<=t.2.1/\∀z,rs.getLast?=some z->Nx z t:=by
 refine⟨⟨λr e=>h.ok r (Bz _ e),λi r s b a=>?_⟩,h.ok t (by simp),λz hz=>?_⟩
 .have f:=(Ac.mp b).1;have d:=(Ac.mp a).1;exact h.nx i r s (by rw[AH f];exact b) (by rw[AH d];exact a)
 .rw[Df]at hz;have g:=(Ac.mp hz).1;refine h.nx (rs.length-1) z t (by rw[AH g];exact hz) ?_;have c:=Nat.sub_add_cancel (CO (AQ _) g);rw[AS (BY c.symm),c,D4];rfl
theorem qfc {α:Type}(xs:List α)(x:α):(xs++[x]).getLast?=some x:=by simp
theorem qea (rs:List (Row W))(t r:Row W):jn1 (rs++[t]) r=if t.2.2=r.2.2/\t.2.1+1=r.1 then rs++[(t.1,r.2.1,r.2.2)] else rs++[t]++[r]:=by unfold jn1;rw[qfc];simp
theorem jn1_ok {b:List (Row W)}{r:Row W}(h:Ap b)(k:r.1<=r.2.1)(m:∀z,b.getLast?=some z->z.2.1<r.1) :
  Ap (jn1 b r)/\(∀z,(jn1 b r).getLast?=some z->z.2.1=r.2.1)/\∀a d,qba a (jn1 b r) d=qba a (b++[r]) d:=by
 rcases BG b with rfl|⟨rs,t,rfl⟩
 .refine⟨qof h k (λz hz=>by cases hz),λz hz=>?_,λ_ _=>rfl⟩;have:z=r:=by simpa [jn1] using hz.symm
  rw[this]
 .rw[BH]at h m |-;rw[qea];obtain⟨n,l,o⟩:=ap_init h;have j:=m t (qfc rs t);by_cases c:t.2.2=r.2.2/\t.2.1+1=r.1
  .rw[if_pos c];refine⟨qof n (show t.1<=r.2.1 from Bm l (Bm (Dc j) k)) (λz hz=>?_),λz hz=>?_,λa d=>?_⟩
   .have:=o z hz;exact⟨this.1,λe=>by rw[<- c.1];exact this.2 e⟩
   .rw[qfc]at hz;cases hz;rfl
   .rw[qd9,qd9,qd9];show (if t.1<=d/\d<=r.2.1 then r.2.2 else _)=if r.1<=d/\d<=r.2.1 then r.2.2 else if t.1<=d/\d<=t.2.1 then t.2.2 else _;rw[c.1];by_cases i:r.1<=d/\d<=r.2.1
    .rw[if_pos i,if_pos ⟨Bm l (Bm (Dc j) i.1),i.2⟩]
    .rw[if_neg i];by_cases f:t.1<=d/\d<=t.2.1
     .rw[if_pos f,if_pos ⟨f.1,Bm f.2 (Bm (Dc j) k)⟩]
     .rw[if_neg f,if_neg λz=>(Int.lt_or_le d r.1).elim (λy=>f ⟨z.1,DM (by rw[c.2];exact y)⟩) λy=>i ⟨y,z.2⟩]
  .rw[if_neg c];refine⟨qof h k (λz hz=>?_),λz hz=>?_,λ_ _=>rfl⟩
   .rw[qfc]at hz;cases hz;exact⟨j,λe g=>c ⟨g,e.symm⟩⟩
   .rw[qfc]at hz;cases hz;rfl
noncomputable def jn (rs:List (Row W)):List (Row W):=rs.foldl jn1 []
theorem jn_ok {rs:List (Row W)}(h:Dis rs):Ap (jn rs)/\∀a d,qba a (jn rs) d=qba a rs d:=by
 have step:∀(f b:List (Row W))(c:List (Row W)),Dis (b++f)->Ap c->(∀z,c.getLast?=some z->∃y∈b,z.2.1=y.2.1)->(∀a d,qba a c d=qba a b d) ->
   Ap (f.foldl jn1 c)/\∀a d,qba a (f.foldl jn1 c) d=qba a (b++f) d:=by
  intro f
  induction f with
  |nil=>intro b c _ j _ k;exact⟨j,λa d=>by rw[BC];exact k a d⟩
  |cons r f ih =>
   intro b c g j n k;have p:=g.ok r (by simp);have l:∀z,c.getLast?=some z->z.2.1<r.1:=λz hz=>by obtain⟨y,m,e⟩:=n z hz;rw[e];exact(Bk.mp g.pw).2.2 y m r Am
   obtain⟨q,o,t⟩:=jn1_ok j p l;have e:b++r::f=(b++[r])++f:=by simp
   rw[e];rw[e]at g;refine ih (b++[r]) (jn1 c r) g q (λz hz=>⟨r,by simp,o z hz⟩) λa d=>?_;rw[t,qd9,qd9,k]
 exact step rs [] [] h ⟨(λ_ h=>absurd h AM),λi r s h=>by cases h⟩ (λz hz=>by cases hz) λ_ _=>rfl
noncomputable def lay (rs:List (Row W)):List (Row W):=rs.foldl (λlaid r=>over laid r.1 r.2.1 r.2.2) []
theorem qwi (rs:List (Row W))(r:Row W):lay (rs++[r])=over (lay rs) r.1 r.2.1 r.2.2:=by unfold lay;rw[CY];rfl
theorem qwj {rs:List (Row W)}(h:∀r∈rs,r.1<=r.2.1):Dis (lay rs)/\∀a d,qba a (lay rs) d=qba a rs d:=by
 have step:∀(c b laid:List (Row W)),(∀r∈c,r.1<=r.2.1)->Dis laid->(∀a d,qba a laid d=qba a b d) ->
   Dis (c.foldl (λlaid r=>over laid r.1 r.2.1 r.2.2) laid)/\∀a d,qba a (c.foldl (λlaid r=>over laid r.1 r.2.1 r.2.2) laid) d=qba a (b++c) d:=by
  intro c
  induction c with
  |nil=>intro b laid _ g f;exact⟨g,λa d=>by rw[BC];exact f a d⟩
  |cons r c ih =>
   intro b laid i g f;have j:=i r Am;have e:b++r::c=(b++[r])++c:=by simp
   rw[e];refine ih (b++[r]) _ (λs k=>i s (Ay _ k)) (qpv r.2.2 g j) λa d=>?_;rw[quo a laid r.2.2 j,qd9,f];rfl
 exact step rs [] [] h ⟨(λ_ h=>absurd h AM),Ei⟩ λ_ _=>rfl
noncomputable def ov (rs:List (Row W)):List (Row W):=jn (lay rs)
theorem qwk {rs:List (Row W)}(h:∀r∈rs,r.1<=r.2.1):Ap (ov rs)/\∀a d,qba a (ov rs) d=qba a rs d:=by obtain⟨f,b⟩:=qwj h;obtain⟨e,c⟩:=jn_ok f;exact⟨e,λa d=>(c a d).trans (b a d)⟩
theorem qhr {rs:List (Row W)}(h:Ap rs):Dis rs:=by
 refine⟨h.ok,?_⟩;rw[Bd];intro i j b hj hij;have step:∀n,∀(a:i+1+n<rs.length),(rs[i]'b).2.1<(rs[i+1+n]'a).1:=by
  intro n
  induction n with
  |zero=>intro a;exact(h.nx i (rs[i]'b) (rs[i+1]'a) (Ae _) (Ae _)).1
  |succ n ih =>intro a;have g:=ih (Nat.lt_of_succ_lt a);have k:=(h.nx (i+1+n) (rs[i+1+n]'(Nat.lt_of_succ_lt a)) (rs[i+1+n+1]'a) (Ae _) (Ae _)).1;have m:=h.ok rs[i+1+n] (BV _);exact CF (Bb g m) k
 have:=step (j-i-1) (by lia);simpa [show i+1+(j-i-1)=j by lia] using this
theorem qs5 {rs:List (Row W)}(h:Dis rs):(ends rs).Pairwise (· < ·):=by refine Cn.mpr ?_;refine(List.Pairwise.and_mem.mp h.pw).imp λ{r s} q=>?_;have:=h.ok s q.2.1;have:=q.2.2;lia
end
end Lay
namespace Srt
open PySem PySem.W PyProof.Rows
def Sat {α:Type}(n:Nat)(r:Nat->Nat->Bool):KasT α->(α->Prop)->Prop
 |.ret a,Q=>Q a
 |.ask i j k,Q=>i<n/\j<n/\Sat n r (k (r i j)) Q
theorem Sat.mono {α:Type}{n:Nat}{r:Nat->Nat->Bool}:∀{t:KasT α}{Q b:α->Prop},Sat n r t Q->(∀a,Q a->b a)->Sat n r t b
 |.ret _,_,_,h,q=>q _ h
 |.ask i j k,_,_,h,q=>⟨h.1,h.2.1,Sat.mono (t:=k (r i j)) h.2.2 q⟩
theorem Sat.bind {α β:Type}{n:Nat}{r:Nat->Nat->Bool}{f:α->KasT β}:∀{t:KasT α}{Q:β->Prop},Sat n r t (λa=>Sat n r (f a) Q)->Sat n r (t.bind f) Q
 |.ret _,_,h=>h
 |.ask i j k,_,h=>⟨h.1,h.2.1,Sat.bind (t:=k (r i j)) h.2.2⟩
theorem Sat.wp {α:Type}{n:Nat}{r:Nat->Nat->Bool}{b:Nat->Nat->(Bool->Ad->Prop)->Ad->Prop}{s:Ad}(c:∀i j C,i<n->j<n->C (r i j) s->b i j C s):∀{t:KasT α}{Q:α->Prop}{d:α->Ad->Prop},Sat n r t Q->(∀a,Q a->d a s)->t.kasWp b d s
 |.ret a,_,_,h,q=>q a h
 |.ask i j k,_,_,h,q=>c i j _ h.1 h.2.1 (Sat.wp c (t:=k (r i j)) h.2.2 q)
structure Ord (r:Nat->Nat->Bool):Prop where
 asym:∀i j,r i j=true->r j i=false
 trans:∀i j k,r j i=false->r k j=false->r k i=false
section
variable {n:Nat}{r:Nat->Nat->Bool}
noncomputable abbrev at' (p:Array Nat)(i:Nat):Nat:=p.getD i 0
structure Gd (n:Nat)(p:Array Nat):Prop where
 perm:p.Perm (Ao n).toArray
theorem Gd.size {p:Array Nat}(h:Gd n p):p.size=n:=by rw[h.perm.size_eq];simp
theorem Gd.lt {p:Array Nat}(h:Gd n p)(b:0<n)(i:Nat):at' p i<n:=by
 by_cases a:i<p.size
 .have e:at' p i=p[i]:=by simp[at',a]
  rw[e];have:p[i]∈p:=Array.getElem_mem a;have:=h.perm.mem_iff.mp this;simpa using this
 .have e:at' p i=0:=by simp[at',a]
  rw[e];exact b
def Up (r:Nat->Nat->Bool)(p:Array Nat)(k:Nat):Prop:=∀i j,i<=j->j<k->r (at' p j) (at' p i)=false
def qmu (r:Nat->Nat->Bool)(p:Array Nat)(k:Nat):Prop:=∀i j,i<=j->j<k->r (at' p i) (at' p j)=false
theorem Ord.irr (o:Ord r)(i:Nat):r i i=false:=by
 cases h:r i i with|false=>rfl|true=>rw[o.asym i i h]at h;cases h
theorem up_succ (o:Ord r){p:Array Nat}{k:Nat}(h:Up r p k)(h1:1<=k)(e:r (at' p k) (at' p (k-1))=false):Up r p (k+1):=by
 intro i j a hj;by_cases c:j<k
 .exact h i j a c
 .have b:j=k:=by lia
  subst b;by_cases d:i=j
  .rw[d];exact o.irr _
  .exact o.trans _ _ _ (h i (j-1) (by lia) (by lia)) e
theorem qfd (o:Ord r){p:Array Nat}{k:Nat}(h:qmu r p k)(h1:1<=k)(e:r (at' p (k-1)) (at' p k)=false):qmu r p (k+1):=by
 intro i j a hj;by_cases c:j<k
 .exact h i j a c
 .have b:j=k:=by lia
  subst b;by_cases d:i=j
  .rw[d];exact o.irr _
  .exact o.trans _ _ _ e (h i (j-1) (by lia) (by lia))
theorem qrr (o:Ord r){p:Array Nat}(g:Gd n p)(a:0<n):∀(f k:Nat),Up r p k->1<=k->Sat n r (kas_asc p f k) λm=>k<=m/\m<=k+f/\Up r p m/\(m=k+f\/r (at' p m) (at' p (m-1))=true)
 |0,k,h,_=>⟨Al _,Al _,h,.inl Z⟩
 |f+1,k,h,h1=>by
  refine⟨g.lt a _,g.lt a _,?_⟩;cases c:r (at' p k) (at' p (k-1)) with
  |true=>dsimp only;rw[if_pos Z];exact⟨Al _,by lia,h,.inr c⟩
  |false =>
   dsimp only;rw[if_neg (by simp)];refine(qrr o g a f (k+1) (up_succ o h h1 c) (by lia)).mono λm b=>⟨by lia,by lia,b.2.2.1,?_⟩;rcases b.2.2.2 with e|e
   .exact .inl (by lia)
   .exact .inr e
theorem qgg {p:Array Nat}{i j:Nat}(a:j<=p.size)(k:Nat):at' (kas_rev p i j) k=if i<=k/\k<j then at' p (i+j-1-k) else at' p k:=by
 unfold at' kas_rev;rw[C1,getElem?_mirror_all a];split
 .rw[C1]
 .rw[C1]
theorem qlb {p:Array Nat}(g:Gd n p)(i j:Nat):Gd n (kas_rev p i j):=⟨(mirror_perm _ _ _ _).trans g.perm⟩
def qup (r:Nat->Nat->Bool)(p:Array Nat)(a b:Nat):Prop:=∀i j,a<=i->i<b->a<=j->j<b->r (at' p i) (at' p j)=false
theorem qlc (o:Ord r){p:Array Nat}{a b:Nat}(d:b<=p.size)(h:qmu r p b)(g:qup r p a b):qmu r (kas_rev p a b) b:=by
 intro i j e c;rw[qgg d,qgg d];by_cases k:a<=i
 .rw[if_pos ⟨k,by lia⟩,if_pos ⟨by lia,c⟩];exact g _ _ (by lia) (by lia) (by lia) (by lia)
 .rw[if_neg (by lia)];by_cases f:a<=j
  .rw[if_pos ⟨f,c⟩];exact h _ _ (by lia) (by lia)
  .rw[if_neg (by lia)];exact h _ _ e c
theorem rev_up {p:Array Nat}{b:Nat}(a:b<=p.size)(h:qmu r p b):Up r (kas_rev p 0 b) b:=by intro i j hij c;rw[qgg a,qgg a,if_pos ⟨by lia,c⟩,if_pos ⟨by lia,by lia⟩];exact h _ _ (by lia) (by lia)
theorem qko (o:Ord r)(b:0<n):∀(f:Nat)(p:Array Nat)(k q:Nat),Gd n p->qmu r p k->q+1<=k->k+f<=n->qup r p (k-(q+1)) k ->
  Sat n r (kas_desc f p k q) λt=>Gd n t.1/\qmu r t.1 t.2.1/\t.2.2+1<=t.2.1/\t.2.1<=k+f/\qup r t.1 (t.2.1-(t.2.2+1)) t.2.1
 |0,p,k,q,g,h,h1,_,hf=>⟨g,h,h1,Al _,hf⟩
 |f+1,p,k,q,g,h,h1,hk,hf=>by
  have hs:=g.size;refine⟨g.lt b _,g.lt b _,?_⟩;cases c:r (at' p k) (at' p (k-1)) with
  |true =>
   dsimp only;rw[if_pos Z];have s:=o.asym _ _ c;have one:∀m:Array Nat,qup r m (k+1-(0+1)) (k+1):=λm i j _ _ _ _=>by
    have:i=j:=by lia
    rw[this];exact o.irr _
   by_cases v:q > 0
   .rw[if_pos v];have x:=qlc o (show k<=p.size by lia) h hf;have e:r (at' (kas_rev p (k-(q+1)) k) (k-1)) (at' (kas_rev p (k-(q+1)) k) k)=false:=by rw[qgg (by lia),qgg (by lia),if_pos ⟨by lia,by lia⟩,if_neg (by lia)];exact o.trans _ _ _ s (hf _ _ (by lia) (by lia) (by lia) (by lia))
    refine(qko o b f _ (k+1) 0 (qlb g _ _) (qfd o x (by lia) e) (by lia) (by lia) (one _)).mono λt a=>⟨a.1,a.2.1,a.2.2.1,by lia,a.2.2.2.2⟩
   .rw[if_neg v];exact(qko o b f _ (k+1) 0 g (qfd o h (by lia) s) (by lia) (by lia) (one _)).mono λt a=>⟨a.1,a.2.1,a.2.2.1,by lia,a.2.2.2.2⟩
  |false =>
   dsimp only;rw[if_neg (by simp)];refine⟨g.lt b _,g.lt b _,?_⟩;cases d:r (at' p (k-1)) (at' p k) with
   |true=>dsimp only;rw[if_pos Z];exact⟨g,h,h1,by show k<=k+(f+1);lia,hf⟩
   |false =>
    dsimp only;rw[if_neg (by simp)];have w:qup r p (k+1-(q+1+1)) (k+1):=by
     intro i j hi hi' hj hj';by_cases u:i=k
     .by_cases l:j=k
      .rw[u,l];exact o.irr _
      .rw[u];exact o.trans _ _ _ (hf (k-1) j (by lia) (by lia) (by lia) (by lia)) c
     .by_cases l:j=k
      .rw[l];exact o.trans _ _ _ d (hf i (k-1) (by lia) (by lia) (by lia) (by lia))
      .exact hf i j (by lia) (by lia) (by lia) (by lia)
    exact(qko o b f p (k+1) (q+1) g (qfd o h (by lia) d) (by lia) (by lia) w).mono λt a=>⟨a.1,a.2.1,a.2.2.1,by lia,a.2.2.2.2⟩
theorem qpw (o:Ord r)(a:0<n){p:Array Nat}{k:Nat}(g:Gd n p)(h:qmu r p k)(d:1<=k)(c:k<=n):Sat n r (kas_tail3 k n p) λt=>Gd n t.2/\Up r t.2 t.1/\1<=t.1/\t.1<=n:=by refine Sat.bind ((qrr o (qlb g 0 k) a (n-k) k (rev_up (by rw[g.size];exact c) h) d).mono λm b=>?_);exact⟨qlb g 0 k,b.2.2.1,by show 1<=m;lia,by show m<=n;lia⟩
theorem qj6 (o:Ord r)(a:0<n){p:Array Nat}{k:Nat}(g:Gd n p)(h:qmu r p (k+1))(hk:k+1<=n):Sat n r (kas_descPart k n p) λt=>Gd n t.2/\Up r t.2 t.1/\1<=t.1/\t.1<=n:=by
 refine Sat.bind ((qko o a (n-(k+1)) p (k+1) 0 g h (by lia) (by lia) (λi j _ _ _ _=>by
  have:i=j:=by lia
  rw[this];exact o.irr _)).mono λt f=>?_)
 obtain⟨b,d,h2,h3,e⟩:=f;have hs:=b.size;by_cases c:t.2.2 > 0
 .rw[if_pos c];exact qpw o a (qlb b _ _) (qlc o (by lia) d e) (by lia) (by lia)
 .rw[if_neg c];exact qpw o a b d (by lia) (by lia)
theorem qwl (o:Ord r)(a:0<n){p:Array Nat}(g:Gd n p):Sat n r (kas_count n p) λt=>Gd n t.2/\Up r t.2 t.1/\1<=t.1/\t.1<=n:=by
 refine Sat.bind ((qrr o g a (n-1) 1 (λi j s b=>by
  have:i=j:=by lia
  rw[this];exact o.irr _) (Al _)).mono λm w=>?_)
 obtain⟨l,h2,h,f⟩:=w;by_cases c:(m == n)=true
 .rw[if_pos c];exact⟨g,h,l,by show m<=n;lia⟩
 .rw[if_neg c];have cn:m≠n:=λz=>c (by rw[z];exact beq_self_eq_true n);have e:r (at' p m) (at' p (m-1))=true:=by
   rcases f with f|f
   .lia
   .exact f
  by_cases q:m > 1
  .rw[if_pos q];refine⟨g.lt a _,g.lt a _,?_⟩;cases d:r (at' p 0) (at' p (m-1)) with|true=>dsimp only;rw[if_pos Z];exact⟨g,h,l,by show m<=n;lia⟩|false =>dsimp only;rw[if_neg (by simp)];have k:qup r p 0 m:=λi j _ v _ b=>o.trans _ _ _ (h j (m-1) (by lia) (by lia)) (o.trans _ _ _ d (h 0 i (by lia) v));have u:qmu r (kas_rev p 0 m) m:=qlc o (by rw[g.size];lia) (λi j _ b=>k i j (by lia) (by lia) (by lia) b) k;refine qj6 o a (qlb g _ _) (qfd o u l ?_) (by lia);rw[qgg (by rw[g.size];lia),qgg (by rw[g.size];lia),if_pos ⟨by lia,by lia⟩,if_neg (by lia)];exact o.trans _ _ _ (o.asym _ _ e) (k _ _ (by lia) (by lia) (by lia) (by lia))
  .rw[if_neg q];have:m=1:=by lia
   subst this;refine qj6 o a g (qfd o (λi j s b=>?_) (by lia) (o.asym _ _ e)) (by lia);have:i=j:=by lia
   rw[this];exact o.irr _
theorem qld (o:Ord r)(h:0<n){p:Array Nat}{k:Nat}(g:Gd n p)(j:Up r p k):∀(f a b:Nat),b-a<=f->a<=b->b<=k->(∀i,i<a->r (at' p k) (at' p i)=false)->(∀i,b<=i->i<k->r (at' p k) (at' p i)=true) ->
  Sat n r (kas_place p k f a b) λl=>l<=k/\(∀i,i<l->r (at' p k) (at' p i)=false)/\∀i,l<=i->i<k->r (at' p k) (at' p i)=true
 |0,a,b,hf,hab,hb,h1,h2=>⟨by lia,h1,λi e=>h2 i (by lia)⟩
 |f+1,a,b,hf,hab,hb,h1,h2=>by
  unfold kas_place;by_cases c:a ≥ b
  .rw[if_pos c];exact⟨by lia,h1,λi e=>h2 i (by lia)⟩
  .rw[if_neg c];refine⟨g.lt h _,g.lt h _,?_⟩;cases d:r (at' p k) (at' p ((a+b) / 2)) with
   |true =>
    dsimp only;rw[if_pos Z];refine qld o h g j f a ((a+b) / 2) (by lia) (by lia) (by lia) h1 λi e m=>?_;by_cases q:b<=i
    .exact h2 i q m
    .cases z:r (at' p k) (at' p i) with
     |true=>rfl
     |false =>have:=o.trans _ _ _ (j ((a+b) / 2) i e m) z;rw[d]at this;cases this
   |false =>dsimp only;rw[if_neg (by simp)];refine qld o h g j f ((a+b) / 2+1) b (by lia) (by lia) hb (λi e=>?_) h2;exact o.trans _ _ _ (j i ((a+b) / 2) (by lia) (by lia)) d
theorem qno {p:Array Nat}{k d:Nat}(b:k<p.size)(a:d<=k)(i:Nat):at' (bubble p k d) i=if i=k-d then at' p k else if k-d<i/\i<=k then at' p (i-1) else at' p i:=by
 have e:∀(q:Array Nat)(j:Nat),at' q j=q[j]?.getD 0:=λq j=>C1;rw[e,e,e,e,getElem?_bubble b d a];split
 .rfl
 .split <;>rfl
theorem qwm (o:Ord r)(d:0<n):∀(f:Nat)(p:Array Nat)(k:Nat),Gd n p->Up r p k->k+f=n->Sat n r (kas_bin f p k) λq=>Gd n q/\Up r q n
 |0,p,k,g,h,e=>by
  have m:k=n:=by lia
  subst m;exact⟨g,h⟩
 |f+1,p,k,g,h,e=>by
  have hs:=g.size;refine Sat.bind ((qld o d g h k 0 k (by lia) (by lia) (Al _) (λi s=>by lia) (λi s hk=>by lia)).mono λl v=>?_);obtain⟨h0,u,t⟩:=v;refine qwm o d f _ (k+1) ⟨(bubble_perm _ _ _).trans g.perm⟩ (λi j b hj=>?_) (by lia);rw[qno (by lia) (by lia),qno (by lia) (by lia),show k-(k-l)=l by lia];by_cases c:i=l
  .rw[if_pos c];by_cases a:j=l
   .rw[if_pos a];exact o.irr _
   .rw[if_neg a,if_pos ⟨by lia,by lia⟩];exact o.asym _ _ (t (j-1) (by lia) (by lia))
  .rw[if_neg c];by_cases a:j=l
   .rw[if_pos a,if_neg (by lia)];exact u i (by lia)
   .rw[if_neg a];by_cases c1:l<i
    .rw[if_pos (show l<j/\j<=k by lia),if_pos (show l<i/\i<=k by lia)];exact h _ _ (by lia) (by lia)
    .rw[if_neg (show ¬(l<i/\i<=k) by lia)];by_cases c2:l<j
     .rw[if_pos (show l<j/\j<=k by lia)];exact h _ _ (by lia) (by lia)
     .rw[if_neg (show ¬(l<j/\j<=k) by lia)];exact h _ _ b (by lia)
theorem sort_ok (o:Ord r)(a:0<n):Sat n r (kas_sort n) λq=>Gd n q/\Up r q n:=by
 refine Sat.bind ((qwl o a ⟨.refl _⟩).mono λt b=>?_);obtain⟨g,h,h1,h2⟩:=b;by_cases c:t.1<n
 .rw[if_pos c];have:max t.1 1=t.1:=by lia
  rw[this];exact qwm o a _ _ _ g h (by lia)
 .rw[if_neg c];have:t.1=n:=by lia
  rw[this]at h;exact⟨g,h⟩
end
end Srt
namespace Srt
open PySem PySem.W PySem.Calls PyProof.Rows
section
variable {prog:AK}{w:World}{A:AO}{E:Value->Ad->Prop}{s:Ad}
noncomputable abbrev qhe (vs:List Value)(p:Array Nat):List Value:=p.toList.map λi=>vs.getD i C6
theorem quq (vs:List Value):qhe vs (Ao vs.length).toArray=vs:=by
 unfold qhe;refine BZ λi=>?_;rw[Ag];by_cases h:i<vs.length
 .simp[h]
 .simp[h]
end
end Srt
namespace Add
open PySem PySem.Spec PyProof.Rows L2 Srt PySem.W
noncomputable def encP (r:Int×Int):List V:=[.int r.1,.int r.2]
theorem qrs {α:Type}(xs:List α)(d:α):(Ao xs.length).map (λi=>xs.getD i d)=xs:=by
 refine BZ λi=>?_;rw[Ag];by_cases h:i<xs.length
 .simp[h]
 .simp[h]
section
variable {X:Cx}{pins:List (Addr×Obj)}{σ:L2.St}{H:Hp}{s:Ad}
theorem qnp {us:List V}{its:List Value}(rv:Vals us its):∀(js:List Nat),(∀i∈js,i<its.length)->Vals (js.map λi=>us.getD i V.non) (js.map λi=>its.getD i C6)
 | [],_=>.nil
 |i::js,h=>by
  have b:=h i Am;have a:i<us.length:=by rw[rv.length];exact b
  obtain⟨v,d,r⟩:=rv.get (i:=i) (x:=us[i]) (by simp[a]);refine .cons ?_ (qnp rv js λj c=>h j (Ay _ c));show L2.RelV (us.getD i V.non) (its.getD i C6);rw[Ak,Ak,d,Ae a];exact r
end
end Add
namespace Mrg
noncomputable abbrev S2:=Int×Int
noncomputable def inB (rs:List S2)(d:Int):Bool:=rs.any λr=>decide (r.1<=d) && decide (d<=r.2)
noncomputable def mg1 (told:List S2)(r:S2):List S2:=match told.getLast? with
 |some t=>if r.1<=t.2+1 then told.dropLast++[(t.1,if r.2 > t.2 then r.2 else t.2)] else told++[r]
 |none=>told++[r]
noncomputable def mg (rs:List S2):List S2:=rs.foldl mg1 []
end Mrg
namespace Add
open PySem PySem.Spec PyProof.Rows L2
theorem qs6 {X:Cx}{f:List (Addr×Obj)}{σ:L2.St}{H:Hp}{s:Ad}{h':Heap}{t':Nat}{e it:Addr}(I:Inv X f σ H s)(k:∀b o,b≠e->b≠it->s.heap.get? b=some o->h'.get? b=some o)(i:qi5 X f H e)(h:qi5 X f H it) :
  Inv X f σ H {s with heap:=h',toks:=t'}:=by
 have l:∀b u,H b=some u->b≠e:=λb u q z=>by rw[z,i.1]at q;cases q
 have j:∀b u,H b=some u->b≠it:=λb u q z=>by rw[z,h.1]at q;cases q
 have d:∀b,b∉[e,it]->b≠e/\b≠it:=λb g=>⟨λz=>g (by simp[z]),λz=>g (by simp[z])⟩;refine I.step (g':=s.gens) (d':=s.drawn) (ch:=[e,it]) (λb g=>?_) (λb o _ _ a q _=>k b o (d b a).1 (d b a).2 q) (λb o _ _ a q _=>⟨o.slots,k b o (d b a).1 (d b a).2 q⟩) (λ_ _ _ _ n=>n)
  (λb o a q=>⟨o,k b o (d b a).1 (d b a).2 q⟩) (λ_ _ q=>q) (λ_ _ _ q=>q) (λb ps q=>⟨#[],by rw[q];simp⟩) (λm t=>?_) (λb u q=>?_) I.bare
 .rcases Av.mp g with rfl|g
  .exact⟨i.2.2.2.1,i.2.1,i.2.2.2.2.1,i.2.2.2.2.2⟩
  .cases Ai.mp g;exact⟨h.2.2.2.1,h.2.1,h.2.2.2.2.1,h.2.2.2.2.2⟩
 .obtain⟨o,es,ep,p,r⟩:=t;exact⟨o,es,ep,k _ o (By i.2.1) (By h.2.1) p,r⟩
 .refine(I.hok b u q).stay (λc v a z=>k c v ?_ ?_ z) (λ_ z=>z) λ_ _ z=>z
  .rcases a with rfl|a
   .exact l _ u q
   .exact l c _ a
  .rcases a with rfl|a
   .exact j _ u q
   .exact j c _ a
noncomputable def Ite (K:Ah)(a:Addr):It :=
 ⟨λi H=>∃xs x,SqL K H a xs/\xs[i]?=some x,λi H x H'=>∀xs,SqL K H a xs->∃y t,xs[i]?=some y/\H t=none/\x=.ref t/\H'=upd H t (.tup [.int i,y]),λi H=>∃xs,SqL K H a xs/\xs.length<=i⟩
theorem qwn {X:Cx}{a:List (Addr×Obj)}{H:Hp}{b t:Addr}{o:HO}(f:qi5 X a H b)(c:b≠t):qi5 X a (L2.upd H t o) b:=⟨by rw[qr c];exact f.1,f.2⟩
theorem qur {P:AK}{w:World}{K:Ah}{es:List Expr}{kk pos}(a e it:Addr)(G:e≠it):Turn P w K (.Tuple es kk pos) (Ite K a) [e,it] e (λi h=>∃f,IsEnum h e it i f/\h.IsListIter it a i) where
 mem:=by simp
 obj:=λi h st b j=>by
  obtain⟨f,t,o,l,c,d⟩:=st;rcases Av.mp j with rfl|j
  .exact⟨_,t,λv z=>by cases z⟩
  .cases Ai.mp j;exact⟨o,l,λv z=>by rw[d]at z;cases z⟩
 keep:=λi h h' st k=>by obtain⟨f,t,l⟩:=st;exact⟨f,k e (by simp) _ t,l.at λo q=>k it (by simp) o q⟩
 item:=by
  intro X J M R hc i T s σ H E I r st O;subst J M R;obtain⟨f,m,g⟩:=st;obtain⟨xs,x,B,L⟩:=O;obtain⟨its,rv,p,hz⟩:=I.list B;obtain⟨u,hu,ru⟩:=rv.get L;have D:=r e (by simp);have C:=r it (by simp);refine wpAny_pyNext_enum_item m g p.isList (x:=u) (by simpa using hu) G λt ho U ht hsz keep=>⟨_,Z,?_⟩;refine wpAny_letOwnedTupleGo_enum ho λl Y n=>?_
  replace n:CB e t l:=n
  have y:e<s.heap.objs.size:=AC m;obtain⟨oi,W,_⟩:=id g;have F:it<s.heap.objs.size:=AC W;have V:l.get? s.heap.objs.size=some {cls:=.type "tuple",data:=.seq #[.int i s.toks,u]}:=(n.2 _ (Ci y)).trans ht;have ad:H s.heap.objs.size=none:=I.hok.fresh (Al _);have I1:=I.laid (a:=s.heap.objs.size) (o:=.tup [.int i,x]) (h':=s.heap.push {cls:=.type "tuple",data:=.seq #[.int i s.toks,u]}) (t':=s.toks) (λb o q=>As _ q) (Al _) ⟨show 2<=A5 by rw[Bq];decide,[.int i s.toks,u],.cons ⟨_,Z⟩ (.cons ru .nil),⟨_,AT _ Z,Z,_,Z⟩⟩;have I2:=qs6 (h':=l) (t':=s.toks+1) I1 (λb o S N q=>by
   by_cases z:b=s.heap.objs.size
   .subst z;rw[AT _ Z]at q;cases q;exact V
   .rw[Heap.get?_push_ne _ _ _ z]at q;exact(n.2 b S).trans (keep b o S N q)) (qwn D (AE y)) (qwn C (AE F))
  refine⟨.ref s.heap.objs.size,_,I2,Z,λys hy=>?_,⟨u,Y,U.at λo q=>(n.2 it (By G)).trans q⟩,λb j=>?_⟩
  .rw[I.list_inj hy B];exact⟨x,_,L,ad,Z,Z⟩
  .rcases Av.mp j with rfl|j
   .rw[qr (AE y)];exact D.1
   .cases Ai.mp j;rw[qr (AE F)];exact C.1
 done:=by intro X J M R hc i T s σ H E I r st O;subst J M R;obtain⟨f,m,g⟩:=st;obtain⟨xs,B,L⟩:=O;obtain⟨its,rv,p,hz⟩:=I.list B;have hl:=rv.length;have D:=r e (by simp);have C:=r it (by simp);exact wpAny_pyNext_enum_end (I.ok.hd hc) m g p.isList (by simp;lia) λh' eb=>⟨Z,qs6 (t':=s.toks) I (λb o S N q=>eb b o N q) D C⟩
 self:=λA i s Q E st h=>by obtain⟨f,m,g⟩:=st;exact wpAny_pyIter_enum m h
def iEnum (K:Ah)(ta:TA):TI:=λσ H R=>ta σ H λvs H1=>∃a xs,vs=[.ref a]/\H1 a=some (.lst xs)/\R (Ite K a) H1
theorem qus:bootBuiltins "enumerate"=some (.type "enumerate"):=Ez
theorem qkp {X:Cx}{es:List Expr}{r:_}{g:Pos}{a:Expr}{k:TA}{p pos:Pos}(w:Gl X "enumerate")(A:X.mg "enumerate"=none)(C:PA X [a] k)(v:starEach [a] X.env=[(false,eval a X.env)]:=by rfl):PI X (.Tuple es r g) (.Call (.Name "enumerate" p) [a] [] pos) (iEnum X.K k):=by
 intro d s σ H R I h;refine Call_ (qf6 I w A qus (BW (thn (C pos d s σ H _ I h) λus f ⟨vs,j,c,x,y⟩=>?_) v Z));obtain⟨l,xs,e,B,q⟩:=y;subst e;obtain⟨u,rfl,D⟩:=qm9 x;cases qkm D;obtain⟨z,its,n,rv,hz,e⟩:=c.lstM B;refine call_enumerate_1 e λh' o m hsz keep=>wpAny_pyIter_enum o ?_;have t:Inv X d σ j {f with heap:=h'}:=c.kept (t':=f.toks) keep;refine⟨f.heap.objs.size+1,[f.heap.objs.size+1,f.heap.objs.size],_,_,j,Z,t,qur l _ _ (Ci (BU _)),⟨.none,o,m⟩,λb i=>?_,q⟩;rcases Av.mp i with rfl|i
 .exact c.fpOk (C3 _) (c.hok.fresh (C3 _))
 .cases Ai.mp i;exact c.fpOk (Al _) (c.hok.fresh (Al _))
theorem qie {K:Ah}{a:Addr}{xs:List V}{g:TG}{tb:TS}{D:Ends}{σ:L2.St}{H:Hp}(b:Nat->L2.St->Hp->Prop)(h:b 0 σ H)(o:∀i σ H,i<=xs.length->b i σ H->SqL K H a xs)
  (r:∀i x t σ H,xs[i]?=some x->b i σ H->H t=none->g (.ref t) σ (upd H t (.tup [.int i,x])) λσ2 d=>tb {D with nx:=b (i+1),ct:=b (i+1),bk:=D.nx} σ2 d)(hd:∀σ H,b xs.length σ H->D.nx σ H) :
  ∃W:Nat->Nat->L2.St->Hp->Prop,(∃m,W 0 m σ H)/\∀i m σ H,W i m σ H ->
   ((Ite K a).stop i H/\D.nx σ H)\/((Ite K a).go i H/\∃N:L2.St->Hp->Prop,(∀σ' H',N σ' H'->∃m',m'<m/\W (i+1) m' σ' H')/\∀x H',(Ite K a).yld i H x H'->g x σ H' λσ2 d=>tb {D with nx:=N,ct:=N,bk:=D.nx} σ2 d):=by
 refine⟨λi m σ H=>m=xs.length-i/\i<=xs.length/\b i σ H,⟨xs.length,by simp,AQ _,h⟩,?_⟩
 rintro i m σ H ⟨rfl,k,p⟩
 have f:=o i σ H k p
 by_cases c:i<xs.length
 .have ex:xs[i]?=some xs[i]:=by simp[c]
  refine .inr ⟨⟨xs,xs[i],f,ex⟩,b (i+1),λσ' H' n=>⟨xs.length-(i+1),by lia,Z,c,n⟩,λx H' j=>?_⟩;obtain⟨y,t,l,q,rfl,rfl⟩:=j xs f;exact r i y t σ H l p q
 .have e:i=xs.length:=by lia
  subst e;exact .inl ⟨⟨xs,f,Al _⟩,hd σ H p⟩
end Add
namespace Add
open PySem PySem.Spec PyProof.Rows L2
section
variable {X:Cx}
theorem qwo (bs:List Bool):((Ao bs.length).any λj=>(bs[j]?).getD true)=bs.any λb=>b:=by
 rw[CA,CJ,CJ];constructor
 .rintro⟨j,a,e⟩;have c:j<bs.length:=by simpa using a
  rw[Ae c]at e;exact⟨bs[j],BV c,e⟩
 .rintro⟨b,d,e⟩;obtain⟨j,a,rfl⟩:=Cy d;exact⟨j,by simpa using a,by rw[Ae a];exact e⟩
theorem qut (w:X.calm=true):qf9 X (.builtin "any") (λxs H Q=>∃(p:Addr)(bs:List Bool),xs=[V.ref p]/\SqL X.K H p (bs.map V.bl)/\Q (.bl (bs.any λb=>b)) H):=by
 intro pins s σ H xs us Q I r h;obtain⟨p,bs,rfl,y,q⟩:=h;obtain⟨u,rfl,d⟩:=Vals.one r;cases d;obtain⟨its,rv,pl,hz⟩:=I.list y;have f:=rv.length;rw[Ab]at f;have g:p≠s.heap.objs.size:=by obtain⟨o,l,_⟩:=pl.isList;exact AE (AC l)
 refine call_any_walk (wpAny_pyIter_list pl.isList ⟨s.heap.objs.size,_,_,its.toArray.size,_,_,λj=>(bs[j]?).getD true,Z,Walks.list (show X.A.in1.handled=none from I.ok.hd w) _ p g its.toArray,
  ⟨⟨_,AT _ Z,Z,Z⟩,pl.isList.at λo e=>As _ e⟩,?_,λh' tk m=>?_⟩)
 .intro i v s' Q' E' B c;have a:its[i]?=some v:=by simpa using B
  cases e:bs[i]? with
  |none =>
   exfalso;have n:its.length<=i:=by rw[<- f];exact Dg.mp e
   rw[Dg.mpr n]at a;cases a
  |some b =>obtain⟨u,k,d⟩:=rv.get (i:=i) (x:=.bl b) (by rw[Ag,e];rfl);rw[a]at k;cases k;cases (show v=DZ b from d);dsimp only at c;rw[e]at c;exact B6 c
 .refine⟨.bl _,H,I.kept (t':=tk) λb o e=>m b o (λz=>?_) (As _ e),Z,?_⟩
  .have t:b=s.heap.objs.size:=by simpa using z
   exact absurd (AC e) (by rw[t];exact BX _)
  .have e:its.toArray.size=bs.length:=by rw[Aj,f]
   rw[e,qwo];exact q
theorem gk_tup {K:Ah}{n:Nat}{t:TGs}(d:∀xs σ' H' R b,(∀σ3 H3,R σ3 H3->b σ3 H3)->t xs σ' H' R->t xs σ' H' b)(x:V)(σ':L2.St)(H':Hp)(R b:L2.St->Hp->Prop)(h:∀σ3 H3,R σ3 H3->b σ3 H3)(z:qyx K n t x σ' H' R):qyx K n t x σ' H' b:=by obtain⟨a,xs,e,f,c,z⟩:=z;exact⟨a,xs,e,f,c,d _ _ _ _ _ h z⟩
end
structure FunD (K:Ah)(x qual:Str)(st:Stmt)(f:Addr)(fd:Aw):Prop where
 ex:∃(oc dV kV doc pm cdv ct:Value)(od an:Option Addr)(osl:Array (Option Value)),
  fd=Bh x qual (qa6 st) (qav st) (qaa st) dV kV doc pm an cdv ct/\K.lookup f=some ⟨oc,od,.func fd,osl⟩/\B3 K cdv qual=true
 kp:Br K (.ref f)=true
section
variable {P:AK}{w:World}{K:Ah}{mg:Str->Option Value}{base:Heap}
theorem FunD.ok {x a:Str}{st:Stmt}{f:Addr}{fd:Aw}{N ps:List Str}{k:Nat}{sp:Sp}(F:FunD K x a st f fd)(S:FnScope N ps (qaa st))(len:∀vs H Q E,sp vs H Q E->vs.length=ps.length)
  (c:∀(b:Value)(A:AO)(outer:List Env)(s:Ad)(H:Hp)(vs:List V)(Q:VK)(E:XK),Room k (A.deeper (envOfC a (qaa st) s.heap.objs.size f b))->sp vs H Q E ->
   ∃t,PSs (qpk CX0 P w K mg base N a (qaa st) f b A outer s H E).nox (qav st) t/\t {nx:=λ_ H'=>Q .non H',rt:=Q} (start N vs) H):FnOk P w K mg base CX0 (k+1) f fd ps sp:=by
 obtain⟨oc,dV,kV,doc,pm,b,ct,od,an,osl,rfl,g,d⟩:=F.ex
 refine qv4 g d S len λA outer s H vs Q E i e=>?_
 obtain⟨t,h,q⟩:=c b A outer s H vs Q E i e
 exact⟨t,h.nox,q⟩
theorem qog {x a:Str}{st:Stmt}{f:Addr}{j:Value}{m g:Option Addr}{e:Array (Option Value)}{h kV d i b ct:Value}(l:K.lookup f=some ⟨j,m,.func (Bh x a (qa6 st) (qav st) (qaa st) h kV d i g b ct),e⟩)
  (c:B3 K b a=true)(k:Br K (.ref f)=true):FunD K x a st f (Bh x a (qa6 st) (qav st) (qaa st) h kV d i g b ct):=⟨⟨j,h,kV,d,i,b,ct,m,g,e,Z,l,c⟩,k⟩
theorem qoh {fd:Aw}{ps:List Str}{ds:List Value}(h:∀us:List Value,(us++ds).length=ps.length->∀S,DY K S (bindArgs fd ⟨us,[]⟩)=some (ps.zip (us++ds))):Binds K fd ps ds:=λs us X a=>PySem.W.kp_binds X (h us a)
end
structure MethD (K:Ah)(x qual:Str)(st:Stmt)(ps:List Str)(f:Addr)(fd:Aw):Prop where
 fn:FunD K x qual st f fd
 bd:Binds K fd ps []
 ty:C7 K (.ref f)=some (.type "function")
section
variable {X:Cx}{a b c d:Expr}{ta tb tc td:TE}{pos:Pos}
def tChain3 (r r' r2:R2)(ta tb tc td:TE):TE:=λσ H Q=>ta σ H λx H1=>tb σ H1 λy H2=>r x y H2 λz H3=>∃k,z=.bl k /\
 (if k=true then tc σ H3 λw' H4=>r' y w' H4 λz' H5=>∃k',z'=.bl k'/\(if k'=true then td σ H5 λu H6=>r2 w' u H6 Q else Q (.bl false) H5) else Q (.bl false) H3)
theorem quu {op g i:CmpOp}{r n F:R2}(R:OpR X (compareOp op) r)(C:OpR X (compareOp g) n)(p:OpR X (compareOp i) F)(ha:PE X a ta)(S:PE X b tb)(hc:PE X c tc)(hd:PE X d td)
  (hm:lastMarks [op,g,i] [b,c,d]=false:=by with_unfolding_all rfl):PE X (.Compare a [op,g,i] [b,c,d] pos) (tChain3 r n F ta tb tc td):=by
 intro f s σ H Q I h;refine Compare_chain (thn (ha f s σ H _ I h) λv s1 ⟨x,H1,I1,Y,q1⟩=>chain_link (thn (S f s1 σ H1 _ I1 q1) λu W ⟨y,G,P,q,q2⟩ =>
  thn (R f W σ G x y v u _ P Y q q2) λe V ⟨z,A,t,r3,k,ek,B⟩=>?_)) hm
 subst ek;cases r3;refine B6 ?_;cases k with
 |false=>exact ite_ff ⟨.bl false,A,t,Z,B⟩
 |true =>
  refine ite_tt (chain_link (thn (hc f V σ A _ t B) λj O ⟨w,J,T,E,U⟩=>thn (C f O σ J y w u j _ T q E U) λe' K ⟨z2,D,l,M,k',m,o⟩=>?_));subst m;cases M;refine B6 ?_;cases k' with|false=>exact ite_ff ⟨.bl false,D,l,Z,o⟩|true=>exact ite_tt (chain_last (thn (hd f K σ D _ l o) λu' s6 ⟨z3,L,N,r6,q6⟩=>p f s6 σ L w z3 j u' Q N E r6 q6))
end
theorem pg_tupC {X:Cx}{K:Ah}(d:X.K=K){es:List Expr}{c:_}{pos:Pos}{t:TGs}{n:Nat}(b:X.calm=true)(h:PGs X es t)
  (a:(assignEach es X.env).length=n:=by rfl)(hst:(assignEach es X.env).findIdx? (·.1)=none:=by rfl):PG X (.Tuple es c pos) (qyx K n t):=by
 subst d;exact qe0 b h a hst
theorem qpx {α:Type}{H:Hp}{enc:α->List V}{f g:V->V}{h:α->V}:∀{rs:List α}{us:List V},Tups H us (rs.map enc)->(∀a r,H a=some (.tup (enc r))->f (.ref a)=h r)->us.map f=rs.map h
 | [],us,t,_=>by cases t;rfl
 |r::rs,us,t,k=>by
  cases t with|cons q t=>rw[AX,AX,k _ _ q,qpx (g:=g) t k]
theorem qpy (x:Int)(xs:List Int):inV (.int x) (xs.map V.int)=xs.contains x:=by
 unfold inV;rw[List.any_map,List.contains_eq_any_beq]
 congr 1
 funext y;show (y == x)=(x == y);rw[CA,beq_iff_eq,beq_iff_eq];exact eq_comm
theorem qnq (xs:List Int):(xs.map V.int).all qb2=true:=by rw[List.all_map];exact C4.mpr λ_ _=>rfl
end Add
namespace Tab
open Mrg Lay
noncomputable def fy (wk:List Int)(yr:List S2)(i:Int):Bool:=wk.contains (i % 7+1) || inB yr i
noncomputable def fdL (wk:List Int)(yr:List S2):List Bool:=(Ao 371).map λi=>fy wk yr (i:Nat)
theorem qfl (wk:List Int)(yr:List S2):(fdL wk yr).length=371:=by unfold fdL;rw[Ab,Aq]
noncomputable def opn (bs:List Bool)(k:Nat):Int:=(((bs.take k).filter λb=>!b).length:Nat)
noncomputable def cuL (bs:List Bool):List Int:=(Ao (bs.length+1)).map λk=>opn bs k
theorem qrt (bs:List Bool){k:Nat}(h:k<=bs.length):(cuL bs)[k]?=some (opn bs k):=by unfold cuL;rw[Ag,AV (by lia)];rfl
theorem qle {bs:List Bool}{k:Nat}{b:Bool}(h:bs[k]?=some b):opn bs (k+1)=if b=true then opn bs k else opn bs k+1:=by unfold opn;rw[B0,h,Ch];cases b <;>simp
theorem qje (bs:List Bool)(k:Nat):0<=opn bs k/\opn bs k<=bs.length:=by
 unfold opn;have h1:=CU (λb=>!b) (bs.take k);have h2:(bs.take k).length<=bs.length:=by rw[Bj];lia
 lia
noncomputable def odL (bs:List Bool):List Int:=((Ao bs.length).filter λi=>!(bs.getD i true)).map λ(i:Nat)=>(i:Int)
structure OkW (wk:List Int):Prop where
 len:wk.length<=6
 nd:wk.Nodup
 rng:∀x∈wk,1<=x/\x<=7
structure OkY (yr:List S2):Prop where
 len:yr.length<=4
 rng:∀r∈yr,0<=r.1/\r.1<=r.2/\r.2<r.1+30/\r.2<364
end Tab
namespace Add
open PySem PySem.Spec PyProof.Rows L2
section
variable {X:Cx}{tg:Expr}
end
end Add
namespace Rev
open PySem PyProof.Rows
set_option maxRecDepth 100000
theorem no_len:typeLookup (.type "list_reverseiterator") "__len__"=pure none:=by rw[typeLookup_type,builtinLookup_eq_fast];kernel_rfl
theorem qwp:typeLookup (.type "list_reverseiterator") "__length_hint__"=pure (some (.builtin "list_reverseiterator.__length_hint__")):=by rw[typeLookup_type,builtinLookup_eq_fast];kernel_rfl
section
variable {prog:AK}{w:World}{A:AO}{s:Ad}{R:Result->Ad->Prop}{E:Value->Ad->Prop}
variable {I:Addr}{fp wr:List Addr}{G:Array Et->Array Et->Prop}{n:Nat}{P:Nat->Value->Prop}{St:Nat->Ad->Prop}
theorem hint_ok {x:Value}{Q:Bool->Ad->Prop}(c:s.TypeIs x "list_reverseiterator")(h:Q false s):wpAny (model prog w) A (BD.List.listLengthHint x) Q E s:=by
 unfold BD.List.listLengthHint;refine Az (wpAny_specialOf c no_len ?_);show wpAny _ A (specialOf x (Aa "__length_hint__") >>= _) _ _ _;refine Az (wpAny_specialOf c qwp ?_);generalize a:("list_reverseiterator.__length_hint__" : String)=id0
 wp_delta
 rw[show splitId id0=some ("list_reverseiterator","__length_hint__") from by subst a;decide +kernel];subst a;refine Az (wpAny_isInstance (b:=true) c (by rw[isSubtype_type];kernel_rfl) ?_);exact Bf h
theorem quv (W:WalksS prog w A.in1 I fp wr G n P St)(k:∀i s,St i s->s.TypeIs (.ref I) "list_reverseiterator")(S:Addr)(res:Value)(o:Nat)(c:St 0 s)(g:S∉fp)(q:I∈fp)
  (u:s.heap.get? S=some {cls:=.type "list",data:=.seq #[] o})
  (hR:∀a b d,Moved (S::wr) G s a->a.heap.get? S=some {cls:=.type "list",dict:=none,data:=.seq b d,slots:=#[]}->ItemsOf P b n->R (.ok (.ret res)) a)(hn:n<=A5) :
  wpAny (model prog w) A.in1 (BD.List.listExtendWith (.ref S) (.ref I) res)
   (λj a=>match j with | .done f=>R (.ok f) a | .again d=>d.quiet=true/\codeAny (model prog w) A d R a) (λe a=>R (.error e) a) s:=by
 have m:S≠I:=λe=>g (e ▸ q)
 unfold BD.List.listExtendWith
 refine Az (wpAny_typeOf (k 0 _ c) ?_)
 have t:BD.List.listSameRef (.ref S) (.ref I)=false:=by simp[BD.List.listSameRef,m]
 have p:(CZ "list_reverseiterator" == CZ "list")=false:=by decide
 have v:(CZ "list_reverseiterator" == CZ "tuple")=false:=by decide
 simp only[t,p,v,Ep,Eb,if_false]
 refine Az (W.self 0 _ _ _ c ?_)
 refine Az (CS (hint_ok (k 0 _ c) ?_))
 rw[if_neg Uk]
 exact Bf ⟨plainId_quiet F.plain_extend_loop _,codeAny_extend_loopS W hn _ g _ n 0 _ _ _ Z (AQ _) c u (ItemsOf.nil P) λa b d r l h=>hR a b d r l h⟩
theorem init_ok (W:WalksS prog w A.in1 I fp wr G n P St)(v:∀i s,St i s->s.TypeIs (.ref I) "list_reverseiterator")(S:Addr)(t:St 0 s)(j:S∉fp)(x:I∈fp)
  (m:s.heap.get? S=some {cls:=.type "list",data:=.seq #[]})
  (hR:∀a c d,Moved (S::wr) G s a->a.heap.get? S=some {cls:=.type "list",dict:=none,data:=.seq c d,slots:=#[]}->ItemsOf P c n->R (.ok (.ret .none)) a)(hn:n<=A5) :
  wpAny (model prog w) A.in1 (BD.«list.__init__» ⟨[.ref S,.ref I],[]⟩)
   (λp a=>match p with | .done f=>R (.ok f) a | .again d=>d.quiet=true/\codeAny (model prog w) A d R a) (λe a=>R (.error e) a) s:=by
 show wpAny _ A.in1 (BD.List.listItems (.ref S) >>= λq=>BD.List.listUpdate (.ref S) (λ_=>#[]) >>= λ_=>letGo q.toList.reverse >>= λ_=>BD.List.listExtendWith (.ref S) (.ref I) .none) _ _ s
 refine Az ?_
 unfold BD.List.listItems
 refine Az (wpAny_seqItems m Z (Bf ?_))
 refine Az (wpAny_updateSeq m Z ?_)
 have u:=Heap.get?_update_self (B1 (λ_=>(#[]:Array Value))) m rfl
 have k:∀b o,b≠S->s.heap.get? b=some o->(s.heap.update S (B1 (λ_=>(#[]:Array Value)))).get? b=some o:=λb o g e=>(Dy _ _ (By g)).trans e
 refine Az (wpAny_letGo ?_)
 refine quv W v S .none _ (W.frame 0 s _ s.toks t (Al _) λb g o e=>k b o (λh=>j (h ▸ g)) e) j x u (λa c d y r l=>?_) hn
 exact hR a c d (Moved.trans W.gtrans ((Moved.refl W.grefl).then_heap (Al _) λb o g e=>k b o (λh=>g (h ▸ Am)) e) y) r l
theorem list_ok {Q:Value->Ad->Prop}(W:WalksS prog w A.in1.in1 I fp wr G n P St)(t:∀i s,St i s->s.TypeIs (.ref I) "list_reverseiterator")(p:St 0 s)(j:∀b∈fp,b<s.heap.objs.size)(u:I∈fp)
  (r:∀c a f,Moved (s.heap.objs.size::wr) G {s with heap:=s.heap.push {cls:=.type "list",data:=.seq #[]} } c ->
   c.heap.get? s.heap.objs.size=some {cls:=.type "list",dict:=none,data:=.seq a f,slots:=#[]}->ItemsOf P a n->Q (.ref s.heap.objs.size) c) (hn:n<=A5) :
  wpAny (model prog w) A (call (.type "list") [.ref I]) Q E s:=by
 have k:s.heap.objs.size∉fp:=λh=>BX _ (j _ h);refine callType_codes (Q₁:=λd l=>d=.ref s.heap.objs.size/\l={s with heap:=s.heap.push {cls:=.type "list",data:=.seq #[]} }) F.called_list (F.typeCall_list_1 _) F.entry_list_init (code_list_new _ ⟨Z,Z⟩) λd l v=>?_;obtain⟨rfl,rfl⟩:=v;have q:(s.heap.push {cls:=.type "list",data:=.seq #[]}).get? s.heap.objs.size=some {cls:=.type "list",data:=.seq #[]}:=AT _ rfl;exact⟨⟨_,q,Z⟩,F.args_list_init_2 _ _,init_ok W t _ (W.frame 0 s _ s.toks p (Al _) λb _ o e=>As _ e) k u q (λc a f h m g=>⟨Z,r c a f h m g⟩) hn⟩
end
end Rev
namespace Add
open PySem PySem.Spec PyProof.Rows L2
theorem qmv:bootBuiltins "reversed"=some (.type "reversed"):=Ez
theorem quw {xs:List V}{us:List Value}{x:V}{u:Value}(h:Vals xs us)(r:RelV x u):Vals (xs++[x]) (us++[u]):=by
 induction h with
 |nil=>exact .cons r .nil
 |cons r' _ ih=>exact .cons r' ih
theorem qwq {xs:List V}{us:List Value}(h:Vals xs us):Vals xs.reverse us.reverse:=by
 induction h with
 |nil=>exact .nil
 |cons r _ ih=>rw[Cm,Cm];exact quw ih r
theorem qux {its:List Value}{a:Array Value}(h:ItemsOf (λi v=>its.toArray[its.toArray.size-1-i]?=some v) a its.toArray.size):a=its.reverse.toArray:=by
 obtain⟨g,f⟩:=h;have e:a.toList=its.reverse:=by
  refine BZ λi=>?_;have hs:a.size=its.length:=by rw[g];simp
  by_cases c:i<its.length
  .have d:i<a.size:=by lia
   have b:a[i]?=some a[i]:=Array.getElem?_eq_getElem d;have:=f i _ b;rw[D9,b,<- this,CV c];simp
  .rw[AI (by rw[Cb];lia),AI (by rw[Bx];lia)]
 rw[<- e]
section
variable {X:Cx}
def tLR (K:Ah)(t:TA):TE:=λσ H Q=>t σ H λvs H1=>∃l ys,vs=[.ref l]/\SqL K H1 l ys/\∀q,H1 q=none->Q (.ref q) (upd H1 q (.lst ys.reverse))
theorem qru {e:Expr}{t:TA}{p D pos d:Pos}(x:X.calm=true)(y:Gl X "list")(F:X.mg "list"=none)(E:Gl X "reversed")(J:X.mg "reversed"=none)(C:bootBuiltins "list"=some (.type "list"))(V:PA X [e] t)
  (U:starEach [e] X.env=(false,eval e X.env)::starEach [] X.env:=by rfl):PE X (.Call (.Name "list" p) [.Call (.Name "reversed" D) [e] [] d] [] pos) (tLR X.K t):=by
 intro r s σ H Q I h;refine Cg (qf6 I y F C ?_);refine BW ?_ rfl rfl;show wpAny _ _ (spliced ((false,eval (.Call (.Name "reversed" D) [e] [] d) X.env)::[])) _ _ s;refine CM ?_;refine Cg (qf6 I E J qmv ?_);refine BW (thn (V d r s σ H _ I h) λus a ⟨vs,Y,v,P,S⟩=>?_) U rfl;obtain⟨l,ys,rfl,R,q⟩:=S;obtain⟨u,rfl,N⟩:=qm9 P;cases N;obtain⟨its,B,pl,hz⟩:=v.list R;refine call_reversed_list pl.isList (Dx ?_);have j:=pl.isList;have k:l<a.heap.objs.size:=by obtain⟨o,O,_⟩:=j;exact AC O
 have T:X.A.handled=none:=I.ok.hd x;have W:=(Walks.listRev (prog:=X.prog) (w:=X.w) (A:=X.A.in1.in1) T a.heap.objs.size l (AE k) its.toArray).toS;refine Rev.list_ok W (λi s st=>st.2.1.typeIs) ⟨AQ _,?_,j.at λo e=>As _ e⟩ (λb f=>?_) (by simp) (λc acc' M g m n=>?_) ?_
 .refine⟨_,AT _ Z,Z,?_⟩;rw[show ((its.toArray.size:Nat):Int)-1-((0:Nat):Int)=(its.toArray.size:Int)-1 by lia];rfl
 .show b<(a.heap.push _).objs.size;rw[Dw];rcases Av.mp f with z|z
  .rw[z];exact BU _
  .rw[Ai.mp z];exact D5 k
 .have sz:(a.heap.push (revObj l ((its.toArray.size:Int)-1))).objs.size=a.heap.objs.size+1:=Dw _ _;have kp:∀b o,a.heap.get? b=some o->c.heap.get? b=some o:=λb o e=>by
   have f:=AC e;refine g.heap b o (λz=>?_) (As _ (As _ e));rcases Av.mp z with z|z
   .rw[z]at f;exact absurd f (by show ¬((a.heap.push (revObj l ((its.toArray.size:Int)-1))).objs.size<a.heap.objs.size);rw[sz];exact Nat.not_lt_of_le (C3 _))
   .rw[Ai.mp z]at f;exact BX _ f
  have es:c={a with heap:=c.heap,toks:=c.toks}:=by
   have g1:=g.gens;have g2:=g.drawn;have g3:=g.os;cases c;cases a
   simp_all
  have le:a.heap.objs.size<=(a.heap.push (revObj l ((its.toArray.size:Int)-1))).objs.size:=by rw[sz];exact C3 _
  rw[qux n]at m;have G:ObjOk X.prog X.w (upd Y (a.heap.push (revObj l ((its.toArray.size:Int)-1))).objs.size (.lst ys.reverse)) c.heap (a.heap.push (revObj l ((its.toArray.size:Int)-1))).objs.size (.lst ys.reverse) :=
   ⟨by rw[Bx];exact hz,its.reverse,M,qwq B,m⟩
  have L:=v.laid (t':=c.toks) kp le G;rw[<- es]at L;exact⟨.ref _,_,L,Z,q _ (v.hok.fresh le)⟩
 .have:=B.length;simp only[Aj];lia
end
end Add
namespace Lay
theorem qpz {W:Type}[DecidableEq W](d:Int):∀(b:List (Row W))(a:W),(∀s∈b,¬(s.1<=d/\d<=s.2.1))->qba a b d=a
 | [],_,_=>rfl
 |r::b,a,h=>by rw[qb7,if_neg (h r Am)];exact qpz d b a λs c=>h s (Ay _ c)
theorem qnr {W:Type}[DecidableEq W](a:W)(d:Int):∀{b:List (Row W)},Dis b->qba a b d=(match b[cnt (ends b) d]? with|some r=>if r.1<=d then r.2.2 else a|none=>a)
 | [],_=>rfl
 |r::b,h=>by
  have pw:=Bs.mp h.pw;have h':Dis b:=⟨λs f=>h.ok s (Ay _ f),pw.2⟩;have e:ends (r::b)=r.2.1::ends b:=rfl;rw[qb7,e,qd8];by_cases c:r.2.1<d
  .rw[if_neg (λz=>B2.mpr z.2 c),if_pos c,Dt];exact qnr a d h'
  .rw[if_neg c,qid (λe i z=>by
    obtain⟨s,f,rfl⟩:=AU.mp i
    exact c (CF (Bb (pw.1 s f) (h'.ok s f)) z))]
   rw[qpz d b _ λs f z=>c (Bb (pw.1 s f) z.1)]
   show _=if r.1<=d then r.2.2 else a
   by_cases g:r.1<=d
   .rw[if_pos ⟨g,B2.mp c⟩,if_pos g]
   .rw[if_neg λz=>g z.1,if_neg g]
theorem qs7 {W:Type}[DecidableEq W](S:W->Prop)(d:Int):∀(b:List (Row W))(a:W),S a->(∀s∈b,S s.2.2)->S (qba a b d)
 | [],_,h,_=>h
 |r::b,a,h,hs=>by
  rw[qb7];refine qs7 S d b _ ?_ λs z=>hs s (Ay _ z);split
  .exact hs r Am
  .exact h
end Lay
namespace Add
open PySem PySem.Spec PyProof.Rows L2
end Add
namespace Add
open PySem PySem.Spec PyProof.Rows L2
section
variable {X:Cx}{CX:CXT}{k:Nat}{f C:Addr}{fd:Aw}{ps ks:List Str}{sp:Sp}{E:XK}{x:Str}{p pos:Pos}{e:Expr}{es:List Expr}{kws:List Keyword}{t tk:TA}{g:List Value->List Value->List Value}{gV:List V->List V->List V}
end
noncomputable def g21 {α:Type}(n:α):List α->List α->List α
 | [a,b],[c]=>[a,b,n,c]
 |_,_=>[]
section
variable {X:Cx}
theorem qfe (n:Nat):(Ao n).all (λ_=>true)=true:=by simp
end
section
variable {X:Cx}
noncomputable def ipL:TIp:=λx y H Q=>∃l b xs zs,x=.ref l/\y=.ref b/\H l=some (.lst xs)/\H b=some (.lst zs)/\xs.length+zs.length<=A5/\Q (.ref l) (upd H l (.lst (xs++zs)))
theorem qkf:fillsInplaceSlot (.type "list") "add" (Operator.Add == .Add)=pure false:=by unfold fillsInplaceSlot;show (typeLookup (.type "list") (dunderI "add") >>= λa=>pure (a.isSome && !isSeqSlot a))=pure false;rw[Eu.lookup];rfl
theorem qmw:seqSlot? (.type "list") (dunderI "add")=pure (some (.builtin "list.__iadd__")):=PySem.seqSlot_of Eu.lookup Ez
theorem ip_ext:PIp X .Add ipL:=by
 intro pins s σ H x y v u Q I j m h;obtain⟨l,b,xs,zs,rfl,rfl,g,k,hz,q⟩:=h;cases j;cases m;obtain⟨z,its,n,r,hl,e⟩:=I.lstM g;obtain⟨z2,a,i,o,hl2,f⟩:=I.lstM k;have hsz:its.toArray.size+a.toArray.size<=A5:=by rw[Aj,Aj];lia
 have c:¬(!its.toArray.isEmpty && BD.List.listTooLong (its.toArray.size+a.toArray.size))=true:=by rw[qk4 hsz,Ck];exact AF
 unfold inplaceOp;refine CS ?_;have d:s.TypeIs (.ref l) "list" := ⟨_,e,Z⟩;have tb:s.TypeIs (.ref b) "list" := ⟨_,f,Z⟩;refine Az (wpAny_typeOf d (Az (wpAny_of_eq qkf ?_)));show wpAny _ _ (if false=true then _ else _) _ _ s;rw[if_neg AF];refine Az (wpAny_binaryOp1_none (nm := "add") d tb noFill_list_add ?_);refine Az (wpAny_of_eq qmw ?_);refine Az (wpAny_rule ?_);refine DB Eu d F.entry_list_iadd (F.args_list_iadd_2 _ _)
  (AutoSeq1.list___iadd___list_list_0 l its.toArray n b a.toArray i c (by rw[Aj];lia) (by lia)) ⟨e,f,?_⟩
 refine⟨.ref l,_,I.lset (its':=its++a) g e (by simp) (r.append o) ?_,Z,q⟩;rw[Af];lia
theorem qns {α β:Type}{F:α->β->Prop}:∀{l:List α}{m:List β},l.length=m.length->(∀(j:Nat)(x:α)(u:β),l[j]?=some x->m[j]?=some u->F x u)->Dh F l m
 | [],[],_,_=>.nil
 |x::l,u::m,h,f=>.cons (f 0 x u Z Z) (qns (Nat.succ.inj h) λj y v a b=>f (j+1) y v a b)
theorem is_kV {P:AK}{w:World}{k:Key}{u:Value}(h:(qap P w).is k u=true):RelV (kV k) u:=by
 cases k with|inl i=>exact Value.isInt_shape h|inr x=>exact Value.isStrOf_shape h
theorem qfm (B:X.calm=true):qf9 X (.type "list") (λxs H Q=>∃(d:Addr)(kvs:List (Key×V)),xs=[.ref d]/\H d=some (.dK kvs)/\∀l,H l=none->Q (.ref l) (upd H l (.lst (kvs.map λa=>kV a.1)))):=by
 intro pins s σ H xs us Q I r h;obtain⟨d,kvs,rfl,hd,q⟩:=h;obtain⟨u,rfl,o⟩:=qm9 r;cases o;obtain⟨z,lo,vs,a,C⟩:=qwa I.hok hd;obtain⟨ep,i⟩:=C.dictAt;refine PySem.W.kdl_call (PySem.W.kdl_dict (knd:=qap X.prog X.w) (kvs:=vs) (ep:=ep) lo) (I.ok.hd B) i (by rw[<- a.length];exact z) λh' tk f c kp e m=>?_;have rv:Vals (kvs.map λa=>kV a.1) f.toList:=by
  have A:(kvs.map λa=>kV a.1).length=f.toList.length:=(Ab _).trans (a.length.trans (m.1.symm.trans Cb.symm));refine qns A λj x u b D=>?_;obtain⟨k,y,v,t⟩:=m.2 j u (by rw[<- D9];exact D);rw[Ag]at b;have g:=congrArg (·[j]?) a.keys;simp only[Ag,v,Dl]at g;cases n:kvs[j]? with|none=>rw[n]at b;cases b|some p =>rw[n]at b g;cases b;cases AD g;exact is_kV t
 exact⟨.ref s.heap.objs.size,_,I.laid (t':=tk) kp (Al _) (show ObjOk X.prog X.w _ h' _ (.lst (kvs.map λa=>kV a.1)) from ⟨by rw[Ab];exact z,f.toList,c,rv,by simpa using e⟩),Z,q _ (I.hok.fresh (Al _))⟩
end
theorem quy {X:Cx}{K:Ah}(h:X.K=K):qf9 X (.builtin "isinstance") (λxs H Q=>∃x t c b,xs=[x,.ty c]/\TyOf K H x t/\AR K t (.type c)=some b/\Q (.bl b) H):=by subst h;exact qge
def tMethF {ι:Type}(C:ι->Addr)(m:Str)(sp:ι->Sp)(dvs:List V)(E:XK)(ta:TE)(t:TA):TE:=λσ H Q=>ta σ H λx H1=>∃(i:ι)(a dx:Addr)(fs:List (Str×V)),x=.ref a/\H1 a=some (.ins (C i) dx fs)/\fs.lookup m=none /\
 t σ H1 λvs H2=>sp i (x::(vs++dvs)) H2 Q E
section
variable {X:Cx}{CX:CXT}{ι:Type}{k:ι->Nat}{f C:ι->Addr}{fd:ι->Aw}{ps:ι->List Str}{sp:ι->Sp}{dvs:List V}{ds:List Value}{E:XK}{m:Str}{pos apos:Pos}{e o:Expr}{es:List Expr}{ta:TE}{t:TA}
theorem qlf {pl:Sem Bool}(J:PE X o ta)(c:∀i,Cls X.K (C i))(n:∀i,Meth X.K (C i) m (f i))(F:∀i,FnOk X.prog X.w X.K X.mg X.base CX (k i) (f i) (fd i) (ps i) (sp i))(G:∀i,Room (k i) X.A)(B:∀i,Binds X.K (fd i) (ps i) ds)(p:Vals dvs ds)(v:qgb CX X E)(M:PA X (e::es) t)
  (g:starEach (e::es) X.env=(false,eval e X.env)::starEach es X.env:=by rfl)(hpl:(backTo pos (starEach es X.env)).any (·.1)=false:=by rfl)
  (ht:eval (.Call (.Attribute o m apos) (e::es) [] pos) X.env=(do
   let ov <- eval o X.env
   standAt apos.atName
   let (f,first) <- holding [ov] (getMethod ov m pl)
   callWith pos f first (backTo pos (starEach (e::es) X.env)) (backToKw pos (keywordEach [] X.env))):=by rfl) :
  PE X (.Call (.Attribute o m apos) (e::es) [] pos) (tMethF C m sp dvs E ta t):=by
 intro b s σ H Q I h;refine D8 (pl:=pl) (thn (J b s σ H _ I h) λu L ⟨x,N,j,z,i,a,dx,fs,ex,y,l,q⟩=>?_) ht;subst ex;obtain rfl:u=Bl a:=z;refine qhl j y (c i) (n i) l ?_;refine Dm (first:=[.ref a]) (h₀:=X.base) I.ok.mod.kin (n i).kp (thn (M pos b L σ N _ j q) λus s2 ⟨vs,H2,d,r,D⟩=>⟨d.kIn,?_⟩) g hpl;exact qn8 (us:=.ref a::us) (vs:=.ref a::vs) (F i) (G i) (B i) p v d (.cons Z r) D
end
inductive Three where
 |a|b|c
noncomputable def qcl {α:Type}(x y z:α):Three->α
 |.a=>x
 |.b=>y
 |.c=>z
theorem qf4 {p:Three->Prop}(x:p .a)(y:p .b)(z:p .c):∀i,p i
 |.a=>x
 |.b=>y
 |.c=>z
section
variable {X:Cx}
end
section
variable {K:Ah}{C:Addr}
noncomputable def quz (K:Ah)(C:Addr):Bool:=(Be K (.ref C) "__class__" == some (some (.builtin "object.__class__"))) && (PySem.W.specialIn K (.builtin "object.__class__") "__get__" == some (some (.builtin "getset_descriptor.__get__"))) && (PySem.W.takesIn K (.builtin "object.__class__") == some true) && (PySem.W.mroIn K C (.type "object") == some true)
end
section
variable {X:Cx}{tg:Expr}
end
section
variable {X:Cx}
theorem qp0:∀{b:List Str}{its:List Value},Vals (b.map V.str) its->StrsAre its b
 | [],_,.nil=>.nil
 |y::b,_,.cons a r=>by obtain⟨t,rfl⟩:=a;exact .cons y t (qp0 r)
theorem qp1:∀{a:List Str}{its:List Value},StrsAre its a->Vals (a.map V.str) its
 | [],_,.nil=>.nil
 |_::_,_,.cons y t h=>.cons ⟨t,Z⟩ (qp1 h)
theorem qoi:qf9 X (.builtin "sorted") (λxs H Q=>∃(p:Addr)(c:List Str),xs=[.ref p]/\SqL X.K H p (c.map V.str)/\c.length<64/\∀(q:Addr)(a:List Str),H q=none->a.Perm c->Q (.ref q) (upd H q (.lst (a.map V.str)))):=by intro pins s σ H xs vs Q I r h;obtain⟨p,c,rfl,i,h64,q⟩:=h;obtain⟨u,rfl,m⟩:=qm9 r;cases qkm m;obtain⟨its,rv,pl,hz⟩:=I.list i;have g:=rv.length;rw[Ab]at g;refine sorted_strs pl.isList (qp0 rv) (by lia) λd a l f hs=>?_;obtain⟨e,j⟩:=sortedAll_at s.heap its d;refine⟨.ref (s.heap.objs.size+1),upd H (s.heap.objs.size+1) (.lst (a.map V.str)),I.laid (t':=s.toks) (λb u e=>sortedAll_old e) (C3 _) ?_,Z,q _ a (I.hok.fresh (C3 _)) f⟩;have k:=f.length_eq;refine⟨by rw[Ab,k];exact B9 (qnh (by lia)),d.toList,e,qp1 l,?_⟩;exact j
end
section
variable {X:Cx}
end
section
end
section
variable {prog:AK}{w:World}{A:AO}{E:Value->Ad->Prop}{s:Ad}
end
section
variable {prog:AK}{w:World}{A:AO}{E:Value->Ad->Prop}{s:Ad}{z TI TO i1 i2:Addr}{f1 f2:List Addr}{n n2 k:Nat}{P1 P2:Nat->Value->Prop}{S1 S2:Nat->Heap->Prop}
end
section
end
section
variable {X:Cx}
end
section
variable {X:Cx}{t:Expr}{es:List Expr}{c:Value}{us:List Value}{qb9:List ExceptHandler}{tr:TH}{body:List Stmt}{pos pos':Pos}
end
section
variable {X:Cx}
end
section
variable {X:Cx}
end
section
variable {prog:AK}{w:World}{A:AO}{E:Value->Ad->Prop}{s:Ad}
end
section
variable {P:AK}{w:World}{K:Ah}{mg:Str->Option Value}{base:Heap}
end
section
variable {X:Cx}
end
section
variable {X:Cx}
theorem ext_tup (l b:Addr)(as bs:Array Value)(n m:Nat)(j:Option Addr)(e:Array (Option Value))(h0:¬(!as.isEmpty && BD.List.listTooLong (as.size+bs.size))=true)(k:as.size<=A5)(i:as.size+bs.size<=A5+1) :
  Meets (BD.«list.extend» ⟨[.ref l,.ref b],[]⟩) (λ_ R s=>s.heap.get? l=some ⟨.type "list",none,.seq as n,#[]⟩/\s.heap.get? b=some ⟨.type "tuple",j,.seq bs m,e⟩/\R (.ok (.ret .none)) {s with heap:=s.heap.update l (B1 λx=>x++bs),toks:=s.toks}):=by
 refine .of_wp λprog w A R s h=>?_;obtain⟨hp,g,d,tk,os⟩:=s;obtain⟨c,f,h⟩:=h;have k1:=AutoSeq1.idx_int;have k2:=AutoSeq1.sub_tuple_tuple;have k3:=AutoSeq1.sub_list_list;have k4:=AutoSeq1.sub_tuple_list;have k5:=AutoSeq1.sub_list_tuple;have a:(as++bs).size<=A5+1:=A9 (BY Array.size_append) i
 wp_walk using (wpAny_updateSeq c Z (hz:=k) (_hz':=a)),wpAny_loadPart' c,wpAny_loadPart' f
 exact⟨_,Z,h⟩
noncomputable def qwr (K:Ah):V->List V->Hp->VK->Prop:=λx vs H Q=>∃l b xs zs,x=.ref l/\vs=[.ref b]/\H l=some (.lst xs)/\SqT K H b zs/\xs.length+zs.length<=A5/\Q .non (upd H l (.lst (xs++zs)))
theorem qrv:MtM X "list.extend" (qwr X.K):=by
 intro pins s σ H x vs v us Q I k rv h;obtain⟨l,b,xs,zs,rfl,rfl,d,m,hz,q⟩:=h;cases k;obtain⟨u,rfl,p⟩:=rv.one;cases p;obtain⟨z,its,n,r,hl,e⟩:=I.lstM d;obtain⟨a,f,t,hz2⟩:=I.tuple m;have hl2:=f.length;obtain⟨⟨cl,o,da,i⟩,g,rfl,j,rfl⟩:=t;have hsz:its.toArray.size+a.toArray.size<=A5:=by rw[Aj,Aj];lia
 have c:¬(!its.toArray.isEmpty && BD.List.listTooLong (its.toArray.size+a.toArray.size))=true:=by rw[qk4 hsz,Ck];exact AF
 refine DB F.slot_list_extend ⟨_,e,Z⟩ F.entry_list_extend (F.args_list_extend_2 _ _)
  (ext_tup l b its.toArray a.toArray n j o i c (by rw[Aj];lia) (by lia)) ⟨e,g,?_⟩
 refine⟨.non,_,I.lset (its':=its++a) d e (by simp) (r.append f) ?_,Z,q⟩;rw[Af];lia
end
theorem qws {js:List (Option Nat)}{g:TG}{O:TE}{J:It}{σ:L2.St}{H:Hp}{Q:VK}{xs:List V}(G:Addr->V->Addr->Hp->Prop)(S:∀p x q H H',(∀b o,b≠p->H b=some o->H' b=some o)->G p x q H->G p x q H')(Gn:∀p x q H,G p x q H->H q≠none)
  (k:L2.St->Prop)(F:qnk J H xs)(hz:xs.length<=A5)(Y:k (qc8 js σ))
  (step:∀(p:Addr)(x:V)(σ':L2.St)(H':Hp)(RR:L2.St->VK),x∈xs->H p=none->Same H H'->(∃zs,H' p=some (.lst zs))->k σ'->(∀σ3 q d,k σ3->Same H' d->H' q=none->G p x q d->RR σ3 (.ref q) d)->g x σ' H' λσ3 s=>O σ3 s (RR σ3))
  (W:∀(x:V)(σ':L2.St)(H':Hp)(R M:L2.St->Hp->Prop),(∀σ3 s,R σ3 s->M σ3 s)->g x σ' H' R->g x σ' H' M)
  (N:∀(p:Addr)(H':Hp)(u:List Addr),H p=none->Same H H'->H' p=some (.lst (u.map V.ref))->u.length=xs.length->u.Nodup->(∀(j:Nat)(x:V)(q:Addr),xs[j]?=some x->u[j]?=some q->G p x q H'/\q≠p/\H q=none)->Q (.ref p) H') :
  qjb js g qs3 O σ Q J H:=by
 intro p B;refine⟨λi m σ' H'=>m=xs.length-i/\i<=xs.length/\k σ'/\Same H H'/\∃ys:List Addr,H' p=some (.lst (ys.map V.ref))/\ys.length=i/\ys.Nodup/\∀(j:Nat)(x:V)(q:Addr),xs[j]?=some x->ys[j]?=some q->G p x q H'/\q≠p/\H q=none,⟨xs.length,by simp,AQ _,Y,qai (Same.refl H) B,[],qk,Z,.nil,λj x y _ E=>by cases E⟩,?_⟩;rintro i m σ' H' ⟨rfl,hi,hv,t,us,w,L,nd,I⟩;obtain⟨U,F2⟩:=F _ t;by_cases l:i<xs.length
 .have ex:xs[i]?=some xs[i]:=by simp[l]
  obtain⟨go,X⟩:=U i _ ex;refine .inr ⟨go,λσ2 h=>k σ2/\Same H h/\∃ys:List Addr,h p=some (.lst (ys.map V.ref))/\ys.length=i+1/\ys.Nodup/\∀(j:Nat)(x:V)(q:Addr),xs[j]?=some x->ys[j]?=some q->G p x q h/\q≠p/\H q=none,λσ2 h ⟨a,b,c⟩=>⟨xs.length-(i+1),by lia,Z,l,a,b,c⟩,λx h E=>?_⟩;obtain⟨rfl,rfl⟩:=X x h E;refine W _ _ _ _ _ (λσ3 s z=>?_) (step p xs[i] σ' _ (λσ3 v d=>∃zs,d p=some (.lst zs)/\zs.length<A5/\(k σ3/\Same H (upd d p (.lst (zs++[v])))/\∃ys:List Addr,upd d p (.lst (zs++[v])) p=some (.lst (ys.map V.ref))/\ys.length=i+1/\ys.Nodup/\∀(j:Nat)(x:V)(q:Addr),xs[j]?=some x->ys[j]?=some q->G p x q (upd d p (.lst (zs++[v])))/\q≠p/\H q=none)) (BV l) B t ⟨_,w⟩ hv λσ3 q d P D A hq=>?_)
  .exact z
  .have h5:=D _ _ w;have T:q≠p:=λz=>by rw[z,w]at A;cases A
   have keep:∀b o,b≠p->d b=some o->upd d p (.lst (us.map V.ref++[V.ref q])) b=some o:=λb o n e=>by rw[qr n];exact e
   refine⟨_,h5,?_,P,qai (t.trans D) B,us++[q],?_,?_,?_,λj x y C f=>?_⟩
   .rw[Ab];lia
   .rw[qk,Ar];rfl
   .rw[Af,L];rfl
   .refine List.nodup_append.mpr ⟨nd,Co _ _,λa ha b hb e=>?_⟩;obtain⟨j,r⟩:=Bv ha;have lj:=(Ac.mp r).1;obtain⟨K,_⟩:=I j _ a (Ae (by lia)) r;have:=Gn _ _ _ _ K;rw[e,Ai.mp hb]at this;exact this A
   .by_cases r:j<us.length
    .rw[AH r]at f;obtain⟨K,g2,g3⟩:=I j x y C f;exact⟨S _ _ _ _ _ (λb o n e=>keep b o n (D _ _ e)) K,g2,g3⟩
    .rw[AS (DE.mp r)]at f;have ej:j=i:=by have:=(Ac.mp f).1;simp at this;lia
     subst ej;rw[L,D4]at f;rw[ex]at C;cases C;cases f;exact⟨S _ _ _ _ _ keep hq,T,t.free A⟩
 .have e:i=xs.length:=by lia
  subst e;exact .inl ⟨F2,N p _ us B t w L nd I⟩
section
variable {X:Cx}
end
end Add
namespace Sts
open PySem PyProof.Rows
section
variable {prog:AK}{w:World}{A:AO}{E:Value->Ad->Prop}{s:Ad}
noncomputable def once (acc:List Str)(x:Str):List Str:=if x∈acc then acc else acc++[x]
end
section
variable {prog:AK}{w:World}{A:AO}{R:Result->Ad->Prop}{I:Addr}{fp wr:List Addr}{G:Array Et->Array Et->Prop}{n:Nat}{P:Nat->Value->Prop}{St:Nat->Ad->Prop}
end
end Sts
namespace Sts
open PySem PyProof.Rows
set_option maxRecDepth 100000
section
variable {prog:AK}{w:World}{A:AO}{E:Value->Ad->Prop}{s:Ad}
end
end Sts
namespace Sts
open PySem PyProof.Rows
set_option maxRecDepth 100000
section
variable {prog:AK}{w:World}{A:AO}{E:Value->Ad->Prop}{s:Ad}
end
end Sts
namespace Sts
open PySem PyProof.Rows
set_option maxRecDepth 100000
section
variable {M:Model}{A:AO}{E:Value->Ad->Prop}{s:Ad}
end
end Sts
namespace Sts
open PySem PyProof.Rows
set_option maxRecDepth 100000
section
variable {prog:AK}{w:World}{A:AO}{E:Value->Ad->Prop}{s:Ad}
end
end Sts
namespace Sts
open PySem PyProof.Rows
set_option maxRecDepth 100000
section
variable {prog:AK}{w:World}{A:AO}{E:Value->Ad->Prop}{s:Ad}
end
end Sts
namespace Sts
open PySem PyProof.Rows
set_option maxRecDepth 100000
section
variable {prog:AK}{w:World}{A:AO}{E:Value->Ad->Prop}{s:Ad}
end
end Sts
namespace Sts
open PySem PyProof.Rows
set_option maxRecDepth 100000
section
variable {prog:AK}{w:World}{A:AO}{E:Value->Ad->Prop}{s:Ad}
end
end Sts
namespace Sts
open PySem PyProof.Rows
set_option maxRecDepth 100000
section
variable {prog:AK}{w:World}{A:AO}{E:Value->Ad->Prop}{s:Ad}
end
end Sts
namespace Add
open PySem PySem.Spec PyProof.Rows L2
theorem boot_sorted:bootBuiltins "sorted"=some (.builtin "sorted"):=Ez
section
variable {X:Cx}
end
end Add
namespace Add
open PySem PySem.Spec PyProof.Rows L2
section
variable {X:Cx}{pins:List (Addr×Obj)}{σ:L2.St}{H:Hp}{s:Ad}
theorem inv_frz {d:Addr}{o:Obj}{kvs:List (Key×V)}(I:Inv X pins σ H s)(g:H d=some (.dK kvs))(j:s.heap.get? d=some o):Inv X pins σ (upd H d (.frz o (.dK kvs))) s:=by
 have a:∀b u,H b=some u->(∀k,u ≠ .dK k)->b≠d:=λb u e n z=>by rw[z,g]at e;exact n kvs (AD e).symm
 have f:∀b,H b=none->b≠d:=λb e z=>by rw[z,g]at e;cases e
 refine⟨I.ok,I.os,I.bare,⟨I.base.keep,I.base.slot,λb u e n i=>?_,I.base.there,λb xs e=>?_,λb u v e=>?_,λb ps e=>?_⟩,I.loc,I.cell,?_,λx c e=>?_,λp t=>?_,λb u e=>?_,I.len⟩
 .have:=I.base.free b u e n i;rw[qr (f b this)];exact this
 .have:=I.base.tups b xs e;rw[qr (a b _ this λk z=>nomatch z)];exact this
 .have:=I.base.frzs b u v e;rw[qr (a b _ this λk z=>nomatch z)];exact this
 .obtain⟨m,this⟩:=I.base.tbls b ps e;exact⟨m,by rw[qr (a b _ this λk z=>nomatch z)];exact this⟩
 .rw[qr (f _ I.free)];exact I.free
 .rw[qr (f _ (I.freeC x c e))];exact I.freeC x c e
 .obtain⟨l,h,r⟩:=I.pin p t;exact⟨l,by rw[qr (f _ h)];exact h,r⟩
 .have st:∀{b u},ObjOk X.prog X.w H s.heap b u->ObjOk X.prog X.w (upd H d (.frz o (.dK kvs))) s.heap b u:=λ{b u} q=>q.stay (λ_ _ _ e=>e) (λc e=>by rw[qr (a c _ e λk z=>nomatch z)];exact e) λc xs e=>by rw[qr (a c _ e λk z=>nomatch z)];exact e
  by_cases z:b=d
  .rw[z]at e |-;rw[qk]at e;cases e;exact⟨j,st (I.hok d _ g)⟩
  .rw[qr z]at e;exact st (I.hok b u e)
theorem qwt {d:Addr}{o:Obj}{kvs:List (Key×V)}(I:Inv X pins σ H s)(g:H d=some (.frz o (.dK kvs)))(j:∀u v,X.H₀ d≠some (.frz u v)):Inv X pins σ (upd H d (.dK kvs)) s:=by
 have a:∀b u,H b=some u->(∀k v,u ≠ .frz k v)->b≠d:=λb u e n z=>by rw[z,g]at e;exact n _ _ (AD e).symm
 have f:∀b,H b=none->b≠d:=λb e z=>by rw[z,g]at e;cases e
 refine⟨I.ok,I.os,I.bare,⟨I.base.keep,I.base.slot,λb u e n i=>?_,I.base.there,λb xs e=>?_,λb u v e=>?_,λb ps e=>?_⟩,I.loc,I.cell,?_,λx c e=>?_,λp t=>?_,λb u e=>?_,I.len⟩
 .have:=I.base.free b u e n i;rw[qr (f b this)];exact this
 .have:=I.base.tups b xs e;rw[qr (a b _ this λk v z=>nomatch z)];exact this
 .have:=I.base.frzs b u v e;rw[qr (λz=>j u v (by rw[<- z];exact e))];exact this
 .obtain⟨m,this⟩:=I.base.tbls b ps e;exact⟨m,by rw[qr (a b _ this λk v z=>nomatch z)];exact this⟩
 .rw[qr (f _ I.free)];exact I.free
 .rw[qr (f _ (I.freeC x c e))];exact I.freeC x c e
 .obtain⟨l,h,r⟩:=I.pin p t;exact⟨l,by rw[qr (f _ h)];exact h,r⟩
 .have st:∀{b u},ObjOk X.prog X.w H s.heap b u->ObjOk X.prog X.w (upd H d (.dK kvs)) s.heap b u:=λ{b u} q=>q.stay (λ_ _ _ e=>e) (λc e=>by rw[qr (a c _ e λk v z=>nomatch z)];exact e) λc xs e=>by rw[qr (a c _ e λk v z=>nomatch z)];exact e
  by_cases z:b=d
  .rw[z]at e |-;rw[qk]at e;cases e;exact st (I.hok d _ g).2
  .rw[qr z]at e;exact st (I.hok b u e)
end
end Add
namespace Lam
open PySem PySem.Spec PySem.Calls PyProof.Rows L2 Add PySem.W
noncomputable def qs8 (X:Cx)(A:AO)(N:List Str)(qual:Str)(scope:Scope)(f:Addr)(cd:Value)(cl:List (Str×Addr))(s:Ad)(H:Hp)(E:Value->Ad->Prop):Cx where
 prog:=X.prog
 w:=X.w
 K:=X.K
 mg:=X.mg
 base:=X.base
 A:=A.deeper (envX qual scope s.heap.objs.size f cd cl)
 N:=N
 s₀:=s
 H₀:=H
 env:=envX qual scope s.heap.objs.size f cd cl
 outer:=X.stack
 stack:=envX qual scope s.heap.objs.size f cd cl::X.stack
 ex:=[]
 fn:=λ_=>false
 calm:=true
 pn:=[]
 xe:=E
noncomputable def qhf (js:List (Option Nat))(σ:L2.St)(x:V):L2.St:=(qc8 js σ).set 0 (some x)
section
variable {X:Cx}{A:AO}{N XN:List Str}{js:List (Option Nat)}{xs scope:Scope}{qual y:Str}{f:Addr}{cd:Value}{cl:List (Str×Addr)}{E:Value->Ad->Prop}{pins:List (Addr×Obj)}{σ:L2.St}{H:Hp}{s:Ad}{u:Value}{x:V}
theorem qu0 {G:Heap}{tk:Nat}(hN:X.N=XN)(Q:X.env.scope=xs)(nm:CompNm N js XN xs scope)(d:∀x c,cl.lookup x=some c->X.env.cells.lookup x=some c)(t:∀x∈scope.names,x.2=.free->(cl.lookup x.1).isSome=true)
  (hA:A.frames=some X.stack)(n:A.handled=none)(R:N[0]?=some y)(j0:js[0]?=some none)(W:scope.names.lookup y=some .local)(I:Inv X pins σ H s)(V:RelV x u)
  (O:G.Ns s.heap.objs.size (λz=>[(y,u)].reverse.lookup z))(m:∀b o,s.heap.get? b=some o->G.get? b=some o) :
  Inv (qs8 X A N qual scope f cd cl s H E) [] (qhf js σ x) H {s with heap:=G,toks:=tk}:=by
 have C:∀b:Addr,b∉(qs8 X A N qual scope f cd cl s H E).ex:=λb z=>absurd (show b∈([]:List Addr) from z) (by simp);have ln:0<js.length:=(Ac.mp j0).1;refine⟨⟨I.ok.mod,nm.kind,Z,Z,Al _,λx y c h1 Y=>I.ok.inj x y c (d x c h1) (d y c Y),λz hz=>?_,(λ_ _ h _=>nomatch h),λ_=>n,AO.frames_deeper hA,.inr ⟨Z,Z⟩,λb z=>absurd z (C b),I.bs,A9 I.ok.bsz I.sz,λb _ _=>C b,λb z=>absurd z (C b),I.stack,I.stkFree⟩,
  rfl,I.bare,Un.kept m,⟨_,O,λi z v B g e3=>?_⟩,λz c e=>?_,I.hok.fresh (Al _),λz c e=>I.freeC z c (d z c e),λp hp=>absurd (show p∈([]:List (Addr×Obj)) from hp) (by simp),I.hok.kept m,?_⟩
 .have hz:scope.names.lookup z=some .cell\/scope.names.lookup z=some .free:=hz;rcases hz with hz|hz
  .exact absurd rfl (nm.nocell _ (Cc hz))
  .exact BP.mp (t _ (Cc hz) Z)
 .by_cases c:i=0
  .subst c;have B:N[0]?=some z:=B;rw[R]at B;cases B;have g:(qhf js σ x)[0]?=some (some v):=g;unfold qhf at g;rw[Du (by unfold qc8;rw[Ab];exact ln)]at g;cases g;exact⟨u,V,.inl ⟨W,by show [(y,u)].reverse.lookup y=some u;simp⟩⟩
  .have g:(qhf js σ x)[i]?=some (some v):=g;unfold qhf at g;rw[DK (By c)]at g;have l:((js[i]?).map λj=>j.bind λk=>(σ[k]?).join)=some (some v):=by
    unfold qc8 at g
    rwa [Ag]at g
   cases F:js[i]? with
   |none=>rw[F]at l;cases l
   |some jo =>
    rw[F]at l;cases jo with
    |none=>cases l
    |some j =>
     have a:(σ[j]?).join=some v:=AD l;have e4:σ[j]?=some (some v):=by
      cases q:σ[j]? with
      |none=>rw[q]at a;cases a
      |some o=>rw[q]at a;cases o with
       |none=>cases a
       |some y=>cases a;rfl
     obtain⟨U,P,a3,a4⟩:=nm.free i j z B F;obtain⟨mX,hnX,lX⟩:=I.loc;have K:Vis X.env.scope z:=by rw[Q];exact .inr P
     obtain⟨u',ru,lu⟩:=lX j z v (by rw[hN];exact U) e4 K;refine⟨u',ru,?_⟩;rcases lu with ⟨M,_⟩|⟨M,c,S,w⟩
     .exfalso;have r:X.env.scope.names.lookup z=some .local:=M;rw[Q]at r;rcases P with q|q <;>rw[q]at r <;>cases r
     .obtain⟨T,L⟩:=BP.mp (t _ a3 Z);have J:=d z T L;rw[S]at J;cases J;refine .inr ⟨.inr a4,c,L,?_⟩;obtain⟨o,D,n⟩:=w;exact⟨o,m c o D,n⟩
 .obtain⟨v,o,D,n⟩:=I.cell z c (d z c e);exact⟨v,o,m c o D,n⟩
 .unfold qhf qc8;rw[List.length_set,Ab];exact nm.len.symm
theorem qwu {h:Str}{d:Arguments}{a:Expr}{F l:Value}{g:Addr}{tb:TE}{Q:VK}(T:X.N=XN)(W:X.env.scope=xs)(nm:CompNm N js XN xs scope)(m:∀x c,cl.lookup x=some c->X.env.cells.lookup x=some c)(n:∀x∈scope.names,x.2=.free->(cl.lookup x.1).isSome=true)
  (Y:A.frames=some X.stack)(K:A.handled=none)(j:A.depth<recursionLimit)(L:N[0]?=some y)(R:js[0]?=some none)(B:scope.names.lookup y=some .local)(C:scope.isCoroutine=false)(p:scope.isGenerator=false)
  (i:∀u,bindArgs (kla_fn h qual d a scope cl F (.ref g) l) ⟨[u],[]⟩=pure [(y,u)])
  (P:∀(s:Ad)(H:Hp)(E:Value->Ad->Prop),PE (qs8 X A N qual scope f (.ref g) cl s H E) a tb)
  (I:Inv X pins σ H s)(V:s.heap.get? f=some (DI h qual d a scope cl F g l))(D:s.heap.CodeRec (.ref g) qual)(O:RelV x u)(S:tb (qhf js σ x) H Q) :
  wpAny (model X.prog X.w) A (call (.ref f) [u]) (EP X pins σ Q) E s:=by
 refine wpAny_call (kla_callFunE j V Z C p Z D ?_);rw[i u];refine Bf (wpAny_newFunctionEnv nm.nocell (λz hz=>?_) (λU G t=>?_) nm.kind)
 .rw[Ai.mp hz];exact B
 have k:∀b o,s.heap.get? b=some o->U.get? b=some o:=λb o e=>t.extBut b o (AE (AC e)) (As _ e);refine⟨(I.nolimit).keeps k,?_⟩;show codeAny _ _ (.expr a (envX qual scope s.heap.objs.size f (.ref g) cl)) _ _;refine kla_codeExpr ?_;refine BR (P s H _ [] _ (qhf js σ x) H Q (qu0 T W nm m n Y K L R B I O G k) S) (λv s' z=>?_) λ_ _ z=>z;obtain⟨M,H',J,r,q⟩:=z;exact I.after ⟨M,H',J.os,J.bare,J.base,J.hok,r,q⟩
end
structure LamF (mg:Str->Option Value)(base:Heap)(c Pt:Addr):Prop where
 hd:CodeHd base c Pt
 bm:∃bm ob,mg "__builtins__"=some (.ref bm)/\bm≠builtinsNs/\bm≠A6/\base.get? bm=some ob/\ob.cls=.type "module" /\ ob.dict=some builtinsNs/\ob.data=.plain
section
variable {fs ex:List Addr}{H:Hp}{h h':Heap}{Pt:Addr}{ps more:Array Value}{prog:AK}{w:World}
theorem qlg {b:Addr}{u:HO}(a:H Pt=some (.tbl ps))(q:H b=some u)(n:∀z,u ≠ .tbl z):b≠Pt:=λz=>by rw[z,a]at q;exact n _ (AD q).symm
theorem un_tbl (a:H Pt=some (.tbl ps))(k:∀b o,b≠Pt->h.get? b=some o->h'.get? b=some o)(e:h'.get? Pt=some (tabObj (ps++more))):Un fs ex H (upd H Pt (.tbl (ps++more))) h h':=by
 have c:∀b,H b=none->b≠Pt:=λb n z=>by rw[z,a]at n;cases n
 refine⟨λb o q n _ _=>k b o (c b n) q,λb o q n _ _=>⟨o.slots,k b o (c b n) q⟩,λb o q n _=>by rw[qr (c b n)];exact n,λb o q _=>?_,λb xs q=>?_,λb o u q=>?_,λb qs q=>?_⟩
 .by_cases z:b=Pt
  .rw[z];exact⟨_,e⟩
  .exact⟨o,k b o z q⟩
 .rw[qr (qlg a q λ_ z=>nomatch z)];exact q
 .rw[qr (qlg a q λ_ z=>nomatch z)];exact q
 .by_cases z:b=Pt
  .rw[z,a]at q;cases q;exact⟨more,by rw[z,qk]⟩
  .exact⟨#[],by rw[qr z,q];simp⟩
theorem hok_tbl (f:HOk prog w H h)(a:H Pt=some (.tbl ps))(k:∀b o,b≠Pt->h.get? b=some o->h'.get? b=some o)(e:h'.get? Pt=some (tabObj (ps++more))):HOk prog w (upd H Pt (.tbl (ps++more))) h':=λb u q=>by
 by_cases z:b=Pt
 .subst z;rw[qk]at q;cases q;exact e
 .rw[qr z]at q;refine(f b u q).stay (λc v d r=>k c v ?_ r) (λc r=>?_) λc xs r=>?_
  .rcases d with rfl|d
   .exact z
   .exact qlg a d λ_ z=>nomatch z
  .rw[qr (qlg a r λ_ z=>nomatch z)];exact r
  .rw[qr (qlg a r λ_ z=>nomatch z)];exact r
end
section
variable {X:Cx}{scope:Scope}{cl:List (Str×Addr)}{E:Value->Ad->Prop}{pins:List (Addr×Obj)}{σ:L2.St}{H:Hp}{s:Ad}
end
section
variable {X:Cx}{A:AO}{E:Value->Ad->Prop}{pins:List (Addr×Obj)}{σ:L2.St}{H:Hp}{s:Ad}
theorem qnt {a:Addr}{o:HO}(I:Inv X pins σ H s)(t:H a=none)(j:X.s₀.heap.objs.size<=a)(y:a≠X.env.locals)(B:∀x c,X.env.cells.lookup x=some c->c≠a)(A:∀p∈X.pn++pins,p.1≠a)(g:ObjOk X.prog X.w (upd H a o) s.heap a o):Inv X pins σ (upd H a o) s:=by
 have k:∀b u,H b=some u->b≠a:=λb u e z=>by rw[z,t]at e;cases e
 have d:∀b u,H b=some u->upd H a o b=some u:=λb u e=>by rw[qr (k b u e)];exact e
 refine⟨I.ok,I.os,I.bare,⟨I.base.keep,I.base.slot,λb u e n h=>?_,I.base.there,λb xs e=>d _ _ (I.base.tups b xs e),λb u z e=>d _ _ (I.base.frzs b u z e),λb ps e=>?_⟩,I.loc,I.cell,?_,λx c e=>?_,λp f=>?_,λb u e=>?_,I.len⟩
 .rw[qr (AE (A0 (AC e) j))];exact I.base.free b u e n h
 .obtain⟨m,q⟩:=I.base.tbls b ps e;exact⟨m,d _ _ q⟩
 .rw[qr y.symm];exact I.free
 .rw[qr (B x c e)];exact I.freeC x c e
 .obtain⟨l,i,C⟩:=I.pin p f;exact⟨l,by rw[qr (A p f)];exact i,C⟩
 .by_cases z:b=a
  .subst z;rw[qk]at e;cases e;exact g
  .rw[qr z]at e;exact(I.hok b u e).stay (λc v _ r=>r) (λc r=>d _ _ r) λc xs r=>d _ _ r
theorem kset {a:Addr}{ks ks':List V}{g:Array Value->Array Value}{Q:Unit->Ad->Prop}(I:Inv X pins σ H s)(h:H a=some (.lst ks))(i:ks'.length<=A5)(d:∀its:List Value,Vals ks its->Vals ks' (g its.toArray).toList)
  (k:∀s',Inv X pins σ (upd H a (.lst ks')) s'->Q () s'):wpAny (model X.prog X.w) A (BD.List.listUpdate (.ref a) g) Q E s:=by
 obtain⟨z,its,n,r,e⟩:=(show ObjOk X.prog X.w H s.heap a (.lst ks) from I.hok a _ h);have c:=d its r;have sz:(g its.toArray).size<=A5:=by
  have e1:ks'.length=(g its.toArray).size:=by rw[c.length,Cb]
  lia
 refine listUpdate_at (o:=seqObj "list" its.toArray n) e rfl ?_ (by rw[Aj,<- r.length];exact z) (Cq sz);obtain⟨c2,hc2⟩:∃c2,(s.heap.update a (B1 g)).get? a=some (seqObj "list" (g its.toArray) c2):=⟨_,get?_update_seq e g⟩;have j:=CB.update s.heap a (B1 g);refine k _ (I.write (x:=a) (e:=a) (t':=s.toks) (by rw[h];trivial) (.inl Z) (λb u f q=>(j.2 b f).trans q) ⟨_,hc2⟩ ⟨i,(g its.toArray).toList,c2,c,by rw[hc2,Array.toArray_toList]⟩)
end
section
variable {X:Cx}{A:AO}{E:Value->Ad->Prop}{pins:List (Addr×Obj)}{σ:L2.St}{H:Hp}{s:Ad}
end
end Lam
namespace Lam
open PySem PySem.Spec PySem.Calls PyProof.Rows L2 Add PySem.W
section
variable {prog:AK}{w:World}{A:AO}{E:Value->Ad->Prop}{s:Ad}
end
section
variable {X:Cx}
end
end Lam
namespace Lam
open PySem PySem.Spec PySem.Calls PyProof.Rows L2 Add PySem.W
section
variable {P:AK}{w:World}{K:Frag}{mg mb:Str->Option Value}{CX:CXT}{k:Nat}{fa a c Pt:Addr}{fd:Aw}{x:Str}{sp:Sp}{s₁:Ad}{vs:List Value}{ns:List Int}
noncomputable def hd0 (K:Frag)(a Pt:Addr)(vs:List Value)(ns:List Int):Hp:=λb =>
 if b=Pt then some (.tbl #[]) else if b=a/\K.lookup a=none then some (.frz {cls:=.type "list",data:=.seq vs.toArray} (.lst (ns.map V.int))) else none
theorem law_tab (O:K.In s₁.heap)(E:s₁.heap.Ns A6 mg)(hb:s₁.heap.Ns builtinsNs mb)(R:∀x:Str,x ≠ "__name__" -> mb x=bootBuiltins x)(N:s₁.heap.NoLimit)(hg:s₁.gens=#[])
  (i:s₁.heap.get? a=some {cls:=.type "list",data:=.seq vs.toArray})(hi:IntsAre vs ns)(hl:ns.length<=A5)(hr:Room k callerA)
  (hC:CodeHd s₁.heap c Pt)(hPt:s₁.heap.get? Pt=some (tabObj #[]))(hKP:K.lookup Pt=none)
  (hbm:∃y A,mg "__builtins__"=some (.ref y)/\y≠builtinsNs/\y≠A6/\s₁.heap.get? y=some A/\A.cls=.type "module" /\ A.dict=some builtinsNs/\A.data=.plain)
  (F:∀base:Heap,K.In base->base.Ns A6 mg->LamF mg base c Pt->FnOk P w K mg base CX k fa fd [x] sp)(hbind:∀(s:Ad)(u:Value),BindsTo s fd ⟨[u],[]⟩ [(x,u)])
  (hsp:∀H:Hp,H Pt=some (.tbl #[])->SqL K H a (ns.map V.int)->sp [.ref a] H (λv _=>v=.bl true) λ_ _ _=>False)
  (hCX:∀H e j,CX [] H s₁ (λ_ _ _=>False) e j->False) :
  codeAny (model P w) callerA (.call (.ref fa) ⟨[.ref a],[]⟩) (λr j=>r=.ok (.ret (.bool true))/\OldK s₁.heap j.heap/\j.os=s₁.os/\AllBare j.gens) s₁:=by
 have rv:=qng hi;have G:=hi.length;have X:a≠Pt:=λz=>by rw[z,hPt]at i;cases i
 have n:hd0 K a Pt vs ns Pt=some (.tbl #[]):=if_pos rfl;have only:∀b,hd0 K a Pt vs ns b≠none->b=Pt\/(b=a/\K.lookup a=none):=λb z=>by
  by_cases e:b=Pt
  .exact .inl e
  .by_cases f:b=a/\K.lookup a=none
   .exact .inr f
   .exact absurd (by unfold hd0;rw[if_neg e,if_neg f]) z
 have p:K.lookup a=none->hd0 K a Pt vs ns a=some (.frz {cls:=.type "list",data:=.seq vs.toArray} (.lst (ns.map V.int))):=λz=>by unfold hd0;rw[if_neg X,if_pos ⟨Z,z⟩]
 generalize hd0 K a Pt vs ns=H at n only p;have S:HOk P w H s₁.heap:=λb u e=>by
  rcases only b (by rw[e];simp) with rfl|⟨rfl,g⟩
  .rw[n]at e;cases e;exact hPt
  .rw[p g]at e;cases e;exact⟨i,by rw[Ab];exact hl,vs,_,rv,i⟩
 have un:∀{b:Addr}{o:Obj},s₁.heap.get? b=some o->o.cls ≠ .none->b≠a->H b=none:=λ{b o} e hc W=>by
  cases q:H b with
  |none=>rfl
  |some u =>
   rcases only b (by rw[q];simp) with rfl|⟨z,_⟩
   .rw[hPt]at e;cases e;exact absurd rfl hc
   .exact absurd z W
 have U:∀{b:Addr}{o:Obj}{es:Array DictEntry}{ep:Nat},s₁.heap.get? b=some o->o.data=.dict es ep->H b=none:=λ{b o es ep} e d=>by
  cases q:H b with
  |none=>rfl
  |some u =>
   rcases only b (by rw[q];simp) with rfl|⟨rfl,_⟩
   .rw[hPt]at e;cases e;cases d
   .rw[i]at e;cases e;cases d
 have l:∀{b:Addr}{m:Str->Option Value},s₁.heap.Ns b m->(qn6 s₁.heap H).Ns b m:=λ{b m} ⟨o,es,ep,e,d,r⟩=>⟨o,es,ep,qh5 e (U e d),d,r⟩;have kin:K.In (qn6 s₁.heap H):=λb o e=>qh5 (O b o e) (by
  cases q:H b with
  |none=>rfl
  |some u =>
   rcases only b (by rw[q];simp) with rfl|⟨rfl,g⟩
   .rw[hKP]at e;cases e
   .rw[g]at e;cases e)
 have md:Mod K mg (qn6 s₁.heap H):=⟨kin,l E,⟨mb,l hb,R⟩,by obtain⟨mc,h1,h2⟩:=N;exact⟨mc,l h1,h2⟩⟩;have lf:LamF mg (qn6 s₁.heap H) c Pt:=by
  refine⟨?_,?_⟩
  .obtain⟨o,ws,L,tf,C,tg,Q,M,tt,e,f,r⟩:=hC;refine⟨o,ws,L,tf,C,tg,Q,M,tt,qh5 e (un e (by rw[f];exact λz=>nomatch z) λz=>?_),f,r⟩;rw[z,i]at e;cases e;exact absurd (CZ.inj f) Uk
  .obtain⟨y,A,b1,b2,b3,D,I,b6⟩:=hbm;refine⟨y,A,b1,b2,b3,qh5 D (un D (by rw[I];exact λz=>nomatch z) λz=>?_),I,b6⟩;rw[z,i]at D;cases D;exact absurd (CZ.inj I) Uk
 have sq:SqL K H a (ns.map V.int):=by
  cases g:K.lookup a with|none=>exact .inl (.inr ⟨_,p g⟩)|some o =>have e:=O a o g;rw[i]at e;cases e;exact .inr ⟨_,vs.toArray,_,g,Z,Z,Z,by rw[Aj,G];exact hl,by simpa using rv⟩
 have e0:Env0 P w K mg (qn6 s₁.heap H) callerA [] s₁ H:=⟨Z,md,λb o e=>qyv e,BY (qua _ _),trivial,λb z=>absurd (show b∈([]:List Addr) from z) (by simp),S,.of_eq hg⟩;refine codeAny_mono ((F _ kin (l E) lf).run callerA [] s₁ H ⟨[.ref a],[]⟩ [.ref a] [.ref a] _ _ hr e0 (hbind s₁ (.ref a)) (.cons Z .nil) (hsp H n sq)) λr j h=>?_
 match r,h with
 |.error e,h=>exact(hCX H e j h).elim
 |.ok .next,h=>exact Ct h
 |.ok .brk,h=>exact Ct h
 |.ok .cont,h=>exact Ct h
 |.ok (.ret u),h =>
  obtain⟨v,H',os,J,t,B,Y,q⟩:=h;cases (show v=.bl true from q);cases (show u=DZ true from Y);refine⟨Z,⟨λb o e=>?_,λb o e=>t.there b o e (by simp)⟩,os,J⟩;by_cases T:H b=none
  .exact .inl (t.keep b o e T (λz=>absurd (show b∈([]:List Addr) from z) (by simp)) (by simp))
  .rcases only b T with rfl|⟨rfl,g⟩
   .obtain⟨more,f⟩:=t.tbls b _ n;have e3:j.heap.get? b=some (tabObj (#[]++more)):=B b _ f;rw[hPt]at e;cases e;exact .inr (.inl ⟨(hC.tab hPt).isCodeTable,Z,#[],more,Z,e3⟩)
   .have f:=t.frzs b _ _ (p g);rw[i]at e;cases e;exact .inl (B b _ f).1
end
theorem walk_tab {l:OpenLaw}{n k:Nat}{q:AK}{p:List Str}{XP:(Str->Option Value)->Heap->Prop}{L:World->Heap->Prop}{d d':DefRec}{K:Params->Frag}{CX:World->CXT}{sp:World->Addr->Sp}{x dn:Str}
  (hn:l.most=some n)(R:n<=A5)(Q:d.params.defaults=[])(hr:Room k callerA)(C:(recsOf q).find? (λe=>e.name == dn)=some d')
  (hY:∀(w:World)(h:Heap),L w h->(K w.params).In h)
  (F:∀(w:World)(mg:Str->Option Value)(t:Addr)(h:Heap),(K w.params).In h->h.Ns A6 mg->mg d.name=some (.ref t) ->
   ∃(fd:Aw)(c i:Addr),(∀(s:Ad)(u:Value),BindsTo s fd ⟨[u],[]⟩ [(x,u)])/\tabIn (K w.params) dn=some (c,i)/\(K w.params).lookup i=none /\
    ∀base:Heap,(K w.params).In base->base.Ns A6 mg->LamF mg base c i->FnOk l.prog w (K w.params) mg base (CX w) k t fd [x] (sp w i))
  (O:∀(w:World)(H:Hp)(a i:Addr)(m:List Int),m.length<=n->H i=some (.tbl #[])->SqL (K w.params) H a (m.map V.int)->sp w i [.ref a] H (λv _=>v=.bl true) λ_ _ _=>False)
  (N:∀(w:World)(H:Hp)(s:Ad)(e:Value)(y:Ad),CX w [] H s (λ_ _ _=>False) e y->False) :
  WalkO q p XP L l.row.toRowW d [] (λf vs=>PySem.call f vs):=by
 refine Att.attach_call hn Q λw s₀ U mg mb t o pm cd doc a vs m G Y ho hd hcd I E r j hg=>?_;have A:=hY w _ Y;obtain⟨fd,c,i,hb,ht,hk,S⟩:=F w mg t _ A G.T.g I;obtain⟨W,M⟩:=tab_of G.T A C ht;obtain⟨P,ob,b1,b2,D,b4,b5,B⟩:=G.T.bmain;have J:P≠A6:=λz=>by obtain⟨u,es,ep,e,dd,_⟩:=G.T.g;rw[z,e]at D;cases D;rw[dd]at B;cases B
 exact law_tab A G.T.g G.T.b G.T.builtins G.T.nolimit hg E r (A9 j R) hr W M hk ⟨P,ob,b1,b2,J,D,b4,b5,B⟩ S hb (λH hP X=>O w H a i m j hP X) λH e y=>N w H U e y
end Lam
namespace Lam
open PySem PySem.Spec PySem.Calls PyProof.Rows L2 Add PySem.W
theorem okT {P:AK}{w:World}{K:Frag}{mg:Str->Option Value}{base:Heap}{x b:Str}{st:Stmt}{f c:Addr}{fd:Aw}{N ps:List Str}{k:Nat}{sp:Sp}(F:Fun K x b st f fd)(l:fd.code=.ref c)(S:FnScope N ps (qaa st))(len:∀vs H Q E,sp vs H Q E->vs.length=ps.length)
  (d:∀(a:Value),a=.ref c->∀(A:AO)(outer:List Env)(s:Ad)(H:Hp)(vs:List V)(Q:VK)(E:XK),Room k (A.deeper (envOfC b (qaa st) s.heap.objs.size f a))->sp vs H Q E ->
   ∃t,PSs (qpk CX0 P w K mg base N b (qaa st) f a A outer s H E).nox (qav st) t/\t {nx:=λ_ H'=>Q .non H',rt:=Q} (start N vs) H):FnOk P w K mg base CX0 (k+1) f fd ps sp:=by
 obtain⟨oc,od,kV,doc,pm,an,a,ct,osl,rfl,i,e⟩:=F.ex
 refine qv4 i e S len λA outer s H vs Q E j g=>?_
 obtain⟨t,h,q⟩:=d a l A outer s H vs Q E j g
 exact⟨t,h.nox,q⟩
end Lam
namespace Lam
open PySem PySem.Spec PySem.Calls PyProof.Rows L2 Add PySem.W
end Lam
namespace Lam
open PySem PySem.Spec PySem.Calls PyProof.Rows L2 Add PySem.W
end Lam
namespace Lam
open PySem PySem.Spec PySem.Calls PyProof.Rows L2 Add PySem.W
theorem tab_mk {K:Frag}{x:Str}{f c a:Addr}{e l:Value}{n g:Option Addr}{fd:Aw}{b i:Array (Option Value)}{vs:Array Value}(d:nsIn K A6 x=some (some (.ref f)))(h:K.lookup f=some ⟨e,n,.func fd,b⟩)(m:fd.code=.ref c)(j:K.lookup c=some ⟨l,g,.fields vs,i⟩)(k:vs[11]?=some (.ref a)):tabIn K x=some (c,a):=by unfold tabIn;rw[d];dsimp only;rw[h];dsimp only;rw[m];dsimp only;rw[j];dsimp only;rw[k]
end Lam
namespace Add
open PySem PySem.Spec PyProof.Rows L2
end Add
namespace Lam
open PySem PySem.Spec PyProof.Rows L2 Add PySem.W PySem.Calls Srt
noncomputable def qp2 (c:Addr)(qual:Str):HO:=.ext λh=>h.CodeRec (.ref c) qual
def LamAt (H:Hp)(Pt:Addr)(pos:Pos)(qual:Str):Prop:=H Pt=some (.tbl #[]) \/ ∃c',H Pt=some (.tbl #[rawInt pos.line,rawInt pos.col,.ref c'])/\H c'=some (qp2 c' qual)
theorem LamAt.keep {H H':Hp}{d:Addr}{pos:Pos}{a:Str}(h:LamAt H d pos a)(k:∀b o,(∀xs,o ≠ .lst xs)->H b=some o->H' b=some o):LamAt H' d pos a:=by
 rcases h with h|⟨c,f,e⟩
 .exact .inl (k _ _ (λ_ z=>nomatch z) h)
 .exact .inr ⟨c,k _ _ (λ_ z=>nomatch z) f,k _ _ (λ_ z=>nomatch z) e⟩
theorem LamAt.same {H H':Hp}{c:Addr}{pos:Pos}{a:Str}(h:LamAt H c pos a)(k:Same H H'):LamAt H' c pos a:=h.keep λb o _ e=>k b o e
theorem LamAt.tbl {H:Hp}{b:Addr}{pos:Pos}{a:Str}(h:LamAt H b pos a):∃ps,H b=some (.tbl ps):=by
 rcases h with h|⟨c,d,_⟩
 .exact⟨_,h⟩
 .exact⟨_,d⟩
theorem codO_ok {P:AK}{w:World}{H:Hp}{h:Heap}{c:Addr}{q:Str}(r:h.CodeRec (.ref c) q):ObjOk P w H h c (qp2 c q):=by
 refine⟨r,?_,λh1 h2 r k=>?_⟩
 .obtain⟨d,b,vs,t,e,a,_⟩:=r;cases e;exact⟨b,a⟩
 .obtain⟨d,b,vs,t,e,a,f,g⟩:=r;cases e;exact⟨c,b,vs,t,Z,k _ a,f,g⟩
section
variable {X:Cx}{scope:Scope}{cl:List (Str×Addr)}{E:Value->Ad->Prop}{pins:List (Addr×Obj)}{σ:L2.St}{H:Hp}{s:Ad}
theorem qu1 {c g:Addr}{a:Arguments}{i:Expr}{pos:Pos}{Q:Value->Ad->Prop}(I:Inv X pins σ H s)(L:LamF X.mg X.base c g)(K:X.env.code=.ref c)(r:LamAt H g pos (X.env.qual ++ "<lambda>"))
  (D:defaultsOf a X.env=([],[]))(hcl:closureFor scope X.env=pure cl)
  (k:∀(f d:Addr)(pm h:Value)(H':Hp)(Y:Ad),Inv X (pins++[(f,DI "<lambda>" (X.env.qual ++ "<lambda>") a i scope cl pm d h)]) σ H' Y->(∀b o,b≠g->H b=some o->H' b=some o)->H' g=some (.tbl #[rawInt pos.line,rawInt pos.col,.ref d])->H' d=some (qp2 d (X.env.qual ++ "<lambda>"))->Q (.ref f) Y) :
  wpAny (model X.prog X.w) X.A (eval (.Lambda a i scope pos) X.env) Q E s:=by
 have R:s.heap.Ns A6 X.mg:=I.ok.mod.glob.keeps I.bk;obtain⟨bm,ob,b1,b2,b3,b4,T,b6,b7⟩:=L.bm;have B:=I.bk _ _ b4;have V:=I.lt;obtain⟨af,S⟩:=r.tbl;have C:s.heap.get? g=some (tabObj af):=I.hok g _ S;have ad:A6≠g:=λq=>by obtain⟨o,es,ep,e,hd,_⟩:=R;rw[q,C]at e;cases e;cases hd
 have G:bm≠g:=λq=>by rw[q,C]at B;cases B;cases T
 rcases r with r|⟨d,r,ag⟩
 .have y:s.heap.get? g=some (tabObj #[]):=I.hok g _ r;refine kla_eval D (kla_makeFunction (mg:=X.mg) hcl I.ok.glob R K (L.hd.keeps I.bk) y trivial Z ad ⟨bm,ob,b1,b2,b3,G,B,T,b6,b7⟩ λd h h' tk O l N P ae=>?_);have M:∀b o,b≠g->s.heap.get? b=some o->(h'.push (DI "<lambda>" (X.env.qual ++ "<lambda>") a i scope cl ((X.mg "__name__").getD .none) d h)).get? b=some o:=λb o n e=>As _ (O b o n e);have tb:=As (DI "<lambda>" (X.env.qual ++ "<lambda>") a i scope cl ((X.mg "__name__").getD .none) d h) ae;have F:Inv X pins σ (upd H g (.tbl (#[] ++ #[rawInt pos.line,rawInt pos.col,.ref d]))) {s with heap:=h'.push (DI "<lambda>" (X.env.qual ++ "<lambda>") a i scope cl ((X.mg "__name__").getD .none) d h),toks:=tk}:=I.un (un_tbl r M tb) (hok_tbl I.hok r M tb);have m:s.heap.objs.size<=h'.objs.size:=B9 (CO l N);have J:g<s.heap.objs.size:=AC y;have hn:∀b,s.heap.objs.size<=b->upd H g (.tbl (#[] ++ #[rawInt pos.line,rawInt pos.col,.ref d])) b=none:=λb hb=>by rw[qr (Ci (A0 J hb))];exact I.hok.fresh hb
  have U:(h'.push (DI "<lambda>" (X.env.qual ++ "<lambda>") a i scope cl ((X.mg "__name__").getD .none) d h)).CodeRec (.ref d) (X.env.qual ++ "<lambda>"):=by obtain⟨c2,oc,vs,t,e2,W,hd,hv⟩:=id P;cases e2;exact⟨d,oc,vs,t,Z,As _ W,hd,hv⟩
  have I3:=qnt (o:=qp2 d (X.env.qual ++ "<lambda>")) F (hn d l) (A9 I.sz l) (Ci (A0 V l)) (λx cc e=>by obtain⟨v,qc⟩:=I.cell x cc e;exact AE (A0 qc.lt l)) (λp j=>AE (A0 (AC (I.pin p j).1) l)) (codO_ok U);have nP:g≠d:=AE (A0 J l);refine k h'.objs.size d ((X.mg "__name__").getD .none) h _ _ (I3.pins_of λp j=>?_) (λb o n e=>?_) ?_ qk
  .rcases A7.mp j with j|j
   .exact I3.pin p (A1 _ j)
   .rw[Ai.mp j];refine⟨AT _ Z,?_,Ci (A0 V m),I.nofs m,λ_ z=>nomatch z⟩;rw[qr (Ci N)];exact hn _ m
  .have lb:b<s.heap.objs.size:=I.hok.lt e;rw[qr (AE (A0 lb l)),qr n];exact e
  .rw[qr nP,qk];rfl
 .have y:s.heap.get? g=some (tabObj #[rawInt pos.line,rawInt pos.col,.ref d]):=I.hok g _ r;refine kla_eval D (kla_makeFunctionHit (mg:=X.mg) (cv:=.ref d) hcl I.ok.glob R K (L.hd.keeps I.bk) y trivial (by simp[codeAmong,rawInt]) ⟨bm,ob,b1,b2,b3,G,B,T,b6,b7⟩ λh h' tk O m=>?_);have F:Inv X pins σ H {s with heap:=h'.push (DI "<lambda>" (X.env.qual ++ "<lambda>") a i scope cl ((X.mg "__name__").getD .none) d h),toks:=tk}:=I.kept λb u e=>As _ (O b u e);refine k h'.objs.size d ((X.mg "__name__").getD .none) h H _ (F.pins_of λp j=>?_) (λb o _ e=>e) r ag;rcases A7.mp j with j|j
  .exact F.pin p (A1 _ j)
  .rw[Ai.mp j];exact⟨AT _ Z,I.hok.fresh m,Ci (A0 V m),I.nofs m,λ_ z=>nomatch z⟩
end
end Lam
namespace Lam
open PySem PySem.Spec PyProof.Rows L2 Add PySem.W PySem.Calls Srt
noncomputable def encK (k:Int×Str):List V:=[.int k.1,.str k.2]
noncomputable abbrev kDf:Int×Str:=(0,Ba)
noncomputable def ltK (a b:Int×Str):Bool:=decide (a.1<b.1) || (decide (a.1=b.1) && decide (a.2.cps.toList<b.2.cps.toList))
theorem qs9 (a b:Int×Str):ltK a b=true↔a.1<b.1\/(a.1=b.1/\a.2.cps.toList<b.2.cps.toList):=by unfold ltK;simp
theorem ltK_no (a b:Int×Str):ltK a b=false ↔ ¬(a.1<b.1\/(a.1=b.1/\a.2.cps.toList<b.2.cps.toList)):=by rw[<- qs9];cases ltK a b <;>simp
theorem ordK (ks:List (Int×Str)):Ord λi j=>ltK (ks.getD i kDf) (ks.getD j kDf):=by
 refine⟨λi j h=>?_,λi j k c a=>?_⟩
 .rw[qs9]at h;rw[ltK_no];rintro (z|⟨l,b⟩)
  .lia
  .rcases h with h|⟨c,a⟩
   .lia
   .exact List.lt_asymm a b
 .rw[ltK_no]at c a |-;have d:∀x y:Int×Str,¬(x.1<y.1\/(x.1=y.1/\x.2.cps.toList<y.2.cps.toList))->y.1<=x.1/\(x.1=y.1->y.2.cps.toList<=x.2.cps.toList):=λx y h=>⟨by lia,λe=>List.not_lt.mp λz=>h (.inr ⟨e,z⟩)⟩;obtain⟨a1,g⟩:=d _ _ c;obtain⟨b1,f⟩:=d _ _ a;rintro (z|⟨l,b⟩)
  .lia
  .exact List.not_lt.mpr (List.le_trans (g (by lia)) (f (by lia))) b
def qwv (tb:V->Hp->VK->Prop)(xs:List V)(H:Hp)(Q:VK):Prop:=∀kS,H kS=none->∃W:Nat->Hp->Prop,W 0 (upd H kS (.lst [])) /\
 (∀i x H',xs[i]?=some x->W i H'->tb x H' λv H2=>∃ks,H2 kS=some (.lst ks)/\ks.length<A5/\W (i+1) (upd H2 kS (.lst (ks++[v])))) /\
 ∀H',W xs.length H'->∃(kv:List V)(ks:List (Int×Str)),H' kS=some (.lst kv)/\Tups H' kv (ks.map encK)/\ks.length=xs.length/\∀(p:List Nat)(q:Addr),p.Perm (Ao xs.length)->(p.map λi=>ks.getD i kDf).Pairwise (λa b=>ltK b a=false)->H' q=none->Q (.ref q) (upd (upd H' kS (.lst [])) q (.lst (p.map λi=>xs.getD i V.non)))
section
variable {X:Cx}{A:AO}{E:Value->Ad->Prop}{pins:List (Addr×Obj)}{σ:L2.St}{H:Hp}{s:Ad}
theorem qta (I:Inv X pins σ H s):∀{rs:List (Int×Str)}{us:List V}{its:List Value},Vals us its->Tups H us (rs.map encK)->∃fs,KatTups s.heap its fs/\fs.length=its.length/\∀v∈fs,∃n t,v=Da n t
 | [],us,its,rv,ht=>by cases ht;cases rv;exact⟨[],.nil,Z,λv a=>absurd a AM⟩
 |r::rs,us,its,rv,ht=>by
  cases ht with
  |cons qa ht =>
   cases rv with
   |cons ru rv =>
    obtain⟨fs,g,d,b⟩:=qta I rv ht;obtain⟨ts,e,i,_⟩:=I.tuple (SqT.of qa);obtain⟨v1,v2,rfl,⟨t,rfl⟩,⟨t',rfl⟩⟩:=Vals.two e;obtain⟨o,f,h,n,c⟩:=(show s.heap.IsTuple _ _ from i);cases qkm ru;refine⟨.int r.1 t::fs,.cons f h c Z g,by rw[AG,AG,d],λv a=>?_⟩;rcases Av.mp a with rfl|a
    .exact⟨_,_,Z⟩
    .exact b v a
theorem qu2 {prog:AK}{w:World}{A:AO}{E:Value->Ad->Prop}{h:Ad}{C:Bool->Ad->Prop}{a b:Addr}{g k:Obj}{x y:Int×Str}{l j f i:Tok}{n m:Nat}(q:h.heap.get? a=some g)(r:g.data=.seq #[.int x.1 l,.str x.2 j] n)(o:h.heap.get? b=some k)(p:k.data=.seq #[.int y.1 f,.str y.2 i] m)
  (d:C (ltK x y) h):wpAny (model prog w) A (keyLt' (tuples' true) (.ref a) (.ref b)) C E h:=by
 refine kat_lt q r o p (kat_cons (AZ.int_int x.1 l y.1 f prog w _ _ (kat_go (λc=>?_) λc=>?_)))
 .have c:x.1=y.1:=eq_of_beq c;refine kat_yes (kat_cons (AZ.str_str x.2 j y.2 i prog w _ _ (kat_go (λe=>?_) λe=>?_)))
  .have e:x.2=y.2:=eq_of_beq e;refine kat_yes (kat_nil ?_);have z:ltK x y=false:=(ltK_no x y).mpr (by
    rintro (z|⟨_,z⟩)
    .lia
    .rw[e]at z;exact List.lt_irrefl _ z)
   rw[z]at d;exact d
  .refine kat_no (kat_one _ _ (lt_str ?_));have z:ltK x y=decide (x.2.cps.toList<y.2.cps.toList):=by unfold ltK;rw[decide_eq_false (show ¬x.1<y.1 by lia),decide_eq_true c];rfl
   rw[z]at d;exact d
 .have c:x.1≠y.1:=λz=>by rw[z]at c;simp at c
  refine kat_no (oneLt_int ?_);have z:ltK x y=decide (x.1<y.1):=by unfold ltK;rw[decide_eq_false c];simp
  rw[z]at d;exact d
theorem qrw {a:Addr}{n:Nat}{vs:List Value}{xs:List V}{f:Value}{tb:V->Hp->VK->Prop}{Q:VK}{P:PySem.Fin->Ad->Prop}(I:Inv X pins σ H s)(rv:Vals xs vs)(D:s.heap.get? a=some (seqObj "list" vs.toArray n))(aj:H a=none)(ag:X.s₀.heap.objs.size<=a)(N:a≠X.env.locals)(bc:a∉X.fs)
  (ai:∀x c,X.env.cells.lookup x=some c->c≠a)(af:∀p∈X.pn++pins,p.1≠a)(bw:vs.length<64)
  (hk:∀(y:List (Addr×Obj))(d:Ad)(H':Hp)(x:V)(u:Value)(Q':VK),(∀p∈pins,p∈y)->Inv X y σ H' d->RelV x u->tb x H' Q'->wpAny (model X.prog X.w) A (call f [u]) (EP X y σ Q') (λ_ _=>False) d)
  (hq:qwv tb xs H Q)(au:∀d,EP X pins σ Q (.ref a) d->P (.done (.ret .none)) d):wpAny (model X.prog X.w) A (ksk_tree a f false) P E s:=by
 have K:xs.length=vs.length:=rv.length;have halt:a<s.heap.objs.size:=AC D;have s1:=CB.update s.heap a (B1 λ_=>(#[]:Array Value));obtain⟨B,ho1⟩:∃B,(s.heap.update a (B1 λ_=>(#[]:Array Value))).get? a=some (seqObj "list" #[] B):=⟨_,get?_update_seq D λ_=>#[]⟩;unfold ksk_tree;refine Az (listItems_at D Z ?_);refine Az (listUpdate_at D Z ?_ (by rw[Aj,Bq];lia) (AQ _));refine Az (seqEpoch_at ho1 Z ?_);refine Az (wpAny_newTuple ?_ (by show vs.length<=_;rw[Bq];lia));have I1:Inv X pins σ H {s with heap:=s.heap.update a (B1 λ_=>(#[]:Array Value))}:=I.turned (t':=s.toks) (it:=a) (λb o hb e=>(s1.2 b hb).trans e) aj N (.inr ag) ai af;have I2:Inv X pins σ H {s with heap:=(s.heap.update a (B1 λ_=>(#[]:Array Value))).push (seqObj "tuple" vs.toArray 0)}:=I1.kept (t':=s.toks) λb u e=>As _ e;have I3:Inv X (pins++[(a,seqObj "list" #[] B)]) σ H {s with heap:=(s.heap.update a (B1 λ_=>(#[]:Array Value))).push (seqObj "tuple" vs.toArray 0)}:=I2.pins_of λp k=>by
  rcases A7.mp k with k|k
  .exact I2.pin p (A1 _ k)
  .rw[Ai.mp k];exact⟨As _ ho1,aj,N,bc,λ_ z=>nomatch z⟩
 clear I1 I2;generalize hs2:({s with heap:=(s.heap.update a (B1 λ_=>(#[]:Array Value))).push (seqObj "tuple" vs.toArray 0)}:Ad)=l at I3 |-;refine Az (wpAny_newList ?_ (AQ _));refine CS ?_;have bj:H l.heap.objs.size=none:=I3.hok.fresh (Al _);obtain⟨W,w0,ad,done⟩:=hq l.heap.objs.size bj;have I4:=I3.lnew (ys:=[]) (its:=[]) (t':=l.toks) .nil (AQ _);generalize hkS:l.heap.objs.size=kS at w0 ad done I4 |-;unfold ksk_rest;refine Az (wpAny_rule ?_);first
  |rw[List.forIn_toArray]
  | (rw[<- Array.forIn_toList];simp only[List.toList_toArray])
  |rw[<- Array.forIn_toList]
 refine Az (ksk_fold (λi d=>∃H',Inv X (pins++[(a,seqObj "list" #[] B)]) σ H' d/\W i H') vs 0 _ ⟨_,I4,w0⟩ ?step ?done)
 case step =>
  rintro j u d hu ⟨H',M,R⟩;simp only[Nat.zero_add]at R |-;have Y:j<xs.length:=by rw[K];exact(Ac.mp hu).1
  obtain⟨x,hx⟩:∃x,xs[j]?=some x:=⟨_,Ae Y⟩;obtain⟨u',ao,rx⟩:=rv.get hx;rw[hu]at ao;cases ao;refine Az (wpAny_attempt (BR (hk _ d H' x u _ (λp k=>Bz _ k) M rx (ad j x H' hx R)) (λv s'' he=>?_) λ_ _ hF=>hF.elim));obtain⟨v',H2,I5,r5,ks,h5,l5,w5⟩:=he;dsimp only;refine Az (kset I5 h5 (ks':=ks++[v']) (by rw[Af];exact l5) (λits h=>?_) λL S=>Bf ⟨Z,_,S,w5⟩);rw[show (its.toArray.push v).toList=its++[v] by simp];exact h.append (.cons r5 .nil)
 case done =>
  rintro d ⟨H',M,R⟩;rw[Nat.zero_add,<- K]at R;obtain⟨kv,ks,hz,tz,lz,ar⟩:=done H' R;obtain⟨_,its,nn,h,e5⟩:=(show ObjOk X.prog X.w H' d.heap kS (.lst kv) from M.hok kS _ hz);refine Az (listItems_at (o:=seqObj "list" its.toArray nn) e5 Z ?_);have q:its.length=vs.length:=by have h1:=h.length;have F:=tz.length;rw[Ab]at F;lia
  have lks:ks.length=vs.length:=by lia
  have hzs:(its.toArray.zip vs.toArray).size=vs.length:=by rw[Array.size_zip,Aj,Aj,q,Nat.min_self]
  have tail:∀(st:SortSt)(p:Array Nat),Gd vs.length p->Up (λi j=>ltK (ks.getD i kDf) (ks.getD j kDf)) p vs.length->(arrOf st).map (·.2)=(qhe vs p).toArray->failedOf st=none->wpAny (model X.prog X.w) A (ksk_tail a false B (.ref kS) st) P E d:=by
   intro st p g up ah av;have bz:=M.pin (a,seqObj "list" #[] B) (A1 _ (A1 _ (Ai.mpr Z)));unfold ksk_tail;dsimp only;refine Az (kset M hz (ks':=[]) (AQ _) (λ_ _=>.nil) λL S=>?_);refine Az (wpAny_letGo ?_);have O:=S.pin (a,seqObj "list" #[] B) (A1 _ (A1 _ (Ai.mpr Z)));have lp:(qhe vs p).length=vs.length:=by rw[Ab,Cb,g.size]
   refine Az (seqEpoch_at O.1 Z ?_);refine Az (listUpdate_at O.1 Z ?_ (AQ _) (by rw[if_neg Uk,ah,Aj,lp,Bq];lia));rw[av];simp only[bne_self_eq_false,Eb,if_false];rw[ah];have ak:upd H' kS (.lst []) a=none:=O.2.1;have bt:H' a=none:=bz.2.1;have s7:=CB.update L.heap a (B1 λ_=>(qhe vs p).toArray);obtain⟨c2,aq⟩:∃c2,(L.heap.update a (B1 λ_=>(qhe vs p).toArray)).get? a=some (seqObj "list" (qhe vs p).toArray c2):=⟨_,get?_update_seq O.1 λ_=>(qhe vs p).toArray⟩;have J6:Inv X pins σ (upd H' kS (.lst [])) L:=S.pins_of λp k=>S.pin p (A1 _ (Bz _ k));have I7:Inv X pins σ (upd H' kS (.lst [])) {L with heap:=L.heap.update a (B1 λ_=>(qhe vs p).toArray)}:=J6.turned (t':=L.toks) (it:=a) (λb o hb e=>(s7.2 b hb).trans e) ak N (.inr ag) ai af;have ay:∀i∈p.toList,i<vs.length:=λi U=>by have:=g.perm.mem_iff.mp (Array.mem_toList_iff.mp U);simpa using this
   have pp:p.toList.Perm (Ao vs.length):=by have:=Array.perm_iff_toList_perm.mp g.perm;simpa using this
   refine Bf (au _ ⟨.ref a,_,qnt (o:=.lst (p.toList.map λi=>xs.getD i V.non)) I7 ak ag N ai af ⟨by rw[Ab,Cb,g.size,Bq];lia,qhe vs p,c2,qnp rv _ ay,aq⟩,Z,ar p.toList a (by rw[K];exact pp) ?_ bt⟩);rw[Cn,Bd];intro i j U Y bq;have bi:i<p.size:=by simpa using U
   have al:j<p.size:=by simpa using Y
   have z:=up i j (by lia) (by rw[<- g.size];exact al);have ei:at' p i=p.toList[i]:=by simp[at',bi]
   have ej:at' p j=p.toList[j]:=by simp[at',al]
   rw[ei,ej]at z;exact z
  have ae:∀i,i<its.length->∃(b:Addr)(o:Obj)(t t':Tok)(n:Nat),its.getD i C6=.ref b/\d.heap.get? b=some o/\o.cls=.type "tuple" /\ o.data=.seq #[.int (ks.getD i kDf).1 t,.str (ks.getD i kDf).2 t'] n:=by
   intro i U;have am:i<ks.length:=by lia
   obtain⟨b,eb,qb⟩:=tz.get (i:=i) (r:=encK ks[i]) (by simp[am]);obtain⟨v,hv,bu⟩:=h.get eb;have B:ks.getD i kDf=ks[i]:=by simp[am]
   obtain⟨ts,c1,p1,_⟩:=M.tuple (SqT.of qb);obtain⟨v1,v2,rfl,⟨t,rfl⟩,⟨t',rfl⟩⟩:=Vals.two c1;obtain⟨o,D,hc,n,hd⟩:=(show d.heap.IsTuple b _ from p1);exact⟨b,o,t,t',n,by rw[<- qkm bu,Ak,hv];rfl,D,hc,by rw[B];exact hd⟩
  unfold ksk_end;dsimp only;rw[if_neg (by decide:¬(false=true))];by_cases F:vs.toArray.size<2
  .rw[if_pos F,if_pos F];refine Az (Bf ?_);rw[StateT.run_pure];refine Az (Bf ?_);dsimp only;rw[Aj]at F;refine tail (SortSt.mk' general' (its.toArray.zip vs.toArray) #[] 7 none) (Ao vs.length).toArray ⟨.refl _⟩ (λi j bq Y=>?_) ?_ rfl
   .have:i=j:=by lia
    subst this;exact(ordK ks).irr _
   .rw[quq];show (its.toArray.zip vs.toArray).map (·.2)=_;apply Array.toList_inj.mp;simp[List.map_snd_zip,q]
  .rw[if_neg F,if_neg F];rw[Aj]at F;refine Az (m:=keyKind' its.toArray) ?_;obtain⟨fs,f1,f2,f3⟩:=qta M h tz;refine kat_kind (T:=.type "int") f1 (by lia) (λv hv=>?_) (beq_self_eq_true _) ?_
   .obtain⟨n,t,rfl⟩:=f3 v hv;exact .now
   refine Az (BR (kat_run (ks:=its) (vs:=vs) (κ:=tuples' true) (E:=E) (Q:=λJ l=>l=d/\∃p:Array Nat,Gd vs.length p/\Up (λi j=>ltK (ks.getD i kDf) (ks.getD j kDf)) p vs.length/\arrOf J=p.map (kas_item (its.toArray.zip vs.toArray))/\failedOf J=none)
    (G:=λp l=>l=d/\Gd vs.length p/\Up (λi j=>ltK (ks.getD i kDf) (ks.getD j kDf)) p vs.length)
    q (by lia) bw (λp J l a1 a2 a3 a4=>⟨a4.1,p,a4.2.1,a4.2.2,a2,a3⟩) (Sat.wp (λi j C U Y hC=>?_) (sort_ok (ordK ks) (by lia)) λp k=>⟨Z,k⟩)) ?_ λ_ _ e=>e)
   .obtain⟨b,o,t,t',n,e,D,hc,hd⟩:=ae i (by lia);obtain⟨b2,o2,t2,t2',n2,e2,bh,aq,bf⟩:=ae j (by lia);unfold kas_ask;rw[e,e2];exact qu2 D hd bh bf hC
   .rintro⟨⟨⟩,J⟩ l ⟨rfl,p,g,u,aw,hf⟩;dsimp only;exact tail J p g u (kat_snds q aw) hf
end
end Lam
namespace Lam
open PySem PySem.Spec PyProof.Rows L2 Add PySem.W PySem.Calls Srt
theorem _root_.L2.SqL.keepP {K:Frag}{H H':Hp}{l c:Addr}{xs:List V}{ps:Array Value}(h:SqL K H l xs)(a:H c=some (.tbl ps))(k:∀b o,b≠c->H b=some o->H' b=some o):SqL K H' l xs:=by
 rcases h with (h|⟨o,h⟩)|h
 .exact .inl (.inl (k _ _ (λz=>by rw[z,a]at h;cases h) h))
 .exact .inl (.inr ⟨o,k _ _ (λz=>by rw[z,a]at h;cases h) h⟩)
 .exact .inr h
section
variable {X:Cx}
def tSLT (K:Frag)(t:TA)(js:List (Option Nat))(tb:TE)(Pt:Addr)(lpos:Pos)(qual:Str):TE:=λσ H Q=>t σ H λvs H1=>∃(l:Addr)(xs:List V),vs=[.ref l]/\SqL K H1 l xs/\xs.length<64/\LamAt H1 Pt lpos qual /\
 ∀(H2:Hp)(c':Addr),(∀b o,b≠Pt->H1 b=some o->H2 b=some o)->H2 Pt=some (.tbl #[rawInt lpos.line,rawInt lpos.col,.ref c'])->H2 c'=some (qp2 c' qual)->qwv (λx H' Q'=>H' c'=some (qp2 c' qual)/\tb (qhf js σ x) H' Q') xs H2 Q
theorem pe_sortLamT {N XN:List Str}{js:List (Option Nat)}{xs scope:Scope}{y:Str}{e g:Expr}{t:TA}{tb:TE}{d:Arguments}{c Pt:Addr}{p pos D W:Pos}(ad:X.calm=true)(hr:Room 2 X.A)(af:Gl X "sorted")(ag:X.mg "sorted"=none)(ha:PA X [e] t)
  (L:LamF X.mg X.base c Pt)(ai:X.env.code=.ref c)(hN:X.N=XN)(S:X.env.scope=xs)(hok:qk8 N js XN xs scope=true)(h0:N[0]?=some y)(j0:js[0]?=some none)(hy:scope.names.lookup y=some .local)(ah:scope.isCoroutine=false)(Y:scope.isGenerator=false)
  (U:defaultsOf d X.env=([],[]))(F:∀n B i l u,bindArgs (kla_fn "<lambda>" (X.env.qual ++ "<lambda>") d g scope n B (.ref i) l) ⟨[u],[]⟩=pure [(y,u)])
  (hb:∀(f i:Addr)(n:List (Str×Addr))(s:Ad)(H:Hp)(E:Value->Ad->Prop),PE (qs8 X X.A.in1.in1 N (X.env.qual ++ "<lambda>") scope f (.ref i) n s H E) g tb)
  (he:backTo pos (starEach [e] X.env)=(false,eval e X.env)::backTo pos (starEach [] X.env):=by rfl)(hpl:(backTo pos (starEach [e] X.env)).any (·.1)=false:=by rfl) :
  PE X (.Call (.Name "sorted" p) [e] [⟨some "key",.Lambda d g scope D,W⟩] pos) (tSLT X.K t js tb Pt D (X.env.qual ++ "<lambda>")):=by
 intro k s σ H Q I h;have nm:=qja hok;refine Cg (qf6 I af ag Add.boot_sorted ?_);refine PyProof.Rows.callWith_kw (thn (ha pos k s σ H _ I h) λus s1 ⟨vs,H1,I1,r1,q1⟩=>?_) he hpl;obtain⟨r,O,rfl,aj,h64,hP,q⟩:=q1;cases r1 with
 |cons ra rb =>
  cases rb;cases ra;obtain⟨n,hcl,c1,c2⟩:=qho (env:=X.env) (scope:=scope) λx hx e=>I.ok.has x.1 (by
   rcases nm.clos x hx e with q|q
   .exact .inl (by show X.env.scope.names.lookup _=_;rw[S];exact q)
   .exact .inr (by show X.env.scope.names.lookup _=_;rw[S];exact q))
  show wpAny _ _ (evalAll ((do let v <- eval (.Lambda d g scope D) X.env;standAt pos;pure v)::[])) _ _ s1;refine wpAny_evalAll_cons (Az (qu1 I1 L ai hP U hcl λf i B l G j I2 kp ak am=>Az (En (Bf ?_))));refine wpAny_evalAll_nil ?_;have q:=q G i kp ak am;have ao:∀p∈k,p∈k++[(f,DI "<lambda>" (X.env.qual ++ "<lambda>") d g scope n B i l)]:=λp C=>Bz _ C;obtain⟨ps,al⟩:=hP.tbl;have V:SqL X.K G r O:=aj.keepP al kp;obtain⟨its,rv,pl,hz⟩:=I2.list V;have ae:its.length=O.length:=rv.length.symm;have hd:=I.ok.hd ad;refine call_function_entry_kw (kw:=[(Aa "key",.ref f)]) kind_sorted plain_sorted entry_sorted (ksk_s1 _ _) ?_;unfold BD.«sorted»;refine Az (m:=checkCount "sorted" 1 1 _) (Bf ?_);refine Az (collect_list pl.isList ?_ (by rw[Bq];lia));have keep:∀b o,j.heap.get? b=some o->((j.heap.push (seqObj "list" #[] 0)).update j.heap.objs.size (B1 (· ++ its.toArray))).get? b=some o:=λb o q=>by have R:b<j.heap.objs.size:=AC q;rw[Heap.get?_update_ne _ _ _ _ (AE R),Heap.get?_push_ne _ _ _ (AE R)];exact q
  have z:Inv X (k++[(f,DI "<lambda>" (X.env.qual ++ "<lambda>") d g scope n B i l)]) σ G {j with heap:=(j.heap.push (seqObj "list" #[] 0)).update j.heap.objs.size (B1 (· ++ its.toArray))}:=I2.kept (t':=j.toks) keep;generalize hs3:({j with heap:=(j.heap.push (seqObj "list" #[] 0)).update j.heap.objs.size (B1 (· ++ its.toArray))}:Ad)=s3 at z |-;refine Az (wpAny_newList ?_ (by rw[ae,Bq];lia));have I4:Inv X (k++[(f,DI "<lambda>" (X.env.qual ++ "<lambda>") d g scope n B i l)]) σ G {s3 with heap:=s3.heap.push (seqObj "list" its.toArray 0)}:=z.kept (t':=s3.toks) λb u e=>As _ e;have P:(s3.heap.push (seqObj "list" its.toArray 0)).get? s3.heap.objs.size=some (seqObj "list" its.toArray 0):=AT _ rfl;have hL:=z.lt;refine Az (CS (wpAny_call_entry_kw slot_list_sort ⟨_,P,Z⟩ entry_list_sort ?g (ksk_l1 _ _)))
  case g =>
   rw[ksk_t1];refine qrw (tb:=λx H' Q'=>H' i=some (qp2 i (X.env.qual ++ "<lambda>"))/\tb (qhf js σ x) H' Q') (Q:=Q) (s:={s3 with heap:=s3.heap.push (seqObj "list" its.toArray 0)}) I4 rv P (z.hok.fresh (Al _)) z.sz (Ci hL) (z.nofs (Al _)) (λx c e=>?_) (λp C=>AE (AC (z.pin p C).1)) (by lia) (λpins' s' H' x u Q' C T rx M=>?_) q λs' hE=>⟨_,Z,?_⟩
   .obtain⟨v,qc⟩:=z.cell x c e;exact AE qc.lt
   .have mf:=C _ (A1 _ (Am (a:=(f,DI "<lambda>" (X.env.qual ++ "<lambda>") d g scope n B i l))));refine qwu (A:=X.A.in1.in1) hN S nm c1 c2 I.ok.frames hd (hr.in1.in1).depth h0 j0 hy ah Y (F n B i l) (hb f i n) T (T.pin _ (A1 _ mf)).1 ?_ rx M.2;exact(show ObjOk X.prog X.w H' s'.heap i (qp2 i (X.env.qual ++ "<lambda>")) from T.hok i _ M.1).1
   .obtain⟨v,H',J,rr,qq⟩:=hE;exact Bf ⟨_,Z,v,H',J.pins_of λp C=>J.pin p (A1 _ (ao p C)),rr,qq⟩
end
end Lam
namespace Add
open PySem PySem.Spec PyProof.Rows L2
noncomputable def keyN (k:Option Key)(v:Value):Bool:=match k with
 |some k=>qj0 k v
 |none=>(match v with | .none=>true|_=>false)
theorem qbz {k:Option Key}{v:Value}(h:keyN k v=true):(k=none/\v=.none) \/ ∃q,k=some q/\qj0 q v=true:=by
 cases k with
 |none=>cases v <;>first|exact .inl ⟨rfl,rfl⟩|cases h
 |some q=>exact .inr ⟨q,Z,h⟩
theorem qu3 {prog:AK}{w:World}{A:AO}{E:Value->Ad->Prop}{s:Ad}{Q:Int->Ad->Prop}(h:Q 0xFCA86420 {s with toks:=s.toks+1}):wpAny (model prog w) A (PySem.pyHash .none) Q E s:=by
 show wpAny _ _ (pyHashByItsType .none) _ _ _;refine PySem.W.pyHash_slot (T := "NoneType") rfl PySem.F.slot_NoneType_hash PySem.F.entry_NoneType_hash (PySem.F.args_NoneType_hash_1 _) (beq_builtin_none _) (.inl Z) ?_;obtain⟨hp,g,d,tk,os⟩:=s
 wp_walk
 exact⟨_,_,Z,h⟩
noncomputable def qoj (prog:AK)(w:World):PySem.KeyKind prog w (Option Key) where
 is:=keyN
 hash:=λk=>match k with|some k=>keyH w k|none=>0xFCA86420
 inj:=λv a b ha hb=>by
  rcases qbz ha with ⟨rfl,rfl⟩|⟨q,rfl,h1⟩
  .rcases qbz hb with ⟨rfl,_⟩|⟨q2,rfl,h2⟩
   .rfl
   .rcases qaq h2 with ⟨i,t,_,e⟩|⟨x,t,_,e⟩ <;>exact nomatch e
  .rcases qbz hb with ⟨rfl,rfl⟩|⟨q2,rfl,h2⟩
   .rcases qaq h1 with ⟨i,t,_,e⟩|⟨x,t,_,e⟩ <;>exact nomatch e
   .rw[(qap prog w).inj v q q2 h1 h2]
 byValue:=λk v h=>by
  rcases qbz h with ⟨_,rfl⟩|⟨q,_,h⟩
  .rfl
  .exact(qap prog w).byValue q v h
 pyHash:=λhv h=>by
  rcases qbz hv with ⟨rfl,rfl⟩|⟨q,rfl,h1⟩
  .exact qu3 h
  .exact(qap prog w).pyHash h1 h
 eqBool:=λ{A E s a b u v Q} hu hv h=>by
  rcases qbz hu with ⟨rfl,rfl⟩|⟨q,rfl,h1⟩
  .rcases qbz hv with ⟨rfl,rfl⟩|⟨q2,rfl,h2⟩
   .exact AZ.same _ _ _ _ _ h
   .rcases qaq h2 with ⟨i,t,rfl,rfl⟩|⟨x,t,rfl,rfl⟩
    .exact AZ.none_int i t _ _ _ _ h
    .exact AZ.none_str x t _ _ _ _ h
  .rcases qbz hv with ⟨rfl,rfl⟩|⟨q2,rfl,h2⟩
   .rcases qaq h1 with ⟨i,t,rfl,rfl⟩|⟨x,t,rfl,rfl⟩
    .exact AZ.int_none i t _ _ _ _ h
    .exact AZ.str_none x t _ _ _ _ h
   .refine(qap prog w).eqBool h1 h2 ?_;rw[show decide (some q=some q2)=decide (q=q2) by by_cases e:q=q2 <;>simp[e]]at h;exact h
 «strs» := λk x t v h=>by
  rcases qbz h with ⟨_,e⟩|⟨q,rfl,h1⟩
  .exact nomatch e
  .exact(qap prog w).strs q x t v h1
theorem qtb {prog:AK}{w:World}{h:Heap}{a:Addr}{f:Key->Option Value}(m:h.MapOf (qap prog w) a f):h.MapOf (qoj prog w) a (λk=>k.bind f):=by
 obtain⟨o,es,ep,n,l,q,g,p⟩:=m;refine⟨o,es,ep,n,l,q,λe c=>?_,λk=>?_⟩
 .obtain⟨k,b,j⟩:=g e c;exact⟨some k,b,j⟩
 .cases k with
  |some k=>exact p k
  |none =>
   show findBy keyN es none=none;unfold findBy;have:es.find? (λe=>keyN none e.key)=none:=by rw[Array.find?_eq_none];intro e c z;obtain⟨k,b,_⟩:=g e c;rcases qaq b with ⟨i,t,_,d⟩|⟨x,t,_,d⟩ <;>(rw[d]at z;cases z)
   first
    | (rw[this];rfl)
    |simp[this]
def qp3 (H:Hp)(a:Addr)(y:V)(o:Option V):Prop:=(y=.non/\o=none/\∃kvs,Rd H a (.dK kvs))\/DGet H a y o
section
variable {X:Cx}{pins:List (Addr×Obj)}{σ:L2.St}{H:Hp}{s:Ad}{a:Addr}{y d:V}{u r:Value}{o:Option V}{A:AO}{E:Value->Ad->Prop}
theorem d_inN {Q:Value->Ad->Prop}(f:A.units+1<cLine)(I:Inv X pins σ H s)(g:qp3 H a y o)(b:L2.RelV y u)(h:∀s',Inv X pins σ H s'->Q (.bool o.isSome) s') :
  wpAny (model X.prog X.w) A (compareOp .In u (.ref a)) Q E s:=by
 rcases g with ⟨rfl,rfl,kvs,e⟩|g
 .cases (show u=C6 from b);obtain⟨z,c,vs,rel,d⟩:=qer I.hok e;exact wpAny_in_of (knd:=qoj X.prog X.w) (k:=none) rfl c (qtb d.mapOf) (h _ (I.tok _))
 .exact d_in f I g b h
theorem d_get1N {Q:Value->Ad->Prop}(f:A.units+1<cLine)(I:Inv X pins σ H s)(g:qp3 H a y o)(c:L2.RelV y u)(h:∀w' s',Inv X pins σ H s'->L2.RelV (o.getD .non) w'->Q w' s') :
  wpAny (model X.prog X.w) A (call (.builtin "dict.get") [.ref a,u]) Q E s:=by
 rcases g with ⟨rfl,rfl,kvs,e⟩|g
 .cases (show u=C6 from c);obtain⟨z,d,vs,rel,b⟩:=qer I.hok e;exact DX BN b.typeIs C0 (Dr _ _) (meets_dict_get (qoj X.prog X.w) (k:=none) a Z d) ⟨_,qtb b.mapOf,h _ _ (I.tok _) Z⟩
 .exact d_get1 f I g c h
end
def tDInN (ty td:TE):TE:=λσ H Q=>ty σ H λy H1=>td σ H1 λx H2=>∃a o,x=.ref a/\qp3 H2 a y o/\Q (.bl o.isSome) H2
def tDGet1N (td ty:TE):TE:=λσ H Q=>td σ H λx H1=>∃a,x=.ref a/\IsD H1 a/\ty σ H1 λy H2=>∃o,qp3 H2 a y o/\Q (o.getD .non) H2
section
variable {X:Cx}{o i e:Expr}{apos cpos:Pos}{td ty:TE}
theorem pc_dinN (r:X.A.units+1<cLine)(j:PE X i ty)(f:PE X o td):L2.PC X .In i o (tDInN ty td):=by intro b s σ H Q I h;refine thn (j b s σ H _ I h) λiv q ⟨y,t,m,l,n⟩=>thn (f b q σ t _ m n) λu s2 ⟨x,c,e,d,a,ov,ex,g,k⟩=>?_;subst ex;obtain rfl:u=Bl a:=d;exact d_inN r e g l λs3 p=>⟨.bl ov.isSome,c,p,Z,k⟩
theorem qu4 (B:X.A.units+1<cLine)(n:PE X o td)(v:PE X e ty)(m:M1 X o "get" apos e cpos):PE X (.Call (.Attribute o "get" apos) [e] [] cpos) (tDGet1N td ty):=by intro b s σ H Q I h;refine wpAny_Call_method m.base m.few m.line PySem.F.plainAttrs_dict BN PySem.F.type_dict_get (thn (n b s σ H _ I h) λu z ⟨x,l,f,j,a,ex,d,r⟩=>?_);subst ex;obtain rfl:u=Bl a:=j;obtain⟨C,w,_⟩:=qwc f d;refine⟨C,w,?_⟩;rw[m.trees];refine CN rfl (DL (CM (thn (v b z σ l _ f r) λiv s2 ⟨y,i,k,q,ov,g,p⟩=>Dx ?_)));exact d_get1N B k g q λw' s3 t c=>⟨_,i,t,c,p⟩
end
end Add
namespace Add
open PySem PySem.Spec PyProof.Rows L2
section
variable {X:Cx}{pins:List (Addr×Obj)}{σ:L2.St}{H:Hp}{s:Ad}
def tForK (te:TE)(g:TG)(tb:TS):TS:=λD σ H=>te σ H λx H1=>∃(d:Addr)(kvs:List (Key×V)),x=.ref d/\H1 d=some (.dK kvs)/\∀o:Obj,∃Pv:Nat->L2.St->Hp->Prop,Pv 0 σ (upd H1 d (.frz o (.dK kvs)))/\(∀i σ H,Pv i σ H->H d=some (.frz o (.dK kvs))) /\
 (∀(i:Nat)(kv:Key×V)(σ:L2.St)(H:Hp),kvs[i]?=some kv->Pv i σ H->g (kV kv.1) σ H λσ2 H2=>tb {nx:=Pv (i+1),rt:=λ_ _=>False,ct:=Pv (i+1)} σ2 H2)/\∀σ H,Pv kvs.length σ H->D.nx σ (upd H d (.dK kvs))
theorem kv_key {kvs:List (Key×V)}{vs:List (Key×Value)}(h:KV kvs vs){i:Nat}{a:Key×V}(e:kvs[i]?=some a):∃k u,vs[i]?=some (k,u)/\k=a.1:=by
 induction h generalizing i with
 |nil=>cases e
 |cons r _ ih =>
  cases i with|zero=>cases e;exact⟨_,_,Z,r.1.symm⟩|succ i=>exact ih e
theorem kV_rel {P:AK}{w:World}{k:Key}{u:Value}(h:(qap P w).is k u=true):RelV (kV k) u:=by
 rcases qaq h with ⟨i,t,rfl,rfl⟩|⟨x,t,rfl,rfl⟩
 .exact⟨t,Z⟩
 .exact⟨t,Z⟩
theorem qhs {tg e:Expr}{K:List Stmt}{te:TE}{g:TG}{tb:TS}{pos:Pos}(G:AW (model X.prog X.w) X.A X.env X.xe)(ad:X.calm=true)(he:PE X e te)(hg:PG X tg g)(p:PSs X K tb)
  (hs:∀x,foldedSetIterable e X.env x=pure x:=by intro _;rfl):PS X (.For tg e K [] pos) (tForK te g tb):=by
 intro j s σ H D I h;refine wpAny_For (thn (he j s σ H _ I h) λv L ⟨x,Y,F,r1,q1⟩=>?_) hs;obtain⟨d,kvs,rfl,hd,q⟩:=q1;cases r1;obtain⟨z,lo,vs,kv,hD⟩:=qwa F.hok hd;obtain⟨ep,O⟩:=hD.dictAt;obtain⟨o,es,ho,hx,ai,r1,r2,r3⟩:=id O;refine wpAny_pyIter_dict (knd:=qap X.prog X.w) (kvs:=vs) (ep:=ep) lo O ?_;obtain⟨V,p0,pd,step,ae⟩:=q o;have lk:kvs.length=vs.length:=kv.length;have h0:∀u v,X.H₀ d≠some (.frz u v):=λu v e=>by have:=F.base.frzs d u v e;rw[hd]at this;cases this
 have hh:X.A.handled=none:=I.ok.hd ad;generalize E:L.heap.objs.size=it;have I3:Inv X j σ Y {L with heap:=L.heap.push {cls:=.type "dict_keyiterator",data:=.fields #[.ref d,.int 0 0,.int vs.length 0,.int ep 0]} }:=F.kept (t':=L.toks) λb o q=>As _ q;have I4:=inv_frz I3 hd (As _ ho);have S:upd Y d (.frz o (.dK kvs)) it=none:=by
  rw[qr (λe=>?_),<- E]
  .exact F.hok.fresh (Al _)
  .have:=F.hok.fresh (a:=it) (BY E);rw[e,hd]at this;cases this
 have fp:∀{H':Hp},H' it=none->qi5 X j H' it:=λn=>⟨n,(F.fpOk (H':=upd Y d (.frz o (.dK kvs))) (BY E) S).2⟩;refine codeAny_forLoop_any (λn s'=>∃i σ' H',n=vs.length-i/\i<=vs.length/\Inv X j σ' H' s'/\s'.heap.IsKeyIter it d i vs.length ep/\H' it=none/\V i σ' H') ?_ vs.length ⟨0,σ,_,Z,AQ _,I4,⟨_,by rw[<- E];exact AT _ Z,Z,Z⟩,S,p0⟩;rintro n t ⟨i,σ5,y,rfl,hi,I5,P,n5,p5⟩;have Q:=pd i σ5 y p5;have ah:t.heap.get? d=some o:=(show ObjOk X.prog X.w y t.heap d (.frz o (.dK kvs)) from I5.hok d _ Q).1;have J:t.heap.DictAt (qap X.prog X.w) d vs ep:=⟨o,es,ah,hx,ai,r1,r2,r3⟩;obtain⟨f0,f1,f2,f3,f4,f5⟩:=fp n5;by_cases c:i<vs.length
 .have hk:kvs[i]?=some (kvs[i]'(by lia)):=Ae (by lia);obtain⟨k,u,e1,ek⟩:=kv_key kv hk;refine BA G (wpAny_pyNext_dict_item P J e1 λu h' af N sb=>?_);have W:Inv X j σ5 y {t with heap:=h'}:=I5.turned (t':=t.toks) (λb o p e=>(sb.2 b p).trans e) f0 f1 f3 f4 f5;refine BA G (letGo_keyiter N ?_);obtain⟨U,R,ag,T⟩:=id N;have aj:=W.pinned (fp:=[it]) (λb p=>by rw[Ai.mp p];exact fp n5) (λb p=>by rw[Ai.mp p];exact⟨U,R,λv e=>by rw[T]at e;cases e⟩);refine BA G (thn (hg _ _ σ5 y _ u _ aj (ek ▸ kV_rel af) (step i _ σ5 y hk p5)) λ_ s6 ⟨σ6,H6,B,q6⟩=>?_);refine BA G (thn (p _ s6 σ6 H6 _ B q6) λf s7 M=>?_);have C:∀{σ7:L2.St}{r:Hp},Inv X (j++qi6 [it] h') σ7 r s7->V (i+1) σ7 r->∃m,m<vs.length-i/\∃i σ' H',m=vs.length-i/\i<=vs.length/\Inv X j σ' H' s7/\s7.heap.IsKeyIter it d i vs.length ep/\H' it=none/\V i σ' H':=λ{σ7 r} I8 l=>by have pn:=I8.pin (it,U) (A1 _ (A1 _ (qd4 (Ai.mpr Z) R)));exact⟨vs.length-(i+1),by lia,i+1,σ7,r,Z,by lia,I8.unpinned,⟨U,pn.1,ag,T⟩,pn.2.1,l⟩
  cases f with
  |next=>obtain⟨σ7,r,B,l⟩:=M;exact C B l
  |cont=>obtain⟨σ7,r,B,l⟩:=M;exact C B l
  |brk=>obtain⟨σ7,r,B,l⟩:=M;exact l.elim
  |ret v=>obtain⟨x7,σ7,r,B,r7,l⟩:=M;exact l.elim
 .have ei:i=vs.length:=by lia
  refine BA G (wpAny_pyNext_dict_end hh P J (AI (by lia)) λh' eb=>?_);have W:Inv X j σ5 y {t with heap:=h'}:=I5.turned (t':=t.toks) (λb o p e=>eb b o p e) f0 f1 f3 f4 f5;exact Dk ⟨σ5,_,qwt W Q h0,ae σ5 y (by rw[lk,<- ei];exact p5)⟩
end
def DkV:Nat->Hp->V->V->Prop
 |0,_,v,u=>v=u/\qb2 v=true
 |n+1,H,v,u=>(v=u/\qb2 v=true) \/ ∃(p q:Addr)(xs ys:List V),v=.ref p/\u=.ref q/\((H p=some (.lst xs)/\H q=some (.lst ys))\/(H p=some (.tup xs)/\H q=some (.tup ys)))/\xs.length=ys.length/\∀(i:Nat)(x y:V),xs[i]?=some x->ys[i]?=some y->DkV n H x y
section
variable {X:Cx}{pins:List (Addr×Obj)}{σ:L2.St}{H:Hp}{s:Ad}
theorem qlh (I:Inv X pins σ H s){n:Nat}{A:AO}{xs ys:List V}{us a:List Value}(e:Vals xs us)(l:Vals ys a)(r:∀(i:Nat) (x y:V),xs[i]?=some x->ys[i]?=some y->∀u w,RelV x u->RelV y w->AZ A s u w true) :
  ∀j (h:j<us.toArray.size) (d:j<a.toArray.size),AZ A s us.toArray[j] a.toArray[j] true:=by
 intro j h d;have o:=e.length;have p:=l.length;have k:j<xs.length:=by rw[o];simpa using h
 have g:j<ys.length:=by rw[p];simpa using d
 obtain⟨u,b,t⟩:=e.get (i:=j) (x:=xs[j]) (by simp[k]);obtain⟨w,c,f⟩:=l.get (i:=j) (x:=ys[j]) (by simp[g]);have q:us.toArray[j]=u:=by
  have:us[j]?=some us[j]:=by simp
  rw[this]at b;simpa using AD b
 have m:a.toArray[j]=w:=by
  have:a[j]?=some a[j]:=by simp
  rw[this]at c;simpa using AD c
 rw[q,m];exact r j _ _ (by simp[k]) (by simp[g]) _ _ t f
theorem qkq (I:Inv X pins σ H s):∀{n:Nat}{A:AO}{x y:V}{u w:Value},A.units+n<cLine->DkV n H x y->RelV x u->RelV y w->AZ A s u w true
 |0,A,x,y,u,w,_,h,g,a=>by obtain⟨rfl,f⟩:=h;have:=qrm (A:=A) (s:=s) g a f f;rw[qpt f]at this;exact this
 |n+1,A,x,y,u,w,hu,h,g,a=>by
  rcases h with ⟨rfl,f⟩|⟨p,q,xs,ys,rfl,rfl,h,F,D⟩
  .have:=qrm (A:=A) (s:=s) g a f f;rw[qpt f]at this;exact this
  .cases g;cases a;have un:A.in1.units=A.units+1:=rfl;have r:=λ(us C:List Value)(c:Vals xs us)(d:Vals ys C)=>qlh (n:=n) (A:=A.in1) I c d λi x y E B u w g a=>qkq I (n:=n) (by lia) (D i x y E B) g a;by_cases j:p=q
   .subst j;exact AZ.same _
   .refine AZ.of_refs j ?_;rcases h with ⟨m,k⟩|⟨m,k⟩
    .obtain⟨its,c,o,_⟩:=I.list (SqL.of m);obtain⟨b,d,l,_⟩:=I.list (SqL.of k);have t:=c.length;have v:=d.length;have z:=SeqAt.RcAt.lists (A:=A) (e:=λ_=>true) o.isList l.isList (by rw[Aj,Aj];lia) (by lia) (r its b c d);rw[qfe]at z;exact z
    .obtain⟨its,c,o,_⟩:=I.tuple (SqT.of m);obtain⟨b,d,l,_⟩:=I.tuple (SqT.of k);have t:=c.length;have v:=d.length;have z:=SeqAt.RcAt.tuples (A:=A) (e:=λ_=>true) (show s.heap.IsTuple p its.toArray from o) (show s.heap.IsTuple q b.toArray from l) (by lia) (r its b c d);rw[qfe,Aj,Aj,<- t,<- v,F,beq_self_eq_true,Er]at z;exact z
def DkD (n:Nat)(H:Hp)(v u:V):Prop:=∃(d e:Addr)(kvs kws:List (Key×V)),v=.ref d/\u=.ref e/\Rd H d (.dK kvs)/\Rd H e (.dK kws)/\kvs.length=kws.length/\∀k x,(k,x)∈kvs->∃y,qbh kws k=some y/\DkV n H x y
theorem qp4 (I:Inv X pins σ H s){n:Nat}{A:AO}(t:A.units+n<cLine){c:List (Key×V)}{d:List (Key×Value)}(q:KV c d):∀{kvs:List (Key×V)}{vs:List (Key×Value)},KV kvs vs->(∀k x,(k,x)∈kvs->∃y,qbh c k=some y/\DkV n H x y)->PySem.W.KeqHits A s d vs true:=by
 intro kvs vs r
 induction r with
 |nil=>intro _;exact .nil
 | @cons a b as bs h _ ih =>intro f;obtain⟨p,j⟩:=h;obtain⟨y,l,i⟩:=f a.1 a.2 Am;obtain⟨w,e,g⟩:=RelO.some_of (v:=y) (o:=valueAt d a.1) (by rw[<- l];exact q.val a.1);rw[p]at e;have z:=PySem.W.KeqHits.hit (A:=A) (s:=s) (v:=b.2) e (qkq I t i j g) (ih λk x m=>f k x (Ay _ m));exact z
end
section
variable {X:Cx}
def rNeDk:R2:=λx y H Q=>∃n,n<=20/\((DkV n H x y)\/DkD n H x y)/\Q (.bl false) H
def rEqDk:R2:=λx y H Q=>∃n,n<=20/\((DkV n H x y)\/DkD n H x y)/\Q (.bl true) H
theorem qdg (hu:X.A.units+64<cLine):OpR X (compareOp .NotEq) rNeDk:=by
 intro c s σ H x y v u Q I t C h;obtain⟨n,hn,h,q⟩:=h;have un:X.A.in1.units=X.A.units+1:=rfl;have j:∀{s'},s'=s->EP X c σ Q (.bool false) s':=λe=>by rw[e];exact⟨.bl false,H,I,Z,q⟩
 rcases h with h|⟨d,e,kvs,kws,rfl,rfl,m,k,D,B⟩
 .have l:x=y/\qb2 x=true->wpAny (model X.prog X.w) X.A (compareOp .NotEq v u) (EP X c σ Q) X.xe s:=λ⟨e,f⟩=>by
   subst e
   refine op_ne c s σ H x x v u Q I t C ⟨?_,by simpa using q⟩
   cases x <;>first|rfl|cases f
  cases n with
  |zero=>exact l h
  |succ n =>
   rcases h with h|⟨p,P,xs,ys,rfl,rfl,h,D,B⟩
   .exact l h
   .cases t;cases C;have F:=λ(us J:List Value)(b:Vals xs us)(g:Vals ys J)=>qlh (n:=n) (A:=X.A.in1) I b g λi x y S O u w T L=>qkq I (n:=n) (by lia) (B i x y S O) T L;rcases h with ⟨m,k⟩|⟨m,k⟩
    .obtain⟨its,b,E,_⟩:=I.list (SqL.of m);obtain⟨a,g,z,_⟩:=I.list (SqL.of k);have G:=b.length;have K:=g.length;refine SeqAt.RcNeAt.lists (e:=λ_=>true) E.isList z.isList (by rw[Aj,Aj];lia) (by lia) (F its a b g) _ _ _ _ ?_;rw[qfe];exact j rfl
    .obtain⟨its,b,E,_⟩:=I.tuple (SqT.of m);obtain⟨a,g,z,_⟩:=I.tuple (SqT.of k);have G:=b.length;have K:=g.length;refine SeqAt.RcNeAt.tuples (e:=λ_=>true) (show s.heap.IsTuple p its.toArray from E) (show s.heap.IsTuple P a.toArray from z) (by lia) (F its a b g) _ _ _ _ ?_;rw[qfe,Aj,Aj,<- G,<- K,D,beq_self_eq_true,Er];exact j rfl
 .cases t;cases C;obtain⟨z1,N,vs,o,R⟩:=qer I.hok m;obtain⟨z2,M,J,r,U⟩:=qer I.hok k;refine PySem.W.keq_ne N M R U (by lia) (λ_=>qp4 I (A:=X.A.in1) (by lia) r o B) ?_;rw[<- o.length,<- r.length,D,beq_self_eq_true];exact j rfl
theorem op_eqDk (hu:X.A.units+64<cLine):OpR X (compareOp .Eq) rEqDk:=by
 intro c s σ H x y v u Q I t C h;obtain⟨n,hn,h,q⟩:=h;have un:X.A.in1.units=X.A.units+1:=rfl;have j:∀{s'},s'=s->EP X c σ Q (.bool true) s':=λe=>by rw[e];exact⟨.bl true,H,I,Z,q⟩
 rcases h with h|⟨d,e,kvs,kws,rfl,rfl,m,k,D,B⟩
 .have l:x=y/\qb2 x=true->wpAny (model X.prog X.w) X.A (compareOp .Eq v u) (EP X c σ Q) X.xe s:=λ⟨e,f⟩=>by
   subst e
   refine qch c s σ H x x v u Q I t C ⟨?_,by simpa using q⟩
   cases x <;>first|rfl|cases f
  cases n with
  |zero=>exact l h
  |succ n =>
   rcases h with h|⟨p,P,xs,ys,rfl,rfl,h,D,B⟩
   .exact l h
   .cases t;cases C;have F:=λ(us J:List Value)(b:Vals xs us)(g:Vals ys J)=>qlh (n:=n) (A:=X.A.in1) I b g λi x y S O u w T L=>qkq I (n:=n) (by lia) (B i x y S O) T L;rcases h with ⟨m,k⟩|⟨m,k⟩
    .obtain⟨its,b,E,_⟩:=I.list (SqL.of m);obtain⟨a,g,z,_⟩:=I.list (SqL.of k);have G:=b.length;have K:=g.length;refine SeqAt.RcAt.lists (e:=λ_=>true) E.isList z.isList (by rw[Aj,Aj];lia) (by lia) (F its a b g) _ _ _ _ ?_;rw[qfe];exact j rfl
    .obtain⟨its,b,E,_⟩:=I.tuple (SqT.of m);obtain⟨a,g,z,_⟩:=I.tuple (SqT.of k);have G:=b.length;have K:=g.length;refine SeqAt.RcAt.tuples (e:=λ_=>true) (show s.heap.IsTuple p its.toArray from E) (show s.heap.IsTuple P a.toArray from z) (by lia) (F its a b g) _ _ _ _ ?_;rw[qfe,Aj,Aj,<- G,<- K,D,beq_self_eq_true,Er];exact j rfl
 .cases t;cases C;obtain⟨z1,N,vs,o,R⟩:=qer I.hok m;obtain⟨z2,M,J,r,U⟩:=qer I.hok k;refine PySem.W.keq_eq N M R U (by lia) (λ_=>qp4 I (A:=X.A.in1) (by lia) r o B) ?_;rw[<- o.length,<- r.length,D,beq_self_eq_true];exact j rfl
end
def tRv (K:Ah)(te:TE)(th:TO):TE:=λσ H Q=>te σ H λx H1=>th σ H1 λu H2=>u=some (-1)/\∃a xs,x=.ref a/\SqL K H2 a xs/\∀p,H2 p=none->Q (.ref p) (upd H2 p (.lst xs.reverse))
theorem qww {X:Cx}{e st:Expr}{j:TE}{k:TO}{g pos:Pos}(D:PE X e j)(F:PO X (some st) k)(i:∀a b:Addr,subscripted (.Slice none none (some st) g) false (.ref a) (.ref b)=operate [.ref a,.ref b] (getItem (.ref a) (.ref b)):=by intro _ _;with_unfolding_all rfl):PE X (.Subscript e (.Slice none none (some st) g) pos) (tRv X.K j k):=by
 intro c s σ H Q I h;refine Subscript_ (thn (D c s σ H _ I h) λv E ⟨x,L,p,n,t⟩=>?_);refine wpAny_Slice ?_;rw[Eo];refine Bf ?_;try rw[Eo]
 refine Bf ?_;refine thn (F c E σ L _ p t) λvs d ⟨u,B,z,y,G,a,xs,ex,m,C⟩=>?_;subst G ex;cases n;have f:Inv X c σ B {d with heap:=d.heap.push {cls:=.type "slice",data:=.fields #[.none,.none,vs]} }:=z.kept (t':=d.toks) λb J q=>As _ q;obtain⟨its,r,l,hz⟩:=f.list m;have hlen:=r.length;show wpAny (model X.prog X.w) X.A (subscriptTail e (.Slice none none (some st) g) (.ref a) (.ref d.heap.objs.size)) (EP X c σ Q) X.xe {d with heap:=d.heap.push {cls:=.type "slice",data:=.fields #[.none,.none,vs]} };refine tail_any (ops:=[.ref a,.ref d.heap.objs.size]) l.isList.typeIs Eh.lookup ?_ (i _ _);refine wpAny_getItem_list_slice l.isList (Heap.IsSliceOf.new ..) .none .none y Uk ?_ (by rw[Aj] <;>lia);rw[PySem.W.krv_pick];refine⟨.ref _,_,f.laid (t':=d.toks) (o:=.lst xs.reverse) (λb J q=>As _ q) (Al _) ?_,Z,C _ (f.hok.fresh (Al _))⟩;exact⟨by rw[Bx];exact hz,its.reverse,0,r.reverse,AT _ Z⟩
noncomputable def qwx:V->List V->Hp->VK->Prop:=λx vs H Q=>∃(l:Addr)(xs:List V)(y:V)(k:Nat),x=.ref l/\vs=[.int (k:Int),y]/\H l=some (.lst xs)/\k<=xs.length/\xs.length<1000/\Q .non (upd H l (.lst (xs.take k++y::xs.drop k)))
theorem qrx {X:Cx}:MtM X "list.insert" qwx:=by
 intro pins s σ H x vs v us Q I i rv h;obtain⟨l,xs,y,k,rfl,rfl,c,hk,hz,q⟩:=h;cases i;obtain⟨u0,u,rfl,j,m⟩:=rv.two;obtain⟨o,rfl⟩:=j;obtain⟨z,its,n,r,hl,e⟩:=I.lstM c;have hlen:=r.length;have d:its.toArray.size<=A5:=by rw[Aj,Bq];lia
 have f:BD.List.listFitsIndex (k:Int)=true:=by
  unfold BD.List.listFitsIndex;rw[B4,decide_eq_true_eq,decide_eq_true_eq];have:(k:Int)<1001:=by lia
  exact⟨Bm Uk (Dn k),Bb this Uk⟩
 have a:¬(!Builtin.List.listFitsIndex (k:Int))=true:=λz=>by rw[f]at z;cases z
 have b:¬(k:Int)<0:=by lia
 have g:min ((k:Int).toNat) its.toArray.size=k:=by rw[B8,Aj];exact Nat.min_eq_left (by lia)
 generalize (k:Int)=kk at a b g |-;have M:=AutoListH.list_insert_list_int_val_1 l its.toArray n kk o u a d;refine DB F.slot_list_insert ⟨_,e,Z⟩ F.entry_list_insert (F.args_list_insert_3 _ _ _) M ⟨e,?_⟩;refine⟨.non,_,I.lset (its':=its.take k++u::its.drop k) c e ?_ ((r.take k).append (.cons m (r.drop k))) ?_,Z,q⟩
 .simp only[if_neg b,g];simp;exact CP (by rw[BE];lia)
 .rw[Af,Bj,AG,BE,Bq];lia
end Add
namespace Lam
open PySem PySem.Spec PyProof.Rows L2 Add PySem.W PySem.Calls
section
open PySem.SeqAt
open PySem.AutoSeq1 (wpAny_loadPart')
open PySem.MeetsSeq PySem.MeetsSeq2 PySem.MeetsSeq3
open HT
theorem qry (l b:Addr)(n C:Nat)(G u:Option Addr)(H v:Array (Option Value))(x y:Int×Str)(p f j c:Tok) :
  Meets (BD.«tuple.__lt__» ⟨[.ref l,.ref b],[]⟩)
   (λ_ R s=>s.heap.get? l=some {cls:=.type "tuple",dict:=G,data:=.seq #[.int x.1 p,.str x.2 f] n,slots:=H}/\s.heap.get? b=some {cls:=.type "tuple",dict:=u,data:=.seq #[.int y.1 j,.str y.2 c] C,slots:=v} /\
    R (.ok (.ret (.bool (ltK x y)))) s) :=
 .of_wp λprog w A R s h=>by
  obtain⟨o,g,d,tk,i⟩:=s;obtain⟨I,F,h⟩:=h;have f2:=AutoSeq1.sub_tuple_tuple
  wp_walk using wpAny_loadPart' I,wpAny_loadPart' F,wpAny_forIn_list _ (λqb9 b r=>b.1=none/\r=⟨o,g,d,tk,i⟩/\(qb9=[(Da x.1 p,Da y.1 j),(Dp x.2 f,Dp y.2 c)]\/(x.1=y.1/\qb9=[(Dp x.2 f,Dp y.2 c)])\/(x.1=y.1/\x.2=y.2/\qb9=[]))) _
  case turn =>
   rintro⟨y',x'⟩ qb9 b r ⟨k,rfl,a|⟨q,a⟩|⟨_,_,a⟩⟩
   .injection a with a h2;injection a with h3 h4;subst h2 h3 h4;refine Az (AZ.int_int x.1 p y.1 j prog w _ _ ?_);cases e:x.1 == y.1 with
    |true =>
     wp_walk
     exact⟨Z,Z,.inr (.inl ⟨beq_iff_eq.mp e,Z⟩)⟩
    |false =>
     have D:x.1≠y.1:=λz=>by rw[z,beq_self_eq_true]at e;cases e
     have hz:ltK x y=decide (x.1<y.1):=by unfold ltK;rw[decide_eq_false D];simp
     rw[hz]at h;have m:∀(E:Value->Ad->Prop)(Q:Value->Ad->Prop),Q (.bool (decide (x.1<y.1))) ⟨o,g,d,tk,i⟩->wpAny (model prog w) A.in1 (richCompare .Lt (.int x.1 p) (.int y.1 j)) Q E ⟨o,g,d,tk,i⟩:=λE Q t=>(PyProof.Rows.lt_int t:wpAny (model prog w) A.in1 (compareOp .Lt (.int x.1 p) (.int y.1 j)) Q E _)
     wp_walk using m
     exact⟨_,Z,by simpa using h⟩
   .injection a with a h2;injection a with h3 h4;subst h2 h3 h4;refine Az (AZ.str_str x.2 f y.2 c prog w _ _ ?_);cases e:x.2 == y.2 with
    |true =>
     wp_walk
     exact⟨Z,Z,.inr (.inr ⟨q,beq_iff_eq.mp e,Z⟩)⟩
    |false =>
     have hz:ltK x y=decide (x.2.cps.toList<y.2.cps.toList):=by unfold ltK;rw[decide_eq_false (show ¬x.1<y.1 by lia),decide_eq_true q];rfl
     rw[hz]at h;have m:∀(E:Value->Ad->Prop)(Q:Value->Ad->Prop),Q (.bool (x.2.cps.toList<y.2.cps.toList)) ⟨o,g,d,tk,i⟩->wpAny (model prog w) A.in1 (richCompare .Lt (.str x.2 f) (.str y.2 c)) Q E ⟨o,g,d,tk,i⟩:=λE Q t=>(lt_str t:wpAny (model prog w) A.in1 (compareOp .Lt (.str x.2 f) (.str y.2 c)) Q E _)
     wp_walk using m
     exact⟨_,Z,by simpa using h⟩
   .cases a
  case fin =>
   rintro⟨b1,b2⟩ r ⟨k,rfl,a|⟨q,a⟩|⟨q,B,_⟩⟩
   .cases a
   .cases a
   .simp only at k;subst k;have hz:ltK x y=false:=(ltK_no x y).mpr (by
     rintro (z|⟨_,z⟩)
     .lia
     .rw[B]at z;exact List.lt_irrefl _ z)
    rw[hz]at h
    wp_walk
    exact⟨_,Z,by simpa [BD.Tuple.tupleCompareSizes] using h⟩
  case h =>exact⟨Z,Z,.inl Z⟩
end
section
variable {X:Cx}
def rLtK (K:Ah):R2:=λx y H Q=>∃(a b:Addr)(u v:Int×Str),x=.ref a/\y=.ref b/\H a=some (.tup (encK u))/\H b=some (.tup (encK v))/\Q (.bl (ltK u v)) H
theorem op_ltK (hu:X.A.units+64<cLine):OpR X (compareOp .Lt) (rLtK X.K):=by
 intro g s σ H x y v u Q I z E h;obtain⟨a,b,p,f,rfl,rfl,L,B,q⟩:=h;cases z;cases E;obtain⟨ts,r,M,_⟩:=I.tuple (SqT.of L);obtain⟨v1,v2,rfl,⟨t,rfl⟩,⟨t',rfl⟩⟩:=Vals.two r;obtain⟨⟨cls,D,data,J⟩,j,m,n,i⟩:=(show s.heap.IsTuple a _ from M);obtain⟨ts2,o,C,_⟩:=I.tuple (SqT.of B);obtain⟨v3,v4,rfl,⟨N,rfl⟩,⟨G,rfl⟩⟩:=Vals.two o;obtain⟨⟨cls2,k,data2,l⟩,e,d,w,c⟩:=(show s.heap.IsTuple b _ from C);simp only at m i d c;subst m i d c;exact richCompare_meets_room (op:=.Lt) ⟨_,j,Z⟩ ⟨_,e,Z⟩ PySem.F.slot_tuple_lt PySem.F.entry_tuple_lt (PySem.F.args_tuple_lt_2 _ _) (qry a b n w D k J l p f t t' N G)
  ⟨j,e,show DZ (ltK p f)≠Value.notImplemented/\EP X g σ Q (.bool (ltK p f)) s from ⟨(λx=>nomatch x),.bl _,H,I,Z,q⟩⟩ (by lia)
end
end Lam
namespace Cal
noncomputable def lb (y:Int):Int:=(3*y+14) / 17
noncomputable def fw (y:Int):Int:=52*y+(3*y+14) / 17
noncomputable def yo (w:Int):Int:=(17*w+2) / 887
noncomputable def wk (y:Int):Int:=if 3*y % 17<3 then 53 else 52
theorem qif (y:Int):fw (y+1)=fw y+wk y:=by unfold fw wk;rw[show 3*(y+1)+14=3*y+17 by lia,show 52*(y+1)=52*y+52 by lia];generalize 3*y=z;split <;>lia
theorem qnu (y:Int):52<=wk y/\wk y<=53:=by unfold wk;split <;>lia
theorem lies (w:Int):fw (yo w)<=w/\w<fw (yo w+1):=by unfold fw yo;lia
theorem qtc {w y:Int}(h1:fw y<=w)(h2:w<fw (y+1)):yo w=y:=by unfold fw at *;unfold yo;lia
theorem fw_nn {y:Int}(h:0<=y):0<=fw y:=by unfold fw;lia
theorem lb_up (n:Int):(3*(n+1)+14) / 17=(3*n+14) / 17+(wk n-52):=by have:=qif n;unfold fw at this;lia
structure Ok (y w d:Int):Prop where
 y0:0<=y
 w1:1<=w
 w2:w<=wk y
 d1:1<=d
 d2:d<=7
noncomputable def dn (y w d:Int):Int:=7*(fw y+w-1)+d-1
noncomputable def cell (ns:List Int)(k:Int):Int:=ns.getD k.toNat 0
end Cal
namespace K55
open PySem L2 Add
def nmc {α β:Type}{t:β}{f:α->β}{P:α->Prop}{v:α}(e:t=f v)(h:P v):∃v,t=f v/\P v:=⟨v,e,h⟩
def iic {α β γ δ:Type}{x:γ}{y:δ}{f:α->γ}{g:β->δ}{P:α->β->Prop}{i:α}{j:β}(e:x=f i)(a:y=g j)(h:P i j):∃i j,x=f i/\y=g j/\P i j:=⟨i,j,e,a,h⟩
def icc {α β γ δ:Type}{x:γ}{y:δ}{f:α->γ}{g:β->δ}{C P:α->β->Prop}{i:α}{j:β}(e:x=f i)(a:y=g j)(c:C i j)(h:P i j):∃i j,x=f i/\y=g j/\C i j/\P i j:=⟨i,j,e,a,c,h⟩
def lxc {K:Ah}{H:Hp}{p:Addr}{xs:List V}{i:Int}{v:V}{P:V->Prop}(s:SqL K H p xs)(e:atI xs i=some v)(h:P v):∃p' xs' i' v',V.ref p=.ref p'/\V.int i=.int i'/\SqL K H p' xs'/\atI xs' i'=some v'/\P v':=⟨p,xs,i,v,Z,Z,s,e,h⟩
def txc {K:Ah}{H:Hp}{p:Addr}{xs:List V}{i:Int}{v:V}{P:V->Prop}(s:SqT K H p xs)(e:atI xs i=some v)(h:P v):∃p' xs' i' v',V.ref p=.ref p'/\V.int i=.int i'/\SqT K H p' xs'/\atI xs' i'=some v'/\P v':=⟨p,xs,i,v,Z,Z,s,e,h⟩
def flc {H:Hp}{a C b:Addr}{fs:List (Str×V)}{v:V}{A B:Addr->Prop}{L:List (Str×V)->V->Prop}{P:V->Prop}(h:H a=some (.ins C b fs))(c:A C)(n:B C)(l:L fs v)(q:P v):∃a' C' dx' fs' v',V.ref a=.ref a'/\H a'=some (.ins C' dx' fs')/\A C'/\B C'/\L fs' v'/\P v':=⟨a,C,b,fs,v,Z,h,c,n,l,q⟩
def lxo {K:Ah}{H:Hp}{p:Addr}{xs:List V}{i:Int}{v:V}{P:V->Prop}(s:H p=some (.lst xs))(e:atI xs i=some v)(h:P v):∃p' xs' i' v',V.ref p=.ref p'/\V.int i=.int i'/\SqL K H p' xs'/\atI xs' i'=some v'/\P v':=lxc (SqL.of s) e h
def txo {K:Ah}{H:Hp}{p:Addr}{xs:List V}{i:Int}{v:V}{P:V->Prop}(s:H p=some (.tup xs))(e:atI xs i=some v)(h:P v):∃p' xs' i' v',V.ref p=.ref p'/\V.int i=.int i'/\SqT K H p' xs'/\atI xs' i'=some v'/\P v':=txc (SqT.of s) e h
noncomputable def top (i:Nat):Stmt:=PySem.Challenge.pw_termcourt_k55_histories_in_any_order.main.body.getD i (.Pass ⟨0,0,0,0⟩)
noncomputable abbrev qe1:Stmt:=qak (top 3) 0
noncomputable abbrev qok:Stmt:=top 6
noncomputable abbrev qli:Stmt:=top 8
noncomputable abbrev qfn:Stmt:=top 10
noncomputable abbrev qrz:Stmt:=top 11
noncomputable abbrev qol:Stmt:=top 14
noncomputable abbrev qjf:Stmt:=top 13
noncomputable abbrev qlj:Stmt:=top 12
noncomputable abbrev qc9:Stmt:=qak (top 3) 1
noncomputable abbrev qe2:Stmt:=qak (top 4) 0
noncomputable abbrev qeb:Stmt:=qak (top 3) 4
noncomputable abbrev qgh:Stmt:=top 40
noncomputable abbrev qcq:Stmt:=qak (top 52) 3
noncomputable abbrev qda:Stmt:=qak (top 52) 5
noncomputable abbrev qht:Stmt:=top 41
noncomputable abbrev qgi:Stmt:=qak (top 52) 4
noncomputable abbrev qom:Stmt:=top 42
noncomputable abbrev qlk:Stmt:=top 44
noncomputable abbrev qon:Stmt:=top 43
noncomputable abbrev qhu:Stmt:=top 53
noncomputable abbrev qec:Stmt:=qak (top 52) 2
noncomputable abbrev qgj:Stmt:=qak (top 64) 1
noncomputable abbrev qfo:Stmt:=qak (top 64) 3
noncomputable abbrev qjg:Stmt:=qak (top 64) 4
noncomputable abbrev qdq:Stmt:=qak (top 5) 2
noncomputable abbrev qcr:Stmt:=qak (top 3) 3
noncomputable abbrev qcj:Stmt:=qak (top 5) 1
noncomputable abbrev qll:Stmt:=top 16
noncomputable abbrev qed:Stmt:=qak (top 64) 5
noncomputable abbrev qjh:Stmt:=top 18
noncomputable abbrev qlm:Stmt:=top 17
noncomputable abbrev qdm:Stmt:=top 22
noncomputable abbrev qfp:Stmt:=qak (top 38) 2
noncomputable abbrev qgk:Stmt:=qak (top 38) 3
noncomputable abbrev qhv:Stmt:=qak (top 20) 4
noncomputable abbrev qhw:Stmt:=top 25
noncomputable abbrev qdb:Stmt:=qak (top 36) 2
noncomputable abbrev qg3:Stmt:=qak (top 36) 1
noncomputable abbrev qfq:Stmt:=qak (top 20) 8
noncomputable abbrev qln:Stmt:=qak (top 20) 13
noncomputable abbrev qhx:Stmt:=qak (top 20) 9
noncomputable abbrev qgl:Stmt:=qak (top 20) 3
noncomputable abbrev qfr:Stmt:=qak (top 20) 2
noncomputable abbrev qee:Stmt:=qak (top 20) 7
noncomputable abbrev qhy:Stmt:=qak (top 20) 1
noncomputable abbrev qe3:Stmt:=qak (top 20) 10
noncomputable abbrev qfs:Stmt:=qak (top 20) 11
noncomputable abbrev qlo:Stmt:=qak (top 20) 12
noncomputable abbrev qji:Stmt:=qak (top 20) 6
noncomputable abbrev qlp:Stmt:=qak (top 20) 5
noncomputable abbrev qcy:Stmt:=qak (top 20) 0
noncomputable abbrev qwy:Stmt:=top 24
noncomputable abbrev qe4:Stmt:=qak (top 20) 15
noncomputable abbrev qgm:Stmt:=qak (top 20) 14
noncomputable abbrev qig:Stmt:=top 23
noncomputable abbrev qlq:Stmt:=top 34
noncomputable abbrev qe5:Stmt:=top 33
noncomputable abbrev qdh:Stmt:=top 54
noncomputable abbrev qhz:Stmt:=top 55
noncomputable abbrev qh0:Stmt:=top 57
noncomputable abbrev qgn:Stmt:=top 56
noncomputable abbrev qjj:Stmt:=top 59
noncomputable abbrev qe6:Stmt:=top 58
noncomputable abbrev qft:Stmt:=top 65
noncomputable abbrev qr0:Stmt:=top 67
noncomputable abbrev qgo:Stmt:=top 66
noncomputable abbrev qh1:Stmt:=top 69
noncomputable abbrev qjk:Stmt:=top 70
noncomputable abbrev qjl:Stmt:=top 71
noncomputable abbrev qcf:Stmt:=qak (top 36) 0
noncomputable abbrev qih:Stmt:=top 72
noncomputable abbrev qlr:Stmt:=top 73
noncomputable abbrev qii:Stmt:=top 74
noncomputable abbrev qij:Stmt:=top 75
noncomputable abbrev qgp:Stmt:=top 76
noncomputable abbrev qh2:Stmt:=top 77
noncomputable abbrev qjm:Stmt:=top 78
noncomputable abbrev qjn:Stmt:=qak (top 38) 0
noncomputable abbrev qcz:Stmt:=qak (top 52) 0
noncomputable abbrev qbc:Stmt:=qak (top 64) 0
noncomputable abbrev qr1:Stmt:=top 79
structure DefAt (K:Ah)(mg:Str->Option Value)(x:Str)(st:Stmt)(ps:List Str)(f:Addr)(fd:Aw):Prop where
 fn:Fun K x x st f fd
 mgx:mg x=some (.ref f)
 bd:Binds K fd ps []
abbrev Pd (K:Ah)(x:Str)(st:Stmt)(f:Addr):Prop:=∃(oc:Value)(od:Option Addr)(kV doc pm:Value)(an:Option Addr)(cdv ct:Value)(osl:Array (Option Value)),AJ K A6 x=some (some (.ref f))/\K.lookup f=some ⟨oc,od,.func (Bh x x (qa6 st) (qav st) (qaa st) .none kV doc pm an cdv ct),osl⟩/\B3 K cdv x=true/\Br K (.ref f)=true
abbrev Pm (K:Ah)(C:Addr)(x q:Str)(st:Stmt)(f:Addr):Prop:=∃(oc:Value)(od:Option Addr)(kV doc pm:Value)(an:Option Addr)(cdv ct:Value)(osl:Array (Option Value)),Be K (.ref C) x=some (some (.ref f))/\C7 K (.ref f)=some (.type "function")/\K.lookup f=some ⟨oc,od,.func (Bh x q (qa6 st) (qav st) (qaa st) .none kV doc pm an cdv ct),osl⟩/\B3 K cdv q=true/\Br K (.ref f)=true
def pd_of {K:Ah}{x:Str}{st:Stmt}{f:Addr}{h:Value}{j:Option Addr}{kV d i:Value}{g:Option Addr}{b ct:Value}{e:Array (Option Value)}(a:AJ K A6 x=some (some (.ref f)))(l:K.lookup f=some ⟨h,j,.func (Bh x x (qa6 st) (qav st) (qaa st) .none kV d i g b ct),e⟩)(c:B3 K b x=true)(k:Br K (.ref f)=true):Pd K x st f:=⟨h,j,kV,d,i,g,b,ct,e,a,l,c,k⟩
def pm_of {K:Ah}{C:Addr}{x q:Str}{st:Stmt}{f:Addr}{j:Value}{i:Option Addr}{kV e h:Value}{g:Option Addr}{b ct:Value}{d:Array (Option Value)}(a:Be K (.ref C) x=some (some (.ref f)))(t:C7 K (.ref f)=some (.type "function"))(l:K.lookup f=some ⟨j,i,.func (Bh x q (qa6 st) (qav st) (qaa st) .none kV e h g b ct),d⟩)(c:B3 K b q=true)(k:Br K (.ref f)=true):Pm K C x q st f:=⟨j,i,kV,e,h,g,b,ct,d,a,t,l,c,k⟩
def qa4 {K:Ah}{h:Heap}{mg:Str->Option Value}{x:Str}{st:Stmt}{f:Addr}(X:K.In h)(G:h.Ns A6 mg)(p:Pd K x st f){ps:List Str}(b:∀(kV d i:Value) (g:Option Addr) (e ct:Value) (us:List Value),us.length=ps.length->bindArgs (Bh x x (qa6 st) (qav st) (qaa st) .none kV d i g e ct) ⟨us,[]⟩=pure (ps.zip us)):∃fd,DefAt K mg x st ps f fd:=by obtain⟨oc,od,kV,d,i,g,e,ct,osl,a,l,c,k⟩:=p;have F:=qob (st:=st) l c k;exact⟨_,F,Bc X G a,F.binds b⟩
def qa9 {K:Ah}{C:Addr}{x q:Str}{st:Stmt}{f:Addr}(p:Pm K C x q st f){ps:List Str}(b:∀(kV d h:Value) (g:Option Addr) (e ct:Value) (us:List Value),us.length=ps.length->bindArgs (Bh x q (qa6 st) (qav st) (qaa st) .none kV d h g e ct) ⟨us,[]⟩=pure (ps.zip us)):∃fd,MethAt K x q st ps f fd:=by obtain⟨oc,od,kV,d,h,g,e,ct,osl,a,t,l,c,k⟩:=p;have F:=qob (st:=st) l c k;exact⟨_,F,F.binds b,t⟩
def qcw {p:List Value->Prop}(h:∀x0,p [x0]):∀us,us.length=1->p us:=λus a=>by obtain⟨x,rfl⟩:=List.length_eq_one_iff.mp a;exact h x
def argS {p:List Value->Prop}{n:Nat}(h:∀x t,t.length=n->p (x::t)):∀us,us.length=n+1->p us:=λus a=>by obtain⟨x,t,rfl⟩:=List.exists_cons_of_length_eq_add_one a;exact h x t (Nat.succ.inj a)
def qdc {p:List Value->Prop}(h:∀x0 x1,p [x0,x1]):∀us,us.length=2->p us:=argS λx=>qcw (h x)
def qik {p:List Value->Prop}(h:∀x0 x1 x2,p [x0,x1,x2]):∀us,us.length=3->p us:=argS λx=>qdc (h x)
def qr2 {p:List Value->Prop}(h:∀x0 x1 x2 x3,p [x0,x1,x2,x3]):∀us,us.length=4->p us:=argS λx=>qik (h x)
def arg5 {p:List Value->Prop}(h:∀x0 x1 x2 x3 x4,p [x0,x1,x2,x3,x4]):∀us,us.length=5->p us:=argS λx=>qr2 (h x)
set_option genInjectivity false
set_option genSizeOf false
set_option genSizeOfSpec false
structure Adr where
 bO:Addr
 nQ:Aw
 xK:Addr
 tD:Aw
 tS:Addr
 pQ:Aw
 mN:Addr
 mF:Aw
 nI:Addr
 pD:Aw
 tU:Addr
 n9:Aw
 mP:Addr
 xM:Aw
 mW:Addr
 xU:Aw
 gQ:Addr
 dX:Aw
 bK:Addr
 l9:Aw
 gW:Addr
 bT:Aw
 tT:Addr
 nU:Aw
 lK:Addr
 pZ:Aw
 hV:Addr
 tZ:Aw
 pV:Addr
 nR:Aw
 fV:Addr
 mT:Aw
 tY:Addr
 sY:Aw
 pI:Addr
 rX:Aw
 pM:Addr
 xL:Aw
 mL:Addr
 nL:Aw
 m5:Addr
 sU:Aw
 fL:Addr
 sV:Aw
 hJ:Addr
 xP:Aw
 lN:Addr
 rJ:Aw
 bG:Addr
 lW:Aw
 gS:Addr
 bW:Aw
 bH:Addr
 fY:Aw
 tE:Addr
 mV:Aw
 lI:Addr
 xH:Aw
 mH:Addr
 sL:Aw
 mM:Addr
 mC:Aw
 rT:Addr
 bP:Aw
 lE:Addr
 xO:Aw
 mB:Addr
 xB:Aw
 hM:Addr
 rP:Aw
 xN:Addr
 rN:Aw
 m9:Addr
 pY:Aw
 lC:Addr
 pR:Aw
 fM:Addr
 nF:Aw
 fS:Addr
 sQ:Aw
 lL:Addr
 mI:Aw
 bA:Addr
 bN:Aw
 bC:Addr
 bR:Aw
 lR:Addr
 rS:Aw
 fN:Addr
 nE:Aw
 lD:Addr
 tH:Aw
 lB:Addr
 nN:Aw
 lQ:Addr
 xF:Aw
 fJ:Addr
 tQ:Aw
 fO:Addr
 rV:Aw
 hZ:Addr
 pA:Aw
 nH:Addr
 mE:Aw
 hU:Addr
 rM:Aw
 hG:Addr
 rL:Aw
 xG:Addr
 sM:Aw
 pW:Addr
 pO:Aw
 r9:Addr
 nG:Aw
 tW:Addr
 rH:Aw
 mZ:Addr
 t9:Aw
 rB:Addr
 rD:Aw
 xT:Addr
 tL:Aw
 pH:Addr
 nK:Aw
 mK:Addr
 sX:Aw
 rA:Addr
 tP:Aw
 tR:Addr
 xI:Aw
 rO:Addr
 mQ:Aw
 rR:Addr
 xC:Aw
 xA:Addr
 mO:Aw
 nV:Addr
 rE:Aw
 lH:Addr
 xQ:Aw
 nA:Addr
 tO:Aw
 mS:Addr
 sZ:Aw
 rK:Addr
 nY:Aw
 nM:Addr
 tG:Aw
 rG:Addr
 pN:Aw
 xD:Addr
 nJ:Aw
 nO:Addr
 sP:Aw
 fK:Addr
 tX:Aw
 fX:Addr
 tK:Aw
 fQ:Addr
 lP:Aw
 xR:Addr
 pE:Aw
 kN:Addr
 kP:Addr
 kO:Addr
 kK:Addr
 kE:Addr
 kA:Addr
 kI:Addr
 kR:Addr
 m4:Addr
structure Txt (K:Ah)(mg:Str->Option Value)(a:Adr):Prop where
 dU:MethAt K "__init__" "Counting.__init__" qe1 ["self","table"] a.bO a.nQ
 dL:DefAt K mg "kind_of" qok ["unit","table"] a.xK a.tD
 kY:DefAt K mg "is_whole" qli ["thing"] a.tS a.pQ
 gR:DefAt K mg "is_stretch_of" qfn ["first","last","most"] a.mN a.mF
 gI:DefAt K mg "place" qrz ["stretches","day"] a.nI a.pD
 dP:DefAt K mg "joined" qol ["laid"] a.tU a.n9
 bY:DefAt K mg "laid_over" qjf ["laid","first","last","word"] a.mP a.xM
 fA:DefAt K mg "overlay" qlj ["rows"] a.mW a.xU
 m8:MethAt K "days_for" "Counting.days_for" qc9 ["self","units"] a.gQ a.dX
 pX:MethAt K "days_for" "Weeks.days_for" qe2 ["self","units"] a.bK a.l9
 fT:MethAt K "reach" "Counting.reach" qeb ["self","first","many"] a.gW a.bT
 gX:DefAt K mg "long_before" qgh ["year"] a.tT a.nU
 bI:MethAt K "before_year" "Pattern.before_year" qcq ["self","year"] a.lK a.pZ
 xE:MethAt K "year_with" "Pattern.year_with" qda ["self","many"] a.hV a.tZ
 gM:DefAt K mg "first_week" qht ["year"] a.pV a.nR
 lU:MethAt K "nth" "Pattern.nth" qgi ["self","many"] a.fV a.mT
 gU:DefAt K mg "year_of" qom ["week"] a.tY a.sY
 bX:DefAt K mg "weekday" qlk ["day"] a.pI a.rX
 bV:DefAt K mg "date_of" qon ["day"] a.pM a.xL
 dZ:DefAt K mg "day_of_year" qhu ["day"] a.mL a.nL
 dB:MethAt K "before" "Pattern.before" qec ["self","day"] a.m5 a.sU
 lA:MethAt K "shift" "Table.shift" qgj ["self","row","end"] a.fL a.sV
 gT:MethAt K "before" "Table.before" qfo ["self","day"] a.hJ a.xP
 hX:MethAt K "nth" "Table.nth" qjg ["self","many"] a.lN a.rJ
 rQ:MethAt K "reach" "CourtDays.reach" qdq ["self","first","many"] a.bG a.lW
 m6:MethAt K "counted_in" "Counting.counted_in" qcr ["self","first","last"] a.gS a.bW
 tV:MethAt K "counted_in" "CourtDays.counted_in" qcj ["self","first","last"] a.bH a.fY
 dC:DefAt K mg "full_day" qll ["kind","start","units","pauses"] a.tE a.mV
 fP:MethAt K "next_open" "Table.next_open" qed ["self","day"] a.lI a.xH
 bZ:DefAt K mg "first_due" qjh ["table","day","pauses"] a.mH a.sL
 kZ:DefAt K mg "last_day" qlm ["kind","start","units","pauses"] a.mM a.mC
 gH:DefAt K mg "in_order" qdm ["acts"] a.rT a.bP
 xJ:MethAt K "hanging" "Book.hanging" qfp ["self"] a.lE a.xO
 nX:MethAt K "rule_of" "Book.rule_of" qgk ["self","name"] a.mB a.xB
 pG:MethAt K "is_over" "Run.is_over" qhv ["self"] a.hM a.rP
 dE:DefAt K mg "is_running" qhw ["runs"] a.xN a.rN
 tI:MethAt K "role_in_still" "Rule.role_in_still" qdb ["self","kind"] a.m9 a.pY
 nD:MethAt K "role" "Rule.role" qg3 ["self","kind"] a.lC a.pR
 fZ:MethAt K "is_halted" "Run.is_halted" qfq ["self"] a.fM a.nF
 lV:MethAt K "go_on" "Run.go_on" qln ["self","day"] a.fS a.sQ
 tN:MethAt K "finish" "Run.finish" qhx ["self","day"] a.lL a.mI
 gJ:MethAt K "lasts_to" "Run.lasts_to" qgl ["self"] a.bA a.bN
 gE:MethAt K "starts_on" "Run.starts_on" qfr ["self"] a.bC a.bR
 r8:MethAt K "is_under_way" "Run.is_under_way" qee ["self","day"] a.lR a.rS
 lZ:MethAt K "set_out" "Run.set_out" qhy ["self","day","base"] a.fN a.nE
 rF:MethAt K "begin_anew" "Run.begin_anew" qe3 ["self","day"] a.lD a.tH
 sT:MethAt K "lengthen" "Run.lengthen" qfs ["self","kind"] a.lB a.nN
 mD:MethAt K "halt" "Run.halt" qlo ["self","day"] a.lQ a.xF
 pJ:MethAt K "works" "Run.works" qji ["self","word","day","kind"] a.fJ a.tQ
 pC:MethAt K "feel" "Run.feel" qlp ["self","name","day","kind"] a.fO a.rV
 xS:MethD K "__init__" "Run.__init__" qcy ["self","rule","table","name","day","base"] a.hZ a.pA
 dR:DefAt K mg "take" qwy ["book","table","runs","act"] a.nH a.mE
 sS:MethAt K "state_word" "Run.state_word" qe4 ["self","last"] a.hU a.rM
 mG:MethAt K "account" "Run.account" qgm ["self"] a.hG a.rL
 gF:DefAt K mg "history" qig ["book","table","acts"] a.xG a.sM
 fH:DefAt K mg "untaken" qlq ["name","bases","taken"] a.pW a.pO
 dW:DefAt K mg "hanging_order" qe5 ["rules"] a.r9 a.nG
 fG:DefAt K mg "is_free_within" qdh ["within","week","yearly"] a.tW a.rH
 dJ:DefAt K mg "counted_up" qhz ["free_days"] a.mZ a.t9
 dD:DefAt K mg "is_weekday" qh0 ["thing"] a.rB a.rD
 dO:DefAt K mg "refuse_week" qgn ["week"] a.xT a.tL
 fF:DefAt K mg "is_yearly" qjj ["thing"] a.pH a.nK
 dH:DefAt K mg "refuse_yearly" qe6 ["yearly"] a.mK a.sX
 gG:DefAt K mg "list_or_empty" qft ["things"] a.rA a.tP
 dY:DefAt K mg "is_row" qr0 ["row"] a.tR a.xI
 bU:DefAt K mg "refuse_rows" qgo ["rows"] a.rO a.mQ
 kX:DefAt K mg "_law_cell_at" qh1 ["_law_script","_law_k"] a.rR a.xC
 kM:DefAt K mg "_law_mixed" qjk ["_law_script","_law_k"] a.xA a.mO
 gP:DefAt K mg "_law_words" qjl ["_law_cell","_law_many"] a.nV a.rE
 nZ:MethD K "__init__" "Rule.__init__" qcf ["self","name","who","owes","opens","base","many","unit","still"] a.lH a.xQ
 dS:DefAt K mg "_law_rule" qih ["_law_script","_law_at","_law_k","_law_names","_law_kinds"] a.nA a.tO
 dQ:DefAt K mg "_law_book" qlr ["_law_script","_law_names","_law_kinds"] a.mS a.sZ
 dI:DefAt K mg "_law_menu" qii ["_law_rules"] a.rK a.nY
 dN:DefAt K mg "_law_acts" qij ["_law_script","_law_rules","_law_names","_law_first","_law_many"] a.nM a.tG
 fC:DefAt K mg "_law_hanging" qgp ["_law_rules"] a.rG a.pN
 bS:DefAt K mg "_law_sorted" qh2 ["_law_acts_here"] a.xD a.nJ
 fE:DefAt K mg "_law_spoil" qjm ["_law_told"] a.nO a.sP
 l7:MethAt K "__init__" "Book.__init__" qjn ["self","rules"] a.fK a.tX
 tJ:MethAt K "__init__" "Pattern.__init__" qcz ["self","week","yearly"] a.fX a.tK
 yP:MethD K "__init__" "Table.__init__" qbc ["self","week","yearly","rows"] a.fQ a.lP
 yQ:DefAt K mg "law" qr1 ["_law_script"] a.xR a.pE
 yM:Binds K a.lP ["self","week","yearly","rows"] [.none,.none]
 nC:mg "Book"=some (.ref a.kN)
 gL:Cls K a.kN
 rC:Mk K a.kN a.fK
 bE:xNo K a.kN ["free_days","open_days","open_before","pattern","rows","shifts","table","name","who","owes","opens","base","many","unit","still","ends","anew","longer","yields","rule","counting","over","day","units","pauses","grants","order","by_name"]=true
 yB:Meth K a.kN "hanging" a.lE
 yK:Meth K a.kN "rule_of" a.mB
 xX:mg "Counting"=some (.ref a.kP)
 bM:Cls K a.kP
 yT:Mk K a.kP a.bO
 rZ:xNo K a.kP ["free_days","open_days","open_before","pattern","rows","shifts","table","name","who","owes","opens","base","many","unit","still","ends","anew","longer","yields","rule","counting","over","day","units","pauses","grants","order","by_name"]=true
 zM:Meth K a.kP "counted_in" a.gS
 yO:Meth K a.kP "days_for" a.gQ
 xY:Meth K a.kP "reach" a.gW
 KG:quz K a.kP=true
 KB:AR K (.ref a.kP) (.ref a.kP)=some true
 K8:AR K (.ref a.kP) (.ref a.kR)=some false
 K3:AR K (.ref a.kP) (.ref a.kO)=some false
 KE:Meth K a.kP "days_for" a.gQ
 K0:Meth K a.kP "reach" a.gW
 KA:Meth K a.kP "counted_in" a.gS
 zI:mg "CourtDays"=some (.ref a.kO)
 gK:Cls K a.kO
 zE:Mk K a.kO a.bO
 bD:xNo K a.kO ["free_days","open_days","open_before","pattern","rows","shifts","table","name","who","owes","opens","base","many","unit","still","ends","anew","longer","yields","rule","counting","over","day","units","pauses","grants","order","by_name"]=true
 zH:Meth K a.kO "counted_in" a.bH
 zR:Meth K a.kO "days_for" a.gQ
 yA:Meth K a.kO "reach" a.bG
 KD:quz K a.kO=true
 KH:AR K (.ref a.kO) (.ref a.kP)=some true
 K4:AR K (.ref a.kO) (.ref a.kR)=some false
 K5:AR K (.ref a.kO) (.ref a.kO)=some true
 KF:Meth K a.kO "reach" a.bG
 KI:Meth K a.kO "counted_in" a.bH
 yC:mg "Pattern"=some (.ref a.kK)
 kQ:Cls K a.kK
 zG:Mk K a.kK a.fX
 gD:xNo K a.kK ["free_days","open_days","open_before","pattern","rows","shifts","table","name","who","owes","opens","base","many","unit","still","ends","anew","longer","yields","rule","counting","over","day","units","pauses","grants","order","by_name"]=true
 dG:Meth K a.kK "before_year" a.lK
 yU:Meth K a.kK "year_with" a.hV
 mR:Meth K a.kK "nth" a.fV
 lJ:Meth K a.kK "before" a.m5
 zC:mg "Rule"=some (.ref a.kE)
 kG:Cls K a.kE
 zU:Mk K a.kE a.lH
 kH:xNo K a.kE ["free_days","open_days","open_before","pattern","rows","shifts","table","name","who","owes","opens","base","many","unit","still","ends","anew","longer","yields","rule","counting","over","day","units","pauses","grants","order","by_name"]=true
 yS:Meth K a.kE "role_in_still" a.m9
 xZ:Meth K a.kE "role" a.lC
 zA:mg "Run"=some (.ref a.kA)
 k8:Cls K a.kA
 zP:Mk K a.kA a.hZ
 kD:xNo K a.kA ["free_days","open_days","open_before","pattern","rows","shifts","table","name","who","owes","opens","base","many","unit","still","ends","anew","longer","yields","rule","counting","over","day","units","pauses","grants","order","by_name"]=true
 yD:Meth K a.kA "is_over" a.hM
 pP:Meth K a.kA "is_halted" a.fM
 nT:Meth K a.kA "go_on" a.fS
 z9:Meth K a.kA "finish" a.lL
 bL:Meth K a.kA "lasts_to" a.bA
 gY:Meth K a.kA "starts_on" a.bC
 zL:Meth K a.kA "is_under_way" a.lR
 mJ:Meth K a.kA "set_out" a.fN
 yY:Meth K a.kA "begin_anew" a.lD
 y9:Meth K a.kA "lengthen" a.lB
 zY:Meth K a.kA "halt" a.lQ
 yG:Meth K a.kA "works" a.fJ
 yW:Meth K a.kA "feel" a.fO
 yE:Meth K a.kA "state_word" a.hU
 zD:Meth K a.kA "account" a.hG
 yJ:mg "Table"=some (.ref a.kI)
 kL:Cls K a.kI
 zW:Mk K a.kI a.fQ
 kW:xNo K a.kI ["free_days","open_days","open_before","pattern","rows","shifts","table","name","who","owes","opens","base","many","unit","still","ends","anew","longer","yields","rule","counting","over","day","units","pauses","grants","order","by_name"]=true
 pU:Meth K a.kI "shift" a.fL
 gZ:Meth K a.kI "before" a.hJ
 mY:Meth K a.kI "nth" a.lN
 sR:Meth K a.kI "next_open" a.lI
 zV:mg "Weeks"=some (.ref a.kR)
 bJ:Cls K a.kR
 yV:Mk K a.kR a.bO
 rY:xNo K a.kR ["free_days","open_days","open_before","pattern","rows","shifts","table","name","who","owes","opens","base","many","unit","still","ends","anew","longer","yields","rule","counting","over","day","units","pauses","grants","order","by_name"]=true
 zN:Meth K a.kR "counted_in" a.gS
 zX:Meth K a.kR "days_for" a.bK
 zF:Meth K a.kR "reach" a.gW
 K9:quz K a.kR=true
 KJ:AR K (.ref a.kR) (.ref a.kP)=some true
 KC:AR K (.ref a.kR) (.ref a.kR)=some true
 K7:AR K (.ref a.kR) (.ref a.kO)=some false
 K6:Meth K a.kR "days_for" a.bK
 yF:mg "any"=none
 zK:mg "bool"=none
 yN:mg "dict"=none
 fD:mg "enumerate"=none
 yI:mg "int"=none
 bQ:mg "isinstance"=none
 gA:mg "len"=none
 gC:mg "list"=none
 lG:mg "max"=none
 sI:mg "min"=none
 gB:mg "range"=none
 zO:mg "reversed"=none
 rW:mg "sorted"=none
 yX:mg "str"=none
 yZ:mg "tuple"=none
 zT:∃t,mg "MOST_WEEKDAYS"=some (.int 6 t)
 zQ:∃t,mg "MOST_YEARLY"=some (.int 4 t)
 zZ:∃t,mg "MOST_YEARLY_DAYS"=some (.int 30 t)
 m3:∃t,mg "SHORT_YEAR"=some (.int 364 t)
 fU:∃t,mg "LONG_YEAR"=some (.int 371 t)
 yL:∃t,mg "MOST_ROWS"=some (.int 12 t)
 xV:∃t,mg "MOST_ROW_DAYS"=some (.int 40 t)
 mU:∃t,mg "TURN"=some (.int 17 t)
 yR:∃t,mg "DAYS_OF_A_WEEK"=some (.int 7 t)
 xW:mg "WORDS"=some (.ref a.m4)
 yH:∀H,SqT K H a.m4 [.str (Aa "free"),.str (Aa "open")]
def qwz:bootBuiltins "any"=some (.builtin "any"):=Ez
def qu5:bootBuiltins "bool"=some (.type "bool"):=Ez
def qu6:bootBuiltins "dict"=some (.type "dict"):=Ez
def qw0:bootBuiltins "int"=some (.type "int"):=Ez
def qb4:bootBuiltins "isinstance"=some (.builtin "isinstance"):=Ez
def qb5:bootBuiltins "len"=some (.builtin "len"):=Ez
def qbu:bootBuiltins "list"=some (.type "list"):=Ez
def qls:bootBuiltins "max"=some (.builtin "max"):=Ez
def qp5:bootBuiltins "min"=some (.builtin "min"):=Ez
def boot_sorted:bootBuiltins "sorted"=some (.builtin "sorted"):=Ez
def qw1:bootBuiltins "str"=some (.type "str"):=Ez
def qr3:bootBuiltins "tuple"=some (.type "tuple"):=Ez
def qlt:FnScope ["self","table"] ["self","table"] (qaa qe1):=⟨Z,Z,Z,Ez,Z,Ez,Ez⟩
def qw2:FnScope ["unit","table"] ["unit","table"] (qaa qok):=⟨Z,Z,Z,Ez,Z,Ez,Ez⟩
def qu7:FnScope ["thing"] ["thing"] (qaa qli):=⟨Z,Z,Z,Ez,Z,Ez,Ez⟩
def qmx:FnScope ["first","last","most"] ["first","last","most"] (qaa qfn):=⟨Z,Z,Z,Ez,Z,Ez,Ez⟩
def qg4:FnScope ["stretches","day","low","high","middle"] ["stretches","day"] (qaa qrz):=⟨Z,Z,Z,Ez,Z,Ez,Ez⟩
def qgq:FnScope ["laid","told","first","last","word"] ["laid"] (qaa qol):=⟨Z,Z,Z,Ez,Z,Ez,Ez⟩
def qef:FnScope ["laid","first","last","word","begin","end","told"] ["laid","first","last","word"] (qaa qjf):=⟨Z,Z,Z,Ez,Z,Ez,Ez⟩
def qdz:FnScope ["rows","laid","first","last","word"] ["rows"] (qaa qlj):=⟨Z,Z,Z,Ez,Z,Ez,Ez⟩
def qil:FnScope ["self","units"] ["self","units"] (qaa qc9):=⟨Z,Z,Z,Ez,Z,Ez,Ez⟩
def qlu:FnScope ["self","units"] ["self","units"] (qaa qe2):=⟨Z,Z,Z,Ez,Z,Ez,Ez⟩
def qkg:FnScope ["self","first","many"] ["self","first","many"] (qaa qeb):=⟨Z,Z,Z,Ez,Z,Ez,Ez⟩
def qoo:FnScope ["year"] ["year"] (qaa qgh):=⟨Z,Z,Z,Ez,Z,Ez,Ez⟩
def qdu:FnScope ["self","year","in_last_week"] ["self","year"] (qaa qcq):=⟨Z,Z,Z,Ez,Z,Ez,Ez⟩
def qc0:FnScope ["self","many","year"] ["self","many"] (qaa qda):=⟨Z,Z,Z,Ez,Z,Ez,Ez⟩
def qp6:FnScope ["year"] ["year"] (qaa qht):=⟨Z,Z,Z,Ez,Z,Ez,Ez⟩
def qim:FnScope ["self","many","year"] ["self","many"] (qaa qgi):=⟨Z,Z,Z,Ez,Z,Ez,Ez⟩
def qw3:FnScope ["week"] ["week"] (qaa qom):=⟨Z,Z,Z,Ez,Z,Ez,Ez⟩
def qu8:FnScope ["day"] ["day"] (qaa qlk):=⟨Z,Z,Z,Ez,Z,Ez,Ez⟩
def qin:FnScope ["day","day_in_week","week","year"] ["day"] (qaa qon):=⟨Z,Z,Z,Ez,Z,Ez,Ez⟩
def qj7:FnScope ["day","date"] ["day"] (qaa qhu):=⟨Z,Z,Z,Ez,Z,Ez,Ez⟩
def qf1:FnScope ["self","day","year"] ["self","day"] (qaa qec):=⟨Z,Z,Z,Ez,Z,Ez,Ez⟩
def qfu:FnScope ["self","row","end","by_pattern","by_row"] ["self","row","end"] (qaa qgj):=⟨Z,Z,Z,Ez,Z,Ez,Ez⟩
def qdi:FnScope ["self","day","at","many"] ["self","day"] (qaa qfo):=⟨Z,Z,Z,Ez,Z,Ez,Ez⟩
def qfv:FnScope ["self","many","at","row","before_row"] ["self","many"] (qaa qjg):=⟨Z,Z,Z,Ez,Z,Ez,Ez⟩
def qjo:FnScope ["self","first","many"] ["self","first","many"] (qaa qdq):=⟨Z,Z,Z,Ez,Z,Ez,Ez⟩
def qhd:FnScope ["self","first","last"] ["self","first","last"] (qaa qcr):=⟨Z,Z,Z,Ez,Z,Ez,Ez⟩
def qgr:FnScope ["self","first","last"] ["self","first","last"] (qaa qcj):=⟨Z,Z,Z,Ez,Z,Ez,Ez⟩
def qct:FnScope ["kind","start","units","pauses","left","begin","first","last","counted"] ["kind","start","units","pauses"] (qaa qll):=⟨Z,Z,Z,Ez,Z,Ez,Ez⟩
def qkh:FnScope ["self","day"] ["self","day"] (qaa qed):=⟨Z,Z,Z,Ez,Z,Ez,Ez⟩
def qeg:FnScope ["table","day","pauses","told","first","last"] ["table","day","pauses"] (qaa qjh):=⟨Z,Z,Z,Ez,Z,Ez,Ez⟩
def qnv:FnScope ["kind","start","units","pauses","full"] ["kind","start","units","pauses"] (qaa qlm):=⟨Z,Z,Z,Ez,Z,Ez,Ez⟩
def qu9:FnScope ["acts"] ["acts"] (qaa qdm):=⟨Z,Z,Z,Ez,Z,Ez,Ez⟩
def qmy:FnScope ["self"] ["self"] (qaa qfp):=⟨Z,Z,Z,Ez,Z,Ez,Ez⟩
def qop:FnScope ["self","name"] ["self","name"] (qaa qgk):=⟨Z,Z,Z,Ez,Z,Ez,Ez⟩
def qp7:FnScope ["self"] ["self"] (qaa qhv):=⟨Z,Z,Z,Ez,Z,Ez,Ez⟩
def qp8:FnScope ["runs"] ["runs"] (qaa qhw):=⟨Z,Z,Z,Ez,Z,Ez,Ez⟩
def qio:FnScope ["self","kind"] ["self","kind"] (qaa qdb):=⟨Z,Z,Z,Ez,Z,Ez,Ez⟩
def qr4:FnScope ["self","kind"] ["self","kind"] (qaa qg3):=⟨Z,Z,Z,Ez,Z,Ez,Ez⟩
def qmz:FnScope ["self"] ["self"] (qaa qfq):=⟨Z,Z,Z,Ez,Z,Ez,Ez⟩
def qnw:FnScope ["self","day","first"] ["self","day"] (qaa qln):=⟨Z,Z,Z,Ez,Z,Ez,Ez⟩
def qp9:FnScope ["self","day"] ["self","day"] (qaa qhx):=⟨Z,Z,Z,Ez,Z,Ez,Ez⟩
def qbm:FnScope ["self","start"] ["self"] (qaa qgl):=⟨Z,Z,Z,Ez,Z,Ez,Ez⟩
def qdj:FnScope ["self"] ["self"] (qaa qfr):=⟨Z,Z,Z,Ez,Z,Ez,Ez⟩
def qdr:FnScope ["self","day","start","last"] ["self","day"] (qaa qee):=⟨Z,Z,Z,Ez,Z,Ez,Ez⟩
def qqa:FnScope ["self","day","base"] ["self","day","base"] (qaa qhy):=⟨Z,Z,Z,Ez,Z,Ez,Ez⟩
def qlv:FnScope ["self","day"] ["self","day"] (qaa qe3):=⟨Z,Z,Z,Ez,Z,Ez,Ez⟩
def qcm:FnScope ["self","kind","done","other","units","times"] ["self","kind"] (qaa qfs):=⟨Z,Z,Z,Ez,Z,Ez,Ez⟩
def qva:FnScope ["self","day"] ["self","day"] (qaa qlo):=⟨Z,Z,Z,Ez,Z,Ez,Ez⟩
def qr5:FnScope ["self","word","day","kind"] ["self","word","day","kind"] (qaa qji):=⟨Z,Z,Z,Ez,Z,Ez,Ez⟩
def qnx:FnScope ["self","name","day","kind","word"] ["self","name","day","kind"] (qaa qlp):=⟨Z,Z,Z,Ez,Z,Ez,Ez⟩
def qvb:FnScope ["self","rule","table","name","day","base"] ["self","rule","table","name","day","base"] (qaa qcy):=⟨Z,Z,Z,Ez,Z,Ez,Ez⟩
def qgs:FnScope ["book","table","runs","act","name","kind","day","begun","term","rule"] ["book","table","runs","act"] (qaa qwy):=⟨Z,Z,Z,Ez,Z,Ez,Ez⟩
def qlw:FnScope ["self","last"] ["self","last"] (qaa qe4):=⟨Z,Z,Z,Ez,Z,Ez,Ez⟩
def qfw:FnScope ["self","start","last"] ["self"] (qaa qgm):=⟨Z,Z,Z,Ez,Z,Ez,Ez⟩
def qd0:FnScope ["book","table","acts","runs","term","act","told"] ["book","table","acts"] (qaa qig):=⟨Z,Z,Z,Ez,Z,Ez,Ez⟩
def qg5:FnScope ["name","bases","taken","path","above"] ["name","bases","taken"] (qaa qlq):=⟨Z,Z,Z,Ez,Z,Ez,Ez⟩
def qbv:FnScope ["rules","bases","rule","taken"] ["rules"] (qaa qe5):=⟨Z,Z,Z,Ez,Z,Ez,Ez⟩
def qlx:FnScope ["within","week","yearly"] ["within","week","yearly"] (qaa qdh):=⟨Z,Z,Z,Ez,Z,Ez,Ez⟩
def qgt:FnScope ["free_days","counts","free"] ["free_days"] (qaa qhz):=⟨Z,Z,Z,Ez,Z,Ez,Ez⟩
def qqb:FnScope ["thing"] ["thing"] (qaa qh0):=⟨Z,Z,Z,Ez,Z,Ez,Ez⟩
def qfx:FnScope ["week","at","thing"] ["week"] (qaa qgn):=⟨Z,Z,Z,Ez,Z,Ez,Ez⟩
def qr6:FnScope ["thing"] ["thing"] (qaa qjj):=⟨Z,Z,Z,Ez,Z,Ez,Ez⟩
def qeh:FnScope ["yearly","at","thing"] ["yearly"] (qaa qe6):=⟨Z,Z,Z,Ez,Z,Ez,Ez⟩
def qm0:FnScope ["things"] ["things"] (qaa qft):=⟨Z,Z,Z,Ez,Z,Ez,Ez⟩
def scIsRow:FnScope ["row"] ["row"] (qaa qr0):=⟨Z,Z,Z,Ez,Z,Ez,Ez⟩
def qfy:FnScope ["rows","at","row"] ["rows"] (qaa qgo):=⟨Z,Z,Z,Ez,Z,Ez,Ez⟩
def qqc:FnScope ["_law_script","_law_k"] ["_law_script","_law_k"] (qaa qh1):=⟨Z,Z,Z,Ez,Z,Ez,Ez⟩
def qly:FnScope ["_law_script","_law_k","_law_cell"] ["_law_script","_law_k"] (qaa qjk):=⟨Z,Z,Z,Ez,Z,Ez,Ez⟩
def qbd:FnScope ["_law_cell","_law_many","_law_letters","_law_size","_law_at","_law_words_here","_law_k","_law_far","_law_word","_law_j","_law_on"] ["_law_cell","_law_many"] (qaa qjl):=⟨Z,Z,Z,Ez,Z,Ez,Ez⟩
def qr7:FnScope ["self","name","who","owes","opens","base","many","unit","still"] ["self","name","who","owes","opens","base","many","unit","still"] (qaa qcf):=⟨Z,Z,Z,Ez,Z,Ez,Ez⟩
def qa7:FnScope ["_law_script","_law_at","_law_k","_law_names","_law_kinds","_law_one","_law_two","_law_mine","_law_base","_law_opens","_law_still","_law_unit","_law_rule_here","_law_j"] ["_law_script","_law_at","_law_k","_law_names","_law_kinds"] (qaa qih):=⟨Z,Z,Z,Ez,Z,Ez,Ez⟩
def qjp:FnScope ["_law_script","_law_names","_law_kinds","_law_rules","_law_k"] ["_law_script","_law_names","_law_kinds"] (qaa qlr):=⟨Z,Z,Z,Ez,Z,Ez,Ez⟩
def qjq:FnScope ["_law_rules","_law_menu_here","_law_rule_here"] ["_law_rules"] (qaa qii):=⟨Z,Z,Z,Ez,Z,Ez,Ez⟩
def qcu:FnScope ["_law_script","_law_rules","_law_names","_law_first","_law_many","_law_menu_here","_law_stride","_law_acts_here","_law_k","_law_cell","_law_kind"] ["_law_script","_law_rules","_law_names","_law_first","_law_many"] (qaa qij):=⟨Z,Z,Z,Ez,Z,Ez,Ez⟩
def qbn:FnScope ["_law_rules","_law_bases","_law_rule_here","_law_order","_law_name","_law_above"] ["_law_rules"] (qaa qgp):=⟨Z,Z,Z,Ez,Z,Ez,Ez⟩
def qdn:FnScope ["_law_acts_here","_law_found","_law_act","_law_at"] ["_law_acts_here"] (qaa qh2):=⟨Z,Z,Z,Ez,Z,Ez,Ez⟩
def qh3:FnScope ["_law_told","_law_name","_law_account"] ["_law_told"] (qaa qjm):=⟨Z,Z,Z,Ez,Z,Ez,Ez⟩
def qlz:FnScope ["self","rules","rule"] ["self","rules"] (qaa qjn):=⟨Z,Z,Z,Ez,Z,Ez,Ez⟩
def qm1:FnScope ["self","week","yearly"] ["self","week","yearly"] (qaa qcz):=⟨Z,Z,Z,Ez,Z,Ez,Ez⟩
def qj8:FnScope ["self","week","yearly","rows","row"] ["self","week","yearly","rows"] (qaa qbc):=⟨Z,Z,Z,Ez,Z,Ez,Ez⟩
def qev:FnScope ["_law_script","_law_names","_law_rules","_law_week","_law_first","_law_acts_here","_law_due","_law_cut","_law_orders","_law_book_here","_law_table","_law_told","_law_some","_law_kept"] ["_law_script"] (qaa qr1):=⟨Z,Z,Z,Ez,Z,Ez,Ez⟩
seal PySem.Sem.wp
open Add Lay Mrg Tab Cal
noncomputable abbrev Rw:=Row Str
noncomputable def enc (r:Rw):List V:=[.int r.1,.int r.2.1,.str r.2.2]
def use {p G R:Prop}(m:(p->G)->R)(l:p->G):R:=m l
def useH {p G:Hp->Prop}{R:Prop}(m:(∀x,p x->G x)->R)(l:∀x,p x->G x):R:=m l
def use2 {S T:Type}{p G:S->T->Prop}{R:Prop}(m:(∀x y,p x y->G x y)->R)(l:∀x y,p x y->G x y):R:=m l
def qcn {c A B:Prop}[Decidable c](a:c)(h:A):if decide c=true then A else B:=by rw[if_pos (decide_eq_true a)];exact h
def qbi {c A B:Prop}[Decidable c](a:¬c)(h:B):if decide c=true then A else B:=by rw[decide_eq_false a];exact h
def qtd {c A B:Prop}[Decidable c](a:c)(h:B):if (!decide c)=true then A else B:=by rw[decide_eq_true a];exact h
def qx {H:Hp}{p:Addr}{o:HO}(a:H p=none):Same H (upd H p o):=λb u e=>by rw[qr (qae e a)];exact e
def alc {H:Hp}{p:Addr}{o:HO}(a:H p=none):Same H (upd H p o)/\upd H p o p=some o:=⟨qx a,qk⟩
def qdd {n:Nat}(h:n<=100000):n<=A5:=by rw[Bq];lia
def qbe {xs:List V}(h:xs.length<=90000):xs.length<A5:=by rw[Bq];lia
def qdy:([]:List V).length<=A5:=qdd Uk
def qqd (x y:V):[x,y].length<=A5:=qdd (show 2<=100000 by decide)
def qjr (x y z:V):[x,y,z].length<=A5:=qdd (show 3<=100000 by decide)
def spPlace:Sp:=λvs H Q _=>∃(p:Addr)(us:List V)(ts:List (List V))(es:List Int)(d:Int),vs=[.ref p,.int d]/\H p=some (.lst us)/\Tups H us ts/\(∀(i:Nat)(e:Int),es[i]?=some e->∃t:List V,ts[i]?=some t/\atI t 1=some (V.int e))/\ts.length=es.length/\es.Pairwise (· < ·)/\Q (.int (cnt es d:Nat)) H
def ql0 {rs:List Rw}{i:Nat}{e:Int}(h:(ends rs)[i]?=some e):∃t,(rs.map enc)[i]?=some t/\atI t 1=some (.int e):=by
 rw[Ag]at h |-;cases q:rs[i]? with|none=>rw[q]at h;cases h|some r=>rw[q]at h;cases h;exact⟨_,Z,Z⟩
def At (H:Hp)(p:Addr)(rs:List Rw):Prop:=∃us,H p=some (.lst us)/\Tups H us (rs.map enc)
def At.same {H H':Hp}{p:Addr}{rs:List Rw}(h:At H p rs)(s:Same H H'):At H' p rs:=by obtain⟨us,b,a⟩:=h;exact⟨us,s _ _ b,a.same s⟩
def spOver:Sp:=λvs H Q _=>∃(p:Addr)(rs:List Rw)(f l:Int)(w:Str),vs=[.ref p,.int f,.int l,.str w]/\At H p rs/\Dis rs/\f<=l/\rs.length<=1000/\∀q H',H q=none->Same H H'->At H' q (over rs f l w)->Q (.ref q) H'
def lenI {us:List V}{rs:List Rw}{n:Nat}(a:us.length=rs.length)(h:n<rs.length):(n:Int)<(us.length:Int):=D6.mpr (a ▸ h)
def sn1 {us:List V}{v:V}(h:us.length<=1000):(us++[v]).length<=1200:=by rw[Af];exact A9 (DN h 1) Uk
def sn15 {us:List V}{v:V}(h:us.length<=1200):(us++[v]).length<=1500:=by rw[Af];exact A9 (DN h 1) Uk
def sn2 {us:List V}{v:V}(h:us.length<=1500):(us++[v]).length<=2000:=by rw[Af];exact A9 (DN h 1) Uk
def tn_lt {a b:Int}(h:a<b)(h0:0<b):a.toNat<b.toNat:=by lia
def mid {lo a:Int}(h0:0<=lo)(h:lo<a):∃j:Nat,(lo+a) / 2=(j:Int)/\lo<=(j:Int)/\(j:Int)<a:=⟨((lo+a) / 2).toNat,by lia⟩
noncomputable def qoq {W:Type}(e:W->V)(r:Row W):List V:=[.int r.1,.int r.2.1,e r.2.2]
def AtG {W:Type}(e:W->V)(H:Hp)(p:Addr)(rs:List (Row W)):Prop:=∃us,H p=some (.lst us)/\Tups H us (rs.map (qoq e))
def AtG.len {W:Type}{e:W->V}{H:Hp}{rs:List (Row W)}{us:List V}(t:Tups H us (rs.map (qoq e))):us.length=rs.length:=by rw[t.length,Ab]
def AtG.row {W:Type}{e:W->V}{H:Hp}{rs:List (Row W)}{us:List V}(t:Tups H us (rs.map (qoq e))){i:Nat}{r:Row W}(h:rs[i]?=some r):∃a,us[i]?=some (.ref a)/\H a=some (.tup (qoq e r)):=t.get (by rw[Ag,h];rfl)
def qw4 {W:Type}{e:W->V}{rs:List (Row W)}{i:Nat}{t:List V}(h:(rs.map (qoq e))[i]?=some t):∃r,rs[i]?=some r/\t=qoq e r:=by
 rw[Ag]at h;cases q:rs[i]? with|none=>rw[q]at h;cases h|some r=>rw[q]at h;cases h;exact⟨r,Z,Z⟩
def spJoin:Sp:=λvs H Q _=>∃(W:Type)(dq:DecidableEq W)(e:W->V)(p:Addr)(rs:List (Row W)),vs=[.ref p]/\(∀x y,e x=e y->x=y)/\(∀x y,qy0 (e x) (e y)=true)/\AtG e H p rs/\rs.length<=1000/\∀q H',H q=none->Same H H'->AtG e H' q (jn rs)->Q (.ref q) H'
def spOv:Sp:=λvs H Q _=>∃(p:Addr)(rs:List Rw),vs=[.ref p]/\At H p rs/\(∀r∈rs,r.1<=r.2.1)/\rs.length<=100/\∀q H',H q=none->Same H H'->At H' q (ov rs)->Q (.ref q) H'
def ql1 {vs:List V}{k:Int}{j:Nat}{v:V}(h:vs[j]?=some v)(e:k=(j:Int)):atI vs k=some v:=by rw[e];exact qao h
def qqe (vs:List V)(b:Nat)(h:b<=vs.length):qkc vs none (some (b:Int))=vs.take b:=by
 unfold qkc;have c:HT.sIx vs.length 0 none=0:=rfl;have a:HT.sIx vs.length vs.length (some (b:Int))=b:=by simp only[HT.sIx];split <;>lia
 rw[c,a];simp
def qw5 (vs:List V)(b:Nat)(h:b<=vs.length):qkc vs (some (b:Int)) none=vs.drop b:=by
 unfold qkc;have c:HT.sIx vs.length vs.length none=vs.length:=rfl;have a:HT.sIx vs.length 0 (some (b:Int))=b:=by simp only[HT.sIx];split <;>lia
 rw[c,a];rw[CP (by rw[BE];lia)]
theorem qw6 {es:List Int}{a b:Int}(h:a<=b):cnt es a<=cnt es b:=by
 induction es with
 |nil=>exact Al _
 |cons e es ih=>rw[qd8,qd8];split <;>split <;>lia
def qw7 {rs:List Rw}{f l:Int}(w:Str)(h:Dis rs)(b:f<=l):(over rs f l w).length<=rs.length+3:=by
 have h1:(left rs f).length<=cnt (ends rs) f+1:=by
  rw[qjc f h,Af,Bj];cases rs[cnt (ends rs) f]? with
  |none=>exact Cq (DS _ _)
  |some r =>
   show min _ _+(if r.1<f then [(r.1,f-1,r.2.2)] else ([]:List (Row Str))).length<=_;split
   .exact C5 (DS _ _)
   .exact Cq (DS _ _)
 have h2:(right rs l).length<=rs.length-cnt (ends rs) (l+1)+1:=by
  rw[qhp l h];cases rs[cnt (ends rs) (l+1)]? with
  |none=>exact AQ _
  |some r =>
   show (if r.1<=l then ((l+1,r.2.1,r.2.2):Rw)::rs.drop (cnt (ends rs) (l+1)+1) else rs.drop (cnt (ends rs) (l+1))).length<=_;split
   .rw[AG,BE];exact C5 (Nat.sub_le_sub_left (C3 _) _)
   .rw[BE];exact C3 _
 have h3:=qw6 (es:=ends rs) (Ed b);have a:=qoe (ends rs) (l+1);rw[Ab]at a;unfold over;rw[Af,AG];lia
def qor {rs:List Rw}(h:∀r∈rs,r.1<=r.2.1):(lay rs).length<=3*rs.length:=by
 have step:∀(a laid:List Rw),(∀r∈a,r.1<=r.2.1)->Dis laid->(a.foldl (λlaid r=>over laid r.1 r.2.1 r.2.2) laid).length<=laid.length+3*a.length:=by
  intro a
  induction a with
  |nil=>intro laid _ _;exact Al _
  |cons r a ih =>intro laid b c;have d:=b r Am;have:=ih (over laid r.1 r.2.1 r.2.2) (λs e=>b s (Ay _ e)) (qpv _ c d);have:=qw7 r.2.2 c d;rw[List.foldl_cons,AG];lia
 have:=step rs [] h ⟨(λ_ h=>absurd h AM),Ei⟩;simpa [lay] using this
def jn1_len {W:Type}[DecidableEq W](a:List (Row W))(r:Row W):(jn1 a r).length<=a.length+1:=by
 rcases BG a with rfl|⟨rs,t,rfl⟩
 .exact Al _
 .rw[BH,qea];split <;>simp
def qw8 {W:Type}[DecidableEq W](rs:List (Row W)):(jn rs).length<=rs.length:=by
 have step:∀(b a:List (Row W)),(b.foldl jn1 a).length<=a.length+b.length:=by
  intro b
  induction b with
  |nil=>intro a;exact Al _
  |cons r b ih =>intro a;have:=ih (jn1 a r);have:=jn1_len a r;rw[List.foldl_cons,AG];lia
 have:=step rs [];simpa [jn] using this
def jn_snoc {W:Type}[DecidableEq W](rs:List (Row W))(r:Row W):jn (rs++[r])=jn1 (jn rs) r:=by unfold jn;rw[CY];rfl
def qcv {α:Type}{xs:List α}{i:Nat}{x:α}(h:xs[i]?=some x):xs.take (i+1)=xs.take i++[x]:=by rw[B0,h];rfl
def qkr {rs:List Rw}{i:Nat}{t:List V}(h:(rs.map enc)[i]?=some t):∃r,rs[i]?=some r/\t=enc r:=by
 rw[Ag]at h;cases q:rs[i]? with|none=>rw[q]at h;cases h|some r=>rw[q]at h;cases h;exact⟨r,Z,Z⟩
def At.len {H:Hp}{rs:List Rw}{us:List V}(t:Tups H us (rs.map enc)):us.length=rs.length:=by rw[t.length,Ab]
def At.row {H:Hp}{rs:List Rw}{us:List V}(t:Tups H us (rs.map enc)){i:Nat}{r:Rw}(h:rs[i]?=some r):∃a,us[i]?=some (.ref a)/\H a=some (.tup (enc r)):=t.get (by rw[Ag,h];rfl)
def qw9 {rs:List Rw}(h:∀r∈rs,r.1<=r.2.1)(i:Nat):∀r∈rs.take i,r.1<=r.2.1:=λr a=>h r (List.mem_of_mem_take a)
def qxa (us:List V)(x v:V):(us++[x]).set us.length v=us++[v]:=by simp
def qte (us:List V)(x:V):ixN (us++[x]).length (-1)=some us.length:=by
 unfold ixN;rw[Af,AY,if_neg Uk,if_pos (by lia)]
 congr 1
 lia
def sp1 (g:Int->V):Sp:=λvs H Q _=>∃y:Int,vs=[.int y]/\Q (g y) H
def qvc:Sp:=λvs H Q _=>∃n:Int,vs=[.int n]/\0<=n/\Q (.int (n % 7+1)) H
def qxb:Sp:=λvs H Q _=>∃n:Int,vs=[.int n]/\0<=n/\∀p,H p=none->Q (.ref p) (upd H p (.tup [.int (yo (n / 7)),.int (n / 7-fw (yo (n / 7))+1),.int (n % 7+1)]))
noncomputable def doy (n:Int):Int:=n-7*fw (yo (n / 7))
def qxc {n:Int}(h:0<=n):0<=doy n/\doy n<371:=by have h1:=lies (n / 7);have h2:=qif (yo (n / 7));have h3:=qnu (yo (n / 7));unfold doy;lia
def doy_mod (n:Int):doy n % 7=n % 7:=by unfold doy;lia
def spDoy:Sp:=λvs H Q _=>∃n:Int,vs=[.int n]/\0<=n/\∀H',Same H H'->Q (.int (doy n)) H'
def spWd:Sp:=λvs H Q _=>∃n:Int,vs=[.int n]/\1<=n/\n<=7/\Q (.bl true) H
def spStr:Sp:=λvs H Q _=>∃f l m:Int,vs=[.int f,.int l,.int m]/\0<=f/\f<=l/\l<f+m/\Q (.bl true) H
def AtP (H:Hp)(p:Addr)(rs:List S2):Prop:=∃us,H p=some (.lst us)/\Tups H us (rs.map encP)
def AtP.same {H H':Hp}{p:Addr}{rs:List S2}(h:AtP H p rs)(s:Same H H'):AtP H' p rs:=by obtain⟨us,b,a⟩:=h;exact⟨us,s _ _ b,a.same s⟩
def spRefW:Sp:=λvs H Q _=>∃(p:Addr)(wk:List Int),vs=[.ref p]/\H p=some (.lst (wk.map V.int))/\OkW wk/\∀H',Same H H'->Q .non H'
def spYr:Sp:=λvs H Q _=>∃(a:Addr)(r:S2),vs=[.ref a]/\H a=some (.tup (encP r))/\0<=r.1/\r.1<=r.2/\r.2<r.1+30/\r.2<364/\Q (.bl true) H
def spRefY:Sp:=λvs H Q _=>∃(p:Addr)(yr:List S2),vs=[.ref p]/\AtP H p yr/\OkY yr/\∀H',Same H H'->Q .non H'
def OkR (r:Rw):Prop:=0<=r.1/\r.1<=r.2.1/\r.2.1<r.1+40/\(r.2.2=Aa "free" \/ r.2.2=Aa "open")
def spRw:Sp:=λvs H Q _=>∃(a:Addr)(r:Rw),vs=[.ref a]/\H a=some (.tup (enc r))/\OkR r/\Q (.bl true) H
def spRefR:Sp:=λvs H Q _=>∃(p:Addr)(rs:List Rw),vs=[.ref p]/\At H p rs/\rs.length<=12/\(∀r∈rs,OkR r)/\∀H',Same H H'->Q .non H'
def spFyw:Sp:=λvs H Q _=>∃(i:Int)(pw py:Addr)(wk:List Int)(yr:List S2),vs=[.int i,.ref pw,.ref py]/\H pw=some (.lst (wk.map V.int))/\AtP H py yr/\yr.length<=100/\∀H',Same H H'->Q (.bl (fy wk yr i)) H'
def spCu:Sp:=λvs H Q _=>∃(p:Addr)(bs:List Bool),vs=[.ref p]/\H p=some (.lst (bs.map V.bl))/\bs.length<=1000/\∀q H',H q=none->Same H H'->H' q=some (.lst ((cuL bs).map V.int))->Q (.ref q) H'
def dup {wk:List Int}{i:Nat}{x:Int}(nd:wk.Nodup)(h:wk[i]?=some x):(wk.take i).contains x=false:=by rw[Bool.eq_false_iff];intro z;rw[BO]at z;obtain⟨j,a,e⟩:=Cy z;rw[Bj]at a;rw[Ek]at e;obtain⟨b,c⟩:=Ac.mp h;exact Bd.mp nd j i (A0 a (Nat.min_le_right _ _)) b (A0 a (DS _ _)) (by rw[e,c])
def qqf {rs:List S2}{i:Nat}{t:List V}(h:(rs.map encP)[i]?=some t):∃r,rs[i]?=some r/\t=encP r:=by
 rw[Ag]at h;cases q:rs[i]? with|none=>rw[q]at h;cases h|some r=>rw[q]at h;cases h;exact⟨r,Z,Z⟩
noncomputable abbrev pfs (a1 a2 a3:Addr):List (Str×V):=[(Aa "free_days",.ref a1),(Aa "open_days",.ref a2),(Aa "open_before",.ref a3)]
def put1 (f:Str)(u:V):qbf f u []=[(f,u)]:=rfl
def put2 {f g:Str}(u v:V)(h:f≠g):qbf g v [(f,u)]=[(f,u),(g,v)]:=by unfold qbf;rw[if_neg h];rfl
def put3 {f g e:Str}(u v x:V)(h:f≠e)(a:g≠e):qbf e x [(f,u),(g,v)]=[(f,u),(g,v),(e,x)]:=by show (if f=e then _ else (f,u)::(if g=e then _ else (g,v)::qbf e x []))=_;rw[if_neg h,if_neg a];rfl
def PatAt (C:Addr)(H:Hp)(p:Addr)(bs:List Bool):Prop:=∃(dx a1 a2 a3:Addr),H p=some (.ins C dx (pfs a1 a2 a3))/\H a1=some (.lst (bs.map V.bl))/\H a2=some (.lst ((odL bs).map V.int))/\H a3=some (.lst ((cuL bs).map V.int))/\bs.length=371
def PatAt.same {C:Addr}{H H':Hp}{p:Addr}{bs:List Bool}(h:PatAt C H p bs)(s:Same H H'):PatAt C H' p bs:=by obtain⟨a,i,d,e,g,f,j,b,c⟩:=h;exact⟨a,i,d,e,s _ _ g,s _ _ f,s _ _ j,s _ _ b,c⟩
theorem PatAt.upd {C:Addr}{H:Hp}{p d c a b z:Addr}{bs:List Bool}{o:HO}(l:H p=some (.ins C d (pfs c a b)))(f:H c=some (.lst (bs.map V.bl)))(j:H a=some (.lst ((odL bs).map V.int)))(i:H b=some (.lst ((cuL bs).map V.int)))(g:p≠z)(e:c≠z)(k:a≠z)(h:b≠z) :
  L2.upd H z o p=some (.ins C d (pfs c a b))/\L2.upd H z o c=some (.lst (bs.map V.bl))/\L2.upd H z o a=some (.lst ((odL bs).map V.int))/\L2.upd H z o b=some (.lst ((cuL bs).map V.int)) :=
 ⟨(qr g).trans l,(qr e).trans f,(qr k).trans j,(qr h).trans i⟩
def SameBut (x:Addr)(H H':Hp):Prop:=∀b o,b≠x->H b=some o->H' b=some o
def SameBut.of {x:Addr}{H H':Hp}(s:Same H H'):SameBut x H H':=λb o _ e=>s b o e
def SameBut.trans {x:Addr}{H f d:Hp}(a:SameBut x H f)(b:SameBut x f d):SameBut x H d:=λc o n e=>b c o n (a c o n e)
def SameBut.set {x:Addr}{H H':Hp}{o:HO}(a:SameBut x H H'):SameBut x H (upd H' x o):=λb u n e=>by rw[qr n];exact a b u n e
def SameBut.made {x c:Addr}{H H':Hp}{o u:HO}(a:SameBut x (upd (upd H c u) x o) H')(d:H x=none)(f:H c=none):Same H H':=λb v e =>
 a b v (qae e d) (by rw[qr (qae e d),qr (qae e f)];exact e)
def SameBut.free {x q:Addr}{H H':Hp}(b:SameBut x H H')(n:q≠x)(h:H' q=none):H q=none:=by
 cases e:H q with|none=>rfl|some o=>rw[b q o n e]at h;cases h
def Rest (x:Addr)(H H' H2:Hp):Prop:=∀b o,(H b=none\/b=x \/ ∃t,o=.tup t)->H' b=some o->H2 b=some o
theorem qvd {x:Addr}{H H' a:Hp}{us:List V}{ts:List (List V)}(r:Rest x H H' a)(t:Tups H' us ts):Tups a us ts:=by
 induction t with
 |nil=>exact .nil
 |cons h _ ih=>exact .cons (r _ _ (.inr (.inr ⟨_,Z⟩)) h) ih
def spPInit (a:Adr):Sp:=λvs H Q _=>∃(x dx pw py:Addr)(wk:List Int)(yr:List S2),vs=[.ref x,.ref pw,.ref py]/\H x=some (.ins a.kK dx [])/\H pw=some (.lst (wk.map V.int))/\AtP H py yr/\OkW wk/\OkY yr /\
 ∀H',SameBut x H H'->(∀H2,Rest x H H' H2->PatAt a.kK H2 x (fdL wk yr))->Q .non H'
noncomputable def pby (bs:List Bool)(y:Int):Int:=y*opn bs 364+lb y*(opn bs 371-opn bs 364)
noncomputable def qc1 (bs:List Bool)(n:Int):Int:=pby bs (yo (n / 7))+opn bs (doy n).toNat
def spPBy (a:Adr):Sp:=λvs H Q _=>∃(x:Addr)(bs:List Bool)(y:Int),vs=[.ref x,.int y]/\PatAt a.kK H x bs/\Q (.int (pby bs y)) H
def spPBef (a:Adr):Sp:=λvs H Q _=>∃(x:Addr)(bs:List Bool)(n:Int),vs=[.ref x,.int n]/\PatAt a.kK H x bs/\0<=n/\∀H',Same H H'->Q (.int (qc1 bs n)) H'
inductive SpOr (vs:List V) (H:Hp) (Q:VK):Prop where
 |non (e:vs=[.non]) (k:∀q,H q=none->Q (.ref q) (upd H q (.lst [])))
 |ref (p:Addr) (e:vs=[.ref p]) (k:Q (.ref p) H)
def spOr:Sp:=λvs H Q _=>SpOr vs H Q
noncomputable def shf (bs:List Bool)(r:Rw)(e:Int):Int:=(if r.2.2=Aa "open" then e-r.1 else 0)-(qc1 bs e-qc1 bs r.1)
noncomputable def shL (bs:List Bool)(rs:List Rw):List Int:=(Ao (rs.length+1)).map λk=>((rs.take k).map λr=>shf bs r (r.2.1+1)).sum
def qxd (bs:List Bool)(rs:List Rw){k:Nat}(h:k<=rs.length):(shL bs rs)[k]?=some ((rs.take k).map λr=>shf bs r (r.2.1+1)).sum:=by unfold shL;rw[Ag,AV (by lia)];rfl
noncomputable abbrev tfs (p q z:Addr):List (Str×V):=[(Aa "pattern",.ref p),(Aa "rows",.ref q),(Aa "shifts",.ref z)]
def TabAt (Cp C:Addr)(H:Hp)(t:Addr)(bs:List Bool)(rs:List Rw):Prop:=∃(dx p q z:Addr),H t=some (.ins C dx (tfs p q z))/\PatAt Cp H p bs/\At H q rs/\H z=some (.lst ((shL bs rs).map V.int))
def TabAt.same {a C:Addr}{H H':Hp}{t:Addr}{bs:List Bool}{rs:List Rw}(h:TabAt a C H t bs rs)(s:Same H H'):TabAt a C H' t bs rs:=by obtain⟨b,p,q,z,e,d,f,c⟩:=h;exact⟨b,p,q,z,s _ _ e,d.same s,f.same s,s _ _ c⟩
def over_nn {rs:List Rw}{f l:Int}{w:Str}(h:∀r∈rs,0<=r.1)(c:0<=f):∀r∈over rs f l w,0<=r.1:=λr a=>by
 rcases A7.mp a with a|a
 .obtain⟨s,b,e⟩:=BS.mp a;have:=h s b;split at e
  .injection e with e;subst e;exact this
  .cases e
 .rcases Av.mp a with rfl|a
  .exact c
  .obtain⟨s,b,e⟩:=BS.mp a;have:=h s b;split at e
   .injection e with e;subst e;show 0<=max s.1 (l+1);lia
   .cases e
def lay_nn {rs:List Rw}(h:∀r∈rs,0<=r.1):∀r∈lay rs,0<=r.1:=by
 have step:∀(a laid:List Rw),(∀r∈a,0<=r.1)->(∀r∈laid,0<=r.1)->∀r∈a.foldl (λlaid r=>over laid r.1 r.2.1 r.2.2) laid,0<=r.1:=by
  intro a
  induction a with
  |nil=>intro laid _ b;exact b
  |cons r a ih=>intro laid c b;exact ih _ (λs d=>c s (Ay _ d)) (over_nn b (c r Am))
 exact step rs [] h λ_ h=>absurd h AM
def jn_nn {rs:List Rw}(h:∀r∈rs,0<=r.1):∀r∈jn rs,0<=r.1:=by
 have one:∀(a:List Rw)(r:Rw),(∀t∈a,0<=t.1)->0<=r.1->∀t∈jn1 a r,0<=t.1:=λa r b d=>by
  rcases BG a with rfl|⟨rs,t,rfl⟩
  .intro z hz;have:z=r:=by simpa [jn1] using hz
   rw[this];exact d
  .rw[BH]at b |-;rw[qea];intro z hz;split at hz
   .rcases A7.mp hz with hz|hz
    .exact b z (Bz _ hz)
    .rw[Ai.mp hz];exact b t (by simp)
   .rcases A7.mp hz with hz|hz
    .exact b z hz
    .rw[Ai.mp hz];exact d
 have step:∀(c a:List Rw),(∀r∈c,0<=r.1)->(∀r∈a,0<=r.1)->∀r∈c.foldl jn1 a,0<=r.1:=by
  intro c
  induction c with
  |nil=>intro a _ b;exact b
  |cons r c ih=>intro a e b;exact ih _ (λs f=>e s (Ay _ f)) (one _ _ b (e r Am))
 exact step rs [] h λ_ h=>absurd h AM
def ov_nn {rs:List Rw}(h:∀r∈rs,0<=r.1):∀r∈ov rs,0<=r.1:=jn_nn (lay_nn h)
theorem qip {H H':Hp}{x C a:Addr}{fs:List (Str×V)}{us:List V}{ts:List (List V)}(b:SameBut x H H')(c:H x=some (.ins C a fs))(t:Tups H us ts):Tups H' us ts:=by
 induction t with
 |nil=>exact .nil
 |cons h _ ih=>exact .cons (b _ _ (λz=>by rw[z,c]at h;cases h) h) ih
def spShift (a:Adr):Sp:=λvs H Q _=>∃(x p q z y dx:Addr)(bs:List Bool)(r:Rw)(e:Int),vs=[.ref x,.ref y,.int e]/\H x=some (.ins a.kI dx (tfs p q z))/\PatAt a.kK H p bs/\H y=some (.tup (enc r))/\0<=r.1/\0<=e /\
 ∀H',Same H H'->Q (.int (shf bs r e)) H'
def OrP (H:Hp)(v:V)(yr:List S2):Prop:=(v=.non/\yr=[]) \/ ∃p,v=.ref p/\AtP H p yr
def OrR (H:Hp)(v:V)(rs:List Rw):Prop:=(v=.non/\rs=[]) \/ ∃p,v=.ref p/\At H p rs
def orP {H:Hp}{v:V}{yr:List S2}{Q:VK}(h:OrP H v yr)(k:∀p H1,Same H H1->AtP H1 p yr->Q (.ref p) H1):SpOr [v] H Q:=by
 rcases h with ⟨rfl,rfl⟩|⟨p,rfl,t⟩
 .exact .non rfl λq a=>k q _ (qx a) ⟨[],qk,.nil⟩
 .exact .ref p rfl (k p H (Same.refl H) t)
def orR {H:Hp}{v:V}{rs:List Rw}{Q:VK}(h:OrR H v rs)(k:∀p H1,Same H H1->At H1 p rs->Q (.ref p) H1):SpOr [v] H Q:=by
 rcases h with ⟨rfl,rfl⟩|⟨p,rfl,t⟩
 .exact .non rfl λq a=>k q _ (qx a) ⟨[],qk,.nil⟩
 .exact .ref p rfl (k p H (Same.refl H) t)
def OrR.but {x C d:Addr}{fs:List (Str×V)}{H H':Hp}{v:V}{rs:List Rw}(h:OrR H v rs)(c:H x=some (.ins C d fs))(b:SameBut x H H'):OrR H' v rs:=by
 rcases h with h|⟨p,rfl,us,a,e⟩
 .exact .inl h
 .exact .inr ⟨p,Z,us,b _ _ (λz=>by rw[z,c]at a;cases a) a,qip b c e⟩
theorem OrR.same {H H':Hp}{v:V}{rs:List Rw}(h:OrR H v rs)(s:Same H H'):OrR H' v rs:=by
 rcases h with h|⟨p,rfl,us,b,a⟩
 .exact .inl h
 .exact .inr ⟨p,Z,us,s _ _ b,a.same s⟩
def spTInit (a:Adr):Sp:=λvs H Q _=>∃(x dx pw:Addr)(vy vr:V)(wk:List Int)(yr:List S2)(rs:List Rw),vs=[.ref x,.ref pw,vy,vr]/\H x=some (.ins a.kI dx [])/\H pw=some (.lst (wk.map V.int))/\OrP H vy yr/\OrR H vr rs/\OkW wk/\OkY yr/\rs.length<=12/\(∀r∈rs,OkR r) /\
 ∀H',SameBut x H H'->(∀H2,Rest x H H' H2->TabAt a.kK a.kI H2 x (fdL wk yr) (ov rs))->Q .non H'
noncomputable def tfr (bs:List Bool)(rs:List Rw)(n:Int):Bool:=match rs[cnt (ends rs) n]? with
 |some r=>if r.1<=n then decide (r.2.2=Aa "free") else bs.getD (doy n).toNat true
 |none=>bs.getD (doy n).toNat true
def opB {bs:List Bool}(hl:bs.length=371) : -(2 ^ 64)<opn bs 364/\opn bs 364<2 ^ 64:=by have:=qje bs 364;lia
def opD {bs:List Bool}(hl:bs.length=371) : -(2 ^ 64)<opn bs 371-opn bs 364/\opn bs 371-opn bs 364<2 ^ 64:=by have:=qje bs 364;have:=qje bs 371;lia
noncomputable def cell (ns:List Int)(k:Int):Int:=ns.getD k.toNat 0
def qxe {a:List Int}{k:Int}(b:0<=k)(h:k<((a.map V.int).length:Int)):atI (a.map V.int) k=some (V.int (cell a k)):=by rw[Ab]at h;have c:k.toNat<a.length:=(Int.toNat_lt b).mpr h;refine ql1 (j:=k.toNat) ?_ (Cz b).symm;rw[Ag,Ae c];unfold cell;rw[Ak,Ae c];rfl
def qxf {a:List Int}{k:Int}(h:¬k<((a.map V.int).length:Int)):cell a k=0:=by rw[Ab]at h;unfold cell;rw[Ak,AI (Dd.mp (Bm (B2.mp h) (Int.self_le_toNat k)))];rfl
def spCell (K:Ah):Sp:=λvs H Q _=>∃(a:Addr)(ns:List Int)(k:Int),vs=[.ref a,.int k]/\SqL K H a (ns.map V.int)/\0<=k/\Q (.int (cell ns k)) H
def qr8 {n y:Int}(h0:0<=n-7*fw y)(h1:n-7*fw y<7*wk y):doy n=n-7*fw y:=by have e:yo (n / 7)=y:=qtc (by lia) (by rw[qif];lia);unfold doy;rw[e]
noncomputable def lfr (wk:List Int)(yr:List S2)(rs:List Rw)(n:Int):Bool:=if qba (Aa "") rs n=Aa "" then fy wk yr (doy n) else decide (qba (Aa "") rs n=Aa "free")
def qtf {c A B:Prop}[Decidable c](a:¬c)(h:A):if (!decide c)=true then A else B:=by rw[decide_eq_false a];exact h
def inB_any (yr:List S2)(n:Int):inB yr n=yr.any λr=>decide (r.1<=n) && decide (n<=r.2):=by unfold inB;rfl
def fdL_doy {wk:List Int}{yr:List S2}{n:Int}(b:0<=n):(fdL wk yr).getD (doy n).toNat true=fy wk yr (doy n):=by obtain⟨a,d1⟩:=qxc b;unfold fdL;rw[Ak,Ag,AV (by lia)];show fy wk yr ((doy n).toNat:Int)=_;rw[Cz a]
theorem tfr_lfr {wk:List Int}{yr:List S2}{rs:List Rw}{n:Int}(f:∀r∈rs,OkR r)(h:0<=n):tfr (fdL wk yr) (ov rs) n=lfr wk yr rs n:=by
 obtain⟨j,l⟩:=qwk λr k=>(f r k).2.1;have g:=λa=>(l a n).symm.trans (qnr a n (qhr j));have i:=qs7 (λw=>w≠Aa "") n rs (Aa "free") Ez λs m=>by rcases (f s m).2.2.2 with z|z <;>rw[z] <;>decide +kernel
 unfold tfr lfr;rw[fdL_doy h];have b:=g (Aa "");have d:=g (Aa "free");cases e:(ov rs)[cnt (ends (ov rs)) n]? with
 |none =>rw[e]at b;rw[if_pos b]
 |some r =>
  rw[e]at b d;dsimp only at b d |-;by_cases c:r.1<=n
  .rw[if_pos c]at b d;rw[if_pos c,if_neg (by rw[b,<- d];exact i),b]
  .rw[if_neg c]at b;rw[if_neg c,if_pos b]
def rb {n:Nat}(h:n<=1000) : -2 ^ 62<=(n:Int)/\(n:Int)<2 ^ 62:=by lia
def useF {p G:Int->Prop}{R:Prop}(m:(∀F,p F->G F)->R)(l:∀F,p F->G F):R:=m l
def TabAt.ins {c C:Addr}{H:Hp}{t:Addr}{bs:List Bool}{rs:List Rw}(h:TabAt c C H t bs rs):∃a p q z,H t=some (.ins C a (tfs p q z)):=by obtain⟨a,p,q,z,b,_⟩:=h;exact⟨a,p,q,z,b⟩
def qg6 {H:Hp}{x a C:Addr}(nx:H x=none)(nd:H a=none):Same H (upd (upd H a (.own x)) x (.ins C a [])):=λb u e=>by rw[qr (qae e nx),qr (qae e nd)];exact e
def okY0:OkY []:=⟨AQ _,λ_ h=>absurd h AM⟩
def okR0:∀r∈([]:List Rw),OkR r:=λ_ h=>absurd h AM
def ov_ap {rs:List Rw}(a:∀r∈rs,OkR r):Ap (ov rs):=(qwk λr b=>(a r b).2.1).1
def qqg (bs:List Bool)(y:Int):pby bs (y+1)=pby bs y+opn bs 364+(wk y-52)*(opn bs 371-opn bs 364):=by
 have e:lb (y+1)=lb y+(wk y-52):=lb_up y;unfold pby
 rw[e,Int.add_mul,Int.add_mul,Int.one_mul];lia
def qiq (bs:List Bool){n y:Int}(a:0<=n-7*fw y)(b:n-7*fw y<7*wk y):qc1 bs n=pby bs y+opn bs (n-7*fw y).toNat:=by have e:yo (n / 7)=y:=qtc (by lia) (by rw[qif];lia);unfold qc1;rw[qr8 a b,e]
def qgu {bs:List Bool}(hl:bs.length=371){k:Nat}(h:k<371):opn bs (k+1)=opn bs k+(if bs.getD k true=true then 0 else 1):=by
 have a:k<bs.length:=by lia
 rw[qle (Ae a),Ak,Ae a];show (if bs[k]=true then _ else _)=opn bs k+(if bs[k]=true then 0 else 1);split <;>lia
def qjs {bs:List Bool}(d:bs.length=371){n:Int}(h:0<=n):qc1 bs (n+1)=qc1 bs n+(if bs.getD (doy n).toNat true=true then 0 else 1):=by
 have l1:=lies (n / 7);have fn:=qif (yo (n / 7));have w3:=qnu (yo (n / 7));have a:0<=n-7*fw (yo (n / 7)):=by lia
 have b:n-7*fw (yo (n / 7))<7*wk (yo (n / 7)):=by lia
 have f:=qr8 a b;rw[qiq bs a b,f];generalize yo (n / 7)=y at *;have st:=qgu d (k:=(n-7*fw y).toNat) (by lia);by_cases c:n+1-7*fw y<7*wk y
 .rw[qiq bs (n:=n+1) (y:=y) (by lia) c,show (n+1-7*fw y).toNat=(n-7*fw y).toNat+1 by lia,st];lia
 .have e:n+1-7*fw (y+1)=0:=by lia
  have wy:=qnu (y+1);rw[qiq bs (n:=n+1) (y:=y+1) (by lia) (by lia),e,qqg];have z:opn bs (0:Int).toNat=0:=by unfold opn;rfl
  rw[z];rcases (by lia:wk y=52\/wk y=53) with w|w
  .rw[show (n-7*fw y).toNat=363 by lia]at st |-;have st:opn bs 364=_:=st;rw[w,show (52:Int)-52=0 from Z,Int.zero_mul];lia
  .rw[show (n-7*fw y).toNat=370 by lia]at st |-;have st:opn bs 371=_:=st;rw[w,show (53:Int)-52=1 from Z,Int.one_mul];lia
def qny (bs:List Bool):qc1 bs 0=0:=by
 rw[qiq bs (n:=0) (y:=0) Uk Uk];rw[show ((0:Int)-7*fw 0).toNat=0 by decide];have z:opn bs 0=0:=by unfold opn;rfl
 unfold pby
 rw[z,show lb 0=0 by decide,Int.zero_mul,Int.zero_mul];rfl
noncomputable def tbR (bs:List Bool):List Rw->Int->Int
 | [],_=>0
 |r::rs,n=>if r.2.1<n then shf bs r (r.2.1+1)+tbR bs rs n else if r.1<n then shf bs r n else 0
noncomputable def qbb (bs:List Bool)(rs:List Rw)(n:Int):Int:=qc1 bs n+tbR bs rs n
def qtg {rs:List Rw}{r:Rw}{n:Int}(h:Dis (r::rs))(c:¬r.2.1<n):cnt (ends rs) n=0:=qid λe a=>by obtain⟨s,b,rfl⟩:=AU.mp a;have:=h.later b;show ¬s.2.1<n;lia
theorem qir (bs:List Bool)(n:Int):∀{rs:List Rw},Dis rs->((rs.take (cnt (ends rs) n)).map λr=>shf bs r (r.2.1+1)).sum+(match rs[cnt (ends rs) n]? with|some r=>if r.1<n then shf bs r n else 0|none=>0)=tbR bs rs n
 | [],_=>rfl
 |r::rs,h=>by
  have a:=qir bs n h.tail;show ((List.take (cnt (r.2.1::ends rs) n) (r::rs)).map λr=>shf bs r (r.2.1+1)).sum+(match (r::rs)[cnt (r.2.1::ends rs) n]? with|some r=>if r.1<n then shf bs r n else 0|none=>0)=if r.2.1<n then shf bs r (r.2.1+1)+tbR bs rs n else if r.1<n then shf bs r n else 0;rw[qd8];by_cases c:r.2.1<n
  .rw[if_pos c,if_pos c,<- a,List.take_succ_cons,AX,List.sum_cons,Int.add_assoc];rfl
  .rw[if_neg c,if_neg c,qtg h c];exact Cj _
theorem qos {bs:List Bool}{n:Int}:∀{rs:List Rw},(∀r∈rs,n<=r.1)->(∀r∈rs,r.1<=r.2.1)->tbR bs rs n=0
 | [],_,_=>rfl
 |r::rs,h,h2=>by have a:=h r Am;have b:=h2 r Am;unfold tbR;rw[if_neg (by lia),if_neg (by lia)]
def qis {bs:List Bool}{r:Rw}{rs:List Rw}{n:Int}(h:Dis (r::rs)):tfr bs (r::rs) n=if r.2.1<n then tfr bs rs n else if r.1<=n then decide (r.2.2=Aa "free") else bs.getD (doy n).toNat true:=by
 unfold tfr;show (match (r::rs)[cnt (r.2.1::ends rs) n]? with|some r=>_|none=>_)=_;rw[qd8];by_cases c:r.2.1<n
 .rw[if_pos c,if_pos c];rfl
 .rw[if_neg c,if_neg c,qtg h c];rfl
def qve {w:Str}(h:w=Aa "free" \/ w=Aa "open"):(if w=Aa "open" then (1:Int) else 0)=if decide (w=Aa "free")=true then 0 else 1:=by
 rcases h with e|e <;>rw[e]
 .rw[if_neg Ez,if_pos Ez]
 .rw[if_pos Z,if_neg Ez]
def qxg {bs:List Bool}{r:Rw}(h:r.2.2=Aa "free" \/ r.2.2=Aa "open")(n:Int):qc1 bs (n+1)+shf bs r (n+1)=qc1 bs n+shf bs r n+(if decide (r.2.2=Aa "free")=true then 0 else 1):=by rw[<- qve h];unfold shf;split <;>lia
def qnz (bs:List Bool)(r:Rw):shf bs r r.1=0:=by unfold shf;split <;>lia
theorem qth {bs:List Bool}(e:bs.length=371){n:Int}(d:0<=n):∀{rs:List Rw},Dis rs->(∀r∈rs,r.2.2=Aa "free" \/ r.2.2=Aa "open")->qbb bs rs (n+1)=qbb bs rs n+(if tfr bs rs n=true then 0 else 1)
 | [],_,_=>by have:=qjs e d;show qc1 bs (n+1)+0=qc1 bs n+0+(if bs.getD (doy n).toNat true=true then 0 else 1);lia
 |r::rs,h,hw=>by
  have k:=qth e d h.tail λs f=>hw s (Ay _ f);have ok:=h.ok r Am;have j:=hw r Am;have pst:=qjs e d;rw[qis h];unfold qbb at k |-;show qc1 bs (n+1)+(if r.2.1<n+1 then shf bs r (r.2.1+1)+tbR bs rs (n+1) else if r.1<n+1 then shf bs r (n+1) else 0)=qc1 bs n+(if r.2.1<n then shf bs r (r.2.1+1)+tbR bs rs n else if r.1<n then shf bs r n else 0)+_;by_cases c:r.2.1<n
  .rw[if_pos c,if_pos c,if_pos (by lia)];lia
  .rw[if_neg c,if_neg c];have st:=qxg (bs:=bs) j n;have b:(if r.1<n then shf bs r n else 0)=if r.1<=n then shf bs r n else 0:=by
    by_cases z:r.1<n
    .rw[if_pos z,if_pos (by lia)]
    .rw[if_neg z];by_cases i:r.1<=n
     .rw[if_pos i,show n=r.1 by lia,qnz]
     .rw[if_neg i]
   rw[b];by_cases g:r.2.1<n+1
   .have l:r.2.1=n:=by lia
    rw[if_pos g,qos (λs f=>by have:=(h.later f).1;lia) h.tail.ok,if_pos (show r.1<=n by lia),if_pos (show r.1<=n by lia),l];lia
   .rw[if_neg g];by_cases a:r.1<=n
    .rw[if_pos (show r.1<n+1 by lia),if_pos a,if_pos a];lia
    .rw[if_neg (show ¬r.1<n+1 by lia),if_neg a,if_neg a];lia
def qot {bs:List Bool}{rs:List Rw}(h:∀r∈rs,0<=r.1)(a:∀r∈rs,r.1<=r.2.1):qbb bs rs 0=0:=by unfold qbb;rw[qny,qos h a];rfl
def over_wd {P:Str->Prop}{rs:List Rw}{f l:Int}{w:Str}(h:∀r∈rs,P r.2.2)(c:P w):∀r∈over rs f l w,P r.2.2:=λr a=>by
 rcases A7.mp a with a|a
 .obtain⟨s,b,e⟩:=BS.mp a;have:=h s b;split at e
  .injection e with e;subst e;exact this
  .cases e
 .rcases Av.mp a with rfl|a
  .exact c
  .obtain⟨s,b,e⟩:=BS.mp a;have:=h s b;split at e
   .injection e with e;subst e;exact this
   .cases e
def lay_wd {P:Str->Prop}{rs:List Rw}(h:∀r∈rs,P r.2.2):∀r∈lay rs,P r.2.2:=by
 have step:∀(a laid:List Rw),(∀r∈a,P r.2.2)->(∀r∈laid,P r.2.2)->∀r∈a.foldl (λlaid r=>over laid r.1 r.2.1 r.2.2) laid,P r.2.2:=by
  intro a
  induction a with
  |nil=>intro laid _ b;exact b
  |cons r a ih=>intro laid c b;exact ih _ (λs d=>c s (Ay _ d)) (over_wd b (c r Am))
 exact step rs [] h λ_ h=>absurd h AM
def jn_wd {P:Str->Prop}{rs:List Rw}(h:∀r∈rs,P r.2.2):∀r∈jn rs,P r.2.2:=by
 have one:∀(a:List Rw)(r:Rw),(∀t∈a,P t.2.2)->P r.2.2->∀t∈jn1 a r,P t.2.2:=λa r b d=>by
  rcases BG a with rfl|⟨rs,t,rfl⟩
  .intro z hz;have:z=r:=by simpa [jn1] using hz
   rw[this];exact d
  .rw[BH]at b |-;rw[qea];intro z hz;split at hz
   .rcases A7.mp hz with hz|hz
    .exact b z (Bz _ hz)
    .rw[Ai.mp hz];exact d
   .rcases A7.mp hz with hz|hz
    .exact b z hz
    .rw[Ai.mp hz];exact d
 have step:∀(c a:List Rw),(∀r∈c,P r.2.2)->(∀r∈a,P r.2.2)->∀r∈c.foldl jn1 a,P r.2.2:=by
  intro c
  induction c with
  |nil=>intro a _ b;exact b
  |cons r c ih=>intro a e b;exact ih _ (λs f=>e s (Ay _ f)) (one _ _ b (e r Am))
 exact step rs [] h λ_ h=>absurd h AM
def ov_wd {P:Str->Prop}{rs:List Rw}(h:∀r∈rs,P r.2.2):∀r∈ov rs,P r.2.2:=jn_wd (lay_wd h)
def tb_some {bs:List Bool}{rs:List Rw}{n:Int}{r:Rw}(h:Dis rs)(e:rs[cnt (ends rs) n]?=some r)(c:r.1<n):qc1 bs n+((rs.take (cnt (ends rs) n)).map λr=>shf bs r (r.2.1+1)).sum+shf bs r n=qbb bs rs n:=by have z:=qir bs n h;rw[e]at z;dsimp only at z;rw[if_pos c]at z;unfold qbb;rw[<- z,Int.add_assoc]
def tb_late {bs:List Bool}{rs:List Rw}{n:Int}{r:Rw}(h:Dis rs)(e:rs[cnt (ends rs) n]?=some r)(c:¬r.1<n):qc1 bs n+((rs.take (cnt (ends rs) n)).map λr=>shf bs r (r.2.1+1)).sum=qbb bs rs n:=by have z:=qir bs n h;rw[e]at z;dsimp only at z;rw[if_neg c,C2]at z;unfold qbb;rw[<- z]
def tb_none {bs:List Bool}{rs:List Rw}{n:Int}(h:Dis rs)(e:rs[cnt (ends rs) n]?=none):qc1 bs n+((rs.take (cnt (ends rs) n)).map λr=>shf bs r (r.2.1+1)).sum=qbb bs rs n:=by have z:=qir bs n h;rw[e]at z;dsimp only at z;rw[C2]at z;unfold qbb;rw[<- z]
def spTBef (a:Adr):Sp:=λvs H Q _=>∃(x:Addr)(bs:List Bool)(rs:List Rw)(n:Int),vs=[.ref x,.int n]/\TabAt a.kK a.kI H x bs rs/\Ap rs/\(∀r∈rs,0<=r.1)/\0<=n/\∀H',Same H H'->Q (.int (qbb bs rs n)) H'
noncomputable def way (ns:List Int):Int:=cell ns 8 / 13 % 6
theorem qg7 {bs:List Bool}(a:bs.length=371):∀{n k:Nat},k<=n->n<=371->opn bs k<=opn bs n
 |0,k,h,_=>by rw[Nat.le_zero.mp h];exact Bo _
 |n+1,k,h,h2=>by
  by_cases e:k=n+1
  .rw[e];exact Bo _
  .have:=qg7 a (n:=n) (k:=k) (by lia) (by lia);have st:=qgu a (k:=n) (by lia);split at st <;>lia
def qqh (bs:List Bool):opn bs 0=0:=by unfold opn;rfl
theorem qti {bs:List Bool}(a:bs.length=371){i:Int}(b:0<=i):∀{n:Nat},n<=371->i<opn bs n->∃w<n,opn bs w=i/\bs.getD w true=false
 |0,_,h=>by rw[qqh]at h;lia
 |n+1,hn,h=>by
  by_cases c:i<opn bs n
  .obtain⟨w,w1,d⟩:=qti a b (n:=n) (by lia) c;exact⟨w,by lia,d⟩
  .have st:=qgu a (k:=n) (by lia);cases e:bs.getD n true with|true=>rw[e,if_pos Z]at st;lia|false=>rw[e,if_neg Uk]at st;exact⟨n,by lia,by lia,e⟩
theorem qxh {bs:List Bool}(a:bs.length=371):∀{n:Nat},n<=371->((((Ao n).filter λi=>!(bs.getD i true)).length:Nat):Int)=opn bs n
 |0,_=>by rw[qqh];rfl
 |n+1,h=>by
  have ih:=qxh a (n:=n) (by lia);have st:=qgu a (k:=n) (by lia);rw[Bt,Ch,Af];cases e:bs.getD n true with|true =>rw[e,if_pos Z]at st;have:([n].filter λi=>!(bs.getD i true))=[]:=CK (by rw[e];decide);rw[this];simp only[DR];lia|false =>rw[e,if_neg Uk]at st;have:([n].filter λi=>!(bs.getD i true))=[n]:=Cr (by rw[e];rfl);rw[this];simp only[AY];lia
theorem od_at {bs:List Bool}(a:bs.length=371){w:Nat}(b:bs.getD w true=false):∀{n:Nat},n<=371->w<n->((Ao n).filter λi=>!(bs.getD i true))[(opn bs w).toNat]?=some w
 |0,_,h=>absurd h (Bg _)
 |n+1,hn,h=>by
  rw[Bt,Ch];by_cases e:w=n
  .subst e;have ll:=qxh a (n:=w) (by lia);have:([w].filter λi=>!(bs.getD i true))=[w]:=Cr (by rw[b];rfl);rw[this,AS (by lia),show (opn bs w).toNat-((Ao w).filter λi=>!(bs.getD i true)).length=0 by lia];rfl
  .have c:=od_at a b (n:=n) (by lia) (by lia);rw[AH (Ac.mp c).1];exact c
def odL_at {bs:List Bool}(a:bs.length=371){w:Nat}(h:w<371)(b:bs.getD w true=false):(odL bs)[(opn bs w).toNat]?=some (w:Int):=by unfold odL;rw[a,Ag,od_at a b (Al _) h];rfl
def qxi {bs:List Bool}(hl:bs.length=371)(y:Int):pby bs (y+1)=pby bs y+opn bs (7*wk y).toNat:=by
 rw[qqg];rcases (by have:=qnu y;lia:wk y=52\/wk y=53) with w|w
 .rw[w,show (52:Int)-52=0 from Z,Int.zero_mul,show ((7:Int)*52).toNat=364 from Z,C2]
 .rw[w,show (53:Int)-52=1 from Z,Int.one_mul,show ((7:Int)*53).toNat=371 from Z];lia
def pby_lt {bs:List Bool}(b:bs.length=371)(ho:0<opn bs 364)(y:Int):pby bs y<pby bs (y+1):=by have a:=qnu y;have m:=qg7 b (k:=364) (n:=(7*wk y).toNat) (by lia) (by lia);rw[qxi b];lia
def pby_17 (bs:List Bool)(k:Int):pby bs (17*k)=k*pby bs 17:=by
 have e:lb (17*k)=3*k:=by unfold lb;lia
 have a:lb 17=3:=by decide
 unfold pby
 rw[e,a,Int.mul_add,<- Int.mul_assoc,<- Int.mul_assoc,Int.mul_comm k 17,Int.mul_comm k 3]
def pby_17B {bs:List Bool}(c:bs.length=371)(ho:0<opn bs 364):0<pby bs 17/\pby bs 17<1073741824:=by
 have d:lb 17=3:=by decide
 have a:=qje bs 364;have b:=qje bs 371;have m:=qg7 c (k:=364) (n:=371) (by lia) (by lia);unfold pby
 rw[d];lia
def pn_day {bs:List Bool}(b:bs.length=371){m y:Int}(h:0<=y)(h1:pby bs y<=m)(g:m<pby bs (y+1)):∃w:Nat,(odL bs)[(m-pby bs y).toNat]?=some (w:Int)/\0<=7*fw y+(w:Int)/\bs.getD (doy (7*fw y+(w:Int))).toNat true=false/\qc1 bs (7*fw y+(w:Int))=m:=by
 rw[qxi b]at g;have a:=qnu y;have f0:=fw_nn h;obtain⟨w,w1,f,e⟩:=qti b (i:=m-pby bs y) (by lia) (n:=(7*wk y).toNat) (by lia) (by lia);have c:0<=7*fw y+(w:Int)-7*fw y:=by lia
 have d:7*fw y+(w:Int)-7*fw y<7*wk y:=by lia
 refine⟨w,?_,by lia,?_,?_⟩
 .rw[<- f];exact odL_at b (by lia) e
 .rw[qr8 c d,show (7*fw y+(w:Int)-7*fw y).toNat=w by lia];exact e
 .rw[qiq bs c d,show (7*fw y+(w:Int)-7*fw y).toNat=w by lia,f];lia
structure Cnt (f:Int->Int)(g:Int->Bool):Prop where
 st:∀n,0<=n->f (n+1)=f n+(if g n=true then 0 else 1)
theorem Cnt.mono {f:Int->Int}{g:Int->Bool}(c:Cnt f g){n:Int}(a:0<=n):∀k:Nat,f n<=f (n+k)
 |0=>by rw[Ev,C2];exact Bo _
 |k+1=>by have ih:=c.mono a k;have s:=c.st (n+k) (by lia);rw[show n+((k+1:Nat):Int)=n+k+1 by lia,s];split <;>lia
def Cnt.le {f:Int->Int}{g:Int->Bool}(c:Cnt f g){n m:Int}(a:0<=n)(h:n<=m):f n<=f m:=by
 have:=c.mono a (m-n).toNat
 rwa [show n+((m-n).toNat:Int)=m by lia]at this
def Cnt.lt {f:Int->Int}{g:Int->Bool}(c:Cnt f g){n m:Int}(a:0<=m)(h:f n<f m):n<m:=by
 by_cases z:n<m
 .exact z
 .have:=c.le a (B2.mp z);lia
def Cnt.ge {f:Int->Int}{g:Int->Bool}(c:Cnt f g){n d:Int}(a:0<=d)(o:g d=false)(h:f n<=f d):n<=d:=by
 by_cases z:n<=d
 .exact z
 .have s:=c.st d a;rw[o,if_neg Uk]at s;have:=c.le (n:=d+1) (m:=n) (by lia) (by lia);lia
def Cnt.free {f:Int->Int}{g:Int->Bool}(c:Cnt f g){n d e:Int}(i:0<=n)(h:f d=f n)(j:n<=e)(h2:e<d):g e=true:=by
 cases o:g e with|true=>rfl|false =>have s:=c.st e (by lia);rw[o,if_neg Uk]at s;have a:=c.le i j;have b:=c.le (n:=e+1) (m:=d) (by lia) (by lia);lia
def pcnt {bs:List Bool}(a:bs.length=371):Cnt (qc1 bs) (λn=>bs.getD (doy n).toNat true):=⟨λ_ h=>qjs a h⟩
def qxj {bs:List Bool}{rs:List Rw}(a:bs.length=371)(c:Ap rs)(b:∀r∈rs,r.2.2=Aa "free" \/ r.2.2=Aa "open"):Cnt (qbb bs rs) (tfr bs rs):=⟨λ_ h=>qth a h (qhr c) b⟩
theorem ql2 {bs:List Bool}{n:Int}{suf:List Rw}:∀{pre:List Rw},(∀r∈pre,r.2.1<n)->tbR bs (pre++suf) n=(pre.map λr=>shf bs r (r.2.1+1)).sum+tbR bs suf n
 | [],_=>(Cj _).symm
 |r::pre,h=>by have a:=ql2 (bs:=bs) (suf:=suf) (pre:=pre) λs b=>h s (Ay _ b);show (if r.2.1<n then shf bs r (r.2.1+1)+tbR bs (pre++suf) n else _)=_;rw[if_pos (h r Am),a,AX,List.sum_cons,Int.add_assoc]
theorem qr9 {bs:List Bool}{n:Int}{suf:List Rw}:∀{pre:List Rw},Dis (pre++suf)->(∀r∈pre,r.2.1<n)->tfr bs (pre++suf) n=tfr bs suf n
 | [],_,_=>rfl
 |r::pre,d,h=>by have a:=qr9 (bs:=bs) (suf:=suf) (pre:=pre) d.tail λs b=>h s (Ay _ b);show tfr bs (r::(pre++suf)) n=_;have d':Dis (r::(pre++suf)):=d;rw[qis d',if_pos (h r Am),a]
def qou {bs:List Bool}{n:Int}{suf:List Rw}(h:∀r∈suf,n<=r.1)(ok:∀r∈suf,r.1<=r.2.1):tbR bs suf n=0:=qos h ok
def tf_gap {bs:List Bool}{n:Int}{suf:List Rw}(d:Dis suf)(h:∀r∈suf,n<r.1):tfr bs suf n=bs.getD (doy n).toNat true:=by
 cases suf with|nil=>rfl|cons r suf =>have a:=h r Am;have b:=d.ok r Am;rw[qis d,if_neg (by lia),if_neg (by lia)]
theorem gap_day {bs:List Bool}{pre suf:List Rw}{m d lo:Int}(w:bs.length=371)(D:Dis (pre++suf))(h0:0<=lo)(j:∀r∈pre,r.2.1<lo)(k:∀r∈suf,lo<=r.1)(o:qbb bs (pre++suf) lo<=m)(i:∀r∈suf,m<qbb bs (pre++suf) r.1)
  (p:0<=d)(h:bs.getD (doy d).toNat true=false)(x:qc1 bs d=m-(pre.map λr=>shf bs r (r.2.1+1)).sum):tfr bs (pre++suf) d=false/\qbb bs (pre++suf) d=m:=by
 have b:Dis suf:=⟨λr a=>D.ok r (A1 _ a),(Bk.mp D.pw).2.1⟩;have P:=pcnt w;have c:∀n,lo<=n->(∀r∈suf,n<=r.1)->qbb bs (pre++suf) n=qc1 bs n+(pre.map λr=>shf bs r (r.2.1+1)).sum:=λn t l=>by unfold qbb;rw[ql2 (λr a=>Bb (j r a) t),qou l b.ok,C2]
 rw[c lo (Bo _) k]at o;have f:lo<=d:=P.ge p h (by lia);have e:∀r∈suf,d<r.1:=λr a=>by
  have z:=i r a;cases suf with
  |nil=>cases a
  |cons s suf =>
   have v:=i s Am;have u:=k s Am;rw[c s.1 u (λq g=>by
    rcases Av.mp g with rfl|g
    .exact Bo _
    .have:=(b.later g).1;have:=b.ok s Am;lia)]at v
   have ds:d<s.1:=P.lt (by lia) (by lia);rcases Av.mp a with rfl|a
   .exact ds
   .have:=(b.later a).1;have:=b.ok s Am;lia
 refine⟨?_,?_⟩
 .rw[qr9 D (λr a=>Bb (j r a) f),tf_gap b e];exact h
 .rw[c d f (λr a=>Dc (e r a)),x];lia
theorem row_day {bs:List Bool}{pre suf:List Rw}{r:Rw}{m:Int}(D:Dis (pre++r::suf))(k:r.2.2=Aa "free" \/ r.2.2=Aa "open")(b0:qbb bs (pre++r::suf) r.1<=m)(b1:m<qbb bs (pre++r::suf) (r.2.1+1)) :
  r.1<=r.1+m-qbb bs (pre++r::suf) r.1/\tfr bs (pre++r::suf) (r.1+m-qbb bs (pre++r::suf) r.1)=false/\qbb bs (pre++r::suf) (r.1+m-qbb bs (pre++r::suf) r.1)=m:=by
 have b:Dis (r::suf):=⟨λq a=>D.ok q (A1 _ a),(Bk.mp D.pw).2.1⟩;have ok:=b.ok r Am;have h:∀n,r.1<=n->∀q∈pre,q.2.1<n:=λn z q a=>Bb ((Bk.mp D.pw).2.2 q a r Am) z;have at0:qbb bs (pre++r::suf) r.1=qc1 bs r.1+(pre.map λr=>shf bs r (r.2.1+1)).sum:=by
  unfold qbb;rw[ql2 (h _ (Bo _)),qou (λq a=>by
   rcases Av.mp a with rfl|a
   .exact Bo _
   .have:=(b.later a).1;lia) b.ok,C2]
 have d:∀n,r.1<=n->n<=r.2.1+1->qbb bs (pre++r::suf) n=qc1 bs n+((pre.map λr=>shf bs r (r.2.1+1)).sum+shf bs r n):=λn l z2=>by
  unfold qbb;rw[ql2 (h n l)];show _+(_+(if r.2.1<n then shf bs r (r.2.1+1)+tbR bs suf n else if r.1<n then shf bs r n else 0))=_;by_cases c:r.2.1<n
  .rw[if_pos c,qou (λq a=>by have:=(b.later a).1;lia) b.tail.ok,show r.2.1+1=n by lia,C2]
  .rw[if_neg c];by_cases j:r.1<n
   .rw[if_pos j]
   .rw[if_neg j,show n=r.1 by lia,qnz]
 have i:∀n,qc1 bs n+shf bs r n=qc1 bs r.1+(if r.2.2=Aa "open" then n-r.1 else 0):=λn=>by unfold shf;lia
 have e:r.2.2=Aa "open" := by
  rcases k with z|z
  .have o:=d (r.2.1+1) (by lia) (Bo _);have g:=i (r.2.1+1);rw[if_neg (by rw[z];decide +kernel)]at g;lia
  .exact z
 have o:=d (r.2.1+1) (by lia) (Bo _);have g:=i (r.2.1+1);rw[if_pos e]at g;have f:r.1<=r.1+m-qbb bs (pre++r::suf) r.1:=by lia
 have n1:r.1+m-qbb bs (pre++r::suf) r.1<=r.2.1:=by lia
 refine⟨f,?_,?_⟩
 .rw[qr9 D (h _ f),qis b,if_neg (by lia),if_pos f,e];exact decide_eq_false Ez
 .have p:=i (r.1+m-qbb bs (pre++r::suf) r.1);rw[if_pos e]at p;rw[d _ f (by lia)];lia
theorem qtj {js:List Nat}{c0:Int}(nd:js.Nodup):∀{is:List (Int×Int)},(∀i∈is,i.2<i.1+42)->is.length<js.length->∃j∈js,∀i∈is,¬(i.1<=c0+42*(j:Int)/\c0+42*(j:Int)<=i.2):=by
 intro is
 induction is generalizing js with
 |nil =>intro _ h;obtain⟨j,c⟩:=List.exists_mem_of_length_pos (CO (AQ _) h);exact⟨j,c,λi g=>absurd g AM⟩
 |cons i is ih =>
  intro h t;have g:=h i Am;let p:Nat->Bool:=λj=>!(decide (i.1<=c0+42*(j:Int)) && decide (c0+42*(j:Int)<=i.2));have n:∀{j:Nat},p j=false->i.1<=c0+42*(j:Int)/\c0+42*(j:Int)<=i.2:=λ{j} z=>by have z:(!(decide (i.1<=c0+42*(j:Int)) && decide (c0+42*(j:Int)<=i.2)))=false:=z;rw[Bool.not_eq_false',B4,decide_eq_true_iff,decide_eq_true_iff]at z;exact z
  have m:∀{ks:List Nat},ks.Nodup->ks.length<=(ks.filter p).length+1:=λ{ks} f=>by
   induction ks with
   |nil=>exact AQ _
   |cons k ks ik =>
    rw[Cu]at f;cases e:p k with
    |true =>rw[Cr e,AG,AG];have:=ik f.2;lia
    |false =>
     rw[CK (by rw[e];decide),AG];have all:ks.filter p=ks:=List.filter_eq_self.mpr λj c=>by
      cases o:p j with
      |true=>rfl
      |false =>
       have a:=n e;have b:=n o;have:j=k:=by lia
       rw[this]at c;exact absurd c f.1
     rw[all];exact Al _
  have:=m nd;rw[AG]at t;obtain⟨j,c,s⟩:=ih (js:=js.filter p) (nd.filter p) (λq d=>h q (Ay _ d)) (by lia);obtain⟨r,l⟩:=BQ.mp c;refine⟨j,r,λq d=>?_⟩;rcases Av.mp d with rfl|d
  .intro z;have:p j=false:=by show (!(decide (q.1<=c0+42*(j:Int)) && decide (c0+42*(j:Int)<=q.2)))=false;rw[decide_eq_true z.1,decide_eq_true z.2];rfl
   rw[this]at l;cases l
  .exact s q d
theorem qtk:∀{xs ys:List Int},xs.Nodup->(∀x∈xs,x∈ys)->xs.length<=ys.length
 | [],_,_,_=>AQ _
 |x::xs,ys,nd,h=>by rw[Cu]at nd;have b:=h x Am;have:=qtk (xs:=xs) (ys:=ys.erase x) nd.2 λy a=>(List.mem_erase_of_ne (λz:y=x=>nd.1 (by rw[<- z];exact a))).mpr (h y (Ay _ a));rw[List.length_erase_of_mem b]at this;have p:0<ys.length:=List.length_pos_of_mem b;rw[AG];lia
def qtl {wk:List Int}(ok:OkW wk):∃w:Int,0<=w/\w<7/\wk.contains (w+1)=false:=by
 by_cases h:∃w:Int,0<=w/\w<7/\wk.contains (w+1)=false
 .exact h
 .exfalso;have all:∀x∈[(1:Int),2,3,4,5,6,7],x∈wk:=λx a=>by
   have b:1<=x/\x<=7:=by simp only[Av,AM,or_false]at a;lia
   cases e:wk.contains x with|true=>exact BO.mp e|false=>exact absurd ⟨x-1,by lia,by lia,by rw[show x-1+1=x by lia];exact e⟩ h
  have:=qtk Uk all;have:=ok.len;simp only[AG,DR]at *;lia
def qtm {wk:List Int}{yr:List S2}{i w:Int}(a:wk.contains (w+1)=false)(e:i % 7=w)(h:∀r∈yr,¬(r.1<=i/\i<=r.2)):fy wk yr i=false:=by unfold fy;rw[e,a,DH,inB_any,List.any_eq_false];intro r b;rw[B4,decide_eq_true_iff,decide_eq_true_iff];exact h r b
def qxk {wk:List Int}{yr:List S2}(f:OkW wk)(c:OkY yr):0<opn (fdL wk yr) 364:=by
 obtain⟨w,w0,w1,h⟩:=qtl f;obtain⟨j,d,l⟩:=qtj (js:=Ao 5) (c0:=w) De (is:=yr) (λr o=>by have:=c.rng r o;lia) (by have:=c.len;rw[Aq];lia);have d:=AN.mp d;have e:=qfl wk yr;have m:=qtm (yr:=yr) (i:=w+42*(j:Int)) h (by lia) l;have hk:(w+42*(j:Int)).toNat<364:=by lia
 have g:(fdL wk yr).getD (w+42*(j:Int)).toNat true=false:=by unfold fdL;rw[Ak,Ag,AV (by lia)];show fy wk yr ((w+42*(j:Int)).toNat:Int)=false;rw[Cz (by lia)];exact m
 have st:=qgu e (k:=(w+42*(j:Int)).toNat) (by lia);rw[g,if_neg Uk]at st;have a:=qg7 e (k:=(w+42*(j:Int)).toNat+1) (n:=364) (by lia) (by lia);have b:=qje (fdL wk yr) (w+42*(j:Int)).toNat;lia
def qvf {rs:List Rw}{n:Int}(h:∀r∈rs,¬(r.1<=n/\n<=r.2.1)):qba (Aa "") rs n=Aa "" := by
 unfold qba;have:∀(b:List Rw)(a:Str),(∀r∈b,¬(r.1<=n/\n<=r.2.1))->b.foldl (λa r=>if r.1<=n/\n<=r.2.1 then r.2.2 else a) a=a:=by
  intro b
  induction b with
  |nil=>intro a _;rfl
  |cons r b ih=>intro a z;rw[List.foldl_cons,if_neg (z r Am)];exact ih a λq c=>z q (Ay _ c)
 exact this rs _ h
def qvg {wk:List Int}{yr:List S2}{rs:List Rw}(m:OkW wk)(f:OkY yr)(hl:rs.length<=12)(h:∀r∈rs,OkR r){n:Int}(h0:0<=n):∃e,n<=e/\e<=n+2000/\lfr wk yr rs e=false:=by
 obtain⟨w,w0,w1,p⟩:=qtl m;obtain⟨c0,c1,c2,c3⟩:∃c0:Int,n<=c0/\c0<=n+6/\c0 % 7=w:=⟨n+(w-n % 7) % 7,by lia,by lia,by lia⟩;let Y:=yo (c0 / 7);let is:List (Int×Int):=(rs.map λr=>(r.1,r.2.1))++(Ao 7).flatMap λ(k:Nat)=>yr.map λr=>(7*fw (Y+(k:Int))+r.1,7*fw (Y+(k:Int))+r.2);have o:is.length<48:=by
  have a:((Ao 7).flatMap λ(k:Nat)=>yr.map λr=>(7*fw (Y+(k:Int))+r.1,7*fw (Y+(k:Int))+r.2)).length=7*yr.length:=by rw[List.length_flatMap];simp only[Ab,List.map_const',Aq,List.sum_replicate_nat]
  have b:=f.len;show ((rs.map λr=>(r.1,r.2.1))++_).length<48;rw[Af,Ab,a];lia
 obtain⟨j,l,g⟩:=qtj (js:=Ao 48) (c0:=c0) De (is:=is) (λi q=>by
  rcases A7.mp q with z|z
  .obtain⟨r,d,rfl⟩:=AU.mp z;have:=(h r d).2.2.1;show r.2.1<r.1+42;lia
  .obtain⟨k,_,z⟩:=List.mem_flatMap.mp z;obtain⟨r,d,rfl⟩:=AU.mp z;have:=f.rng r d;show 7*fw (Y+(k:Int))+r.2<7*fw (Y+(k:Int))+r.1+42;lia) (by rw[Aq];exact o)
 have l:=AN.mp l;refine⟨c0+42*(j:Int),by lia,by lia,?_⟩;generalize ec:c0+42*(j:Int)=c at g;have v:∃k:Nat,k<7/\yo (c / 7)=Y+(k:Int):=by
  have t:=lies (c0 / 7);have s:=lies (c / 7);have:yo (c0 / 7)<=yo (c / 7)/\yo (c / 7)<yo (c0 / 7)+7:=by unfold fw at t s;lia
  exact⟨(yo (c / 7)-yo (c0 / 7)).toNat,by lia,by show yo (c / 7)=yo (c0 / 7)+_;lia⟩
 obtain⟨k,u,x⟩:=v;unfold lfr;rw[qvf (λr d z=>g (r.1,r.2.1) (Bz _ (AU.mpr ⟨r,d,Z⟩)) z),if_pos Z];refine qtm p (by rw[doy_mod];lia) λr d z=>?_;have y:doy c=c-7*fw (Y+(k:Int)):=by unfold doy;rw[x]
 rw[y]at z;exact g (7*fw (Y+(k:Int))+r.1,7*fw (Y+(k:Int))+r.2) (A1 _ (List.mem_flatMap.mpr ⟨k,AN.mpr u,AU.mpr ⟨r,d,Z⟩⟩)) ⟨by show _<=c;lia,by show c<=_;lia⟩
noncomputable def lo (rs:List Rw):Nat->Int
 |0=>0
 |i+1=>match rs[i]? with|some r=>r.2.1+1|none=>0
def qtn {rs:List Rw}{i:Nat}{r:Rw}(h:rs[i]?=some r):lo rs (i+1)=r.2.1+1:=by show (match rs[i]? with|some r=>r.2.1+1|none=>0)=_;rw[h]
theorem lo_ok {rs:List Rw}(D:Dis rs)(h:∀r∈rs,0<=r.1){i:Nat}(k:i<=rs.length):0<=lo rs i/\(∀r∈rs.take i,r.2.1<lo rs i)/\∀r∈rs.drop i,lo rs i<=r.1:=by
 cases i with
 |zero=>exact⟨Bo _,λr c=>absurd c (by rw[D3];exact AM),λr c=>h r (by rwa [List.drop_zero]at c)⟩
 |succ i =>
  have d:i<rs.length:=k;have e:=Ae d;rw[qtn e];have m:=BV d;have a:=h _ m;have b:=D.ok _ m;have pw:=Bd.mp D.pw;refine⟨by lia,λr c=>?_,λr c=>?_⟩
  .obtain⟨j,g,f⟩:=Cy c;rw[Bj]at g;rw[Ek]at f;by_cases z:j=i
   .subst z;rw[<- f];lia
   .have:=pw j i (by lia) d (by lia);rw[f]at this;lia
  .obtain⟨j,g,f⟩:=Cy c;rw[BE]at g;rw[List.getElem_drop]at f;have:=pw i (i+1+j) d (by lia) (by lia);rw[f]at this;lia
theorem qto {bs:List Bool}{rs:List Rw}{i:Nat}{m:Int}(g:bs.length=371)(f:Ap rs)(l:∀r∈rs,0<=r.1)(h:i<=rs.length)(k:qbb bs rs (lo rs i)<=m)(q:∀r∈rs.drop i,m<qbb bs rs r.1) :
  0<=m-((rs.take i).map λr=>shf bs r (r.2.1+1)).sum/\∀d,0<=d->bs.getD (doy d).toNat true=false->qc1 bs d=m-((rs.take i).map λr=>shf bs r (r.2.1+1)).sum->tfr bs rs d=false/\qbb bs rs d=m:=by
 obtain⟨b,a,c⟩:=lo_ok (qhr f) l h;have D:=qhr f;have e:=BI i rs;refine⟨?_,λd j t s=>?_⟩
 .have z:qbb bs (rs.take i++rs.drop i) (lo rs i)=qc1 bs (lo rs i)+((rs.take i).map λr=>shf bs r (r.2.1+1)).sum:=by
   unfold qbb
   rw[ql2 a,qou c (λr o=>D.ok r (List.mem_of_mem_drop o)),C2]
  rw[e]at z
  have p:=(pcnt g).le (n:=0) (m:=lo rs i) (Bo _) b
  rw[qny]at p
  lia
 .have:=gap_day (pre:=rs.take i) (suf:=rs.drop i) (m:=m) (d:=d) (lo:=lo rs i) g (by rw[e];exact D) b a c (by rw[e];exact k) (by rw[e];exact q) j t s;rw[e]at this;exact this
def qvh {rs:List Rw}{i:Nat}{r:Rw}(D:Dis rs)(h:rs[i]?=some r):∀q∈rs.drop i,r.1<=q.1:=λq d=>by
 obtain⟨b,e⟩:=Ac.mp h;obtain⟨j,c,a⟩:=Cy d;rw[BE]at c;rw[List.getElem_drop]at a;by_cases z:j=0
 .subst z;rw[<- a,<- e];exact Bo _
 .have p:=Bd.mp D.pw i (i+j) b (by lia) (by lia);rw[a,e]at p;have:=D.ok r (A2 h);lia
theorem row_use {bs:List Bool}{rs:List Rw}{i:Nat}{r:Rw}{m:Int}(g:Ap rs)(h:rs[i]?=some r)(f:r.2.2=Aa "free" \/ r.2.2=Aa "open")(a:qbb bs rs r.1<=m)(b:m<qbb bs rs (r.2.1+1)) :
  r.1<=r.1+m-qbb bs rs r.1/\tfr bs rs (r.1+m-qbb bs rs r.1)=false/\qbb bs rs (r.1+m-qbb bs rs r.1)=m:=by
 obtain⟨d,e⟩:=Ac.mp h;have c:rs=rs.take i++r::rs.drop (i+1):=by rw[<- e,<- Cf d,BI]
 have D:=qhr g;rw[c]at D a b |-;exact row_day D f a b
def cnt_one {f:Int->Int}{g:Int->Bool}(c:Cnt f g){d e:Int}(i:0<=d)(j:0<=e)(l:g d=false)(k:g e=false)(h:f d=f e):d=e:=by have a:=c.ge i l (n:=e) (by lia);have b:=c.ge j k (n:=d) (by lia);lia
def WdO (rs:List Rw):Prop:=∀r∈rs,r.2.2=Aa "free" \/ r.2.2=Aa "open"
def spYw (a:Adr):Sp:=λvs H Q _=>∃(x:Addr)(bs:List Bool)(m:Int),vs=[.ref x,.int m]/\PatAt a.kK H x bs/\0<=m/\0<opn bs 364/\∀y:Int,0<=y->pby bs y<=m->m<pby bs (y+1)->Q (.int y) H
def spPNth (a:Adr):Sp:=λvs H Q _=>∃(x:Addr)(bs:List Bool)(m:Int),vs=[.ref x,.int m]/\PatAt a.kK H x bs/\0<=m/\0<opn bs 364/\∀d:Int,0<=d->bs.getD (doy d).toNat true=false->qc1 bs d=m->Q (.int d) H
def spTNth (a:Adr):Sp:=λvs H Q _=>∃(x:Addr)(bs:List Bool)(rs:List Rw)(m:Int),vs=[.ref x,.int m]/\TabAt a.kK a.kI H x bs rs/\Ap rs/\(∀r∈rs,0<=r.1)/\WdO rs/\0<opn bs 364/\0<=m/\∀(d:Int)(H':Hp),Same H H'->0<=d->tfr bs rs d=false->qbb bs rs d=m->Q (.int d) H'
def spTNext (a:Adr):Sp:=λvs H Q _=>∃(x:Addr)(bs:List Bool)(rs:List Rw)(n:Int),vs=[.ref x,.int n]/\TabAt a.kK a.kI H x bs rs/\Ap rs/\(∀r∈rs,0<=r.1)/\WdO rs/\0<opn bs 364/\0<=n/\∀(d:Int)(H':Hp),Same H H'->0<=d->tfr bs rs d=false->qbb bs rs d=qbb bs rs n->Q (.int d) H'
def wd_ov {rs:List Rw}(a:∀r∈rs,OkR r):WdO (ov rs):=ov_wd (P:=λw=>w=Aa "free" \/ w=Aa "open") λr b=>(a r b).2.2.2
noncomputable abbrev kC (a:Adr):Three->Addr:=qcl a.kP a.kR a.kO
noncomputable abbrev kfs (tb:Addr):List (Str×V):=[(Aa "table",.ref tb)]
def spKInit (a:Adr):Sp:=λvs H Q _=>∃(i:Three)(x dx tb:Addr),vs=[.ref x,.ref tb]/\H x=some (.ins (kC a i) dx [])/\Q .non (upd H x (.ins (kC a i) dx (kfs tb)))
def qgv (g:Int->V):Sp:=λvs H Q _=>∃(x:Addr)(u:Int),vs=[.ref x,.int u]/\Q (g u) H
def qe7 (g:Int->Int->V):Sp:=λvs H Q _=>∃(x:Addr)(u v:Int),vs=[.ref x,.int u,.int v]/\Q (g u v) H
def qtp (a:Adr)(H:Hp)(x:Addr)(bs:List Bool)(rs:List Rw):Prop:=∃(dx tb:Addr),H x=some (.ins a.kO dx (kfs tb))/\TabAt a.kK a.kI H tb bs rs
structure TabOk (bs:List Bool)(rs:List Rw):Prop where
 hl:bs.length=371
 ap:Ap rs
 nn:∀r∈rs,0<=r.1
 wd:WdO rs
 op:0<opn bs 364
def qxl (a:Adr):Sp:=λvs H Q _=>∃(x:Addr)(bs:List Bool)(rs:List Rw)(f l:Int),vs=[.ref x,.int f,.int l]/\qtp a H x bs rs/\TabOk bs rs/\0<=f/\∀H',Same H H'->Q (.int (if l<f then 0 else qbb bs rs (l+1)-qbb bs rs f)) H'
def ql3 (a:Adr):Sp:=λvs H Q _=>∃(x:Addr)(bs:List Bool)(rs:List Rw)(f m:Int),vs=[.ref x,.int f,.int m]/\qtp a H x bs rs/\TabOk bs rs/\0<=f/\1<=m/\∀(d:Int)(H':Hp),Same H H'->0<=d->tfr bs rs d=false->qbb bs rs d=qbb bs rs f+m-1->Q (.int d) H'
noncomputable def qj9:Three->Str:=qcl (Aa "days") (Aa "weeks") (Aa "court")
def spKind (a:Adr):Sp:=λvs H Q _=>∃(i:Three)(tb:Addr),vs=[.str (qj9 i),.ref tb]/\∀(x dx:Addr)(H':Hp),Same H H'->H x=none->H' x=some (.ins (kC a i) dx (kfs tb))->Q (.ref x) H'
def ql4 {H:Hp}{x a C tb:Addr}(nx:H x=none)(nd:H a=none):Same H (upd (upd (upd H a (.own x)) x (.ins C a [])) x (.ins C a (kfs tb))):=λb u e=>by rw[qr (qae e nx)];exact qg6 nx nd b u e
structure PartsOk (wk:List Int)(yr:List S2)(rs:List Rw):Prop where
 w:OkW wk
 y:OkY yr
 l:rs.length<=12
 r:∀r∈rs,OkR r
def PartsOk.tab {wk:List Int}{yr:List S2}{rs:List Rw}(h:PartsOk wk yr rs):TabOk (fdL wk yr) (ov rs):=⟨qfl wk yr,ov_ap h.r,ov_nn λr a=>(h.r r a).1,wd_ov h.r,qxk h.w h.y⟩
noncomputable def kf (bs:List Bool)(rs:List Rw):Three->Int->Bool:=qcl (λ_=>false) (λ_=>false) (tfr bs rs)
noncomputable def kb (bs:List Bool)(rs:List Rw):Three->Int->Int:=qcl (λd=>d) (λd=>d) (qbb bs rs)
def kcnt {bs:List Bool}{rs:List Rw}(ok:TabOk bs rs):∀i,Cnt (kb bs rs i) (kf bs rs i):=qf4 ⟨λ_ _=>rfl⟩ ⟨λ_ _=>rfl⟩ (qxj ok.hl ok.ap ok.wd)
def KindAt (a:Adr)(H:Hp)(x:Addr)(i:Three)(bs:List Bool)(rs:List Rw):Prop:=∃(dx tb:Addr),H x=some (.ins (kC a i) dx (kfs tb))/\TabAt a.kK a.kI H tb bs rs
def KindAt.same {a:Adr}{H H':Hp}{x:Addr}{i:Three}{bs:List Bool}{rs:List Rw}(h:KindAt a H x i bs rs)(s:Same H H'):KindAt a H' x i bs rs:=by obtain⟨b,tb,d,c⟩:=h;exact⟨b,tb,s _ _ d,c.same s⟩
section
variable {a:Adr}{i:Three}{H:Hp}{x:Addr}{bs:List Bool}{rs:List Rw}{Q:VK}{E:XK}
def qxm (f l:Int):(if l-f+1 > 0 then l-f+1 else 0)=if l<f then 0 else l+1-f:=by split <;>split <;>lia
theorem kin {f l:Int}(h:KindAt a H x i bs rs)(ok:TabOk bs rs)(d:0<=f)(k:∀H',Same H H'->Q (.int (if l<f then 0 else kb bs rs i (l+1)-kb bs rs i f)) H') :
  qcl (qe7 λf l=>.int (if l-f+1 > 0 then l-f+1 else 0)) (qe7 λf l=>.int (if l-f+1 > 0 then l-f+1 else 0)) (qxl a) i [.ref x,.int f,.int l] H Q E:=by
 cases i with|a=>exact⟨x,f,l,Z,by show Q (.int (if l-f+1 > 0 then l-f+1 else 0)) H;rw[qxm];exact k H (Same.refl H)⟩|b=>exact⟨x,f,l,Z,by show Q (.int (if l-f+1 > 0 then l-f+1 else 0)) H;rw[qxm];exact k H (Same.refl H)⟩|c=>exact⟨x,bs,rs,f,l,Z,h,ok,d,k⟩
theorem qxn {f m:Int}(h:KindAt a H x i bs rs)(ok:TabOk bs rs)(e:0<=f)(g:1<=m)(k:∀(d:Int) (H':Hp),Same H H'->0<=d->kf bs rs i d=false->kb bs rs i d=kb bs rs i f+m-1->Q (.int d) H') :
  qcl (qe7 λf m=>.int (f+m-1)) (qe7 λf m=>.int (f+m-1)) (ql3 a) i [.ref x,.int f,.int m] H Q E:=by
 cases i with|a=>exact⟨x,f,m,Z,k _ H (Same.refl H) (by lia) Z Z⟩|b=>exact⟨x,f,m,Z,k _ H (Same.refl H) (by lia) Z Z⟩|c=>exact⟨x,bs,rs,f,m,Z,h,ok,e,g,k⟩
def kfor {u:Int}(k:Q (.int (qcl u (7*u) u i)) H):qcl (qgv λu=>.int u) (qgv λu=>.int (7*u)) (qgv λu=>.int u) i [.ref x,.int u] H Q E:=by
 cases i with|a=>exact⟨x,u,Z,k⟩|b=>exact⟨x,u,Z,k⟩|c=>exact⟨x,u,Z,k⟩
end
noncomputable abbrev Pz:=Int×Option Int
noncomputable def inP (p:Pz)(d:Int):Bool:=decide (p.1<=d) && (match p.2 with|none=>true|some e=>decide (d<=e))
noncomputable def stl (ps:List Pz)(d:Int):Bool:=ps.any λp=>inP p d
def Aft (p q:Pz):Prop:=∃e,p.2=some e/\e<q.1
structure PsOk (ps:List Pz):Prop where
 srt:ps.Pairwise Aft
 ok:∀p∈ps,0<=p.1/\∀e,p.2=some e->p.1<=e
def ql5 {F d:Int}:inP (F,none) d=decide (F<=d):=by unfold inP;exact Er _
def qei {F e d:Int}:inP (F,some e) d=(decide (F<=d) && decide (d<=e)):=rfl
def qov {ps:List Pz}{p:Pz}{d:Int}(a:p∈ps)(h:inP p d=true):stl ps d=true:=CJ.mpr ⟨p,a,h⟩
theorem ql6 {ps:List Pz}{d:Int}(h:∀p∈ps,inP p d=false):stl ps d=false:=by
 cases e:stl ps d with
 |false=>rfl
 |true =>obtain⟨p,b,a⟩:=CJ.mp e;rw[h p b]at a;cases a
noncomputable def cn (g:Int->Bool)(n:Int):Int:=((((Ao n.toNat).filter λ(t:Nat)=>!g (t:Int)).length:Nat):Int)
def qgw (g:Int->Bool):Cnt (cn g) g:=⟨λn h=>by
 unfold cn;rw[show (n+1).toNat=n.toNat+1 by lia,Bt,Ch,Af];have e:((n.toNat:Nat):Int)=n:=by lia
 cases z:g n with
 |true =>rw[if_pos Z,CK (by rw[e,z];decide)];simp
 |false =>rw[if_neg Uk,Cr (by rw[e,z];rfl)];simp⟩
theorem qqi {f f':Int->Int}{g g':Int->Bool}(c:Cnt f g)(b:Cnt f' g'){a:Int}(i:0<=a):∀k:Nat,(∀d,a<=d->d<a+(k:Int)->g d=g' d)->f (a+(k:Int))-f a=f' (a+(k:Int))-f' a
 |0,_=>by rw[Ev,C2];lia
 |k+1,h=>by have ih:=qqi c b i k λd e h2=>h d e (by lia);have s:=c.st (a+(k:Int)) (by lia);have s':=b.st (a+(k:Int)) (by lia);rw[h _ (by lia) (by lia)]at s;rw[show a+((k+1:Nat):Int)=a+(k:Int)+1 by lia];lia
def qow {f f':Int->Int}{g g':Int->Bool}(c:Cnt f g)(e:Cnt f' g'){a b:Int}(j:0<=a)(ab:a<=b)(h:∀d,a<=d->d<b->g d=g' d):f b-f a=f' b-f' a:=by
 have z:=qqi c e j (b-a).toNat λd i h2=>h d i (by lia)
 rwa [show a+((b-a).toNat:Int)=b by lia]at z
theorem qxo {f:Int->Int}{g:Int->Bool}(c:Cnt f g){a b:Int}(i:0<=a)(e:a<=b)(h:∀d,a<=d->d<b->g d=true):f b=f a:=by have z:=qow c (g':=λ_=>true) (f':=λ_=>0) ⟨λ_ _=>by rw[if_pos Z];rfl⟩ i e h;lia
noncomputable def gst (g:Int->Bool)(ps:List Pz):Int->Bool:=λd=>g d || stl ps d
def qm2 (g:Int->Bool)(ps:List Pz)(s m:Int):Option Int->Prop
 |some d=>s<d/\gst g ps d=false/\cn (gst g ps) d=cn (gst g ps) (s+1)+m-1
 |none=>(∃F,(F,none)∈ps)/\∀d,s<d->cn (gst g ps) d<cn (gst g ps) (s+1)+m
theorem qjt {g:Int->Bool}{ps:List Pz}{s m:Int}(s0:0<=s){r a:Option Int}(h:qm2 g ps s m r)(h':qm2 g ps s m a):r=a:=by
 have C:=qgw (gst g ps);have b:∀{d},qm2 g ps s m (some d)->qm2 g ps s m none->False:=λ{d} ⟨h1,c,h3⟩ ⟨_,f⟩=>by have z:=f (d+1) (by lia);have st:=C.st d (by lia);rw[c,if_neg Uk]at st;lia
 cases r with
 |none =>
  cases a with|none=>rfl|some d=>exact(b h' h).elim
 |some d =>
  cases a with|none=>exact(b h h').elim|some e=>exact congrArg some (cnt_one C (by have:=h.1;lia) (by have:=h'.1;lia) h.2.1 h'.2.1 (by rw[h.2.2,h'.2.2]))
structure Go (g:Int->Bool)(ps:List Pz)(s m:Int)(i:Nat)(b L:Int):Prop where
 hb:s+1<=b
 hL:1<=L
 he:cn (gst g ps) b=cn (gst g ps) (s+1)+m-L
 hp:∀p∈ps.take i,∃e,p.2=some e/\e<b
structure Fin (f:Int->Int)(g:Int->Bool)(ps:List Pz)(s m b L:Int):Prop where
 hb:s+1<=b
 hL:1<=L
 he:cn (gst g ps) b=cn (gst g ps) (s+1)+m-L
 hn:∀d,b<=d->f d<=f b+L-1->stl ps d=false
def qqj {f:Int->Int}{g:Int->Bool}{ps:List Pz}{s m b L d:Int}(C:Cnt f g)(s0:0<=s)(h:Fin f g ps s m b L)(j:0<=d)(i:g d=false)(dM:f d=f b+L-1):qm2 g ps s m (some d):=by
 have hb:=h.hb;have hL:=h.hL;have c:b<=d:=C.ge j i (by lia);have z:=qow (qgw (gst g ps)) C (a:=b) (b:=d) (by lia) c λe k h2=>by have:=C.le (n:=e) (m:=d) (by lia) (by lia);unfold gst;rw[h.hn e k (by lia),Ep]
 refine⟨by lia,?_,by rw[h.he]at z;lia⟩;unfold gst;rw[i,h.hn d c (by lia)];rfl
def qtq {α:Type}{l:List α}{i:Nat}{x y:α}(h:y∈l)(b:l[i]?=some x):y∈l.take i\/y=x\/y∈l.drop (i+1):=by
 obtain⟨a,rfl⟩:=Ac.mp b;rw[<- BI i l,Cf a]at h;rcases A7.mp h with z|z
 .exact .inl z
 .rcases Av.mp z with z|z
  .exact .inr (.inl z)
  .exact .inr (.inr z)
def qqk {ps:List Pz}(h:ps.Pairwise Aft){i:Nat}{p q:Pz}(b:ps[i]?=some p)(c:q∈ps.drop (i+1)):Aft p q:=by obtain⟨a,rfl⟩:=Ac.mp b;have z:=h.sublist (List.drop_sublist i ps);rw[Cf a]at z;exact(Bs.mp z).1 q c
def qxp {g:Int->Bool}{ps:List Pz}{s m b L d:Int}{i:Nat}{p:Pz}(ok:PsOk ps)(h:Go g ps s m i b L)(hp:ps[i]?=some p)(h1:b<=d)(h2:d<p.1):stl ps d=false:=by
 refine ql6 λq f=>?_;rcases qtq f hp with z|z|z
 .obtain⟨e,a,c⟩:=h.hp q z;obtain⟨F,o⟩:=q;simp only at a;subst a;rw[qei,decide_eq_false (show ¬d<=e by lia),Ck]
 .subst z;unfold inP;rw[decide_eq_false (show ¬q.1<=d by lia),CI]
 .obtain⟨e,a,c⟩:=qqk ok.srt hp z;have:=(ok.ok p (A2 hp)).2 e a;unfold inP;rw[decide_eq_false (show ¬q.1<=d by lia),CI]
noncomputable def cin (f:Int->Int)(b l:Int):Int:=if l<b then 0 else f (l+1)-f b
theorem qxq {f:Int->Int}{g:Int->Bool}{ps:List Pz}{s m b L:Int}{i:Nat}{p:Pz}(C:Cnt f g)(s0:0<=s)(ok:PsOk ps)(h:Go g ps s m i b L)(k:ps[i]?=some p) :
  0<=cin f b (p.1-1)/\∃B,b<=B/\p.1<=B/\(B=b\/B=p.1)/\cn (gst g ps) B=cn (gst g ps) b+cin f b (p.1-1):=by
 have hb:=h.hb;unfold cin;rw[show p.1-1+1=p.1 by lia];by_cases c:p.1-1<b
 .rw[if_pos c];exact⟨Bo _,b,Bo _,by lia,.inl Z,by lia⟩
 .rw[if_neg c];have z:=qow (qgw (gst g ps)) C (a:=b) (b:=p.1) (by lia) (by lia) λe j d=>by unfold gst;rw[qxp ok h k j d,Ep]
  have:=C.le (n:=b) (m:=p.1) (by lia) (by lia);exact⟨by lia,p.1,by lia,Bo _,.inr Z,by lia⟩
def go_fin {f:Int->Int}{g:Int->Bool}{ps:List Pz}{s m b L:Int}{i:Nat}{p:Pz}(C:Cnt f g)(s0:0<=s)(ok:PsOk ps)(h:Go g ps s m i b L)(e:ps[i]?=some p)(c:L<=cin f b (p.1-1)):Fin f g ps s m b L:=by
 have hb:=h.hb;have hL:=h.hL;refine⟨hb,hL,h.he,λd a h2=>qxp ok h e a ?_⟩;unfold cin at c;rw[show p.1-1+1=p.1 by lia]at c;by_cases z:p.1-1<b
 .rw[if_pos z]at c;lia
 .rw[if_neg z]at c;exact C.lt (by lia) (by lia)
def go_none {f:Int->Int}{g:Int->Bool}{ps:List Pz}{s m b L F:Int}{i:Nat}(C:Cnt f g)(p:0<=s)(ok:PsOk ps)(h:Go g ps s m i b L)(k:ps[i]?=some (F,none))(c:cin f b (F-1)<L):qm2 g ps s m none:=by
 have hb:=h.hb;have he:=h.he;have j:=A2 k;refine⟨⟨F,j⟩,λd hd=>?_⟩;obtain⟨c0,B,bB,o,_,e⟩:=qxq C p ok h k;simp only at o e;have l:=qgw (gst g ps);by_cases z:d<=B
 .have:=l.le (n:=d) (m:=B) (by lia) z;lia
 .have:=qxo l (a:=B) (b:=d) (by lia) (by lia) λx h1 h2=>by
   unfold gst
   rw[qov j (by rw[ql5];exact decide_eq_true (by lia)),Bool.or_true]
  lia
def go_next {f:Int->Int}{g:Int->Bool}{ps:List Pz}{s m b L F e:Int}{i:Nat}(C:Cnt f g)(r:0<=s)(ok:PsOk ps)(h:Go g ps s m i b L)(hp:ps[i]?=some (F,some e))(c:cin f b (F-1)<L):Go g ps s m (i+1) (if e+1 > b then e+1 else b) (L-cin f b (F-1)):=by
 have hb:=h.hb;have he:=h.he;have k:=A2 hp;have t:=(ok.ok _ k).2 e rfl;simp only at t;obtain⟨c0,B,bB,o,l,n⟩:=qxq C r ok h hp;simp only at o n l;have u:=qgw (gst g ps);have j:b<=(if e+1 > b then e+1 else b)/\e<(if e+1 > b then e+1 else b)/\B<=(if e+1 > b then e+1 else b)/\((if e+1 > b then e+1 else b)=e+1\/(if e+1 > b then e+1 else b)=B):=by split <;>lia
 generalize (if e+1 > b then e+1 else b)=b' at j |-;have:=qxo u (a:=B) (b:=b') (by lia) j.2.2.1 λx h1 h2=>by unfold gst;rw[qov k (by rw[qei,decide_eq_true (show F<=x by lia),decide_eq_true (show x<=e by lia)];rfl),Bool.or_true]
 refine⟨by lia,by lia,by lia,λp d=>?_⟩;rw[qcv hp]at d;rcases A7.mp d with z|z
 .obtain⟨x,q,x2⟩:=h.hp p z;exact⟨x,q,by lia⟩
 .rw[Ai.mp z];exact⟨e,Z,j.2.1⟩
def go_end {f:Int->Int}{g:Int->Bool}{ps:List Pz}{s m b L:Int}(h:Go g ps s m ps.length b L):Fin f g ps s m b L :=
 ⟨h.hb,h.hL,h.he,λd h1 _=>ql6 λq c=>by obtain⟨e,a,e2⟩:=h.hp q (by rw[Bw];exact c);obtain⟨F,o⟩:=q;simp only at a;subst a;rw[qei,decide_eq_false (show ¬d<=e by lia),Ck]⟩
def go_zero {g:Int->Bool}{ps:List Pz}{s m:Int}(b:1<=m):Go g ps s m 0 (s+1) m:=⟨Bo _,b,by lia,λp a=>by rw[D3]at a;cases a⟩
def qsa {g:Int->Bool}{ps:List Pz}{F:Int}(a:(F,none)∈ps){x:Int}(h:F<=x):gst g ps x=true:=by unfold gst;rw[qov a (by rw[ql5];exact decide_eq_true h),Bool.or_true]
theorem qxr {g:Int->Bool}{ps:List Pz}{F e:Int}(a:(F,some e)∈ps){x:Int}(h:F<=x)(h':x<=e):gst g ps x=true:=by unfold gst;rw[qov a (by rw[qei,decide_eq_true h,decide_eq_true h'];rfl),Bool.or_true]
noncomputable def oV:Option Int->V
 |some i=>.int i
 |none=>.non
noncomputable def qki (p:Pz):List V:=[.int p.1,oV p.2]
def AtQ (H:Hp)(p:Addr)(ps:List Pz):Prop:=∃us,H p=some (.lst us)/\Tups H us (ps.map qki)
def AtQ.same {H H':Hp}{p:Addr}{ps:List Pz}(h:AtQ H p ps)(s:Same H H'):AtQ H' p ps:=by obtain⟨us,b,a⟩:=h;exact⟨us,s _ _ b,a.same s⟩
def qql {ps:List Pz}{i:Nat}{t:List V}(h:(ps.map qki)[i]?=some t):∃p,ps[i]?=some p/\t=qki p:=by
 rw[Ag]at h;cases e:ps[i]? with|none=>rw[e]at h;cases h|some p=>rw[e]at h;exact⟨p,Z,(AD h).symm⟩
def spFullD (a:Adr):Sp:=λvs H Q _=>∃(x pq:Addr)(i:Three)(s u:Int)(bs:List Bool)(rs:List Rw)(ps:List Pz),vs=[.ref x,.int s,.int u,.ref pq]/\KindAt a H x i bs rs/\TabOk bs rs/\AtQ H pq ps/\PsOk ps/\0<=s/\1<=u /\
 ∀(H':Hp)(r:Option Int),Same H H'->qm2 (kf bs rs i) ps s (qcl u (7*u) u i) r->Q (oV r) H'
theorem qqm {u:Int}(h:1<=u):∀i:Three,1<=qcl u (7*u) u i
 |.a=>h
 |.b=>by show 1<=7*u;lia
 |.c=>h
def Fnt (ps:List Pz):Prop:=∀p∈ps,∃e,p.2=some e
def fit1 (x:V):[x].length<=A5:=qdd (show 1<=100000 by decide)
theorem qqn {H:Hp}:∀{us:List V}{as:List (List V)}{b:List V},Tups H us (as++[b])->∃vs c,us=vs++[.ref c]/\H c=some (.tup b)/\Tups H vs as
 |_,[],b,.cons h .nil=>⟨[],_,Z,h,.nil⟩
 |_,a::as,b,.cons h t=>by obtain⟨vs,c,e,f,d⟩:=qqn (as:=as) t;exact⟨_::vs,c,by rw[e];rfl,f,.cons h d⟩
def qn0 {H:Hp}{us:List V}{a:List Pz}{p:Pz}(t:Tups H us ((a++[p]).map qki)):∃vs c,us=vs++[.ref c]/\H c=some (.tup (qki p))/\Tups H vs (a.map qki):=by rw[Ar]at t;exact qqn t
theorem qks (us:List V)(x:V):atI (us++[x]) (-1)=some x:=by unfold atI;rw[qte,Option.bind_some,List.getElem?_concat_length]
def Due (g:Int->Bool)(ps:List Pz)(full:Int):Option Int->Prop
 |some d=>full<=d/\gst g ps d=false/\∀e,full<=e->e<d->gst g ps e=true
 |none=>(∃F,(F,none)∈ps)/\∀e,full<=e->gst g ps e=true
theorem qxs {g:Int->Bool}{ps:List Pz}{a:Int}{r b:Option Int}(h:Due g ps a r)(h':Due g ps a b):r=b:=by
 cases r with
 |none =>
  cases b with|none=>rfl|some d=>have:=h.2 d h'.1;rw[h'.2.1]at this;cases this
 |some d =>
  cases b with
  |none=>have:=h'.2 d h.1;rw[h.2.1]at this;cases this
  |some e =>
   rcases (by lia:d<e\/d=e\/e<d) with z|z|z
   .have:=h'.2.2 d h.1 z;rw[h.2.1]at this;cases this
   .rw[z]
   .have:=h.2.2 e h'.1 z;rw[h'.2.1]at this;cases this
structure Gd (g:Int->Bool)(ps:List Pz)(full:Int)(j:Nat)(t:Int):Prop where
 hf:full<=t
 hg:g t=false
 hh:∀e,full<=e->e<t->gst g ps e=true
 hp:∀p∈ps.take j,∃e,p.2=some e/\e<t
def qxt {g:Int->Bool}{ps:List Pz}{e:Int}(h:g e=true):gst g ps e=true:=by unfold gst;rw[h,Bool.true_or]
def gd_zero {f:Int->Int}{g:Int->Bool}{ps:List Pz}{a t:Int}(C:Cnt f g)(h:0<=a)(i:0<=t)(b:g t=false)(j:f t=f a):Gd g ps a 0 t :=
 ⟨C.ge i b (by lia),b,λe k d=>qxt (C.free h j k d),λp c=>by rw[D3]at c;cases c⟩
def gd_not {g:Int->Bool}{ps:List Pz}{a t:Int}{j:Nat}{p:Pz}(ok:PsOk ps)(h:Gd g ps a j t)(hp:ps[j]?=some p)(c:t<p.1):Due g ps a (some t):=by
 refine⟨h.hf,?_,h.hh⟩;unfold gst;rw[h.hg,DH];refine ql6 λq f=>?_;rcases qtq f hp with z|z|z
 .obtain⟨e,b,d⟩:=h.hp q z;obtain⟨F,o⟩:=q;simp only at b;subst b;rw[qei,decide_eq_false (show ¬t<=e by lia),Ck]
 .subst z;unfold inP;rw[decide_eq_false (by lia),CI]
 .obtain⟨e,b,d⟩:=qqk ok.srt hp z;have:=(ok.ok p (A2 hp)).2 e b;unfold inP;rw[decide_eq_false (by lia),CI]
def gd_none {g:Int->Bool}{ps:List Pz}{a t F:Int}{j:Nat}(h:Gd g ps a j t)(f:ps[j]?=some (F,none))(c:F<=t):Due g ps a none:=by
 have b:=A2 f;refine⟨⟨F,b⟩,λe d=>?_⟩;by_cases z:e<t
 .exact h.hh e d z
 .exact qsa b (by lia)
def gd_over {g:Int->Bool}{ps:List Pz}{a t F e:Int}{j:Nat}(h:Gd g ps a j t)(hp:ps[j]?=some (F,some e))(c:e<t):Gd g ps a (j+1) t :=
 ⟨h.hf,h.hg,h.hh,λp b=>by
  rw[qcv hp]at b;rcases A7.mp b with z|z
  .exact h.hp p z
  .rw[Ai.mp z];exact⟨e,Z,c⟩⟩
def gd_leap {f:Int->Int}{g:Int->Bool}{ps:List Pz}{a t F e t':Int}{j:Nat}(C:Cnt f g)(f0:0<=a)(h:Gd g ps a j t)(hp:ps[j]?=some (F,some e))(c1:F<=t)(c2:t<=e)(o:0<=t')(c:g t'=false)(q:f t'=f (e+1)):Gd g ps a (j+1) t':=by
 have l:=A2 hp;have hf:=h.hf;have ge:e+1<=t':=C.ge o c (by lia);refine⟨by lia,c,λx m i=>?_,λp b=>?_⟩
 .by_cases z:x<t
  .exact h.hh x m z
  .by_cases d:x<=e
   .exact qxr l (by lia) d
   .exact qxt (C.free (n:=e+1) (by lia) q (by lia) i)
 .rw[qcv hp]at b;rcases A7.mp b with z|z
  .obtain⟨x,k,x2⟩:=h.hp p z;exact⟨x,k,by lia⟩
  .rw[Ai.mp z];exact⟨e,Z,by lia⟩
def gd_end {g:Int->Bool}{ps:List Pz}{a t:Int}(h:Gd g ps a ps.length t):Due g ps a (some t):=by refine⟨h.hf,?_,h.hh⟩;unfold gst;rw[h.hg,DH];refine ql6 λq c=>?_;obtain⟨e,b,e2⟩:=h.hp q (by rw[Bw];exact c);obtain⟨F,o⟩:=q;simp only at b;subst b;rw[qei,decide_eq_false (show ¬t<=e by lia),Ck]
def Lst (g tf:Int->Bool)(ps:List Pz)(s m:Int)(r:Option Int):Prop:=(qm2 g ps s m none/\r=none) \/ ∃f,qm2 g ps s m (some f)/\Due tf ps f r
def spFDue (a:Adr):Sp:=λvs H Q _=>∃(tb pq:Addr)(d:Int)(bs:List Bool)(rs:List Rw)(ps:List Pz),vs=[.ref tb,.int d,.ref pq]/\TabAt a.kK a.kI H tb bs rs/\TabOk bs rs/\AtQ H pq ps/\PsOk ps/\0<=d/\∀(H':Hp)(r:Option Int),Same H H'->Due (tfr bs rs) ps d r->Q (oV r) H'
def spLastD (a:Adr):Sp:=λvs H Q _=>∃(x pq:Addr)(i:Three)(s u:Int)(bs:List Bool)(rs:List Rw)(ps:List Pz),vs=[.ref x,.int s,.int u,.ref pq]/\KindAt a H x i bs rs/\TabOk bs rs/\AtQ H pq ps/\PsOk ps/\0<=s/\1<=u /\
 ∀(H':Hp)(r:Option Int),Same H H'->Lst (kf bs rs i) (tfr bs rs) ps s (qcl u (7*u) u i) r->Q (oV r) H'
def qxu {g e:Int->Bool}{ps:List Pz}{s m:Int}{r i:Option Int}(c:0<=s)(h:Lst g e ps s m r)(h':Lst g e ps s m i):r=i:=by
 rcases h with ⟨b,rfl⟩|⟨f,b,j⟩
 .rcases h' with ⟨_,rfl⟩|⟨f',a,_⟩
  .rfl
  .cases qjt c b a
 .rcases h' with ⟨a,rfl⟩|⟨f',a,d⟩
  .cases qjt c b a
  .cases qjt c b a;exact qxs j d
def qff (x:Str)(xs:List Str):inV (.str x) (xs.map V.str)=xs.contains x:=by
 unfold inV;rw[List.any_map,List.contains_eq_any_beq]
 congr 1
 funext y;show (y == x)=(x == y);rw[CA,beq_iff_eq,beq_iff_eq];exact eq_comm
theorem qd1 (xs:List Str):(xs.map V.str).all qb2=true:=by rw[List.all_map];exact C4.mpr λ_ _=>rfl
noncomputable abbrev rlF (nm w o op b m u s pe pa pl py:V):List (Str×V):=[(Aa "name",nm),(Aa "who",w),(Aa "owes",o),(Aa "opens",op),(Aa "base",b),(Aa "many",m),(Aa "unit",u),(Aa "still",s),(Aa "ends",pe),(Aa "anew",pa),(Aa "longer",pl),(Aa "yields",py)]
noncomputable abbrev rnF (rl cn pr ov dy b un pp pg:V):List (Str×V):=[(Aa "rule",rl),(Aa "counting",cn),(Aa "rows",pr),(Aa "over",ov),(Aa "day",dy),(Aa "base",b),(Aa "units",un),(Aa "pauses",pp),(Aa "grants",pg)]
noncomputable abbrev rn1 (a1:V):List (Str×V):=[(Aa "rule",a1)]
noncomputable abbrev rn2 (a1 a2:V):List (Str×V):=rn1 a1++[(Aa "counting",a2)]
noncomputable abbrev rn3 (a1 a2 a3:V):List (Str×V):=rn2 a1 a2++[(Aa "rows",a3)]
noncomputable abbrev rn4 (a1 a2 a3 a4:V):List (Str×V):=rn3 a1 a2 a3++[(Aa "over",a4)]
noncomputable abbrev rn5 (a1 a2 a3 a4 a5:V):List (Str×V):=rn4 a1 a2 a3 a4++[(Aa "day",a5)]
noncomputable abbrev rn6 (a1 a2 a3 a4 a5 a6:V):List (Str×V):=rn5 a1 a2 a3 a4 a5++[(Aa "base",a6)]
noncomputable abbrev rn7 (a1 a2 a3 a4 a5 a6 a7:V):List (Str×V):=rn6 a1 a2 a3 a4 a5 a6++[(Aa "units",a7)]
noncomputable abbrev rn8 (a1 a2 a3 a4 a5 a6 a7 a8:V):List (Str×V):=rn7 a1 a2 a3 a4 a5 a6 a7++[(Aa "pauses",a8)]
noncomputable abbrev rn9 (a1 a2 a3 a4 a5 a6 a7 a8 a9:V):List (Str×V):=rn8 a1 a2 a3 a4 a5 a6 a7 a8++[(Aa "grants",a9)]
noncomputable abbrev rq1 (a1:V):List (Str×V):=[(Aa "name",a1)]
noncomputable abbrev rq2 (a1 a2:V):List (Str×V):=rq1 a1++[(Aa "who",a2)]
noncomputable abbrev rq3 (a1 a2 a3:V):List (Str×V):=rq2 a1 a2++[(Aa "owes",a3)]
noncomputable abbrev rq4 (a1 a2 a3 a4:V):List (Str×V):=rq3 a1 a2 a3++[(Aa "opens",a4)]
noncomputable abbrev rq5 (a1 a2 a3 a4 a5:V):List (Str×V):=rq4 a1 a2 a3 a4++[(Aa "base",a5)]
noncomputable abbrev rq6 (a1 a2 a3 a4 a5 a6:V):List (Str×V):=rq5 a1 a2 a3 a4 a5++[(Aa "many",a6)]
noncomputable abbrev rq7 (a1 a2 a3 a4 a5 a6 a7:V):List (Str×V):=rq6 a1 a2 a3 a4 a5 a6++[(Aa "unit",a7)]
noncomputable abbrev rq8 (a1 a2 a3 a4 a5 a6 a7 a8:V):List (Str×V):=rq7 a1 a2 a3 a4 a5 a6 a7++[(Aa "still",a8)]
noncomputable abbrev rq9 (a1 a2 a3 a4 a5 a6 a7 a8 a9:V):List (Str×V):=rq8 a1 a2 a3 a4 a5 a6 a7 a8++[(Aa "ends",a9)]
noncomputable abbrev qsb (a1 a2 a3 a4 a5 a6 a7 a8 a9 a10:V):List (Str×V):=rq9 a1 a2 a3 a4 a5 a6 a7 a8 a9++[(Aa "anew",a10)]
noncomputable abbrev qqo (a1 a2 a3 a4 a5 a6 a7 a8 a9 a10 a11:V):List (Str×V):=qsb a1 a2 a3 a4 a5 a6 a7 a8 a9 a10++[(Aa "longer",a11)]
noncomputable abbrev qsc (a1 a2 a3 a4 a5 a6 a7 a8 a9 a10 a11 a12:V):List (Str×V):=qqo a1 a2 a3 a4 a5 a6 a7 a8 a9 a10 a11++[(Aa "yields",a12)]
noncomputable abbrev R3:=Str×Int×Str
noncomputable def qsd (r:R3):List V:=[.str r.1,.int r.2.1,.str r.2.2]
noncomputable def qqp (r:Str×Int×Int):List V:=[.str r.1,.int r.2.1,.int r.2.2]
structure RD where
 owes:Str
 ends:List Str
 anew:List Str
 longer:List (Str×Int×Int)
 still:Option (Str×Str)
 many:Int
 unit:Three
structure RdOk (rd:RD):Prop where
 m1:1<=rd.many
 l:rd.longer.length<=100
 e:rd.ends.length<=100
 a:rd.anew.length<=100
 u:∀t∈rd.longer,0<=t.2.1
def StAt (H:Hp)(v:V):Option (Str×Str)->Prop
 |none=>v=.non
 |some s=>∃p,v=.ref p/\H p=some (.tup [.str s.1,.str s.2])
theorem StAt.same {H H':Hp}{v:V}{o:Option (Str×Str)}(h:StAt H v o)(z:Same H H'):StAt H' v o:=by
 cases o with
 |none=>exact h
 |some s=>obtain⟨p,b,a⟩:=h;exact⟨p,b,z _ _ a⟩
def RuleAt (a:Adr)(H:Hp)(rl:Addr)(rd:RD):Prop:=∃(dx pe pa pl:Addr)(nm w op b s py:V)(us:List V),H rl=some (.ins a.kE dx (rlF nm w (.str rd.owes) op b (.int rd.many) (.str (qj9 rd.unit)) s (.ref pe) (.ref pa) (.ref pl) py))/\StAt H s rd.still/\H pe=some (.lst (rd.ends.map V.str))/\H pa=some (.lst (rd.anew.map V.str))/\H pl=some (.lst us)/\Tups H us (rd.longer.map qqp)
theorem RuleAt.same {a:Adr}{H H':Hp}{c:Addr}{rd:RD}(h:RuleAt a H c rd)(z:Same H H'):RuleAt a H' c rd:=by obtain⟨i,d,e,pl,nm,w,op,b,s,l,us,k,f,n,j,m,g⟩:=h;exact⟨i,d,e,pl,nm,w,op,b,s,l,us,z _ _ k,f.same z,z _ _ n,z _ _ j,z _ _ m,g.same z⟩
noncomputable def qqq (o:Option (Str×Str))(k:Str):Str:=match o with
 |none=>Aa ""
 |some s=>if k=s.1 then Aa "still" else if k=s.2 then Aa "goes on" else Aa ""
noncomputable def qbj (rd:RD)(k:Str):Str:=if k=rd.owes\/rd.ends.contains k=true then Aa "ends" else if rd.anew.contains k=true then Aa "anew" else if (rd.longer.map (·.1)).contains k=true then Aa "longer" else qqq rd.still k
structure RS where
 rows:List R3
 over:Bool
 day:Int
 units:Int
 ps:List Pz
 gr:List (Key×V)
 bv:V
noncomputable def gv (gr:List (Key×V))(k:Str):Int:=match qbh gr (.inr k) with
 |some (.int n)=>n
 |_=>0
structure StOk (st:RS)(c:Int):Prop where
 ps:PsOk st.ps
 d0:0<=st.day
 u1:1<=st.units
 pl:st.ps.length<=st.rows.length
 rl:st.rows.length<=400
 gl:st.gr.length<=st.rows.length
 gi:∀k v,qbh st.gr k=some v->∃n:Int,v=.int n
 cu:∀p∈st.ps,∀e,p.2=some e->e<c
 r0:st.rows≠[]
noncomputable def need (i:Three)(u:Int):Int:=qcl u (7*u) u i
structure RunX (a:Adr)(B H:Hp)(x dx rl cn pr pp pg:Addr)(ur up:List V)(rd:RD)(st:RS)(bs:List Bool)(rs:List Rw):Prop where
 ne:pr≠pp
 hx:H x=some (.ins a.kA dx (rnF (.ref rl) (.ref cn) (.ref pr) (.bl st.over) (.int st.day) st.bv (.int st.units) (.ref pp) (.ref pg)))
 hr:H pr=some (.lst ur)
 tr:Tups H ur (st.rows.map qsd)
 hp:H pp=some (.lst up)
 tp:Tups H up (st.ps.map qki)
 hg:H pg=some (.dK st.gr)
 rl:RuleAt a B rl rd
 kd:KindAt a B cn rd.unit bs rs
 sm:Same B H
 bx:B x=none
 br:B pr=none
 bp:B pp=none
 bg:B pg=none
def RunAt (a:Adr)(B H:Hp)(x:Addr)(S:List Addr)(rd:RD)(st:RS)(bs:List Bool)(rs:List Rw):Prop:=∃(dx rl cn pr pp pg:Addr)(ur up:List V),S=[x,pr,pp,pg]/\RunX a B H x dx rl cn pr pp pg ur up rd st bs rs
def qit {H:Hp}{x p C a:Addr}{fs:List (Str×V)}{l:List V}(h:H x=some (.ins C a fs))(h':H p=some (.lst l)):x≠p:=λz=>by rw[z,h']at h;cases h
def ne_id {H:Hp}{x p C a:Addr}{fs:List (Str×V)}{l:List (Key×V)}(h:H x=some (.ins C a fs))(h':H p=some (.dK l)):x≠p:=λz=>by rw[z,h']at h;cases h
def qtr {H:Hp}{x p:Addr}{fs:List V}{l:List (Key×V)}(h:H x=some (.lst fs))(h':H p=some (.dK l)):x≠p:=λz=>by rw[z,h']at h;cases h
theorem qqr {H:Hp}{us:List V}{ts:List (List V)}{x C a:Addr}{fs:List (Str×V)}{o:HO}(t:Tups H us ts)(h:H x=some (.ins C a fs)):Tups (upd H x o) us ts:=by
 induction t with
 |nil=>exact .nil
 |cons e _ ih=>exact .cons ((qr λz=>by rw[z,h]at e;cases e).trans e) ih
theorem qqs {H:Hp}{us:List V}{ts:List (List V)}{x:Addr}{l:List (Key×V)}{o:HO}(t:Tups H us ts)(h:H x=some (.dK l)):Tups (upd H x o) us ts:=by
 induction t with
 |nil=>exact .nil
 |cons e _ ih=>exact .cons ((qr λz=>by rw[z,h]at e;cases e).trans e) ih
section
variable {a:Adr}{B H H':Hp}{x dx rl cn pr pp pg:Addr}{ur up:List V}{rd:RD}{st:RS}{bs:List Bool}{rs:List Rw}
def RunX.same (h:RunX a B H x dx rl cn pr pp pg ur up rd st bs rs)(z:Same H H'):RunX a B H' x dx rl cn pr pp pg ur up rd st bs rs :=
 ⟨h.ne,z _ _ h.hx,z _ _ h.hr,h.tr.same z,z _ _ h.hp,h.tp.same z,z _ _ h.hg,h.rl,h.kd,h.sm.trans z,h.bx,h.br,h.bp,h.bg⟩
def RunX.setP (h:RunX a B H x dx rl cn pr pp pg ur up rd st bs rs){up':List V}{ps':List Pz}(t:Tups H up' (ps'.map qki)):RunX a B (upd H pp (.lst up')) x dx rl cn pr pp pg ur up' rd {st with ps:=ps'} bs rs :=
 ⟨h.ne,(qr (qit h.hx h.hp)).trans h.hx,(qr h.ne).trans h.hr,h.tr.upd h.hp,qk,t.upd h.hp,(qr (By (qtr h.hp h.hg))).trans h.hg,h.rl,h.kd,qai h.sm h.bp,h.bx,h.br,h.bp,h.bg⟩
def RunX.setR (h:RunX a B H x dx rl cn pr pp pg ur up rd st bs rs){ur':List V}{rows':List R3}(t:Tups H ur' (rows'.map qsd)):RunX a B (upd H pr (.lst ur')) x dx rl cn pr pp pg ur' up rd {st with rows:=rows'} bs rs :=
 ⟨h.ne,(qr (qit h.hx h.hr)).trans h.hx,qk,t.upd h.hr,(qr (By h.ne)).trans h.hp,h.tp.upd h.hr,(qr (By (qtr h.hr h.hg))).trans h.hg,h.rl,h.kd,qai h.sm h.br,h.bx,h.br,h.bp,h.bg⟩
def RunX.setG (h:RunX a B H x dx rl cn pr pp pg ur up rd st bs rs){gr':List (Key×V)}:RunX a B (upd H pg (.dK gr')) x dx rl cn pr pp pg ur up rd {st with gr:=gr'} bs rs :=
 ⟨h.ne,(qr (ne_id h.hx h.hg)).trans h.hx,(qr (qtr h.hr h.hg)).trans h.hr,qqs h.tr h.hg,(qr (qtr h.hp h.hg)).trans h.hp,qqs h.tp h.hg,qk,h.rl,h.kd,qai h.sm h.bg,h.bx,h.br,h.bp,h.bg⟩
def RunX.setF (h:RunX a B H x dx rl cn pr pp pg ur up rd st bs rs){o':Bool}{u':Int}:RunX a B (upd H x (.ins a.kA dx (rnF (.ref rl) (.ref cn) (.ref pr) (.bl o') (.int st.day) st.bv (.int u') (.ref pp) (.ref pg)))) x dx rl cn pr pp pg ur up rd {st with over:=o',units:=u'} bs rs :=
 ⟨h.ne,qk,(qr (By (qit h.hx h.hr))).trans h.hr,qqr h.tr h.hx,(qr (By (qit h.hx h.hp))).trans h.hp,qqr h.tp h.hx,(qr (By (ne_id h.hx h.hg))).trans h.hg,h.rl,h.kd,qai h.sm h.bx,h.bx,h.br,h.bp,h.bg⟩
end
def KeepS (S:List Addr)(H H':Hp):Prop:=∀b o,b∉S->H b=some o->H' b=some o
def KeepS.of {S:List Addr}{H H':Hp}(s:Same H H'):KeepS S H H':=λb o _ e=>s b o e
def Fresh (H:Hp)(S S':List Addr):Prop:=∀b∈S',b∈S\/H b=none
def Fresh.refl {H:Hp}{S:List Addr}:Fresh H S S:=λ_ h=>.inl h
def KeepS.trans {S c:List Addr}{H d a:Hp}(h:KeepS S H d)(f:Fresh H S c)(g:KeepS c d a):KeepS S H a:=λb o n e=>g b o (λm=>by
 rcases f b m with z|z
 .exact n z
 .rw[z]at e;cases e) (h b o n e)
def RunAt.same {a:Adr}{B H H':Hp}{x:Addr}{S:List Addr}{rd:RD}{st:RS}{bs:List Bool}{rs:List Rw}(h:RunAt a B H x S rd st bs rs)(z:Same H H'):RunAt a B H' x S rd st bs rs:=by obtain⟨f,b,cn,d,i,c,e,g,j,h⟩:=h;exact⟨f,b,cn,d,i,c,e,g,j,h.same z⟩
theorem qej {S:List Addr}{H:Hp}{p:Addr}{o:HO}(h:p∈S):KeepS S H (upd H p o):=λb u n e=>by rw[qr (λz:b=p=>n (by rw[z];exact h))];exact e
noncomputable def qa2 (ps:List Pz):Bool:=match ps.getLast? with
 |some (_,none)=>true
 |_=>false
noncomputable def ql7 (ps:List Pz)(d:Int):List Pz:=match ps.getLast? with
 |some (F,none)=>ps.dropLast++(if F<d then [(F,some (d-1))] else [])
 |_=>ps
noncomputable def under (s r:Option Int)(d:Int):Bool:=match s with|none=>false|some s=>decide (s<d) && (match r with|none=>true|some l=>decide (d<=l))
noncomputable def qse (rd:RD)(gr:List (Key×V))(k:Str):Option (Str×Int×Int):=rd.longer.find? λt=>decide (t.1=k) && decide (gv gr k<t.2.2)
noncomputable def qbk (rd:RD)(st:RS)(s r:Option Int)(w:Str)(d:Int)(k:Str):Option RS :=
 if w=Aa "ends" then some {st with ps:=ql7 st.ps d,over:=true}
 else if under s r d=false then none
 else if w=Aa "anew" then some {st with day:=d,units:=rd.many,ps:=[],gr:=[],bv:=.non}
 else if w=Aa "longer" then (match qse rd st.gr k with|none=>none|some t=>some {st with units:=st.units+t.2.1,gr:=qc2 st.gr (.inr k) (.int (gv st.gr k+1))})
 else if w=Aa "still" then (if qa2 st.ps=true then none else some {st with ps:=st.ps++[(d,none)]})
 else (if qa2 st.ps=true then some {st with ps:=ql7 st.ps d} else none)
noncomputable def qcc (rd:RD)(st:RS)(s r:Option Int)(n:Str)(d:Int)(k:Str):RS×Bool :=
 if qbj rd k=Aa "" \/ st.over=true then (st,false)
 else match qbk rd st s r (qbj rd k) d k with
  |none=>(st,false)
  |some s=>({s with rows:=s.rows++[(n,d,qbj rd k)]},true)
def qxv (a:Adr):Sp:=λvs H Q _=>∃(x dx:Addr)(nm w o op b m u s:V),vs=[.ref x,nm,w,o,op,b,m,u,s]/\H x=some (.ins a.kE dx []) /\
 ∀(H':Hp)(pe pa pl py:Addr),SameBut x H H'->H pe=none->H pa=none->H pl=none->H' x=some (.ins a.kE dx (rlF nm w o op b m u s (.ref pe) (.ref pa) (.ref pl) (.ref py)))->H' pe=some (.lst [])->H' pa=some (.lst [])->H' pl=some (.lst [])->pe≠pl->pa≠pl->pe≠pa->Q .non H'
def spStl (a:Adr):Sp:=λvs H Q _=>∃(rl:Addr)(k:Str)(rd:RD),vs=[.ref rl,.str k]/\RuleAt a H rl rd/\Q (.str (qqq rd.still k)) H
def spRole (a:Adr):Sp:=λvs H Q _=>∃(rl:Addr)(k:Str)(rd:RD),vs=[.ref rl,.str k]/\RuleAt a H rl rd/\RdOk rd/\∀H',Same H H'->Q (.str (qbj rd k)) H'
theorem qxw {H:Hp}{x e d c:Addr}(i:H x=none)(f:H e=none)(h:H d=none)(g:H c=none):∀b∈[x,e,d,c],H b=none:=λb a=>by
 rcases Av.mp a with z|a
 .rw[z];exact i
 .rcases Av.mp a with z|a
  .rw[z];exact f
  .rcases Av.mp a with z|a
   .rw[z];exact h
   .rw[Ai.mp a];exact g
def spSetO (a:Adr):Sp:=λvs H Q _=>∃(x dx rl:Addr)(cn pr ov bb:V)(fs:List (Str×V))(d:Int)(rd:RD),vs=[.ref x,.int d,bb]/\H x=some (.ins a.kA dx fs)/\(fs=[(Aa "rule",.ref rl),(Aa "counting",cn),(Aa "rows",pr),(Aa "over",ov)] \/ ∃dy b un pp pg,fs=rnF (.ref rl) cn pr ov dy b un pp pg)/\RuleAt a H rl rd/\rl≠x /\
 ∀(H':Hp)(pp pg:Addr),SameBut x H H'->H pp=none->H pg=none->H' x=some (.ins a.kA dx (rnF (.ref rl) cn pr ov (.int d) bb (.int rd.many) (.ref pp) (.ref pg)))->H' pp=some (.lst [])->H' pg=some (.dK [])->Q .non H'
def qxx (a:Adr):Sp:=λvs H Q _=>∃(x dx rl tb:Addr)(n:Str)(d:Int)(rd:RD)(bs:List Bool)(rs:List Rw)(Hb:Hp)(bb:V),vs=[.ref x,.ref rl,.ref tb,.str n,.int d,bb]/\H x=some (.ins a.kA dx [])/\Same Hb H/\Hb x=none/\RuleAt a Hb rl rd/\TabAt a.kK a.kI Hb tb bs rs /\
 ∀(H':Hp)(S:List Addr)(cn:Addr)(o:HO),SameBut x H H'->(∀b∈S,b=x\/H b=none)->x∈S->H cn=none->cn∉S->RunAt a (upd Hb cn o) H' x S rd ⟨[(n,d,Aa "begins")],false,d,rd.many,[],[],bb⟩ bs rs->Q .non H'
def LsS (bs:List Bool)(rs:List Rw)(rd:RD)(st:RS):Option Int->Option Int->Prop
 |none,r=>r=none
 |some d,r=>Lst (kf bs rs rd.unit) (tfr bs rs) st.ps d (need rd.unit st.units) r
def BaseAt (a:Adr):Nat->Hp->V->Int->Option Int->Prop
 |0,_,v,d,s=>v=.non/\s=some d
 |n+1,H,v,d,s=>(v=.non/\s=some d) \/ ∃(x:Addr)(B:Hp)(S:List Addr)(rd:RD)(st:RS)(bs:List Bool)(rs:List Rw)(c:Int)(s':Option Int),v=.ref x/\RunAt a B H x S rd st bs rs/\TabOk bs rs/\StOk st c/\BaseAt a n H st.bv st.day s'/\LsS bs rs rd st s' s
noncomputable abbrev nB:Nat:=3
theorem BaseAt.same {a:Adr}{H H':Hp}(z:Same H H'):∀{n:Nat}{v:V}{d:Int}{s:Option Int},BaseAt a n H v d s->BaseAt a n H' v d s
 |0,_,_,_,h=>h
 |n+1,_,_,_,h=>by
  rcases h with h|⟨x,B,S,rd,st,bs,rs,c,b,i,e,k,g,j,f⟩
  .exact .inl h
  .exact .inr ⟨x,B,S,rd,st,bs,rs,c,b,i,e.same z,k,g,j.same z,f⟩
def qxy {g b:Int->Bool}{ps:List Pz}{s m l:Int}(h:Lst g b ps s m (some l)):s<l:=by
 rcases h with ⟨_,h⟩|⟨f,c,a⟩
 .cases h
 .have:=c.1;have:=a.1;lia
theorem qdk {a:Adr}{H:Hp}:∀{n:Nat}{v:V}{d x:Int},BaseAt a n H v d (some x)->0<=d->0<=x
 |0,_,_,_,h,hd=>by cases h.2;exact hd
 |n+1,_,_,_,h,hd=>by
  rcases h with h|⟨y,B,S,rd,st,bs,rs,c,e,h1,h2,h3,f,g,b⟩
  .cases h.2;exact hd
  .cases e with
   |none=>cases b
   |some z =>have:=qdk g f.d0;have:=qxy b;lia
def qfg {bs:List Bool}{rs:List Rw}{rd:RD}{st:RS}{s r a:Option Int}(b:∀x,s=some x->0<=x)(h:LsS bs rs rd st s r)(h':LsS bs rs rd st s a):r=a:=by
 cases s with|none=>rw[h,h']|some d=>exact qxu (b d Z) h h'
def spSt (a:Adr)(n:Nat):Sp:=λvs H Q _=>∃(x:Addr)(B:Hp)(S:List Addr)(rd:RD)(st:RS)(bs:List Bool)(rs:List Rw)(s:Option Int),vs=[.ref x]/\RunAt a B H x S rd st bs rs/\BaseAt a n H st.bv st.day s/\∀H',Same H H'->Q (oV s) H'
def spOvr (a:Adr):Sp:=λvs H Q _=>∃(x:Addr)(B:Hp)(S:List Addr)(rd:RD)(st:RS)(bs:List Bool)(rs:List Rw),vs=[.ref x]/\RunAt a B H x S rd st bs rs/\Q (.bl st.over) H
def spHl (a:Adr):Sp:=λvs H Q _=>∃(x:Addr)(B:Hp)(S:List Addr)(rd:RD)(st:RS)(bs:List Bool)(rs:List Rw),vs=[.ref x]/\RunAt a B H x S rd st bs rs/\Q (.bl (qa2 st.ps)) H
def spLt (a:Adr)(n:Nat):Sp:=λvs H Q _=>∃(x:Addr)(B:Hp)(S:List Addr)(rd:RD)(st:RS)(bs:List Bool)(rs:List Rw)(c:Int)(s:Option Int),vs=[.ref x]/\RunAt a B H x S rd st bs rs/\TabOk bs rs/\StOk st c/\BaseAt a n H st.bv st.day s/\∀(H':Hp)(r:Option Int),Same H H'->LsS bs rs rd st s r->Q (oV r) H'
def spUw (a:Adr):Sp:=λvs H Q _=>∃(x:Addr)(B:Hp)(S:List Addr)(rd:RD)(st:RS)(bs:List Bool)(rs:List Rw)(c d:Int)(s r:Option Int),vs=[.ref x,.int d]/\RunAt a B H x S rd st bs rs/\TabOk bs rs/\StOk st c/\BaseAt a nB H st.bv st.day s/\LsS bs rs rd st s r/\∀H',Same H H'->Q (.bl (under s r d)) H'
def spGo (a:Adr):Sp:=λvs H Q _=>∃(x:Addr)(B:Hp)(S:List Addr)(rd:RD)(st:RS)(bs:List Bool)(rs:List Rw)(c d:Int),vs=[.ref x,.int d]/\RunAt a B H x S rd st bs rs/\StOk st c/\∀H',KeepS S H H'->RunAt a B H' x S rd {st with ps:=ql7 st.ps d} bs rs->Q (.bl (qa2 st.ps)) H'
def spFi (a:Adr):Sp:=λvs H Q _=>∃(x:Addr)(B:Hp)(S:List Addr)(rd:RD)(st:RS)(bs:List Bool)(rs:List Rw)(c d:Int),vs=[.ref x,.int d]/\RunAt a B H x S rd st bs rs/\StOk st c/\∀H',KeepS S H H'->RunAt a B H' x S rd {st with ps:=ql7 st.ps d,over:=true} bs rs->Q (.bl true) H'
def spAn (a:Adr):Sp:=λvs H Q _=>∃(x:Addr)(B:Hp)(S:List Addr)(rd:RD)(st:RS)(bs:List Bool)(rs:List Rw)(d:Int),vs=[.ref x,.int d]/\RunAt a B H x S rd st bs rs/\∀H' S',KeepS S H H'->Fresh H S S'->RunAt a B H' x S' rd {st with day:=d,units:=rd.many,ps:=[],gr:=[],bv:=.non} bs rs->Q (.bl true) H'
def spLe (a:Adr):Sp:=λvs H Q _=>∃(x:Addr)(B:Hp)(S:List Addr)(rd:RD)(st:RS)(bs:List Bool)(rs:List Rw)(c:Int)(k:Str),vs=[.ref x,.str k]/\RunAt a B H x S rd st bs rs/\StOk st c/\(qse rd st.gr k=none->Q (.bl false) H) /\
 ∀H' t,KeepS S H H'->qse rd st.gr k=some t->RunAt a B H' x S rd {st with units:=st.units+t.2.1,gr:=qc2 st.gr (.inr k) (.int (gv st.gr k+1))} bs rs->Q (.bl true) H'
def spHa (a:Adr):Sp:=λvs H Q _=>∃(x:Addr)(B:Hp)(S:List Addr)(rd:RD)(st:RS)(bs:List Bool)(rs:List Rw)(c d:Int),vs=[.ref x,.int d]/\RunAt a B H x S rd st bs rs/\StOk st c/\(qa2 st.ps=true->Q (.bl false) H)/\∀H',KeepS S H H'->qa2 st.ps=false->RunAt a B H' x S rd {st with ps:=st.ps++[(d,none)]} bs rs->Q (.bl true) H'
def spWk (a:Adr):Sp:=λvs H Q _=>∃(x:Addr)(B:Hp)(S:List Addr)(rd:RD)(st:RS)(bs:List Bool)(rs:List Rw)(c d:Int)(w k:Str)(s r:Option Int),vs=[.ref x,.str w,.int d,.str k]/\RunAt a B H x S rd st bs rs/\TabOk bs rs/\StOk st c/\BaseAt a nB H st.bv st.day s/\LsS bs rs rd st s r /\
 ∀H' S',KeepS S H H'->Fresh H S S'->(qbk rd st s r w d k=none->RunAt a B H' x S' rd st bs rs->Q (.bl false) H')/\∀s2,qbk rd st s r w d k=some s2->RunAt a B H' x S' rd s2 bs rs->Q (.bl true) H'
def spFe (a:Adr):Sp:=λvs H Q _=>∃(x:Addr)(B:Hp)(S:List Addr)(rd:RD)(st:RS)(bs:List Bool)(rs:List Rw)(c d:Int)(n k:Str)(s r:Option Int),vs=[.ref x,.str n,.int d,.str k]/\RunAt a B H x S rd st bs rs/\TabOk bs rs/\RdOk rd/\StOk st c/\BaseAt a nB H st.bv st.day s/\LsS bs rs rd st s r /\
 ∀H' S',KeepS S H H'->Fresh H S S'->RunAt a B H' x S' rd (qcc rd st s r n d k).1 bs rs->Q (.bl (qcc rd st s r n d k).2) H'
noncomputable def swd (o:Bool)(r:Option Int):Str:=if o=true then Aa "over" else if r=none then Aa "stands" else Aa "runs"
def spSw (a:Adr):Sp:=λvs H Q _=>∃(x:Addr)(B:Hp)(S:List Addr)(rd:RD)(st:RS)(bs:List Bool)(rs:List Rw)(r:Option Int),vs=[.ref x,oV r]/\RunAt a B H x S rd st bs rs/\Q (.str (swd st.over r)) H
def AtR (H:Hp)(p:Addr)(rows:List R3):Prop:=∃us,H p=some (.lst us)/\Tups H us (rows.map qsd)
def AtR.same {H H':Hp}{p:Addr}{rows:List R3}(h:AtR H p rows)(z:Same H H'):AtR H' p rows:=by obtain⟨us,b,a⟩:=h;exact⟨us,z _ _ b,a.same z⟩
def AccAt (H:Hp)(q p4 p6:Addr)(n:Str)(st:RS)(s r:Option Int):Prop:=H q=some (.tup [.str n,.str (swd st.over r),oV s,.int st.units,.ref p4,oV r,.ref p6])/\AtQ H p4 st.ps/\AtR H p6 st.rows
def spAc (a:Adr):Sp:=λvs H Q _=>∃(x:Addr)(B:Hp)(S:List Addr)(rd:RD)(st:RS)(bs:List Bool)(rs:List Rw)(c:Int)(s r:Option Int)(n w0:Str)(d0:Int)(rw:List R3),vs=[.ref x]/\RunAt a B H x S rd st bs rs/\TabOk bs rs/\StOk st c/\BaseAt a nB H st.bv st.day s/\LsS bs rs rd st s r/\st.rows=(n,d0,w0)::rw /\
 ∀(q p4 p6:Addr)(H':Hp),Same H H'->H q=none->H p4=none->H p6=none->AccAt H' q p4 p6 n st s r->Q (.ref q) H'
def qox {ps:List Pz}(h:qa2 ps=true):∃a F,ps=a++[(F,none)]:=by
 rcases BG ps with e|⟨a,p,e⟩
 .rw[e]at h;cases h
 .rw[BH]at e;subst e;obtain⟨F,o⟩:=p;cases o with|none=>exact⟨a,F,Z⟩|some x=>unfold qa2 at h;rw[DO]at h;cases h
def qqt {a:List Pz}{F:Int}{o:Option Int}:qa2 (a++[(F,o)])=decide (oV o=V.non):=by unfold qa2;rw[DO];cases o <;>rfl
def qkt {a:List Pz}{F d:Int}:ql7 (a++[(F,none)]) d=a++(if F<d then [(F,some (d-1))] else []):=by unfold ql7;rw[DO];show (a++[(F,none)]).dropLast++_=_;rw[List.dropLast_concat]
def qiu {ps:List Pz}{d:Int}(h:qa2 ps=false):ql7 ps d=ps:=by
 unfold ql7 qa2 at *;split at h
 .cases h
 .rfl
def last_ix (vs:List V)(x:V):(vs++[x])[(vs++[x]).length-1]?=some x:=by rw[Af,AY,Ee,AS (Al _),D4];rfl
def fit7 (a f e d c b g:V):[a,f,e,d,c,b,g].length<=A5:=B9 (qnh (show 7<=1000 by decide))
theorem gv_get {gr:List (Key×V)}(h:∀k v,qbh gr k=some v->∃n:Int,v=.int n)(k:Str):(qbh gr (.inr k)).getD (.int 0)=.int (gv gr k):=by
 unfold gv;cases e:qbh gr (.inr k) with
 |none=>rfl
 |some v=>obtain⟨n,rfl⟩:=h _ _ e;rfl
def find_at {α:Type}{p:α->Bool}{l:List α}{i:Nat}{t:α}(h:(l.take i).find? p=none)(d:l[i]?=some t)(c:p t=true):l.find? p=some t:=by
 obtain⟨b,a⟩:=Ac.mp d;have e:l=l.take i++t::l.drop (i+1):=by rw[<- a,<- Cf b,BI]
 rw[e,List.find?_append,h,Cv,c];rfl
def qts {α:Type}{p:α->Bool}{l:List α}{i:Nat}{t:α}(h:(l.take i).find? p=none)(b:l[i]?=some t)(a:p t=false):(l.take (i+1)).find? p=none:=by rw[qcv b,List.find?_append,h,Cv,a];rfl
def ql8 {rd:RD}{st s:RS}{a r:Option Int}{w k:Str}{d:Int}(h:qbk rd st a r w d k=some s):s.rows=st.rows:=by
 unfold qbk at h;split at h
 .cases h;rfl
 .split at h
  .cases h
  .split at h
   .cases h;rfl
   .split at h
    .split at h
     .cases h
     .cases h;rfl
    .split at h
     .split at h
      .cases h
      .cases h;rfl
     .split at h
      .cases h;rfl
      .cases h
noncomputable abbrev az:Str:=Aa "abcdefghijklmnopqrstuvwxyz"
def az_len:az.length=26:=Ez
def az_at:∀i:Nat,i<26->az.cps.toList[i]?=some (97+i):=Ez
def az_ix {x:Int}:atI az.cps.toList (x % 26)=some (97+(x % 26).toNat):=by obtain⟨j,hj⟩:∃j:Nat,x % 26=(j:Int):=⟨(x % 26).toNat,by lia⟩;rw[hj,B8];exact qao (az_at j (by lia))
noncomputable def wsz (c:Int):Int:=1+c % 8
noncomputable def qf5 (c k:Int):Int:=if c / 64 % 2=0 then wsz c else 1+k % wsz c
noncomputable def qkj (c k:Int):Int:=if qf5 c k-1<c / 8 % wsz c then qf5 c k-1 else c / 8 % wsz c
noncomputable def won (c k j:Int):Int:=if j=qkj c k then c / 64+7*j*j+k else c / 64+7*j*j
noncomputable def wl (c k:Int)(n:Nat):List Nat:=(Ao n).map λ(j:Nat)=>97+(won c k (j:Int) % 26).toNat
noncomputable def wdS (c:Int)(k:Nat):Str:=⟨(wl c (k:Int) (qf5 c (k:Int)).toNat).toArray⟩
def qsf (c:Int):1<=wsz c/\wsz c<=8:=by unfold wsz;lia
def qku (c k:Int):1<=qf5 c k/\qf5 c k<=8:=by
 have:=qsf c;unfold qf5;split
 .exact this
 .have:=Ce k (show wsz c≠0 by lia);have:=C9 k (show 0<wsz c by lia);lia
def wmin_in (c k:Int):0<=qkj c k/\qkj c k<qf5 c k:=by have h:=qsf c;have:=qku c k;have:=Ce (c / 8) (show wsz c≠0 by lia);unfold qkj;split <;>lia
def wl_succ (c k:Int)(n:Nat):wl c k (n+1)=wl c k n++[97+(won c k (n:Int) % 26).toNat]:=by unfold wl;rw[Bt,Ar];rfl
def qxz {x y:Str}(h:x.cps.toList=y.cps.toList):x=y:=by obtain⟨⟨x⟩⟩:=x;obtain⟨⟨y⟩⟩:=y;have h:x=y:=h;rw[h]
def qx0 (l:List Nat)(x:Nat):(⟨l.toArray⟩:Str)++(⟨#[x]⟩:Str)=⟨(l++[x]).toArray⟩:=by refine qxz ?_;rw[Str.cps_append,Array.toList_append]
def wd_inj {c:Int}{k d:Nat}(hk:k<26)(hk':d<26)(e:wdS c k=wdS c d):k=d:=by
 have h:wl c (k:Int) (qf5 c (k:Int)).toNat=wl c (d:Int) (qf5 c (d:Int)).toNat:=by have:=congrArg (λs:Str=>s.cps.toList) e;simpa [wdS] using this
 have f:=congrArg Dq h;unfold wl at f;rw[Ab,Ab,Aq,Aq]at f;have f1:=qku c (k:Int);have f2:=qku c (d:Int);have l:qf5 c (k:Int)=qf5 c (d:Int):=by lia
 have n:qkj c (k:Int)=qkj c (d:Int):=by unfold qkj;rw[l]
 have m1:=wmin_in c (k:Int);obtain⟨m,hm⟩:∃m:Nat,qkj c (k:Int)=(m:Int):=⟨(qkj c (k:Int)).toNat,by lia⟩;have g:∀q:Nat,qkj c (q:Int)=(m:Int)->m<(qf5 c (q:Int)).toNat->(wl c (q:Int) (qf5 c (q:Int)).toNat)[m]?=some (97+((c / 64+7*(m:Int)*(m:Int)+(q:Int)) % 26).toNat):=λq j i=>by unfold wl;rw[Ag,AV i];show some (97+(won c (q:Int) (m:Int) % 26).toNat)=_;unfold won;rw[if_pos j.symm]
 have a:=g k hm (by lia);have b:=g d (n ▸ hm) (by lia);rw[h,b]at a;have a:=AD a;generalize c / 64+7*(m:Int)*(m:Int)=z at a;lia
noncomputable def wds (c:Int)(m:Nat):List Str:=(Ao m).map (wdS c)
def qkv (c:Int)(m:Nat):(wds c m).length=m:=by unfold wds;rw[Ab,Aq]
def qx1 (c:Int)(m:Nat):wds c (m+1)=wds c m++[wdS c m]:=by unfold wds;rw[Bt,Ar];rfl
def spWords:Sp:=λvs H Q _=>∃(c:Int)(m:Nat),vs=[.int c,.int (m:Int)]/\m<=26/\∀(q:Addr)(H':Hp),H q=none->Same H H'->H' q=some (.lst ((wds c m).map V.str))->Q (.ref q) H'
def far_at (c k:Int):atI [V.int (wsz c),V.int (1+k % wsz c)] (c / 64 % 2)=some (V.int (qf5 c k)):=by
 unfold qf5;rcases (by lia:c / 64 % 2=0\/c / 64 % 2=1) with e|e
 .rw[e,if_pos Z];rfl
 .rw[e,if_neg Uk];rfl
section
variable {K:Ah}
end
def qsg {H:Hp}{x a:Addr}{o u:HO}(nx:H x=none)(nd:H a=none):Same H (upd (upd H a u) x o):=λb v e=>by rw[qr (qae e nx),qr (qae e nd)];exact e
theorem qn1 {H H':Hp}{us:List V}{ts:List (List V)}(t:Tups H us ts)(k:∀b t,H b=some (.tup t)->H' b=some (.tup t)):Tups H' us ts:=by
 induction t with
 |nil=>exact .nil
 |cons e _ ih=>exact .cons (k _ _ e) ih
def StOk.mono {st:RS}{c d:Int}(h:StOk st c)(cd:c<=d):StOk st d:=⟨h.ps,h.d0,h.u1,h.pl,h.rl,h.gl,h.gi,λp b e a=>by have:=h.cu p b e a;lia,h.r0⟩
def stok_lo {st:RS}{c d u n:Int}{k nm:Str}(h:StOk st c)(cd:c<=d)(u0:0<=u)(hl:st.rows.length<400):StOk {st with units:=st.units+u,gr:=qc2 st.gr (.inr k) (.int n),rows:=st.rows++[(nm,d,Aa "longer")]} d:=by
 have h1:=h.pl;have h2:=h.gl;have h3:=qcs st.gr (.inr k) (V.int n);have hr:(st.rows++[(nm,d,Aa "longer")]).length=st.rows.length+1:=by rw[Af];rfl
 refine⟨h.ps,h.d0,by have:=h.u1;show 1<=st.units+u;lia,by show st.ps.length<=(st.rows++_).length;lia,by show (st.rows++_).length<=400;lia,by show (qc2 st.gr (.inr k) (V.int n)).length<=(st.rows++_).length;lia,λb v a=>?_,λp g e f=>by have:=h.cu p g e f;lia,λz=>by cases (D7.mp z).2⟩;have a:qbh (qc2 st.gr (.inr k) (.int n)) b=some v:=a;rw[qk6]at a;split at a
 .cases a;exact⟨n,Z⟩
 .exact h.gi b v a
def need1 {u:Int}(h:1<=u)(i:Three):1<=need i u:=qqm h i
def qsh (g:Int->Bool):Prop:=∀n,0<=n->∃e,n<=e/\e<=n+2000/\g e=false
def Ends (ps:List Pz)(E:Int):Prop:=∀p∈ps,∀e,p.2=some e->e<=E
def qn2 {ps:List Pz}{E d:Int}(c:Ends ps E)(h:E<d)(b:∀F,(F,none)∈ps->d<F):stl ps d=false:=ql6 λp a=>by
 obtain⟨F,o⟩:=p;cases o with|none=>rw[ql5];exact decide_eq_false (by have:=b F a;lia)|some e=>rw[qei,decide_eq_false (show ¬d<=e by have:=c _ a e Z;lia),Ck]
theorem qoy:∀(ps:List Pz)(s:Int),∃E,s<=E/\Ends ps E
 | [],s=>⟨s,Bo _,λ_ h=>absurd h AM⟩
 | (F,o)::ps,s=>by
  obtain⟨E,d,c⟩:=qoy ps s;cases o with
  |none =>
   refine⟨E,d,λp b e a=>?_⟩;rcases Av.mp b with z|z
   .rw[z]at a;cases a
   .exact c p z e a
  |some x =>
   refine⟨if E<x then x else E,by split <;>lia,λp b e a=>?_⟩;rcases Av.mp b with z|z
   .rw[z]at a;cases a;split <;>lia
   .have:=c p z e a;split <;>lia
theorem qtt {g:Int->Bool}{ps:List Pz}{E B:Int}(a:qsh g)(E0:0<=E)(b:∀e,E<e->e<B->stl ps e=false):∀k:Nat,E+1+2001*(k:Int)<=B->∃d,E<d/\d<=E+1+2001*(k:Int)/\cn (gst g ps) (E+1)+(k:Int)<=cn (gst g ps) d
 |0,_=>⟨E+1,by lia,by lia,by lia⟩
 |k+1,h=>by
  obtain⟨d,h1,h2,h3⟩:=qtt a E0 b k (by lia);obtain⟨e,f,e2,i⟩:=a d (by lia);have C:=qgw (gst g ps);have st:=C.st e (by lia);have c:gst g ps e=false:=by unfold gst;rw[i,b e (by lia) (by lia)];rfl
  rw[c,if_neg Uk]at st;have:=C.le (n:=d) (m:=e) (by lia) f;exact⟨e+1,by lia,by lia,by lia⟩
theorem qx2 {G:Int->Bool}{s m:Int}(b:0<=s)(a:1<=m):∀k:Nat,cn G (s+1)+m<=cn G (s+1+(k:Int))->∃d,s<d/\G d=false/\cn G d=cn G (s+1)+m-1
 |0,h=>by rw[Ev,C2]at h;lia
 |k+1,h=>by
  by_cases z:cn G (s+1)+m<=cn G (s+1+(k:Int))
  .exact qx2 b a k z
  .have st:=(qgw G).st (s+1+(k:Int)) (by lia);rw[show s+1+((k+1:Nat):Int)=s+1+(k:Int)+1 by lia,st]at h;cases e:G (s+1+(k:Int)) with|true=>rw[e,if_pos Z]at h;lia|false=>rw[e,if_neg Uk]at h;exact⟨_,by lia,e,by lia⟩
def full_ex {g:Int->Bool}{ps:List Pz}{s m:Int}(j:qsh g)(q:0<=s)(l:1<=m):∃r,qm2 g ps s m r:=by
 by_cases h:∃d,s<d/\cn (gst g ps) (s+1)+m<=cn (gst g ps) d
 .obtain⟨d,b,k⟩:=h;obtain⟨e,p,i,u⟩:=qx2 q l (d-s-1).toNat (by rw[show s+1+((d-s-1).toNat:Int)=d by lia];exact k);exact⟨some e,p,i,u⟩
 .have c:∀d,s<d->cn (gst g ps) d<cn (gst g ps) (s+1)+m:=λd f=>Int.not_le.mp λz=>h ⟨d,f,z⟩;refine⟨none,?_,c⟩;by_cases a:∃F,(F,none)∈ps
  .exact a
  .exfalso;obtain⟨E,E1,o⟩:=qoy ps s;obtain⟨d,d1,d2,d3⟩:=qtt (B:=E+1+2001*(m.toNat:Int)) j (by lia) (λe b _=>qn2 o b λF t=>absurd ⟨F,t⟩ a) m.toNat (Bo _);have:=c d (by lia);have:=(qgw (gst g ps)).le (n:=s+1) (m:=E+1) (by lia) (by lia);lia
theorem qqu {G:Int->Bool}{f:Int}:∀k:Nat,(∀j,f<=j->j<f+(k:Int)->G j=true) \/ ∃d,f<=d/\G d=false/\∀e,f<=e->e<d->G e=true
 |0=>.inl λj a b=>by lia
 |k+1=>by
  rcases qqu (G:=G) (f:=f) k with h|h
  .cases e:G (f+(k:Int)) with
   |false=>exact .inr ⟨_,by lia,e,h⟩
   |true =>
    refine .inl λj a b=>?_;by_cases z:j<f+(k:Int)
    .exact h j a z
    .rw[show j=f+(k:Int) by lia];exact e
  .exact .inr h
def due_ex {g:Int->Bool}{ps:List Pz}{f:Int}(j:qsh g)(f0:0<=f):∃r,Due g ps f r:=by
 by_cases h:∃d,f<=d/\gst g ps d=false
 .obtain⟨d,n,k⟩:=h;rcases qqu (G:=gst g ps) (f:=f) ((d-f).toNat+1) with z|⟨e,i,b,a⟩
  .have:=z d n (by lia);rw[k]at this;cases this
  .exact⟨some e,i,b,a⟩
 .have all:∀e,f<=e->gst g ps e=true:=λe o=>by
   cases z:gst g ps e with|true=>rfl|false=>exact absurd ⟨e,o,z⟩ h
  refine⟨none,?_,all⟩
  by_cases c:∃F,(F,none)∈ps
  .exact c
  .exfalso;obtain⟨E,E1,l⟩:=qoy ps f;obtain⟨e,i,b,a⟩:=j (E+1) (by lia);have:=all e (by lia);unfold gst at this;rw[a,qn2 l (by lia) λF m=>absurd ⟨F,m⟩ c]at this;cases this
def qx3 {wk:List Int}{yr:List S2}{rs:List Rw}(h:PartsOk wk yr rs):qsh (tfr (fdL wk yr) (ov rs)):=λn a=>by obtain⟨e,c,b,d⟩:=qvg h.w h.y h.l h.r a;exact⟨e,c,b,(tfr_lfr h.r (by lia)).trans d⟩
theorem qtu {wk:List Int}{yr:List S2}{rs:List Rw}(h:PartsOk wk yr rs):∀i:Three,qsh (kf (fdL wk yr) (ov rs) i)
 |.a=>λn _=>⟨n,Bo _,by lia,Z⟩
 |.b=>λn _=>⟨n,Bo _,by lia,Z⟩
 |.c=>qx3 h
noncomputable def wy:Three->Int:=qcl 1 0 2
def qx4 {ps:List Pz}(ok:PsOk ps)(h:qa2 ps=false):Fnt ps:=by
 rcases BG ps with e|⟨qs,p,e⟩
 .rw[e];exact λ_ h=>absurd h AM
 .rw[BH]at e;subst e;obtain⟨F,o⟩:=p;obtain⟨_,_,b⟩:=Bk.mp ok.srt;intro q c;rcases A7.mp c with z|z
  .obtain⟨e,a,_⟩:=b q z (F,o) (Ai.mpr Z);exact⟨e,a⟩
  .rw[Ai.mp z];cases o with|none=>rw[qqt]at h;cases h|some x=>exact⟨x,Z⟩
def qx5 {a:List Pz}{p:Pz}(ok:PsOk (a++[p])):PsOk a:=⟨(Bk.mp ok.srt).1,λq b=>ok.ok q (A7.mpr (.inl b))⟩
theorem qtv {ps:List Pz}{d:Int}(ok:PsOk ps):PsOk (ql7 ps d):=by
 cases b:qa2 ps with
 |false=>rw[qiu b];exact ok
 |true =>
  obtain⟨qs,F,rfl⟩:=qox b;rw[qkt];by_cases c:F<d
  .rw[if_pos c];obtain⟨g,_,i⟩:=Bk.mp ok.srt;have l:=ok.ok (F,none) (A7.mpr (.inr (Ai.mpr Z)));refine⟨Bk.mpr ⟨g,Co _ _,λp a q f=>?_⟩,λp a=>?_⟩
   .rw[Ai.mp f];exact i p a (F,none) (Ai.mpr Z)
   .rcases A7.mp a with z|z
    .exact ok.ok p (A7.mpr (.inl z))
    .rw[Ai.mp z];exact⟨l.1,λe h=>by cases h;show F<=d-1;lia⟩
  .rw[if_neg c,BC];exact qx5 ok
def psok_op {ps:List Pz}{d:Int}(ok:PsOk ps)(h:qa2 ps=false)(f:∀p∈ps,∀e,p.2=some e->e<d)(c:0<=d):PsOk (ps++[(d,none)]):=by
 have fn:=qx4 ok h;refine⟨Bk.mpr ⟨ok.srt,Co _ _,λp b q g=>?_⟩,λp b=>?_⟩
 .rw[Ai.mp g];obtain⟨e,a⟩:=fn p b;exact⟨e,a,f p b e a⟩
 .rcases A7.mp b with z|z
  .exact ok.ok p z
  .rw[Ai.mp z];exact⟨c,λe a=>nomatch a⟩
theorem qx6 {ps:List Pz}{d:Int}:(ql7 ps d).length<=ps.length:=by
 cases a:qa2 ps with
 |false=>rw[qiu a];exact Al _
 |true =>
  obtain⟨qs,F,rfl⟩:=qox a;rw[qkt,Af,Af];split
  .exact Al _
  .simp
theorem go_cu {ps:List Pz}{c d:Int}(cd:c<=d)(f:∀p∈ps,∀e,p.2=some e->e<c):∀p∈ql7 ps d,∀e,p.2=some e->e<d:=λp b e a=>by
 cases g:qa2 ps with
 |false=>rw[qiu g]at b;have:=f p b e a;lia
 |true =>
  obtain⟨qs,F,rfl⟩:=qox g;rw[qkt]at b;rcases A7.mp b with z|z
  .have:=f p (A7.mpr (.inl z)) e a;lia
  .split at z
   .rw[Ai.mp z]at a;cases a;lia
   .cases z
def qoz {st:RS}{c d:Int}{ps':List Pz}{n w:Str}{o':Bool}(h:StOk st c)(a:PsOk ps')(hl:ps'.length<=st.ps.length+1)(b:∀p∈ps',∀e,p.2=some e->e<d)(hr:st.rows.length<400):StOk {st with ps:=ps',over:=o',rows:=st.rows++[(n,d,w)]} d:=by
 have e:(st.rows++[(n,d,w)]).length=st.rows.length+1:=by rw[Af];rfl
 have h1:=h.pl;have h2:=h.gl;exact⟨a,h.d0,h.u1,by show ps'.length<=(st.rows++_).length;lia,by show (st.rows++_).length<=400;lia,by show st.gr.length<=(st.rows++_).length;lia,h.gi,b,λz=>by cases (D7.mp z).2⟩
def qx7 {s r:Option Int}{d:Int}(h:under s r d=true):∃x,s=some x/\x<d/\∀l,r=some l->d<=l:=by
 cases s with|none=>cases h|some x =>unfold under at h;simp only[B4]at h;refine⟨x,Z,of_decide_eq_true h.1,λl e=>?_⟩;subst e;exact of_decide_eq_true h.2
def mask_ex (P:Addr->Prop)(H:Hp):∃F:Hp,(∀b,P b->F b=none)/\(∀b o,¬P b->H b=some o->F b=some o)/\Same F H:=by
 classical
 refine⟨λb=>if P b then none else H b,λb h=>if_pos h,λb o h e=>by show (if P b then none else H b)=_;rw[if_neg h];exact e,λb o e=>?_⟩
 have e:(if P b then none else H b)=some o:=e
 by_cases h:P b
 .rw[if_pos h]at e;cases e
 .rw[if_neg h]at e;exact e
def RunAt.rebase {a:Adr}{B c H:Hp}{x:Addr}{S:List Addr}{rd:RD}{st:RS}{bs:List Bool}{rs:List Rw}(h:RunAt a B H x S rd st bs rs)(d:Same B c)(g:Same c H)(n:∀b∈S,c b=none):RunAt a c H x S rd st bs rs:=by obtain⟨j,rl,cn,f,l,e,i,k,rfl,R⟩:=h;exact⟨j,rl,cn,f,l,e,i,k,Z,R.ne,R.hx,R.hr,R.tr,R.hp,R.tp,R.hg,R.rl.same d,R.kd.same d,g,n _ (by simp),n _ (by simp),n _ (by simp),n _ (by simp)⟩
def RunAt.but {a:Adr}{B H H':Hp}{x:Addr}{S:List Addr}{rd:RD}{st:RS}{bs:List Bool}{rs:List Rw}(Zq:Addr->Prop)(h:RunAt a B H x S rd st bs rs)(k:∀b o,¬Zq b->H b=some o->H' b=some o)(c:∀b∈S,¬Zq b)(l:∀b t,H b=some (.tup t)->¬Zq b)(p:∀b o,B b=some o->¬Zq b):RunAt a B H' x S rd st bs rs:=by obtain⟨j,rl,cn,g,n,f,i,m,rfl,R⟩:=h;have d:∀b t,H b=some (.tup t)->H' b=some (.tup t):=λb t e=>k b _ (l b t e) e;exact⟨j,rl,cn,g,n,f,i,m,Z,R.ne,k _ _ (c _ (by simp)) R.hx,k _ _ (c _ (by simp)) R.hr,qn1 R.tr d,k _ _ (c _ (by simp)) R.hp,qn1 R.tp d,k _ _ (c _ (by simp)) R.hg,R.rl,R.kd,λb o e=>k b o (p b o e) (R.sm b o e),R.bx,R.br,R.bp,R.bg⟩
def RunAt.ex {a:Adr}{B H:Hp}{x:Addr}{S:List Addr}{rd:RD}{st:RS}{bs:List Bool}{rs:List Rw}(h:RunAt a B H x S rd st bs rs):Same B H/\(∀b∈S,∃o,H b=some o/\∀t,o ≠ .tup t)/\∀b∈S,B b=none:=by
 obtain⟨dx,rl,cn,pr,pp,pg,ur,up,rfl,R⟩:=h;refine⟨R.sm,λb c=>?_,λb c=>?_⟩
 .rcases Av.mp c with z|c
  .exact⟨_,by rw[z];exact R.hx,λ_ q=>by cases q⟩
  .rcases Av.mp c with z|c
   .exact⟨_,by rw[z];exact R.hr,λ_ q=>by cases q⟩
   .rcases Av.mp c with z|c
    .exact⟨_,by rw[z];exact R.hp,λ_ q=>by cases q⟩
    .exact⟨_,by rw[Ai.mp c];exact R.hg,λ_ q=>by cases q⟩
 .rcases Av.mp c with z|c
  .rw[z];exact R.bx
  .rcases Av.mp c with z|c
   .rw[z];exact R.br
   .rcases Av.mp c with z|c
    .rw[z];exact R.bp
    .rw[Ai.mp c];exact R.bg
noncomputable def put {α:Type}(f:Nat->α)(i:Nat)(v:α):Nat->α:=λj=>if j=i then v else f j
def qaz {α:Type}{f:Nat->α}{i:Nat}{v:α}:put f i v i=v:=if_pos rfl
theorem qas {α:Type}{f:Nat->α}{i j:Nat}{v:α}(h:j≠i):put f i v j=f j:=if_neg h
structure WdN (nms:List Str)(bs:List (Option Nat))(rk:Nat->Nat):Prop where
 nd:nms.Nodup
 len:bs.length=nms.length
 sm:nms.length<=6
 ok:∀(k b:Nat),bs[k]?=some (some b)->b<nms.length/\rk b<rk k
 lo:∀k,rk k<7
noncomputable def nm (nms:List Str)(k:Nat):Str:=nms.getD k Ba
noncomputable def bo (bs:List (Option Nat))(k:Nat):Option Nat:=bs.getD k none
noncomputable def upW (nms:List Str)(bs:List (Option Nat))(tk:List Str):Nat->Nat->List Str
 |0,_=>[]
 |f+1,k=>if nm nms k∈tk then [] else nm nms k::(match bo bs k with|some b=>upW nms bs tk f b|none=>[])
noncomputable def qca (nms:List Str)(bs:List (Option Nat))(i:Nat):List Str:=(Ao i).foldl (λtk k=>tk++(upW nms bs tk 7 k).reverse) []
def qfh (nms:List Str)(bs:List (Option Nat))(i:Nat):qca nms bs (i+1)=qca nms bs i++(upW nms bs (qca nms bs i) 7 i).reverse:=by unfold qca;rw[Bt,CY];rfl
theorem qiv (nms:List Str)(bs:List (Option Nat))(tk:List Str):∀f k,(upW nms bs tk f k).length<=f
 |0,_=>Al _
 |f+1,k=>by
  unfold upW;split
  .exact AQ _
  .rw[AG];cases bo bs k with|none=>exact C5 (AQ _)|some b=>exact C5 (qiv nms bs tk f b)
theorem qqv (nms:List Str)(bs:List (Option Nat))(i:Nat):(qca nms bs i).length<=7*i:=by
 induction i with
 |zero=>exact Al _
 |succ i ih =>rw[qfh,Af,Bx];have:=qiv nms bs (qca nms bs i) 7 i;lia
def qtw {nms:List Str}{k:Nat}(h:k<nms.length):nms[k]?=some (nm nms k):=by unfold nm;rw[Ak,Ae h];rfl
def qx8 {bs:List (Option Nat)}{k:Nat}(h:k<bs.length):bs[k]?=some (bo bs k):=by unfold bo;rw[Ak,Ae h];rfl
theorem ql9 {nms:List Str}(nd:nms.Nodup){j k:Nat}(b:j<nms.length)(c:k<nms.length)(e:nm nms j=nm nms k):j=k:=by have a:=qtw b;rw[e,<- qtw c]at a;exact(El b nd).mp a
noncomputable def qo0 (nms:List Str):Option Nat->V
 |none=>.non
 |some b=>.str (nm nms b)
def DicOk (kvs:List (Key×V))(nms:List Str)(bs:List (Option Nat)):Prop:=∀k<nms.length,qbh kvs (.inr (nm nms k))=some (qo0 nms (bo bs k))
def spUnt:Sp:=λvs H Q _=>∃(x:Str)(d t:Addr)(kvs:List (Key×V))(nms:List Str)(bs:List (Option Nat))(rk:Nat->Nat)(tk:List Str)(k:Nat),vs=[.str x,.ref d,.ref t]/\H d=some (.dK kvs)/\H t=some (.lst (tk.map V.str))/\WdN nms bs rk/\k<nms.length/\x=nm nms k/\DicOk kvs nms bs /\
 ∀(q:Addr)(H':Hp),H q=none->Same H H'->H' q=some (.lst ((upW nms bs tk 7 k).map V.str))->Q (.ref q) H'
def RuN (C:Addr)(H:Hp)(v:V)(x:Str)(b:V):Prop:=∃(p dx:Addr)(fs:List (Str×V)),v=.ref p/\H p=some (.ins C dx fs)/\fs.lookup (Aa "name")=some (.str x)/\fs.lookup (Aa "base")=some b
def RuN.same {C:Addr}{H H':Hp}{v:V}{x:Str}{b:V}(h:RuN C H v x b)(k:Same H H'):RuN C H' v x b:=by obtain⟨p,a,fs,e,d,c⟩:=h;exact⟨p,a,fs,e,k _ _ d,c⟩
def qqw (C:Addr)(H:Hp)(us:List V)(nms:List Str)(bs:List (Option Nat)):Prop:=us.length=nms.length/\∀(j:Nat)(y:V),us[j]?=some y->RuN C H y (nm nms j) (qo0 nms (bo bs j))
def qx9 (a:Adr):Sp:=λvs H Q _=>∃(pr:Addr)(us:List V)(nms:List Str)(bs:List (Option Nat))(rk:Nat->Nat),vs=[.ref pr]/\H pr=some (.lst us)/\qqw a.kE H us nms bs/\WdN nms bs rk /\
 ∀(q:Addr)(H':Hp),H q=none->Same H H'->H' q=some (.lst ((qca nms bs nms.length).map V.str))->Q (.ref q) H'
def qtx {kvs:List (Key×V)}{nms:List Str}{bs:List (Option Nat)}{i:Nat}(nd:nms.Nodup)(a:i<nms.length)(h:∀k<i,qbh kvs (.inr (nm nms k))=some (qo0 nms (bo bs k))):∀k<i+1,qbh (qc2 kvs (.inr (nm nms i)) (qo0 nms (bo bs i))) (.inr (nm nms k))=some (qo0 nms (bo bs k)):=λk hk=>by
 rw[qk6];by_cases e:k=i
 .subst e;rw[if_pos Z]
 .rw[if_neg (λz=>e (ql9 nd (by lia) a (CW.inj z)))];exact h k (by lia)
def qty {nms:List Str}{bs:List (Option Nat)}{tk:List Str}{f k:Nat}(h:¬nm nms k∈tk):upW nms bs tk (f+1) k=nm nms k::(match bo bs k with|some b=>upW nms bs tk f b|none=>[]):=by show (if nm nms k∈tk then [] else _)=_;rw[if_neg h]
def qtz {nms:List Str}{bs:List (Option Nat)}{tk:List Str}{f k:Nat}(h:nm nms k∈tk):upW nms bs tk f k=[]:=by
 cases f with|zero=>rfl|succ f =>show (if nm nms k∈tk then [] else _)=_;rw[if_pos h]
noncomputable abbrev bfs (po pd:Addr):List (Str×V):=[(Aa "order",.ref po),(Aa "by_name",.ref pd)]
def BookAt (C:Addr)(H:Hp)(p:Addr)(nms ord:List Str)(us:List V):Prop:=∃(dx po pd:Addr)(kvs:List (Key×V)),H p=some (.ins C dx (bfs po pd))/\H po=some (.lst (ord.map V.str))/\H pd=some (.dK kvs)/\(kvs.map λkv=>kV kv.1)=nms.map V.str/\∀(j:Nat)(y:V),us[j]?=some y->qbh kvs (.inr (nm nms j))=some y
def BookAt.same {C:Addr}{H H':Hp}{p:Addr}{nms a:List Str}{us:List V}(h:BookAt C H p nms a us)(s:Same H H'):BookAt C H' p nms a us:=by obtain⟨b,d,g,kvs,i,c,f,e⟩:=h;exact⟨b,d,g,kvs,s _ _ i,s _ _ c,s _ _ f,e⟩
def spBInit (a:Adr):Sp:=λvs H Q _=>∃(x dx pr:Addr)(us:List V)(nms:List Str)(bs:List (Option Nat))(rk:Nat->Nat),vs=[.ref x,.ref pr]/\H x=some (.ins a.kN dx [])/\H pr=some (.lst us)/\qqw a.kE H us nms bs/\WdN nms bs rk /\
 ∀H',SameBut x H H'->(∀H2,Rest x H H' H2->BookAt a.kN H2 x nms (qca nms bs nms.length) us)->Q .non H'
def spBHang (a:Adr):Sp:=λvs H Q _=>∃(x:Addr)(nms ord:List Str)(us:List V),vs=[.ref x]/\BookAt a.kN H x nms ord us/\∀q,H q=none->Q (.ref q) (upd H q (.lst (ord.map V.str)))
def spBRule (a:Adr):Sp:=λvs H Q _=>∃(x:Addr)(nms ord:List Str)(us:List V)(j:Nat)(y:V),vs=[.ref x,.str (nm nms j)]/\BookAt a.kN H x nms ord us/\us[j]?=some y/\Q y H
theorem bk_new {kvs:List (Key×V)}{nms:List Str}{i:Nat}(nd:nms.Nodup)(d:i<nms.length)(h:(kvs.map λa=>kV a.1)=(nms.take i).map V.str):qbh kvs (.inr (nm nms i))=none:=by
 cases e:qbh kvs (.inr (nm nms i)) with
 |none=>rfl
 |some v =>
  have m:=valV_in e;have o:V.str (nm nms i)∈(nms.take i).map V.str:=by rw[<- h];obtain⟨a,f,c⟩:=AU.mp m;exact AU.mpr ⟨a,f,by rw[c];rfl⟩
  obtain⟨y,p,l⟩:=AU.mp o;obtain⟨j,g,b⟩:=Cy p;rw[Bj]at g;rw[Ek]at b;have n:nm nms j=nm nms i:=by have:=qtw (nms:=nms) (k:=j) (by lia);rw[Ae (by lia)]at this;rw[<- AD this,b];exact V.str.inj l
  have:=ql9 nd (by lia) d n;lia
def bk_keys {kvs:List (Key×V)}{nms:List Str}{i:Nat}(y:V)(nd:nms.Nodup)(b:i<nms.length)(h:(kvs.map λa=>kV a.1)=(nms.take i).map V.str):((qc2 kvs (.inr (nm nms i)) y).map λa=>kV a.1)=(nms.take (i+1)).map V.str:=by rw[qic y (bk_new nd b h),Ar,h,B0,qtw b,Ar];rfl
def bk_get {kvs:List (Key×V)}{nms:List Str}{us:List V}{i:Nat}{y:V}(nd:nms.Nodup)(b:i<nms.length)(hl:us.length=nms.length)(a:us[i]?=some y)(h:∀(j:Nat) (z:V),j<i->us[j]?=some z->qbh kvs (.inr (nm nms j))=some z):∀(j:Nat)(z:V),j<i+1->us[j]?=some z->qbh (qc2 kvs (.inr (nm nms i)) y) (.inr (nm nms j))=some z:=λj z hj hz=>by
 rw[qk6];by_cases e:j=i
 .subst e;rw[if_pos Z];rw[a]at hz;exact hz
 .rw[if_neg (λq=>e (ql9 nd (by lia) b (CW.inj q)))];exact h j z (by lia) hz
noncomputable abbrev Act:=Str×Str×Int
noncomputable def qdo (t:Act):List V:=[.str t.1,.str t.2.1,.int t.2.2]
structure TD where
 name:Str
 opens:Option Str
 base:Option Nat
 rd:RD
noncomputable abbrev ZZ:=Nat->List RS
noncomputable abbrev dRS:RS:=⟨[],false,0,0,[],[],.non⟩
theorem qya (bs:List Bool)(rs:List Rw)(rd:RD)(st:RS)(s:Option Int):∃r0:Option Int,∀r,(∀x,s=some x->0<=x)->LsS bs rs rd st s r->r0=r:=by
 by_cases h:∃r,(∀x,s=some x->0<=x)/\LsS bs rs rd st s r
 .obtain⟨r,a,b⟩:=h;exact⟨r,λr' _ c=>qfg a b c⟩
 .exact⟨none,λr a b=>absurd ⟨r,a,b⟩ h⟩
noncomputable def lsC (bs:List Bool)(rs:List Rw)(rd:RD)(st:RS)(s:Option Int):Option Int:=Classical.choose (qya bs rs rd st s)
theorem qyb {bs:List Bool}{rs:List Rw}{rd:RD}{st:RS}{s r:Option Int}(a:∀x,s=some x->0<=x)(h:LsS bs rs rd st s r):lsC bs rs rd st s=r:=Classical.choose_spec (qya bs rs rd st s) r a h
noncomputable def stF (bs:List Bool)(rs:List Rw)(ts:Nat->TD)(Zq:ZZ):Nat->Nat->RS->Option Int
 |0,_,st=>some st.day
 |n+1,i,st=>match st.bv,(ts i).base with
  |.int k,some b=>lsC bs rs (ts b).rd ((Zq b).getD k.toNat dRS) (stF bs rs ts Zq n b ((Zq b).getD k.toNat dRS))
  |_,_=>some st.day
noncomputable def qju (x:Nat->Nat->Addr)(base:Option Nat)(v:V):V:=match v,base with
 |.int k,some b=>.ref (x b k.toNat)
 |_,_=>.non
def qgx {x:Nat->Nat->Addr}{base:Option Nat}:qju x base .non=.non:=by unfold qju;cases base <;>rfl
noncomputable abbrev wB (st:RS)(v:V):RS:={st with bv:=v}
def qyc {rd:RD}{st:RS}{s r:Option Int}{w k:Str}{d:Int}(f:V->V)(a:f .non=.non):qbk rd (wB st (f st.bv)) s r w d k=(qbk rd st s r w d k).map λq=>wB q (f q.bv):=by
 unfold qbk;split
 .rfl
 .split
  .rfl
  .split
   .show some _=some (wB _ (f .non));rw[a]
   .split
    .show (match qse rd st.gr k with|none=>none|some t=>_)=_;cases qse rd st.gr k <;>rfl
    .split
     .show (if qa2 st.ps=true then _ else _)=_;split <;>rfl
     .show (if qa2 st.ps=true then _ else _)=_;split <;>rfl
def feel_bv {rd:RD}{st:RS}{s r:Option Int}{n k:Str}{d:Int}(f:V->V)(a:f .non=.non):qcc rd (wB st (f st.bv)) s r n d k=(wB (qcc rd st s r n d k).1 (f (qcc rd st s r n d k).1.bv),(qcc rd st s r n d k).2):=by
 unfold qcc;show (if qbj rd k=Aa "" \/ st.over=true then _ else _)=_;split
 .rfl
 .rw[qyc f a];cases qbk rd st s r (qbj rd k) d k <;>rfl
def StOk.bv {st:RS}{c:Int}(h:StOk st c)(v:V):StOk (wB st v) c:=⟨h.ps,h.d0,h.u1,h.pl,h.rl,h.gl,h.gi,h.cu,h.r0⟩
def LsS.bv {bs:List Bool}{rs:List Rw}{rd:RD}{st:RS}{s r:Option Int}(h:LsS bs rs rd st s r)(v:V):LsS bs rs rd (wB st v) s r:=by cases s <;>exact h
theorem feel_ok {bs:List Bool}{rs:List Rw}{rd:RD}{st:RS}{s r:Option Int}{n k:Str}{c d:Int}(g:RdOk rd)(ok:StOk st c)(a:c<=d)(f:st.rows.length<400)(z:∀x,s=some x->0<=x):StOk (qcc rd st s r n d k).1 d:=by
 have cu:∀p∈st.ps,∀e,p.2=some e->e<d:=λp j e b=>by have:=ok.cu p j e b;lia
 unfold qcc;split
 .exact ok.mono a
 .unfold qbk;by_cases o:qbj rd k=Aa "ends"
  .rw[if_pos o];exact qoz (st:=st) (o':=true) ok (qtv ok.ps) (Cq qx6) (go_cu a ok.cu) f
  .rw[if_neg o];cases D:under s r d with
   |false=>rw[if_pos Z];exact ok.mono a
   |true =>
    rw[if_neg Uk];obtain⟨x,m,xd,rd'⟩:=qx7 D;by_cases l:qbj rd k=Aa "anew"
    .rw[if_pos l];have A:=z x m;have hr:(st.rows++[(n,d,qbj rd k)]).length=st.rows.length+1:=by rw[Af];rfl
     exact⟨⟨.nil,λ_ h=>absurd h AM⟩,by show 0<=d;lia,g.m1,AQ _,by show (st.rows++_).length<=400;lia,AQ _,(λk v h=>by cases h),(λ_ h=>absurd h AM),λq=>by cases (D7.mp q).2⟩
    .rw[if_neg l];by_cases i:qbj rd k=Aa "longer"
     .rw[if_pos i];cases B:qse rd st.gr k with|none=>exact ok.mono a|some t =>have C:=g.u t (List.mem_of_find?_eq_some B);have lo:=stok_lo (n:=gv st.gr k+1) (k:=k) (nm:=n) ok a C f;rw[<- i]at lo;exact lo
     .rw[if_neg i];by_cases w:qbj rd k=Aa "still"
      .rw[if_pos w];cases y:qa2 st.ps with
       |true=>rw[if_pos Z];exact ok.mono a
       |false =>
        rw[if_neg Uk];have A:=z x m;refine qoz (st:=st) (o':=st.over) ok (psok_op ok.ps y cu (by lia)) (by rw[Af];exact Al _) (λp j e b=>?_) f;rcases A7.mp j with q|q
        .exact cu p q e b
        .rw[Ai.mp q]at b;cases b
      .rw[if_neg w];cases y:qa2 st.ps with|false=>rw[if_neg Uk];exact ok.mono a|true =>rw[if_pos Z];exact qoz (st:=st) (o':=st.over) ok (qtv ok.ps) (Cq qx6) (go_cu a ok.cu) f
noncomputable def qo1 (l:List RS):Bool:=match l.getLast? with
 |some st=>!st.over
 |none=>false
noncomputable def fB (o:Option Nat)(f:Nat->Bool):Bool:=match o with
 |some b=>f b
 |none=>false
noncomputable def opT (t:TD)(k:Str)(f:Nat->Bool):Bool:=decide (t.opens=some k) || fB t.base f
noncomputable def qjv (t:TD)(ac:Act)(f:Nat->Bool)(Zq:ZZ):RS:=⟨[(ac.1,ac.2.2,Aa "begins")],false,ac.2.2,t.rd.many,[],[],match t.base with
 |some b=>if f b=true then .int (((Zq b).length-1:Nat):Int) else .non
 |none=>.non⟩
noncomputable def qiw (bs:List Bool)(rs:List Rw)(ts:Nat->TD)(Zq:ZZ)(i:Nat)(ac:Act):List RS:=(Zq i).dropLast++[(qcc (ts i).rd ((Zq i).getD ((Zq i).length-1) dRS) (stF bs rs ts Zq 3 i ((Zq i).getD ((Zq i).length-1) dRS)) (lsC bs rs (ts i).rd ((Zq i).getD ((Zq i).length-1) dRS) (stF bs rs ts Zq 3 i ((Zq i).getD ((Zq i).length-1) dRS))) ac.1 ac.2.2 ac.2.1).1]
noncomputable def tk (bs:List Bool)(rs:List Rw)(ts:Nat->TD)(Zq:ZZ)(ac:Act):Nat->ZZ×(Nat->Bool)
 |0=>(Zq,λ_=>false)
 |i+1=>if qo1 ((tk bs rs ts Zq ac i).1 i)=true then (put (tk bs rs ts Zq ac i).1 i (qiw bs rs ts (tk bs rs ts Zq ac i).1 i ac),(tk bs rs ts Zq ac i).2)
  else if opT (ts i) ac.2.1 (tk bs rs ts Zq ac i).2=true then (put (tk bs rs ts Zq ac i).1 i ((tk bs rs ts Zq ac i).1 i++[qjv (ts i) ac (tk bs rs ts Zq ac i).2 (tk bs rs ts Zq ac i).1]),put (tk bs rs ts Zq ac i).2 i true)
  else tk bs rs ts Zq ac i
noncomputable def qek (bs:List Bool)(rs:List Rw)(ts:Nat->TD)(n:Nat)(acts:List Act):ZZ:=acts.foldl (λZq ac=>(tk bs rs ts Zq ac n).1) (λ_=>[])
def WfB (ts:Nat->TD)(Zq:ZZ)(i:Nat)(st:RS):Prop:=(st.bv=.non \/ ∃k:Nat,st.bv=.int (k:Int))/\∀k:Int,st.bv=.int k->∃b,(ts i).base=some b/\b<i/\0<=k/\k.toNat<(Zq b).length
structure PZ (n:Nat)(ts:Nat->TD)(Zq:ZZ)(D:Int)(N:Nat):Prop where
 ok:∀i<n,∀st∈Zq i,StOk st D
 wf:∀i<n,∀st∈Zq i,WfB ts Zq i st
 rl:∀i<n,(Zq i).length<=N/\∀st∈Zq i,st.rows.length<=N
 D0:0<=D
structure TsOk (n:Nat)(ts:Nat->TD):Prop where
 n4:n<=4
 rd:∀i<n,RdOk (ts i).rd
 ba:∀i<n,∀b,(ts i).base=some b->b<i
 nn:∀i<n,∀j<n,(ts i).name=(ts j).name->i=j
def qsi (bs:List Bool)(rs:List Rw):Prop:=∀(rd:RD)(st:RS)(c:Int)(s:Option Int),StOk st c->(∀x,s=some x->0<=x)->∃r,LsS bs rs rd st s r
def lss_gt {bs:List Bool}{rs:List Rw}{rd:RD}{st:RS}{s:Option Int}{l:Int}(h:LsS bs rs rd st s (some l)):∃x,s=some x/\x<l:=by
 cases s with|none=>cases h|some x=>exact⟨x,Z,qxy h⟩
section
variable {n:Nat}{ts:Nat->TD}{Zq:ZZ}{D:Int}{N:Nat}{bs:List Bool}{rs:List Rw}
def qel {l:List RS}{j:Nat}(h:j<l.length):l.getD j dRS∈l:=by rw[Ak,Ae h];exact BV h
theorem qsj (P:PZ n ts Zq D N)(ex:qsi bs rs):∀(m i:Nat)(st:RS),i<n->StOk st D->WfB ts Zq i st->∀x,stF bs rs ts Zq m i st=some x->0<=x
 |0,i,st,_,ok,_,x,e=>by cases e;exact ok.d0
 |m+1,i,st,hi,ok,wf,x,e=>by
  rcases wf.1 with a|⟨k,a⟩
  .unfold stF at e;rw[a]at e;cases e;exact ok.d0
  .obtain⟨b,l,h2,h3,j⟩:=wf.2 _ a;unfold stF at e;rw[a,l]at e;have e:lsC bs rs (ts b).rd ((Zq b).getD (k:Int).toNat dRS) (stF bs rs ts Zq m b ((Zq b).getD (k:Int).toNat dRS))=some x:=e;have f:=qel j;have c:=P.ok b (by lia) _ f;have d:=qsj P ex m b _ (by lia) c (P.wf b (by lia) _ f);obtain⟨r,g⟩:=ex (ts b).rd _ D _ c d;rw[qyb d g]at e;subst e;obtain⟨y,h,lt⟩:=lss_gt g;have:=d y h;lia
def qyd (P:PZ n ts Zq D N)(ex:qsi bs rs){m i:Nat}{st:RS}(c:i<n)(ok:StOk st D)(d:WfB ts Zq i st):LsS bs rs (ts i).rd st (stF bs rs ts Zq m i st) (lsC bs rs (ts i).rd st (stF bs rs ts Zq m i st)):=by have a:=qsj P ex m i st c ok d;obtain⟨r,b⟩:=ex (ts i).rd st D _ ok a;rw[qyb a b];exact b
end
structure WH (a:Adr)(B H:Hp)(n:Nat)(ts:Nat->TD)(Zq:ZZ)(x:Nat->Nat->Addr)(S:Nat->Nat->List Addr)(p:Nat->Addr)(L:Nat->Nat)(E:List Addr)(bs:List Bool)(rs:List Rw):Prop where
 sm:Same B H
 hl:∀i<n,H (p i)=some (.lst ((Ao (L i)).map λj=>.ref (x i j)))
 Ll:∀i<n,L i<=(Zq i).length
 R:∀i<n,∀j<(Zq i).length,RunAt a B H (x i j) (S i j) (ts i).rd (wB ((Zq i).getD j dRS) (qju x (ts i).base ((Zq i).getD j dRS).bv)) bs rs
 sep:∀i<n,∀j<(Zq i).length,∀i'<n,∀j'<(Zq i').length,(i≠i'\/j≠j')->∀b∈S i j,b∉S i' j'
 pB:∀i<n,B (p i)=none
 pp:∀i<n,∀i'<n,i≠i'->p i≠p i'
 pS:∀i<n,∀i'<n,∀j<(Zq i').length,p i∉S i' j
 eB:∀c∈E,B c=none/\(∃o,H c=some o/\∀t,o ≠ .tup t)/\(∀i<n,c≠p i)/\∀i<n,∀j<(Zq i).length,c∉S i j
theorem qt0 {a:Adr}{B H:Hp}{n:Nat}{ts:Nat->TD}{Zq:ZZ}{x:Nat->Nat->Addr}{S:Nat->Nat->List Addr}{p:Nat->Addr}{L:Nat->Nat}{E:List Addr}{bs:List Bool}{rs:List Rw}{D:Int}{N:Nat}(W:WH a B H n ts Zq x S p L E bs rs)(P:PZ n ts Zq D N)(ex:qsi bs rs)(tok:TabOk bs rs):∀(m i:Nat)(st:RS),i<n->i<=m->WfB ts Zq i st->BaseAt a m H (qju x (ts i).base st.bv) st.day (stF bs rs ts Zq m i st):=by
 intro m
 induction m with
 |zero =>
  intro i st l q wf;rcases wf.1 with c|⟨k,c⟩
  .rw[c,qgx];exact⟨Z,Z⟩
  .obtain⟨b,_,o,_⟩:=wf.2 _ c;lia
 |succ m ih =>
  intro i st l q wf;rcases wf.1 with c|⟨k,c⟩
  .refine .inl ⟨by rw[c,qgx],?_⟩;unfold stF;rw[c]
  .obtain⟨b,j,o,h3,h⟩:=wf.2 _ c;have g:=qel h;have d:=P.ok b (by lia) _ g;have f:=P.wf b (by lia) _ g;refine .inr ⟨x b (k:Int).toNat,B,S b (k:Int).toNat,(ts b).rd,_,bs,rs,D,stF bs rs ts Zq m b ((Zq b).getD (k:Int).toNat dRS),?_,W.R b (by lia) _ h,tok,d.bv _,ih b _ (by lia) (by lia) f,?_⟩
   .rw[c,j];rfl
   .have:=(qyd P ex (m:=m) (by lia) d f).bv (qju x (ts b).base ((Zq b).getD (k:Int).toNat dRS).bv);have e:stF bs rs ts Zq (m+1) i st=lsC bs rs (ts b).rd ((Zq b).getD (k:Int).toNat dRS) (stF bs rs ts Zq m b ((Zq b).getD (k:Int).toNat dRS)):=by rw[stF,c,j]
    rw[e];exact this
section
variable {a:Adr}{B H H':Hp}{n:Nat}{ts:Nat->TD}{Zq:ZZ}{x:Nat->Nat->Addr}{S:Nat->Nat->List Addr}{p:Nat->Addr}{L:Nat->Nat}{E:List Addr}{bs:List Bool}{rs:List Rw}
def WH.same (W:WH a B H n ts Zq x S p L E bs rs)(s:Same H H'):WH a B H' n ts Zq x S p L E bs rs :=
 ⟨W.sm.trans s,λi b=>s _ _ (W.hl i b),W.Ll,λi b j h=>(W.R i b j h).same s,W.sep,W.pB,W.pp,W.pS,λc e=>by obtain⟨k,⟨o,d,g⟩,f⟩:=W.eB c e;exact⟨k,⟨o,s _ _ d,g⟩,f⟩⟩
def WH.less (W:WH a B H n ts Zq x S p L E bs rs){E':List Addr}(h:∀c∈E',c∈E):WH a B H n ts Zq x S p L E' bs rs :=
 ⟨W.sm,W.hl,W.Ll,W.R,W.sep,W.pB,W.pp,W.pS,λc b=>W.eB c (h c b)⟩
def WH.more (W:WH a B H n ts Zq x S p L E bs rs){c:Addr}{o:HO}(f:H c=none)(l:∀t,o ≠ .tup t):WH a B (upd H c o) n ts Zq x S p L (c::E) bs rs:=by
 have s:=qx (o:=o) f;have b:=W.same s;refine⟨b.sm,b.hl,b.Ll,b.R,b.sep,b.pB,b.pp,b.pS,λd h=>?_⟩;rcases Av.mp h with rfl|h
 .refine⟨W.sm.free f,⟨o,qk,l⟩,λi g z=>?_,λi g j k z=>?_⟩
  .rw[z,W.hl i g]at f;cases f
  .obtain⟨u,e,_⟩:=(W.R i g j k).ex.2.1 d z;rw[e]at f;cases f
 .exact b.eB d h
def WH.but (W:WH a B H n ts Zq x S p L E bs rs){c:Addr}(D:c∈E){o:HO}(F:∀t,o ≠ .tup t):WH a B (upd H c o) n ts Zq x S p L E bs rs:=by
 obtain⟨g,⟨u,l,w⟩,y,v⟩:=W.eB c D;have k:∀b o',b≠c->H b=some o'->upd H c o b=some o':=λb o' m e=>by rw[qr m];exact e
 refine⟨λb o' e=>k b o' (λz=>by rw[z,g]at e;cases e) (W.sm b o' e),λi f=>k _ _ (By (y i f)) (W.hl i f),W.Ll,λi f j h=>?_,W.sep,W.pB,W.pp,W.pS,λd q=>?_⟩
 .refine(W.R i f j h).but (λb=>b=c) (λb o' m e=>k b o' m e) (λb r z=>v i f j h (z ▸ r)) (λb t e z=>?_) (λb o' e z=>by rw[z,g]at e;cases e);rw[z,l]at e;exact w t (AD e)
 .obtain⟨C,⟨o',s,G⟩,A⟩:=W.eB d q;refine⟨C,?_,A⟩;by_cases z:d=c
  .rw[z];exact⟨o,qk,F⟩
  .exact⟨o',k d o' z s,G⟩
noncomputable def pu2 {α:Type}(f:Nat->Nat->α)(i j:Nat)(v:α):Nat->Nat->α:=λi' j'=>if i'=i/\j'=j then v else f i' j'
def qds {α:Type}{f:Nat->Nat->α}{i j:Nat}{v:α}:pu2 f i j v i j=v:=if_pos ⟨Z,Z⟩
def qcd {α:Type}{f:Nat->Nat->α}{i j b a:Nat}{v:α}(h:b≠i\/a≠j):pu2 f i j v b a=f b a:=if_neg λz=>h.elim (λq=>q z.1) λq=>q z.2
def qo2 {l:List RS}{q:RS}(h:l≠[]):(l.dropLast++[q]).length=l.length:=by have:=Cd.mpr h;rw[Af,CD,AY];lia
def upd_get {l:List RS}{q:RS}{j:Nat}(h:l≠[])(hj:j<l.length):(l.dropLast++[q]).getD j dRS=if j=l.length-1 then q else l.getD j dRS:=by
 have:=Cd.mpr h;by_cases z:j=l.length-1
 .rw[if_pos z,Ak,AS (by rw[CD];lia),CD,z,D4];rfl
 .rw[if_neg z,Ak,AH (by rw[CD];lia),List.getElem?_dropLast,if_pos (by lia),Ak]
theorem WH.felt (W:WH a B H n ts Zq x S p L E bs rs){i:Nat}(I:i<n)(y:Zq i≠[]){D:List Addr}{q:RS}(K:KeepS (S i ((Zq i).length-1)) H H')(F:Fresh H (S i ((Zq i).length-1)) D)(R:RunAt a B H' (x i ((Zq i).length-1)) D (ts i).rd (wB q (qju x (ts i).base q.bv)) bs rs) :
  WH a B H' n ts (put Zq i ((Zq i).dropLast++[q])) x (pu2 S i ((Zq i).length-1) D) p L E bs rs:=by
 have hp:=Cd.mpr y;have J:(Zq i).length-1<(Zq i).length:=by lia
 obtain⟨x1,X,Y⟩:=(W.R i I _ J).ex;have len:∀d,(put Zq i ((Zq i).dropLast++[q]) d).length=(Zq d).length:=λd=>by
  by_cases z:d=i
  .subst z;rw[qaz,qo2 y]
  .rw[qas z]
 have P:∀d<n,∀g<(Zq d).length,(d≠i\/g≠(Zq i).length-1)->RunAt a B H' (x d g) (S d g) (ts d).rd (wB ((Zq d).getD g dRS) (qju x (ts d).base ((Zq d).getD g dRS).bv)) bs rs:=λd f g j Q=>by refine(W.R d f g j).but (λb=>b∈S i ((Zq i).length-1)) K (λb s z=>W.sep d f g j i I _ J Q b s z) (λb t e z=>?_) (λb o e z=>by rw[Y b z]at e;cases e);obtain⟨o,U,nt⟩:=X b z;rw[e]at U;exact nt t (AD U).symm
 have u:∀b,(∃o,H b=some o)->b∉S i ((Zq i).length-1)->b∉D:=λb ⟨o,e⟩ n1 m=>by
  rcases F b m with z|z
  .exact n1 z
  .rw[z]at e;cases e
 refine⟨R.ex.1,λd f=>K _ _ (W.pS d f i I _ J) (W.hl d f),λd f=>by rw[len];exact W.Ll d f,λd f g j=>?_,λM v G A l r k h Q b s=>?_,W.pB,W.pp,λd f l r k h=>?_,λc hc=>?_⟩
 .rw[len]at j;by_cases z:d=i
  .subst z;rw[qaz,upd_get y j];by_cases w:g=(Zq d).length-1
   .rw[if_pos w,w,qds];exact R
   .rw[if_neg w,qcd (.inr w)];exact P d f g j (.inr w)
  .rw[qas z,qcd (.inl z)];exact P d f g j (.inl z)
 .rw[len]at A h;have C:∀d g,(d≠i\/g≠(Zq i).length-1)\/(d=i/\g=(Zq i).length-1):=λd g=>by lia
  rcases C M G with V|⟨rfl,rfl⟩
  .rw[qcd V]at s;rcases C l k with N|⟨rfl,rfl⟩
   .rw[qcd N];exact W.sep M v G A l r k h Q b s
   .rw[qds];obtain⟨o,e,_⟩:=(W.R M v G A).ex.2.1 b s;exact u b ⟨o,e⟩ (W.sep M v G A _ r _ h V b s)
  .rw[qds]at s;rcases C l k with N|⟨rfl,rfl⟩
   .rw[qcd N];intro m;obtain⟨o,e,_⟩:=(W.R l r k h).ex.2.1 b m;exact u b ⟨o,e⟩ (W.sep l r k h _ v _ A N b m) s
   .lia
 .rw[len]at h;by_cases w:l=i/\k=(Zq i).length-1
  .obtain⟨rfl,rfl⟩:=w;rw[qds];exact u _ ⟨_,W.hl d f⟩ (W.pS d f _ r _ h)
  .rw[qcd (by lia)];exact W.pS d f l r k h
 .obtain⟨v,⟨o,r,h3⟩,h4,T⟩:=W.eB c hc;refine⟨v,⟨o,K _ _ (T i I _ J) r,h3⟩,h4,λl O k h=>?_⟩;rw[len]at h;by_cases w:l=i/\k=(Zq i).length-1
  .obtain⟨rfl,rfl⟩:=w;rw[qds];exact u _ ⟨_,r⟩ (T _ O _ h)
  .rw[qcd (by lia)];exact T l O k h
end
def qqx {l:List RS}{q:RS}{j:Nat}:(l++[q]).getD j dRS=if j=l.length then q else l.getD j dRS:=by
 rcases Nat.lt_trichotomy j l.length with h|h|h
 .rw[if_neg (by lia),Ak,AH h,Ak]
 .rw[if_pos h,Ak,AS (by lia),h,D4];rfl
 .rw[if_neg (by lia),Ak,Ak,AI (by rw[Af,AY];lia),AI (by lia)]
section
variable {a:Adr}{B H H':Hp}{n:Nat}{ts:Nat->TD}{Zq:ZZ}{x:Nat->Nat->Addr}{S:Nat->Nat->List Addr}{p:Nat->Addr}{L:Nat->Nat}{E:List Addr}{bs:List Bool}{rs:List Rw}
def qt1 {i j:Nat}{v:Addr}{t:TD}{st:RS}{d:Nat}(c:WfB ts Zq d st)(e:ts d=t)(hj:(Zq i).length<=j):qju (pu2 x i j v) t.base st.bv=qju x t.base st.bv:=by
 rcases c.1 with a|⟨k,a⟩
 .rw[a,qgx,qgx]
 .obtain⟨b,f,h2,h3,h4⟩:=c.2 _ a;rw[<- e,a,f];show V.ref (pu2 x i j v b (k:Int).toNat)=V.ref (x b (k:Int).toNat);rw[qcd];by_cases z:b=i
  .subst z;exact .inr (by lia)
  .exact .inl z
theorem WH.begun (W:WH a B H n ts Zq x S p L E bs rs)(Y:∀i<n,∀st∈Zq i,WfB ts Zq i st){i:Nat}(hi:i<n){y cn:Addr}{o:HO}{J:List Addr}{q:RS}(s:Same H H')(F:∀b∈J,H b=none)(G:H cn=none)(nS:cn∉J)(wq:WfB ts Zq i q)
  (R:RunAt a (upd B cn o) H' y J (ts i).rd (wB q (qju x (ts i).base q.bv)) bs rs):WH a (upd B cn o) H' n ts (put Zq i (Zq i++[q])) (pu2 x i (Zq i).length y) (pu2 S i (Zq i).length J) p L E bs rs:=by
 have T:B cn=none:=W.sm.free G;have sB:Same B (upd B cn o):=qx T;obtain⟨Q,x2,x3⟩:=R.ex;have len:∀d,(put Zq i (Zq i++[q]) d).length=if d=i then (Zq i).length+1 else (Zq d).length:=λd=>by
  by_cases z:d=i
  .subst z;rw[qaz,if_pos Z,Af,AY]
  .rw[qas z,if_neg z]
 have X:∀d<n,∀g<(Zq d).length,∀b∈S d g,b≠cn:=λd f g D b k z=>by obtain⟨u,e,_⟩:=(W.R d f g D).ex.2.1 b k;rw[z,G]at e;cases e
 have split:∀d g,g<(if d=i then (Zq i).length+1 else (Zq d).length)->(d=i/\g=(Zq i).length)\/(g<(Zq d).length/\(d≠i\/g≠(Zq i).length)):=λd g h=>by
  by_cases z:d=i
  .subst z;rw[if_pos Z]at h;by_cases w:g=(Zq d).length
   .exact .inl ⟨Z,w⟩
   .exact .inr ⟨by lia,.inr w⟩
  .rw[if_neg z]at h;exact .inr ⟨h,.inl z⟩
 refine⟨Q,λd f=>?_,λd f=>?_,λd f g D=>?_,λO M N U t l r v K b k=>?_,λd f=>?_,W.pp,λd f t l r v=>?_,λc hc=>?_⟩
 .rw[s _ _ (W.hl d f)]
  congr 2
  refine BL λj I=>?_
  have:=AN.mp I
  have:=W.Ll d f
  rw[qcd]
  by_cases z:d=i
  .subst z;exact .inr (by lia)
  .exact .inl z
 .have:=W.Ll d f;rw[len];split
  .rename_i z;subst z;lia
  .exact this
 .rw[len]at D;rcases split d g D with ⟨rfl,rfl⟩|⟨I,K⟩
  .rw[qaz,qqx,if_pos Z,qds,qds,qt1 wq Z (Al _)];exact R
  .have e:(put Zq i (Zq i++[q]) d).getD g dRS=(Zq d).getD g dRS:=by
    by_cases z:d=i
    .subst z;rw[qaz,qqx,if_neg (by lia)]
    .rw[qas z]
   rw[e,qcd K,qcd K,qt1 (Y d f _ (qel I)) Z (Al _)]
   refine((W.R d f g I).same s).rebase sB Q λb k=>?_
   rw[qr (X d f g I b k)]
   exact(W.R d f g I).ex.2.2 b k
 .rw[len]at U v;rcases split O N U with ⟨rfl,rfl⟩|⟨P,n1⟩
  .rw[qds]at k;rcases split t r v with ⟨rfl,rfl⟩|⟨C,A⟩
   .lia
   .rw[qcd A];intro m;obtain⟨u,e,_⟩:=(W.R t l r C).ex.2.1 b m;rw[F b k]at e;cases e
  .rw[qcd n1]at k;rcases split t r v with ⟨rfl,rfl⟩|⟨C,A⟩
   .rw[qds];intro m;obtain⟨u,e,_⟩:=(W.R O M N P).ex.2.1 b k;rw[F b m]at e;cases e
   .rw[qcd A];exact W.sep O M N P t l r C K b k
 .rw[qr (λz=>by have:=W.hl d f;rw[z,G]at this;cases this)];exact W.pB d f
 .rw[len]at v;rcases split t r v with ⟨rfl,rfl⟩|⟨C,A⟩
  .rw[qds];intro m;have:=W.hl d f;rw[F _ m]at this;cases this
  .rw[qcd A];exact W.pS d f t l r C
 .obtain⟨M,⟨o',l,h3⟩,h4,h5⟩:=W.eB c hc;refine⟨?_,⟨o',s _ _ l,h3⟩,h4,λt V r v=>?_⟩
  .rw[qr (λz=>by rw[z,G]at l;cases l)];exact M
  .rw[len]at v;rcases split t r v with ⟨rfl,rfl⟩|⟨C,A⟩
   .rw[qds];intro m;rw[F _ m]at l;cases l
   .rw[qcd A];exact h5 t V r C
def WH.listed (W:WH a B H n ts Zq x S p L E bs rs){i:Nat}(g:i<n)(u:L i<(Zq i).length):WH a B (upd H (p i) (.lst ((Ao (L i+1)).map λj=>.ref (x i j)))) n ts Zq x S p (put L i (L i+1)) E bs rs:=by
 have k:∀b o',b≠p i->H b=some o'->upd H (p i) (.lst ((Ao (L i+1)).map λj=>.ref (x i j))) b=some o':=λb o' m e=>by rw[qr m];exact e
 refine⟨λb o' e=>k b o' (λz=>by rw[z,W.pB i g]at e;cases e) (W.sm b o' e),λf c=>?_,λf c=>?_,λf c j h=>?_,W.sep,W.pB,W.pp,W.pS,λd o=>?_⟩
 .by_cases z:f=i
  .subst z;rw[qaz,qk]
  .rw[qas z];exact k _ _ (W.pp f c i g z) (W.hl f c)
 .by_cases z:f=i
  .subst z;rw[qaz];exact u
  .rw[qas z];exact W.Ll f c
 .refine(W.R f c j h).but (λb=>b=p i) (λb o' m e=>k b o' m e) (λb q z=>W.pS i g f c j h (z ▸ q)) (λb t e z=>?_) (λb o' e z=>by rw[z,W.pB i g]at e;cases e);rw[z,W.hl i g]at e;cases e
 .obtain⟨s,⟨o',r,w⟩,l,v⟩:=W.eB d o;exact⟨s,⟨o',k d o' (l i g) r,w⟩,l,v⟩
end
theorem qvi {rd:RD}{st q:RS}{s r:Option Int}{w k:Str}{d:Int}(h:qbk rd st s r w d k=some q):q.bv=st.bv\/q.bv=.non:=by
 unfold qbk at h;split at h
 .cases h;exact .inl rfl
 .split at h
  .cases h
  .split at h
   .cases h;exact .inr rfl
   .split at h
    .cases e:qse rd st.gr k with
     |none=>rw[e]at h;cases h
     |some t=>rw[e]at h;cases h;exact .inl rfl
    .split at h
     .split at h
      .cases h
      .cases h;exact .inl rfl
     .split at h
      .cases h;exact .inl rfl
      .cases h
theorem qye {rd:RD}{st:RS}{s r:Option Int}{n k:Str}{d:Int}:(qcc rd st s r n d k).1.bv=st.bv\/(qcc rd st s r n d k).1.bv=.non:=by
 unfold qcc;split
 .exact .inl rfl
 .cases e:qbk rd st s r (qbj rd k) d k with
  |none=>exact .inl rfl
  |some q =>show q.bv=st.bv\/q.bv=.non;exact qvi e
theorem qvj {rd:RD}{st:RS}{s r:Option Int}{n k:Str}{d:Int}:(qcc rd st s r n d k).1.rows=st.rows\/(qcc rd st s r n d k).1.rows=st.rows++[(n,d,qbj rd k)]:=by
 unfold qcc;split
 .exact .inl rfl
 .cases e:qbk rd st s r (qbj rd k) d k with
  |none=>exact .inl rfl
  |some q=>exact .inr (by show q.rows++_=_;rw[ql8 e])
def WfB.mono {ts:Nat->TD}{Zq Z':ZZ}{i:Nat}{st:RS}(h:WfB ts Zq i st)(m:∀i,(Zq i).length<=(Z' i).length):WfB ts Z' i st:=⟨h.1,λk e=>by obtain⟨b,f,a,d,c⟩:=h.2 k e;exact⟨b,f,a,d,A0 c (m b)⟩⟩
theorem qma {bs:List Bool}{rs:List Rw}{ts:Nat->TD}{Zq:ZZ}{ac:Act}:∀{m i:Nat},m<=i->(tk bs rs ts Zq ac m).1 i=Zq i
 |0,i,_=>rfl
 |m+1,i,h=>by
  unfold tk;have a:=qma (bs:=bs) (rs:=rs) (ts:=ts) (Zq:=Zq) (ac:=ac) (m:=m) (i:=i) (by lia);split
  .show put _ m _ i=_;rw[qas (by lia),a]
  .split
   .show put _ m _ i=_;rw[qas (by lia),a]
   .exact a
def qsk {l:List RS}(h:qo1 l=true):l≠[]:=λz=>by rw[z]at h;cases h
theorem qkw {bs:List Bool}{rs:List Rw}{ts:Nat->TD}{Zq:ZZ}{ac:Act}:∀{m i:Nat},((tk bs rs ts Zq ac m).2 i=true->i<m)/\((tk bs rs ts Zq ac m).1 i).length=(Zq i).length+(if (tk bs rs ts Zq ac m).2 i=true then 1 else 0)
 |0,i=>⟨λz=>(by cases z),Z⟩
 |m+1,i=>by
  obtain⟨b,a⟩:=qkw (bs:=bs) (rs:=rs) (ts:=ts) (Zq:=Zq) (ac:=ac) (m:=m) (i:=i);unfold tk;split
  .rename_i c;refine⟨λz=>D5 (b z),?_⟩;show Dq (put _ m _ i)=_;by_cases z:i=m
   .subst z;rw[qaz];unfold qiw;rw[qo2 (qsk c)];exact a
   .rw[qas z];exact a
  .split
   .by_cases z:i=m
    .subst z;refine⟨λ_=>BU _,?_⟩;show Dq (put _ i _ i)=_+if put _ i true i=true then 1 else 0;rw[qaz,qaz,if_pos Z,Af,AY,qma (Al _)]
    .refine⟨λw=>?_,?_⟩
     .have w:put _ m true i=true:=w;rw[qas z]at w;exact D5 (b w)
     .show Dq (put _ m _ i)=_+if put _ m true i=true then 1 else 0;rw[qas z,qas z];exact a
   .exact⟨λz=>D5 (b z),a⟩
theorem qt2 {bs:List Bool}{rs:List Rw}{n:Nat}{ts:Nat->TD}{Zq:ZZ}{ac:Act}{D:Int}{N:Nat}(T:TsOk n ts)(P:PZ n ts Zq D N)(ex:qsi bs rs)(A:D<=ac.2.2)(C:N<300):∀{m:Nat},m<=n->PZ n ts (tk bs rs ts Zq ac m).1 ac.2.2 (N+1)
 |0,_=>⟨λi a st h=>(P.ok i a st h).mono A,P.wf,λi a=>⟨Cq (P.rl i a).1,λst h=>Cq ((P.rl i a).2 st h)⟩,Bm P.D0 A⟩
 |m+1,hm=>by
  have g:=qt2 (bs:=bs) (rs:=rs) (ac:=ac) T P ex A C (m:=m) (by lia);have t:=qma (bs:=bs) (rs:=rs) (ts:=ts) (Zq:=Zq) (ac:=ac) (Al m);have x:=λi=>qkw (bs:=bs) (rs:=rs) (ts:=ts) (Zq:=Zq) (ac:=ac) (m:=m) (i:=i);unfold tk;generalize tk bs rs ts Zq ac m=W at g t x |-;obtain⟨Y,f⟩:=W;dsimp only at g t x |-;split
  .rename_i c;have u:=qsk c;have hp:=Cd.mpr u;have p:=qel (l:=Y m) (j:=(Y m).length-1) (by lia);have len:∀i,(put Y m (qiw bs rs ts Y m ac) i).length=(Y i).length:=λi=>by
    by_cases z:i=m
    .subst z;rw[qaz];unfold qiw;rw[qo2 u]
    .rw[qas z]
   have o:∀i st,st∈put Y m (qiw bs rs ts Y m ac) i->st∈Y i\/(i=m/\st=(qcc (ts m).rd ((Y m).getD ((Y m).length-1) dRS) (stF bs rs ts Y 3 m ((Y m).getD ((Y m).length-1) dRS)) (lsC bs rs (ts m).rd ((Y m).getD ((Y m).length-1) dRS) (stF bs rs ts Y 3 m ((Y m).getD ((Y m).length-1) dRS))) ac.1 ac.2.2 ac.2.1).1):=λi st h=>by
    by_cases z:i=m
    .subst z;rw[qaz]at h;unfold qiw at h;rcases A7.mp h with h|h
     .exact .inl (List.dropLast_subset _ h)
     .exact .inr ⟨Z,Ai.mp h⟩
    .rw[qas z]at h;exact .inl h
   have rows:=(P.rl m (by lia)).2 _ (by rw[<- t];exact p);have E:=qsj g ex 3 m _ (by lia) (g.ok m (by lia) _ p) (g.wf m (by lia) _ p);refine⟨λi a st h=>?_,λi a st h=>?_,λi a=>⟨by rw[len];exact(g.rl i a).1,λst h=>?_⟩,g.D0⟩
   .rcases o i st h with h|⟨rfl,rfl⟩
    .exact g.ok i a st h
    .exact feel_ok (bs:=bs) (rs:=rs) (T.rd i a) (g.ok i a _ p) (Bo _) (by lia) E
   .rcases o i st h with h|⟨rfl,rfl⟩
    .exact(g.wf i a st h).mono λi=>BY (len i).symm
    .have w:=(g.wf i a _ p).mono (Z':=put Y i (qiw bs rs ts Y i ac)) λi=>BY (len i).symm;rcases qye (rd:=(ts i).rd) (st:=(Y i).getD ((Y i).length-1) dRS) (s:=stF bs rs ts Y 3 i ((Y i).getD ((Y i).length-1) dRS)) (r:=lsC bs rs (ts i).rd ((Y i).getD ((Y i).length-1) dRS) (stF bs rs ts Y 3 i ((Y i).getD ((Y i).length-1) dRS))) (n:=ac.1) (k:=ac.2.1) (d:=ac.2.2) with e|e
     .unfold WfB;rw[e];exact w
     .exact⟨.inl e,λk z=>by rw[e]at z;cases z⟩
   .rcases o i st h with h|⟨rfl,rfl⟩
    .exact(g.rl i a).2 st h
    .rcases qvj (rd:=(ts i).rd) (st:=(Y i).getD ((Y i).length-1) dRS) (s:=stF bs rs ts Y 3 i ((Y i).getD ((Y i).length-1) dRS)) (r:=lsC bs rs (ts i).rd ((Y i).getD ((Y i).length-1) dRS) (stF bs rs ts Y 3 i ((Y i).getD ((Y i).length-1) dRS))) (n:=ac.1) (k:=ac.2.1) (d:=ac.2.2) with e|e
     .rw[e];lia
     .rw[e,Af,AY];lia
  .split
   .have len:∀i,(Y i).length<=(put Y m (Y m++[qjv (ts m) ac f Y]) i).length:=λi=>by
     by_cases z:i=m
     .subst z;rw[qaz,Af];lia
     .rw[qas z];exact Al _
    have o:∀i st,st∈put Y m (Y m++[qjv (ts m) ac f Y]) i->st∈Y i\/(i=m/\st=qjv (ts m) ac f Y):=λi st h=>by
     by_cases z:i=m
     .subst z;rw[qaz]at h;rcases A7.mp h with h|h
      .exact .inl h
      .exact .inr ⟨Z,Ai.mp h⟩
     .rw[qas z]at h;exact .inl h
    refine⟨λi a st h=>?_,λi a st h=>?_,λi a=>⟨?_,λst h=>?_⟩,g.D0⟩
    .rcases o i st h with h|⟨rfl,rfl⟩
     .exact g.ok i a st h
     .exact⟨⟨.nil,λ_ h=>absurd h AM⟩,g.D0,(T.rd i a).m1,AQ _,(by show 1<=400;decide),AQ _,(λk v h=>by cases h),(λ_ h=>absurd h AM),λq=>by cases q⟩
    .rcases o i st h with h|⟨rfl,rfl⟩
     .exact(g.wf i a st h).mono len
     .refine⟨?_,λk e=>?_⟩
      .unfold qjv;dsimp only;cases (ts i).base with
       |none=>exact .inl rfl
       |some b =>
        dsimp only;split
        .exact .inr ⟨_,Z⟩
        .exact .inl rfl
      .unfold qjv at e;dsimp only at e;cases y:(ts i).base with
       |none=>rw[y]at e;cases e
       |some b =>
        rw[y]at e;dsimp only at e;split at e
        .rename_i B;cases e;obtain⟨_,l⟩:=x b;have l:(Y b).length=(Zq b).length+1:=l.trans (by rw[if_pos (show (Y,f).snd b=true from B)]);refine⟨b,Z,T.ba i a b y,by lia,A0 ?_ (len b)⟩;rw[B8];lia
        .cases e
    .by_cases z:i=m
     .subst z;have:=(P.rl i a).1;show Dq (put Y i _ i)<=_;rw[qaz,Af,AY,t];lia
     .show Dq (put Y m _ i)<=_;rw[qas z];exact(g.rl i a).1
    .rcases o i st h with h|⟨rfl,rfl⟩
     .exact(g.rl i a).2 st h
     .show 1<=_;lia
   .exact g
noncomputable def lamPos:List Stmt->Pos
 | [.Return (some (.Call _ _ [⟨_,.Lambda _ _ _ p,_⟩] _)) _]=>p
 |_=>⟨0,0,0,0⟩
noncomputable abbrev ioP:Pos:=lamPos (qav qdm)
noncomputable abbrev ioQ:Str:=Aa "in_order.<locals>.<lambda>"
noncomputable def qdp (t:Act):Int×Str:=(t.2.2,t.1)
noncomputable abbrev dA:Act:=(Ba,Ba,0)
def spIo (Pt:Addr):Sp:=λvs H Q _=>∃(p:Addr)(us:List V)(acts:List Act),vs=[.ref p]/\H p=some (.lst us)/\Tups H us (acts.map qdo)/\acts.length<64/\Lam.LamAt H Pt ioP ioQ /\
 ∀(q:Addr)(H':Hp)(us':List V)(acts':List Act),H q=none->SameBut Pt H H'->Lam.LamAt H' Pt ioP ioQ->acts'.Perm acts->(acts'.Pairwise λx y=>Lam.ltK (qdp y) (qdp x)=false)->H' q=some (.lst us')->Tups H' us' (acts'.map qdo)->Q (.ref q) H'
theorem qcp {H H':Hp}{us:List V}{ts:List (List V)}(t:Tups H us ts)(k:∀b u,H b=some (.tup u)->H' b=some (.tup u)):Tups H' us ts:=by
 induction t with
 |nil=>exact .nil
 |cons h _ ih=>exact .cons (k _ _ h) ih
theorem qg8 {H:Hp}{us:List V}{ts:List (List V)}{p:Addr}{r:List V}(t:Tups H us ts)(h:H p=some (.tup r)):Tups H (us++[.ref p]) (ts++[r]):=by
 induction t with
 |nil=>exact .cons h .nil
 |cons e _ ih=>exact .cons e ih
theorem qmb {H:Hp}{us:List V}{b:List Act}(d:Tups H us (b.map qdo)):∀(js:List Nat),(∀i∈js,i<b.length)->Tups H (js.map λi=>us.getD i V.non) ((js.map λi=>b.getD i dA).map qdo)
 | [],_=>.nil
 |i::js,h=>by
  have c:=h i Am;obtain⟨a,g,e⟩:=d.get (i:=i) (r:=qdo b[i]) (by simp[c]);have l:us.getD i V.non=.ref a:=by rw[Ak,g];rfl
  have f:b.getD i dA=b[i]:=by simp[c]
  rw[AX,AX,AX,l,f];exact .cons e (qmb d js λj k=>h j (Ay _ k))
def spIr (a:Adr):Sp:=λvs H Q _=>∃(l:Addr)(xs:List V)(b:Bool),vs=[.ref l]/\H l=some (.lst xs)/\xs.length<=1000/\((xs=[]/\b=false) \/ ∃(ys:List V)(y:Addr)(B:Hp)(S:List Addr)(rd:RD)(st:RS)(bs:List Bool)(rs:List Rw),xs=ys++[.ref y]/\RunAt a B H y S rd st bs rs/\b = !st.over)/\Q (.bl b) H
noncomputable def opV:Option Str->V
 |some o=>.str o
 |none=>.non
noncomputable def baV (ts:Nat->TD):Option Nat->V
 |some b=>.str (ts b).name
 |none=>.non
theorem opV_is (o:Option Str)(k:Str):qy0 (.str k) (opV o)=true/\decide (V.str k=opV o)=decide (o=some k):=by
 cases o with
 |none=>exact⟨Z,by rw[decide_eq_false (λz=>nomatch z),decide_eq_false (λz=>nomatch z)]⟩
 |some o =>
  refine⟨Z,?_⟩;show decide (V.str k=V.str o)=_;by_cases e:o=k
  .rw[decide_eq_true (by rw[e]),decide_eq_true (by rw[e])]
  .rw[decide_eq_false (λz=>e (V.str.inj z).symm),decide_eq_false (λz=>e (AD z))]
def RuleT (a:Adr)(H:Hp)(rl:Addr)(ts:Nat->TD)(i:Nat):Prop:=∃(dx pe pa pl:Addr)(w s py:V)(us:List V),H rl=some (.ins a.kE dx (rlF (.str (ts i).name) w (.str (ts i).rd.owes) (opV (ts i).opens) (baV ts (ts i).base) (.int (ts i).rd.many) (.str (qj9 (ts i).rd.unit)) s (.ref pe) (.ref pa) (.ref pl) py))/\StAt H s (ts i).rd.still/\H pe=some (.lst ((ts i).rd.ends.map V.str))/\H pa=some (.lst ((ts i).rd.anew.map V.str))/\H pl=some (.lst us)/\Tups H us ((ts i).rd.longer.map qqp)
def RuleT.at {a:Adr}{H:Hp}{b:Addr}{ts:Nat->TD}{i:Nat}(h:RuleT a H b ts i):RuleAt a H b (ts i).rd:=by obtain⟨g,c,d,pl,w,s,l,us,k,e,n,j,m,f⟩:=h;exact⟨g,c,d,pl,_,w,_,_,s,l,us,k,e,n,j,m,f⟩
def RuleT.same {a:Adr}{H H':Hp}{b:Addr}{ts:Nat->TD}{i:Nat}(h:RuleT a H b ts i)(z:Same H H'):RuleT a H' b ts i:=by obtain⟨g,c,d,pl,w,s,l,us,k,e,n,j,m,f⟩:=h;exact⟨g,c,d,pl,w,s,l,us,z _ _ k,e.same z,z _ _ n,z _ _ j,z _ _ m,f.same z⟩
def BookT (a:Adr)(H:Hp)(bk:Addr)(n:Nat)(ts:Nat->TD):Prop:=∃(nms:List Str)(us:List V),BookAt a.kN H bk nms ((Ao n).map λi=>(ts i).name) us/\∀i<n,∃(j:Nat)(rl:Addr),nm nms j=(ts i).name/\us[j]?=some (.ref rl)/\RuleT a H rl ts i
def BookT.same {a:Adr}{H H':Hp}{bk:Addr}{n:Nat}{ts:Nat->TD}(h:BookT a H bk n ts)(z:Same H H'):BookT a H' bk n ts:=by obtain⟨nms,us,g,e⟩:=h;exact⟨nms,us,g.same z,λi d=>by obtain⟨j,b,f,c,k⟩:=e i d;exact⟨j,b,f,c,k.same z⟩⟩
noncomputable def kvR (n:Nat)(ts:Nat->TD)(p:Nat->Addr):List (Key×V):=(Ao n).map λi=>(.inr (ts i).name,.ref (p i))
def qew {n:Nat}{ts:Nat->TD}{p:Nat->Addr}:(kvR n ts p).length=n:=by unfold kvR;rw[Ab,Aq]
def qyf {n:Nat}{ts:Nat->TD}{p:Nat->Addr}{i:Nat}{a:Key×V}(e:(kvR n ts p)[i]?=some a):i<n/\a=(.inr (ts i).name,.ref (p i)):=by
 unfold kvR at e;rw[Ag]at e;by_cases h:i<n
 .rw[AV h]at e;cases e;exact⟨h,Z⟩
 .rw[AI (by rw[Aq];lia)]at e;cases e
theorem qt3 {l:List (Key×V)}{k:Key}{v:V}(h:(k,v)∈l)(u:∀w,(k,w)∈l->w=v):qbh l k=some v:=by
 induction l with
 |nil=>cases h
 |cons p l ih =>
  by_cases e:p.1=k
  .rw[qb3 e];exact congrArg some (u p.2 (by rw[<- e];exact Am))
  .rw[qbt e];refine ih ((Av.mp h).resolve_left λz=>e (by rw[<- z])) λw m=>u w (Ay _ m)
def qix {n:Nat}{ts:Nat->TD}{p:Nat->Addr}(b:∀i<n,∀j<n,(ts i).name=(ts j).name->i=j){i:Nat}(a:i<n):qbh (kvR n ts p) (.inr (ts i).name)=some (.ref (p i)):=by refine qt3 (AU.mpr ⟨i,AN.mpr a,Z⟩) λw m=>?_;obtain⟨j,c,e⟩:=AU.mp m;injection e with e1 e2;rw[<- e2,b j (AN.mp c) i a (CW.inj e1)]
noncomputable def bgK (ts:Nat->TD)(y:Nat->Addr)(f:Nat->Bool)(m:Nat):List (Key×V):=((Ao m).filter f).map λi=>(.inr (ts i).name,.ref (y i))
theorem qo3 {l:List (Key×V)}{k:Key}(h:∀w,(k,w)∉l):qbh l k=none:=by
 induction l with
 |nil=>rfl
 |cons p l ih =>have e:¬p.1=k:=λz=>h p.2 (by rw[<- z];exact Am);rw[qbt e];exact ih λw m=>h w (Ay _ m)
def qkx {n m b:Nat}{ts:Nat->TD}{y:Nat->Addr}{f:Nat->Bool}(l:∀i<n,∀j<n,(ts i).name=(ts j).name->i=j)(hm:m<=n)(k:b<n):qbh (bgK ts y f m) (.inr (ts b).name)=if b<m/\f b=true then some (.ref (y b)) else none:=by
 have a:∀w,((CW (ts b).name:Key),w)∈bgK ts y f m->b<m/\f b=true/\w=.ref (y b):=λw h=>by obtain⟨j,d,e⟩:=AU.mp h;obtain⟨o,g⟩:=BQ.mp d;have d:=AN.mp o;injection e with e1 e2;have:j=b:=l j (by lia) b k (CW.inj e1);subst this;exact⟨d,g,e2.symm⟩
 by_cases c:b<m/\f b=true
 .rw[if_pos c];exact qt3 (AU.mpr ⟨b,BQ.mpr ⟨AN.mpr c.1,c.2⟩,Z⟩) λw h=>(a w h).2.2
 .rw[if_neg c];exact qo3 λw h=>c ⟨(a w h).1,(a w h).2.1⟩
def qyg {ts:Nat->TD}{y a:Nat->Addr}{f:Nat->Bool}{i:Nat}(h:f i=false)(b:∀j<i,a j=y j):bgK ts a f (i+1)=bgK ts y f i:=by unfold bgK;rw[Bt,Ch,CK (by rw[h];decide),List.filter_nil,BC];exact BL λj c=>by rw[b j (AN.mp (BQ.mp c).1)]
def bgK_yes {ts:Nat->TD}{y b:Nat->Addr}{f:Nat->Bool}{i:Nat}(c:∀j<i,b j=y j):bgK ts b (put f i true) (i+1)=bgK ts y f i++[(.inr (ts i).name,.ref (b i))]:=by
 unfold bgK;rw[Bt,Ch,Cr qaz,List.filter_nil,Ar]
 congr 1
 have e:(Ao i).filter (put f i true)=(Ao i).filter f:=List.filter_congr λj a=>by rw[qas (AE (AN.mp a))]
 rw[e];exact BL λj a=>by rw[c j (AN.mp (BQ.mp a).1)]
def bgK_len {ts:Nat->TD}{y:Nat->Addr}{f:Nat->Bool}{m:Nat}:(bgK ts y f m).length<=m:=by unfold bgK;rw[Ab];exact A9 (CU _ _) (by rw[Aq];exact Al _)
section
variable {bs:List Bool}{rs:List Rw}{ts:Nat->TD}{Zq:ZZ}{ac:Act}{i:Nat}
theorem tk_s:tk bs rs ts Zq ac (i+1)=if qo1 ((tk bs rs ts Zq ac i).1 i)=true then (put (tk bs rs ts Zq ac i).1 i (qiw bs rs ts (tk bs rs ts Zq ac i).1 i ac),(tk bs rs ts Zq ac i).2)
  else if opT (ts i) ac.2.1 (tk bs rs ts Zq ac i).2=true then (put (tk bs rs ts Zq ac i).1 i ((tk bs rs ts Zq ac i).1 i++[qjv (ts i) ac (tk bs rs ts Zq ac i).2 (tk bs rs ts Zq ac i).1]),put (tk bs rs ts Zq ac i).2 i true)
  else tk bs rs ts Zq ac i:=rfl
def tk_run (c:qo1 (Zq i)=true):tk bs rs ts Zq ac (i+1)=(put (tk bs rs ts Zq ac i).1 i (qiw bs rs ts (tk bs rs ts Zq ac i).1 i ac),(tk bs rs ts Zq ac i).2):=by rw[tk_s,if_pos (by rw[qma (Al i)];exact c)]
def tk_beg (c:¬qo1 (Zq i)=true)(d:opT (ts i) ac.2.1 (tk bs rs ts Zq ac i).2=true):tk bs rs ts Zq ac (i+1)=(put (tk bs rs ts Zq ac i).1 i ((tk bs rs ts Zq ac i).1 i++[qjv (ts i) ac (tk bs rs ts Zq ac i).2 (tk bs rs ts Zq ac i).1]),put (tk bs rs ts Zq ac i).2 i true):=by rw[tk_s,if_neg (by rw[qma (Al i)];exact c),if_pos d]
def tk_no (c:¬qo1 (Zq i)=true)(d:opT (ts i) ac.2.1 (tk bs rs ts Zq ac i).2=false):tk bs rs ts Zq ac (i+1)=tk bs rs ts Zq ac i:=by rw[tk_s,if_neg (by rw[qma (Al i)];exact c),if_neg (by rw[d];decide)]
end
def runB_at {l:List RS}(h:l≠[]):qo1 l = !(l.getD (l.length-1) dRS).over:=by have hp:=Cd.mpr h;unfold qo1;rw[Df,Ak,Ae (by lia)];rfl
def qqy {l:Nat}(h:0<l)(f:Nat->Addr):((Ao l).map λj=>V.ref (f j))=((Ao (l-1)).map λj=>V.ref (f j))++[V.ref (f (l-1))]:=by obtain⟨k,rfl⟩:∃k,l=k+1:=⟨l-1,by lia⟩;rw[Bt,Ar];rfl
theorem newR_wf {ts:Nat->TD}{Y Zq:ZZ}{i:Nat}{ac:Act}{f:Nat->Bool}(c:∀b,(ts i).base=some b->b<i)(d:∀b,f b=true->(Y b).length=(Zq b).length+1):WfB ts Y i (qjv (ts i) ac f Y):=by
 refine⟨?_,λk e=>?_⟩
 .unfold qjv;dsimp only;cases (ts i).base with
  |none=>exact .inl rfl
  |some b =>
   dsimp only;split
   .exact .inr ⟨_,Z⟩
   .exact .inl rfl
 .unfold qjv at e;dsimp only at e;cases a:(ts i).base with
  |none=>rw[a]at e;cases e
  |some b =>
   rw[a]at e;dsimp only at e;split at e
   .rename_i g;cases e;have:=d b g;exact⟨b,Z,c b a,by lia,by rw[B8];lia⟩
   .cases e
theorem newR_bb {n i:Nat}{ts:Nat->TD}{Y Zq:ZZ}{ac:Act}{f:Nat->Bool}{x:Nat->Nat->Addr}(e:∀i<n,∀j<n,(ts i).name=(ts j).name->i=j)(c:i<n)(l:∀b,(ts i).base=some b->b<i)(h:∀b,f b=true->(Y b).length=(Zq b).length+1){H:Hp}{d:Addr}(a:H d=some (.dK (bgK ts (λj=>x j (Zq j).length) f i))) :
  ∃o:Option V,qp3 H d (baV ts (ts i).base) o/\o.isSome=fB (ts i).base f/\o.getD .non=qju x (ts i).base (qjv (ts i) ac f Y).bv:=by
 unfold qjv;dsimp only;cases m:(ts i).base with
 |none=>exact⟨none,.inl ⟨Z,Z,_,.inl a⟩,Z,Z⟩
 |some b =>
  have lt:=l b m;refine⟨_,.inr (DGet.k (k:=.inr (ts b).name) a),?_,?_⟩
  .rw[qkx e (B9 c) (by lia)];show _=f b;cases g:f b with|true=>rw[if_pos ⟨lt,Z⟩];rfl|false=>rw[if_neg (λz=>nomatch z.2)];rfl
  .rw[qkx e (B9 c) (by lia)];show _=qju x (some b) (if f b=true then V.int (((Y b).length-1:Nat):Int) else V.non);cases g:f b with|true =>rw[if_pos ⟨lt,Z⟩,if_pos Z];show V.ref (x b (Zq b).length)=V.ref (x b ((((Y b).length-1:Nat):Int)).toNat);rw[B8,h b g,Ee]|false =>rw[if_neg (λz=>nomatch z.2),if_neg Uk];rfl
def spTake (a:Adr):Sp:=λvs H Q _=>∃(bk tb pd aa:Addr)(B:Hp)(n N:Nat)(ts:Nat->TD)(Zq:ZZ)(x:Nat->Nat->Addr)(S:Nat->Nat->List Addr)(p:Nat->Addr)(bs:List Bool)(rs:List Rw)(D:Int)(ac:Act),vs=[.ref bk,.ref tb,.ref pd,.ref aa]/\TsOk n ts/\BookT a B bk n ts/\TabAt a.kK a.kI B tb bs rs/\TabOk bs rs/\qsi bs rs/\B aa=some (.tup (qdo ac))/\H pd=some (.dK (kvR n ts p))/\WH a B H n ts Zq x S p (λi=>(Zq i).length) [pd] bs rs/\PZ n ts Zq D N/\D<=ac.2.2/\N<300 /\
 ∀(H' B':Hp)(x':Nat->Nat->Addr)(S':Nat->Nat->List Addr),Same B B'->H' pd=some (.dK (kvR n ts p))->WH a B' H' n ts (tk bs rs ts Zq ac n).1 x' S' p (λi=>((tk bs rs ts Zq ac n).1 i).length) [pd] bs rs->Q .non H'
noncomputable def nm0 (st:RS):Str:=(st.rows.headD (Ba,0,Ba)).1
def AccI (bs:List Bool)(rs:List Rw)(ts:Nat->TD)(Zq:ZZ)(i:Nat)(H:Hp)(l:Addr)(y p4 p6:Nat->Addr):Prop:=H l=some (.lst ((Ao (Zq i).length).map λj=>.ref (y j)))/\∀j<(Zq i).length,AccAt H (y j) (p4 j) (p6 j) (nm0 ((Zq i).getD j dRS)) ((Zq i).getD j dRS) (stF bs rs ts Zq 3 i ((Zq i).getD j dRS)) (lsC bs rs (ts i).rd ((Zq i).getD j dRS) (stF bs rs ts Zq 3 i ((Zq i).getD j dRS)))
def AccAt.same {H H':Hp}{q b a:Addr}{n:Str}{st:RS}{s r:Option Int}(h:AccAt H q b a n st s r)(z:Same H H'):AccAt H' q b a n st s r:=⟨z _ _ h.1,h.2.1.same z,h.2.2.same z⟩
def AccI.same {bs:List Bool}{rs:List Rw}{ts:Nat->TD}{Zq:ZZ}{i:Nat}{H H':Hp}{l:Addr}{y b a:Nat->Addr}(h:AccI bs rs ts Zq i H l y b a)(z:Same H H'):AccI bs rs ts Zq i H' l y b a:=⟨z _ _ h.1,λj c=>(h.2 j c).same z⟩
def qmc (bs:List Bool)(rs:List Rw)(ts:Nat->TD)(Zq:ZZ)(n:Nat)(H:Hp)(d:Addr)(q:Nat->Addr)(y p4 p6:Nat->Nat->Addr):Prop:=H d=some (.dK (kvR n ts q))/\∀i<n,AccI bs rs ts Zq i H (q i) (y i) (p4 i) (p6 i)
def NewT (H:Hp)(Zq:ZZ)(n:Nat)(d:Addr)(q:Nat->Addr)(y p4 p6:Nat->Nat->Addr):Prop:=H d=none/\∀i<n,H (q i)=none/\∀j<(Zq i).length,H (y i j)=none/\H (p4 i j)=none/\H (p6 i j)=none
def qsl (Zq:ZZ)(n:Nat)(q:Nat->Addr)(p4 p6:Nat->Nat->Addr):Prop:=∀i1<n,∀i2<n,(i1≠i2->q i1≠q i2)/\∀j<(Zq i2).length,q i1≠p4 i2 j/\q i1≠p6 i2 j
def qyh {Zq:ZZ}{i:Nat}{q:Nat->Addr}{k n:Nat->Nat->Addr}{e:Addr}{m l:Nat->Addr}(h:qsl Zq i q k n)(a:∀c<i,q c≠e/\(∀j<(Zq c).length,e≠k c j/\e≠n c j)/\∀j<(Zq i).length,q c≠m j/\q c≠l j)(b:∀j<(Zq i).length,e≠m j/\e≠l j):qsl Zq (i+1) (put q i e) (put k i m) (put n i l):=by
 intro c h1 f h2;by_cases o:c=i
 .subst o;rw[qaz];by_cases d:f=c
  .subst d;rw[qaz,qaz,qaz];exact⟨λz=>absurd Z z,b⟩
  .rw[qas d,qas d,qas d];obtain⟨g,r,_⟩:=a f (by lia);exact⟨λ_=>By g,r⟩
 .rw[qas o];by_cases d:f=i
  .subst d;rw[qaz,qaz,qaz];obtain⟨g,_,p⟩:=a c (by lia);exact⟨λ_=>g,p⟩
  .rw[qas d,qas d,qas d];exact h c (by lia) f (by lia)
noncomputable def ofl (l:List Addr)(H:Hp):Hp:=λb=>if b∈l then none else H b
def qjw {l:List Addr}{b:Addr}{H:Hp}{o:HO}(n:b∉l)(h:H b=some o):ofl l H b=some o:=by unfold ofl;rw[if_neg n];exact h
def qh4 {l:List Addr}{b:Addr}{H:Hp}{o:HO}(e:ofl l H b=some o):b∉l/\H b=some o:=by
 unfold ofl at e;by_cases c:b∈l
 .rw[if_pos c]at e;cases e
 .rw[if_neg c]at e;exact⟨c,e⟩
def qgy {l a:List Addr}{H H':Hp}(h:∀b∈a,b∈l)(k:∀b o,b∉l->H b=some o->H' b=some o):Same (ofl l H) (ofl a H'):=λb o e=>by obtain⟨n,e⟩:=qh4 e;exact qjw (λz=>n (h b z)) (k b o n e)
def qt4 {l:List Addr}{H H':Hp}(k:∀b o,b∉l->H b=some o->H' b=some o):Same (ofl l H) H':=λb o e=>by obtain⟨n,e⟩:=qh4 e;exact k b o n e
def AccAt.ofL {H:Hp}{q a f:Addr}{l:List Addr}{n:Str}{st:RS}{s r:Option Int}(h:AccAt H q a f n st s r)(o:∀c∈l,∀t,H c≠some (.tup t))(w:a∉l)(i:f∉l):AccAt (ofl l H) q a f n st s r:=by have d:∀b t,H b=some (.tup t)->ofl l H b=some (.tup t):=λb t e=>qjw (λz=>o b z t e) e;obtain⟨m,⟨p,j,v⟩,⟨g,k,u⟩⟩:=h;exact⟨d _ _ m,⟨p,qjw w j,qcp v d⟩,⟨g,qjw i k,qcp u d⟩⟩
def KpT (H H':Hp):Prop:=∀b o,(∀t,o ≠ .tbl t)->H b=some o->H' b=some o
def KpT.of {H H':Hp}{a:Addr}{ps:Array Value}(h:H a=some (.tbl ps))(k:SameBut a H H'):KpT H H':=λb o n e=>k b o (λz=>by rw[z,h]at e;exact n ps (AD e).symm) e
section
variable {H H':Hp}(k:KpT H H')
include k
def qgz {us:List V}{ts:List (List V)}(t:Tups H us ts):Tups H' us ts:=qcp t λb u e=>k b _ (λ_ z=>nomatch z) e
theorem qsm {a:Adr}{bk:Addr}{n:Nat}{ts:Nat->TD}(h:BookT a H bk n ts):BookT a H' bk n ts:=by
 obtain⟨nms,us,⟨d,u,x,kvs,y,p,E,v⟩,D⟩:=h;refine⟨nms,us,⟨d,u,x,kvs,k _ _ (λ_ z=>nomatch z) y,k _ _ (λ_ z=>nomatch z) p,k _ _ (λ_ z=>nomatch z) E,v⟩,λi o=>?_⟩;obtain⟨j,f,r,l,d,g,m,pl,w,s,C,us,B,c,F,I,t,G⟩:=D i o;refine⟨j,f,r,l,d,g,m,pl,w,s,C,us,k _ _ (λ_ z=>nomatch z) B,?_,k _ _ (λ_ z=>nomatch z) F,k _ _ (λ_ z=>nomatch z) I,k _ _ (λ_ z=>nomatch z) t,qgz k G⟩;cases e:(ts i).rd.still with
 |none=>rw[e]at c;exact c
 |some z=>rw[e]at c;obtain⟨b,A,q⟩:=c;exact⟨b,A,k _ _ (λ_ z=>nomatch z) q⟩
def qt5 {b C t:Addr}{bs:List Bool}{rs:List Rw}(h:TabAt b C H t bs rs):TabAt b C H' t bs rs:=by obtain⟨f,p,q,z,n,⟨a,c,o,l,d,s,i,r,e⟩,⟨us,g,j⟩,m⟩:=h;exact⟨f,p,q,z,k _ _ (λ_ z=>nomatch z) n,⟨a,c,o,l,k _ _ (λ_ z=>nomatch z) d,k _ _ (λ_ z=>nomatch z) s,k _ _ (λ_ z=>nomatch z) i,k _ _ (λ_ z=>nomatch z) r,e⟩,⟨us,k _ _ (λ_ z=>nomatch z) g,qgz k j⟩,k _ _ (λ_ z=>nomatch z) m⟩
end
def qyi {a:Adr}{B H:Hp}{x:Addr}{S:List Addr}{rd:RD}{st:RS}{bs:List Bool}{rs:List Rw}(h:RunAt a B H x S rd st bs rs):x∈S:=by obtain⟨dx,rl,cn,pr,pp,pg,ur,up,rfl,_⟩:=h;exact Am
def WH.inj {a:Adr}{B H:Hp}{n:Nat}{ts:Nat->TD}{Zq:ZZ}{x:Nat->Nat->Addr}{S:Nat->Nat->List Addr}{p:Nat->Addr}{L:Nat->Nat}{E:List Addr}{bs:List Bool}{rs:List Rw}(W:WH a B H n ts Zq x S p L E bs rs){i j b:Nat}(c:i<n)(f:j<(Zq i).length)(d:b<(Zq i).length)(e:x i j=x i b):j=b:=by
 by_cases z:j=b
 .exact z
 .exact absurd (e ▸ qyi (W.R i c b d)) (W.sep i c j f i c b d (.inr z) _ (qyi (W.R i c j f)))
def qhg (acts:List Act):Prop:=acts.Pairwise λx y=>Lam.ltK (qdp y) (qdp x)=false
def spHist (a:Adr)(Pt:Addr):Sp:=λvs H Q _=>∃(bk tb pa:Addr)(us:List V)(acts:List Act)(n:Nat)(ts:Nat->TD)(bs:List Bool)(rs:List Rw),vs=[.ref bk,.ref tb,.ref pa]/\TsOk n ts/\BookT a H bk n ts/\TabAt a.kK a.kI H tb bs rs/\TabOk bs rs/\qsi bs rs/\H pa=some (.lst us)/\Tups H us (acts.map qdo)/\acts.length<=20/\(∀t∈acts,0<=t.2.2)/\Lam.LamAt H Pt ioP ioQ /\
 ∀(d:Addr)(H':Hp)(acts':List Act)(q:Nat->Addr)(y p4 p6:Nat->Nat->Addr),SameBut Pt H H'->Lam.LamAt H' Pt ioP ioQ->acts'.Perm acts->qhg acts'->qmc bs rs ts (qek bs rs ts n acts') n H' d q y p4 p6->NewT H (qek bs rs ts n acts') n d q y p4 p6->PZ n ts (qek bs rs ts n acts') (acts'.getLastD dA).2.2 acts'.length->qsl (qek bs rs ts n acts') n q p4 p6->Q (.ref d) H'
def qn3 {bs:List Bool}{rs:List Rw}{ts:Nat->TD}{n:Nat}{l:List Act}{ac:Act}:qek bs rs ts n (l++[ac])=(tk bs rs ts (qek bs rs ts n l) ac n).1:=by unfold qek;rw[CY];rfl
def sort_le {a:List Act}(h:qhg a){i j:Nat}{x y:Act}(b:i<j)(e:a[i]?=some x)(c:a[j]?=some y):x.2.2<=y.2.2:=by obtain⟨d,f⟩:=Ac.mp e;obtain⟨g,k⟩:=Ac.mp c;have:=Bd.mp h i j d g b;rw[f,k,Lam.ltK_no]at this;have:¬y.2.2<x.2.2:=λz=>this (.inl z);lia
noncomputable def uix (c:Int):Three:=if c % 3=0 then .a else if c % 3=1 then .b else .c
def uix_at (c:Int):atI [V.str (Aa "days"),V.str (Aa "weeks"),V.str (Aa "court")] (c % 3)=some (V.str (qj9 (uix c))):=by unfold uix;rcases (by lia:c % 3=0\/c % 3=1\/c % 3=2) with e|e|e <;>rw[e] <;>rfl
noncomputable def qem (ns:List Int)(k:Int):Int:=(cell ns k+1+k*k)*48271 % 2147483647*(69621+2*k) % 2147483629
def qiy (a:List Int)(k:Int):0<=qem a k/\qem a k<2147483629:=by unfold qem;lia
def spMix (K:Ah):Sp:=λvs H Q _=>∃(l:Addr)(ns:List Int)(k:Int),vs=[.ref l,.int k]/\SqL K H l (ns.map V.int)/\0<=k/\k<=100/\Q (.int (qem ns k)) H
noncomputable def nwp (H H':Hp):Hp:=λb=>if H b=none then H' b else none
def qe8 {H H':Hp}{b:Addr}{o:HO}(n:H b=none)(e:H' b=some o):nwp H H' b=some o:=by unfold nwp;rw[if_pos n];exact e
def qmd {H H':Hp}{b:Addr}{o:HO}(e:nwp H H' b=some o):H b=none/\H' b=some o:=by
 unfold nwp at e;by_cases c:H b=none
 .rw[if_pos c]at e;exact⟨c,e⟩
 .rw[if_neg c]at e;cases e
def qyj {H H' a:Hp}(k:∀b o,H b=none->H' b=some o->a b=some o):Same (nwp H H') a:=λb o e=>by obtain⟨d,c⟩:=qmd e;exact k b o d c
def qyk {H J a:Hp}(s:Same J a):Same (nwp H J) (nwp H a):=λb o e=>by obtain⟨d,c⟩:=qmd e;exact qe8 d (s _ _ c)
def RuleB (a:Adr)(H:Hp)(rl:Addr)(t:TD)(bv:V):Prop:=∃(dx pe pa pl:Addr)(w s py:V)(us:List V),H rl=some (.ins a.kE dx (rlF (.str t.name) w (.str t.rd.owes) (opV t.opens) bv (.int t.rd.many) (.str (qj9 t.rd.unit)) s (.ref pe) (.ref pa) (.ref pl) py))/\StAt H s t.rd.still/\H pe=some (.lst (t.rd.ends.map V.str))/\H pa=some (.lst (t.rd.anew.map V.str))/\H pl=some (.lst us)/\Tups H us (t.rd.longer.map qqp)
def RuleB.same {a:Adr}{H H':Hp}{b:Addr}{t:TD}{bv:V}(h:RuleB a H b t bv)(z:Same H H'):RuleB a H' b t bv:=by obtain⟨g,c,d,pl,w,s,k,us,j,e,m,i,l,f⟩:=h;exact⟨g,c,d,pl,w,s,k,us,z _ _ j,e.same z,z _ _ m,z _ _ i,z _ _ l,f.same z⟩
def useS2 {p:Option V->Option V->Prop}{f:Option V->Option V->L2.St}{J:Hp}{k:L2.St->Hp->Prop}{R:Prop}(m:(∀x y,p x y->k (f x y) J)->R)(l:∀x y,p x y->k (f x y) J):R:=m l
def qyl {p:Option V->Hp->Prop}{f:Option V->L2.St}{k:L2.St->Hp->Prop}{R:Prop}(m:(∀x J,p x J->k (f x) J)->R)(l:∀x J,p x J->k (f x) J):R:=m l
def gn2 {i:Nat}{k:L2.St->Hp->Prop}{v:V}{σ σ':L2.St}{H:Hp}(e:σ.set i (some v)=σ')(h:k σ' H):qa8 i v σ H k:=by subst e;exact h
def as2 {i:Nat}{v:V}{D:L2.Ends}{σ σ':L2.St}{H:Hp}(e:σ.set i (some v)=σ')(h:D.nx σ' H):qyy (tC v) (qa8 i) D σ H:=by subst e;exact h
def tn2 {D:L2.Ends}{σ σ':L2.St}{H:Hp}(e:σ=σ')(h:D.nx σ' H):tNext D σ H:=by subst e;exact h
def qn4 {a:List Str}{j:Nat}(h:j<a.length):atI (a.map V.str) (j:Int)=some (.str (a.getD j Ba)):=qao (by rw[Ag,Ak,Ae h];rfl)
def qg0 {a:List Str}{x:Int}(h0:0<=x)(h:x<a.length):atI (a.map V.str) x=some (.str (a.getD x.toNat Ba)):=by obtain⟨j,rfl⟩:∃j:Nat,x=(j:Int):=⟨x.toNat,by lia⟩;rw[B8];exact qn4 (by lia)
theorem qme {α β:Type}(f:Nat->α)(g:α->β)(i:Nat):((Ao (i+1)).map f).map g=((Ao i).map f).map g++[g (f i)]:=by rw[Bt,Ar,Ar];rfl
noncomputable def bvN (names:List Str):Option Nat->V
 |some b=>.str (names.getD b Ba)
 |none=>.non
structure TdOk (names:List Str)(t:TD)(k:Nat):Prop where
 nm:t.name=names.getD k Ba
 ba:∀b,t.base=some b->b<k
 op:t.base=none->∃o,t.opens=some o
 rd:RdOk t.rd
 ls:t.rd.ends.length<=2/\t.rd.anew.length<=2/\t.rd.longer.length<=2
def spRl55 (a:Adr)(K:Ah):Sp:=λvs H Q _=>∃(l pn pk:Addr)(ns:List Int)(names kinds:List Str)(k:Nat),vs=[.ref l,.int 4,.int (k:Int),.ref pn,.ref pk]/\SqL K H l (ns.map V.int)/\H pn=some (.lst (names.map V.str))/\names.length=26/\H pk=some (.lst (kinds.map V.str))/\11<=kinds.length/\k<4 /\
 ∀(x:Addr)(H':Hp)(t:TD),Same H H'->H x=none->TdOk names t k->RuleB a (nwp H H') x t (bvN names t.base)->Q (.ref x) H'
def RsL (a:Adr)(H:Hp)(us:List V)(Ts:List TD)(names:List Str):Prop:=us.length=Ts.length/\∀(j:Nat)(t:TD),Ts[j]?=some t->∃rl,us[j]?=some (.ref rl)/\RuleB a H rl t (bvN names t.base)
def RsL.same {a:Adr}{H H':Hp}{us:List V}{Ts:List TD}{names:List Str}(h:RsL a H us Ts names)(s:Same H H'):RsL a H' us Ts names:=⟨h.1,λj t e=>by obtain⟨b,d,c⟩:=h.2 j t e;exact⟨b,d,c.same s⟩⟩
def RsL.snoc {a:Adr}{H:Hp}{us:List V}{Ts:List TD}{names:List Str}{x:Addr}{t:TD}(h:RsL a H us Ts names)(r:RuleB a H x t (bvN names t.base)):RsL a H (us++[.ref x]) (Ts++[t]) names:=by
 refine⟨by rw[Af,Af,h.1];rfl,λj t' e=>?_⟩;by_cases c:j<Ts.length
 .rw[AH c]at e;obtain⟨b,f,d⟩:=h.2 j t' e;exact⟨b,by rw[AH (by rw[h.1];exact c)];exact f,d⟩
 .rw[AS (by lia)]at e;have:j-Ts.length=0:=by have:=(Ac.mp e).1;simpa using this
  rw[this]at e;cases e;exact⟨x,by rw[AS (by rw[h.1];lia),h.1,this];rfl,r⟩
def RsL.rev {a:Adr}{H:Hp}{us:List V}{Ts:List TD}{names:List Str}(h:RsL a H us Ts names):RsL a H us.reverse Ts.reverse names:=by refine⟨by rw[Bx,Bx,h.1],λj t e=>?_⟩;have b:=(Ac.mp e).1;rw[Bx]at b;rw[CV b]at e;obtain⟨c,f,d⟩:=h.2 _ t e;exact⟨c,by rw[CV (by rw[h.1];exact b),h.1];exact f,d⟩
def spBk55 (a:Adr)(K:Ah):Sp:=λvs H Q _=>∃(l pn pk:Addr)(ns:List Int)(names kinds:List Str),vs=[.ref l,.ref pn,.ref pk]/\SqL K H l (ns.map V.int)/\H pn=some (.lst (names.map V.str))/\names.length=26/\H pk=some (.lst (kinds.map V.str))/\11<=kinds.length /\
 ∀(pr:Addr)(H':Hp)(us:List V)(Ts:List TD)(rv:Bool),H pr=none->Same H H'->1<=Ts.length->Ts.length<=4->(∀k t,Ts[k]?=some t->TdOk names t k)->H' pr=some (.lst us)->RsL a (ofl [pr] H') us (if rv=true then Ts.reverse else Ts) names->Q (.ref pr) H'
noncomputable def qex (t:TD):List Str:=t.rd.owes::(t.rd.ends++t.rd.anew++t.rd.longer.map (·.1))++(t.opens.toList++(match t.rd.still with|some s=>[s.1,s.2] | none=>[]))
def spMe55 (a:Adr):Sp:=λvs H Q _=>∃(pr:Addr)(us:List V)(Ts:List TD)(names:List Str),vs=[.ref pr]/\H pr=some (.lst us)/\RsL a H us Ts names/\Ts.length<=4/\(∀t∈Ts,t.rd.ends.length<=2/\t.rd.anew.length<=2/\t.rd.longer.length<=2) /\
 ∀(q:Addr)(H':Hp),H q=none->Same H H'->H' q=some (.lst ((Ts.flatMap qex).map V.str))->Q (.ref q) H'
def qvk {t:TD}(h:t.rd.ends.length<=2/\t.rd.anew.length<=2/\t.rd.longer.length<=2):(qex t).length<=10:=by
 unfold qex;have h1:t.opens.toList.length<=1:=by cases t.opens <;>simp
 have h2:(match t.rd.still with|some s=>[s.1,s.2] | none=>([]:List Str)).length<=2:=by cases t.rd.still <;>simp
 rw[Af,Af,AG,Af,Af,Ab];lia
theorem qqz {Ts:List TD}(h:∀t∈Ts,t.rd.ends.length<=2/\t.rd.anew.length<=2/\t.rd.longer.length<=2):(Ts.flatMap qex).length<=10*Ts.length:=by
 induction Ts with
 |nil=>exact Al _
 |cons t Ts ih =>have:=ih λx a=>h x (Ay _ a);have:=qvk (h t Am);rw[List.flatMap_cons,Af,AG];lia
def str23 {s:Int}(h1:1<=s)(h2:s<=22){i j:Nat}(b:i<23)(c:j<23)(e:((i:Int)*s+s / 2) % 23=((j:Int)*s+s / 2) % 23):i=j:=by
 have d:((Ao 23).all λs=>(Ao 23).all λi=>(Ao 23).all λj=>s == 0 || (i*s+s / 2) % 23 != (j*s+s / 2) % 23 || i == j)=true:=Ez;obtain⟨t,rfl⟩:∃t:Nat,s=(t:Int):=⟨s.toNat,by lia⟩;have e:(i*t+t / 2) % 23=(j*t+t / 2) % 23:=by exact_mod_cast e
 have a:=C4.mp (C4.mp (C4.mp d t (AN.mpr (by lia))) i (AN.mpr b)) j (AN.mpr c);rw[e]at a;simp at a;lia
def qo4 {names:List Str}(nd:names.Nodup){i j:Nat}(a:i<names.length)(b:j<names.length)(e:names.getD i Ba=names.getD j Ba):i=j:=by rw[Ak,Ak,Ae a,Ae b]at e;exact(List.getElem_inj nd).mp e
def NmA (names:List Str)(s:Int)(acts:List Act):Prop:=∀(j:Nat)(t:Act),acts[j]?=some t->t.1=names.getD (((j:Int)*s+s / 2) % 23).toNat Ba
def nma_nd {names:List Str}{s:Int}{a:List Act}(ln:names.length=26)(nd:names.Nodup)(g:1<=s)(c:s<=22)(l:a.length<=20)(h:NmA names s a):(a.map (·.1)).Nodup:=by rw[Cw,Cn,Bd];intro i j b f hij e;have d:=h i a[i] (Ae b);have k:=h j a[j] (Ae f);rw[d,k]at e;have:=qo4 nd (by lia) (by lia) e;have:=str23 g c (i:=i) (j:=j) (by lia) (by lia) (by lia);lia
def spAc55 (a:Adr)(K:Ah):Sp:=λvs H Q _=>∃(l pr pn:Addr)(ns:List Int)(names:List Str)(us:List V)(Ts:List TD)(first:Int)(many:Nat),vs=[.ref l,.ref pr,.ref pn,.int first,.int (many:Int)]/\SqL K H l (ns.map V.int)/\H pr=some (.lst us)/\RsL a H us Ts names/\1<=Ts.length/\Ts.length<=4/\(∀t∈Ts,t.rd.ends.length<=2/\t.rd.anew.length<=2/\t.rd.longer.length<=2)/\(∃t∈Ts,∃o,t.opens=some o)/\H pn=some (.lst (names.map V.str))/\names.length=26/\names.Nodup/\0<=first/\many<=20 /\
 ∀(q:Addr)(H':Hp)(uA:List V)(acts:List Act)(s:Int),H q=none->Same H H'->H' q=some (.lst uA)->Tups (nwp H H') uA (acts.map qdo)->acts.length=many->1<=s->s<=22->NmA names s acts->(∀t∈acts,first<=t.2.2)->Q (.ref q) H'
def qym {a b:Int×Str}(h:Lam.ltK a b=true):Lam.ltK b a=false:=(Lam.ordK [a,b]).1 0 1 h
def ltK_up {y f t:Int×Str}(b:Lam.ltK y f=false)(a:Lam.ltK f t=false):Lam.ltK y t=false:=(Lam.ordK [t,f,y]).2 0 1 2 a b
def qq0 {a:List Act}{t:Act}{k:Nat}(h:qhg a)(hk:k<=a.length)(m:∀j x,j<k->a[j]?=some x->Lam.ltK (qdp x) (qdp t)=true)(i:∀x,a[k]?=some x->Lam.ltK (qdp x) (qdp t)=false):qhg (a.take k++t::a.drop k):=by
 have c:qhg (a.drop k):=h.sublist (List.drop_sublist k a);have g:=Bk.mp (show (a.take k++a.drop k).Pairwise _ by rw[BI];exact h);refine Bk.mpr ⟨g.1,Bs.mpr ⟨λy b=>?_,c⟩,λx e y b=>?_⟩
 .by_cases z:k<a.length
  .rw[Cf z]at b c;have f:=i _ (Ae z);rcases Av.mp b with rfl|b
   .exact f
   .exact ltK_up ((Bs.mp c).1 y b) f
  .rw[List.drop_eq_nil_of_le (by lia)]at b;cases b
 .rcases Av.mp b with rfl|b
  .obtain⟨j,d⟩:=Bv e;have l:=(Ac.mp d).1;rw[Bj]at l;rw[List.getElem?_take_of_lt (by lia)]at d;exact qym (m j x (by lia) d)
  .exact g.2.2 x e y b
def spSo55:Sp:=λvs H Q _=>∃(p:Addr)(us:List V)(acts:List Act),vs=[.ref p]/\H p=some (.lst us)/\Tups H us (acts.map qdo)/\acts.length<=20 /\
 ∀(q:Addr)(H':Hp)(us':List V)(acts':List Act),H q=none->Same H H'->acts'.Perm acts->qhg acts'->H' q=some (.lst us')->Tups H us' (acts'.map qdo)->Q (.ref q) H'
def Pq (Zq:ZZ)(n:Nat)(p4 p6:Nat->Nat->Addr)(b:Addr):Prop:=∃i,i<n/\∃j,j<(Zq i).length/\(b=p4 i j\/b=p6 i j)
def SpoP (H H':Hp)(Zq:ZZ)(n:Nat)(d:Addr)(q:Nat->Addr)(p4 p6:Nat->Nat->Addr):Prop:=∀b o,b≠d->(∀i<n,b≠q i)->¬Pq Zq n p4 p6 b->H b=some o->H' b=some o
structure SpJ (H J:Hp)(Zq:ZZ)(n:Nat)(d:Addr)(kvs:List (Key×V))(q:Nat->Addr)(p4 p6:Nat->Nat->Addr)(L:Nat->List V)(N m:Nat):Prop where
 ls:∀b,Pq Zq n p4 p6 b->∃u,J b=some (.lst u)/\u.length<=N
 fr:SpoP H J Zq n d q p4 p6
 hd:J d=some (.dK kvs)
 hq:∀i,m<=i->i<n->J (q i)=some (.lst (L i))
 hQ:∀i<n,∃u,J (q i)=some (.lst u)
 sp:∀i<n,¬Pq Zq n p4 p6 (q i)
 sq:∀i<n,∀i'<n,i≠i'->q i≠q i'
section
variable {H J J':Hp}{Zq:ZZ}{n:Nat}{d:Addr}{kvs:List (Key×V)}{q:Nat->Addr}{p4 p6:Nat->Nat->Addr}{L:Nat->List V}{N m:Nat}
def SpJ.same (h:SpJ H J Zq n d kvs q p4 p6 L N m)(s:Same J J'):SpJ H J' Zq n d kvs q p4 p6 L N m :=
 ⟨λb e=>by obtain⟨u,a,k⟩:=h.ls b e;exact⟨u,s _ _ a,k⟩,λb o c l j e=>s _ _ (h.fr b o c l j e),s _ _ h.hd,λi p g=>s _ _ (h.hq i p g),λi f=>by obtain⟨u,a⟩:=h.hQ i f;exact⟨u,s _ _ a⟩,h.sp,h.sq⟩
def SpJ.app {c:Addr}{u:List V}{v:V}(h:SpJ H J Zq n d kvs q p4 p6 L N m)(l:Pq Zq n p4 p6 c)(e:J c=some (.lst u)):SpJ H (upd J c (.lst (u++[v]))) Zq n d kvs q p4 p6 L (N+1) m:=by
 have j:∀i<n,q i≠c:=λi a z=>h.sp i a (z ▸ l);refine⟨λb r=>?_,λb o s p k x=>(qr (show b≠c from λz=>k (by rw[z];exact l))).trans (h.fr b o s p k x),by rw[qr (λz=>by rw[<- z,h.hd]at e;cases e)];exact h.hd,λi t g=>by rw[qr (j i g)];exact h.hq i t g,λi a=>by rw[qr (j i a)];exact h.hQ i a,h.sp,h.sq⟩;obtain⟨w,f,w2⟩:=h.ls b r;by_cases z:b=c
 .subst z;rw[e]at f;cases f;exact⟨_,qk,by rw[Af];show _+1<=_;lia⟩
 .exact⟨w,by rw[qr z];exact f,by lia⟩
def SpJ.qapp {u:List V}(h:SpJ H J Zq n d kvs q p4 p6 L N m)(a:m<n):SpJ H (upd J (q m) (.lst u)) Zq n d kvs q p4 p6 L N (m+1):=by
 have e:=h.hq m (Al m) a;have p:∀b,Pq Zq n p4 p6 b->b≠q m:=λb c z=>h.sp m a (z ▸ c);refine⟨λb c=>by rw[qr (p b c)];exact h.ls b c,λb o k j l r=>by rw[qr (j m a)];exact h.fr b o k j l r,by rw[qr (λz=>by rw[<- z,h.hd]at e;cases e)];exact h.hd,λi h1 g=>by rw[qr (h.sq i g m a (by lia))];exact h.hq i (by lia) g,λi f=>?_,h.sp,h.sq⟩;by_cases z:i=m
 .subst z;exact⟨_,qk⟩
 .rw[qr (h.sq i f m a z)];exact h.hQ i f
def SpJ.more {a:Nat}(h:SpJ H J Zq n d kvs q p4 p6 L N m)(l:N<=a):SpJ H J Zq n d kvs q p4 p6 L a m:=⟨λb c=>by obtain⟨u,f,e⟩:=h.ls b c;exact⟨u,f,A9 e l⟩,h.fr,h.hd,h.hq,h.hQ,h.sp,h.sq⟩
end
def spSp55:Sp:=λvs H Q _=>∃(d:Addr)(bs:List Bool)(rs:List Rw)(ts:Nat->TD)(Zq:ZZ)(n:Nat)(q:Nat->Addr)(y p4 p6:Nat->Nat->Addr),vs=[.ref d]/\qmc bs rs ts Zq n H d q y p4 p6/\qsl Zq n q p4 p6/\TsOk n ts/\(∀i<n,(Zq i).length<=20/\∀st∈Zq i,st.ps.length<=100/\st.rows.length<=100) /\
 ∀H',SpoP H H' Zq n d q p4 p6->Q .non H'
theorem lst_ex {g b:Int->Bool}{ps:List Pz}{s m:Int}(d:qsh g)(j:qsh b)(e:0<=s)(c:1<=m):∃r,Lst g b ps s m r:=by
 obtain⟨h,a⟩:=full_ex (ps:=ps) d e c;cases h with
 |none=>exact⟨none,.inl ⟨a,Z⟩⟩
 |some f =>obtain⟨r,i⟩:=due_ex (ps:=ps) j (f:=f) (by have:=a.1;lia);exact⟨r,.inr ⟨f,a,i⟩⟩
def ls_ex55 {wk:List Int}(a:PartsOk wk [] []):qsi (fdL wk []) (ov []):=λrd st c s ok b=>by
 cases s with|none=>exact⟨none,Z⟩|some d=>exact lst_ex (qtu a rd.unit) (qtu a .c) (b d Z) (need1 ok.u1 _)
def qo5 (K:Ah)(Pt:Addr):Sp:=λvs H Q _=>∃(a:Addr)(ns:List Int),vs=[.ref a]/\SqL K H a (ns.map V.int)/\ns.length<=63/\H Pt=some (.tbl #[])/\∀H',Q (.bl true) H'
def str_ext' {x y:Str}(h:x.cps.toList=y.cps.toList):x=y:=by obtain⟨a⟩:=x;obtain⟨b⟩:=y;have:a=b:=Array.toList_inj.mp h;rw[this]
def ltK_eq {a b:Int×Str}(d:Lam.ltK a b=false)(c:Lam.ltK b a=false):a.2=b.2:=by
 rw[Lam.ltK_no]at d c;have e:a.1=b.1:=by have:=λz=>d (.inl z);have:=λz=>c (.inl z);lia
 exact str_ext' (List.le_antisymm (List.not_lt.mp λz=>c (.inr ⟨e.symm,z⟩)) (List.not_lt.mp λz=>d (.inr ⟨e,z⟩)))
theorem qq1:∀{l m:List Act},l.Perm m->(l.map (·.1)).Nodup->qhg l->qhg m->l=m
 | [],m,p,_,_,_=>p.nil_eq
 |x::l,[],p,_,_,_=>by have:=p.length_eq;cases this
 |x::l,y::m,p,nd,hl,hm=>by
  have e:x=y:=by
   by_cases z:x=y
   .exact z
   .exfalso;have c:x∈m:=by
     rcases Av.mp (p.mem_iff.mp (Am (a:=x) (l:=l))) with h|h
     .exact absurd h z
     .exact h
    have b:y∈l:=by
     rcases Av.mp (p.mem_iff.mpr (Am (a:=y) (l:=m))) with h|h
     .exact absurd h.symm z
     .exact h
    have f:=(Bs.mp hl).1 y b;have d:=(Bs.mp hm).1 x c;have g:y.1=x.1:=ltK_eq f d;rw[AX,Cu]at nd;exact nd.1 (g ▸ List.mem_map_of_mem b)
  subst e;rw[AX,Cu]at nd;rw[qq1 (p.cons_inv) nd.2 (Bs.mp hl).2 (Bs.mp hm).2]
inductive GoodI (bs:List (Option Nat)) (n:Nat):List Nat->Prop
 |nil:GoodI bs n []
 |snoc {l:List Nat} {k:Nat}:GoodI bs n l->k<n->k∉l->(∀b,bo bs k=some b->b∈l)->GoodI bs n (l++[k])
theorem GoodI.lt {bs:List (Option Nat)}{n:Nat}{l:List Nat}(h:GoodI bs n l):∀k∈l,k<n:=by
 induction h with
 |nil=>exact λk h=>absurd h AM
 |snoc _ hk _ _ ih =>
  intro x a;rcases A7.mp a with h|h
  .exact ih x h
  .rw[Ai.mp h];exact hk
theorem GoodI.nd {bs:List (Option Nat)}{n:Nat}{l:List Nat}(h:GoodI bs n l):l.Nodup:=by
 induction h with
 |nil=>exact .nil
 |snoc _ _ hn _ ih =>refine List.nodup_append.mpr ⟨ih,Co _ _,λa d b c z=>?_⟩;rw[Ai.mp c]at z;exact hn (z ▸ d)
theorem GoodI.base {bs:List (Option Nat)}{n:Nat}{l:List Nat}(h:GoodI bs n l):∀(i k b:Nat),l[i]?=some k->bo bs k=some b->∃j,j<i/\l[j]?=some b:=by
 induction h with
 |nil=>intro i k b e;cases e
 | @snoc l k0 _ _ _ hb ih =>
  intro i k b a f;by_cases c:i<l.length
  .rw[AH c]at a;obtain⟨j,d,o⟩:=ih i k b a f;exact⟨j,d,by rw[AH (by lia)];exact o⟩
  .rw[AS (by lia)]at a;have g:i-l.length=0:=by have:=(Ac.mp a).1;simpa using this
   rw[g]at a;cases a;obtain⟨j,d⟩:=Bv (hb b f);have m:=(Ac.mp d).1;exact⟨j,by lia,by rw[AH m];exact d⟩
def mem_nm {nms:List Str}{bs:List (Option Nat)}{c:Nat->Nat}(f:WdN nms bs c){l:List Nat}(b:∀k∈l,k<nms.length){k:Nat}(d:k<nms.length)(h:nm nms k∈l.map (nm nms)):k∈l:=by obtain⟨j,a,e⟩:=AU.mp h;rw[<- ql9 f.nd (b j a) d e];exact a
theorem qt6 {nms:List Str}{bs:List (Option Nat)}{i:Nat->Nat}(d:WdN nms bs i){l:List Nat}(g:GoodI bs nms.length l):∀(f k:Nat),k<nms.length->i k<f->∃e:List Nat,(upW nms bs (l.map (nm nms)) f k).reverse=e.map (nm nms)/\GoodI bs nms.length (l++e)/\k∈l++e/\∀x∈e,i x<=i k
 |0,k,_,h=>absurd h (Bg _)
 |f+1,k,hk,h=>by
  unfold upW;by_cases c:nm nms k∈l.map (nm nms)
  .rw[if_pos c];refine⟨[],Z,by rw[BC];exact g,by rw[BC];exact mem_nm d g.lt hk c,λx a=>absurd a AM⟩
  .rw[if_neg c];have n:k∉l:=λz=>c (List.mem_map_of_mem z);cases m:bo bs k with
   |none=>exact⟨[k],Z,g.snoc hk n (λb e=>by rw[m]at e;cases e),by simp,λx a=>by rw[Ai.mp a];exact Al _⟩
   |some b =>
    obtain⟨r,b2⟩:=d.ok k b (by rw[qx8 (by rw[d.len];exact hk),m]);obtain⟨e,q,p,s,o⟩:=qt6 d g f b r (by lia);refine⟨e++[k],?_,?_,by simp,λx a=>?_⟩
    .show (nm nms k::upW nms bs (l.map (nm nms)) f b).reverse=_;rw[Cm,q,Ar];rfl
    .rw[<- Em];refine p.snoc hk (λz=>?_) (λb' j=>by rw[m]at j;cases j;exact s);rcases A7.mp z with z|z
     .exact n z
     .have:=o k z;lia
    .rcases A7.mp a with z|z
     .have:=o x z;lia
     .rw[Ai.mp z];exact Al _
theorem qq2 {nms:List Str}{bs:List (Option Nat)}{d:Nat->Nat}(a:WdN nms bs d):∀i,i<=nms.length->∃l:List Nat,qca nms bs i=l.map (nm nms)/\GoodI bs nms.length l/\∀k<i,k∈l
 |0,_=>⟨[],Z,.nil,λk h=>absurd h (Bg _)⟩
 |i+1,hi=>by
  obtain⟨l,g,c,j⟩:=qq2 a i (by lia);obtain⟨e,m,f,b,_⟩:=qt6 a c 7 i (by lia) (a.lo i);refine⟨l++e,by rw[qfh,g,m,Ar],f,λk hk=>?_⟩;by_cases z:k=i
  .rw[z];exact b
  .exact Bz _ (j k (by lia))
def qyn {n:Nat}{l:List Nat}(nd:l.Nodup)(lt:∀k∈l,k<n)(all:∀k<n,k∈l):l.Perm (Ao n):=(List.perm_ext_iff_of_nodup nd De).mpr λk=>⟨λh=>AN.mpr (lt k h),λh=>all k (AN.mp h)⟩
noncomputable def fR (rv:Bool)(n j:Nat):Nat:=if rv=true then n-1-j else j
def qc4 {rv:Bool}{n j:Nat}(h:j<n):fR rv n j<n:=by unfold fR;split <;>lia
def qq3 {rv:Bool}{n j:Nat}(h:j<n):fR rv n (fR rv n j)=j:=by unfold fR;split <;>lia
def qyo {rv:Bool}{n i j:Nat}(a:i<n)(b:j<n)(e:fR rv n i=fR rv n j):i=j:=by rw[<- qq3 (rv:=rv) a,e,qq3 b]
noncomputable def nmF (names:List Str)(rv:Bool)(n:Nat):List Str:=(Ao n).map λj=>names.getD (fR rv n j) Ba
noncomputable def bsF (T:Nat->TD)(rv:Bool)(n:Nat):List (Option Nat):=(Ao n).map λj=>((T (fR rv n j)).base).map (fR rv n)
noncomputable def rkF (rv:Bool)(n j:Nat):Nat:=if j<n then fR rv n j else 0
section
variable {names:List Str}{T:Nat->TD}{rv:Bool}{n:Nat}
def qfz:(nmF names rv n).length=n:=by unfold nmF;rw[Ab,Aq]
def qmf {j:Nat}(h:j<n):nm (nmF names rv n) j=names.getD (fR rv n j) Ba:=by unfold nm nmF;rw[Ak,Ag,AV h];rfl
def qsn {j:Nat}(h:j<n):bo (bsF T rv n) j=((T (fR rv n j)).base).map (fR rv n):=by unfold bo bsF;rw[Ak,Ag,AV h];rfl
def wd_F (o:∀k<n,TdOk names (T k) k)(n4:n<=4)(ln:names.length=26)(nd:names.Nodup):WdN (nmF names rv n) (bsF T rv n) (rkF rv n):=by
 refine⟨?_,by unfold bsF;rw[qfz,Ab,Aq],by rw[qfz];lia,λk b e=>?_,λk=>?_⟩
 .unfold nmF;rw[Cw,Cn,Bd];intro i j g l hij e;rw[Aq]at g l;rw[Do,Do]at e;have p:=qc4 (rv:=rv) g;have f2:=qc4 (rv:=rv) l;have:=qyo g l (qo4 nd (by lia) (by lia) e);lia
 .have f:k<n:=by
   have:=(Ac.mp e).1
   unfold bsF at this
   rw[Ab,Aq]at this
   exact this
  have a:=qsn (T:=T) (rv:=rv) f
  unfold bo at a
  rw[Ak,e]at a
  cases m:(T (fR rv n k)).base with
  |none=>rw[m]at a;cases a
  |some c =>
   rw[m]at a;cases a;have q:=(o _ (qc4 f)).ba c m;have p:=qc4 (rv:=rv) f;have d:c<n:=by lia
   rw[qfz];refine⟨qc4 d,?_⟩;unfold rkF;rw[if_pos (qc4 d),if_pos f,qq3 d];exact q
 .unfold rkF;split
  .rename_i h;have:=qc4 (rv:=rv) h;lia
  .decide
noncomputable def tsF (T:Nat->TD)(rv:Bool)(n:Nat)(l:List Nat)(i:Nat):TD:={T (fR rv n (l.getD i 0)) with base:=((T (fR rv n (l.getD i 0))).base).map λb=>l.idxOf (fR rv n b)}
def qyp {l:List Nat}(nd:l.Nodup){j k:Nat}(e:l[j]?=some k):l.idxOf k=j:=by obtain⟨a,rfl⟩:=Ac.mp e;exact nd.idxOf_getElem j a
def ts_F (q:∀k<n,TdOk names (T k) k)(y:n<=4)(ln:names.length=26)(nd:names.Nodup){l:List Nat}(g:GoodI (bsF T rv n) n l)(ll:l.length=n):TsOk n (tsF T rv n l)/\∀i<n,(tsF T rv n l i).name=names.getD (fR rv n (l.getD i 0)) Ba/\baV (tsF T rv n l) (tsF T rv n l i).base=bvN names (T (fR rv n (l.getD i 0))).base:=by
 have at':∀i<n,l[i]?=some (l.getD i 0)/\l.getD i 0<n:=λi a=>by
  have e:l[i]?=some (l.getD i 0):=by rw[Ak,Ae (by lia)];rfl
  exact⟨e,g.lt _ (A2 e)⟩
 have o:∀i<n,∀b,(T (fR rv n (l.getD i 0))).base=some b->b<n/\∃j,j<i/\l[j]?=some (fR rv n b):=λi a b e=>by obtain⟨v,p⟩:=at' i a;have:=(q _ (qc4 p)).ba b e;have w:=qc4 (rv:=rv) p;exact⟨by lia,g.base i _ (fR rv n b) v (by rw[qsn p,e];rfl)⟩
 have d:∀i<n,(tsF T rv n l i).name=names.getD (fR rv n (l.getD i 0)) Ba:=λi a=>(q _ (qc4 (at' i a).2)).nm;refine⟨⟨y,λi a=>(q _ (qc4 (at' i a).2)).rd,λi a b e=>?_,λi a j f e=>?_⟩,λi a=>⟨d i a,?_⟩⟩
 .change ((T (fR rv n (l.getD i 0))).base).map _=some b at e;cases h:(T (fR rv n (l.getD i 0))).base with
  |none=>rw[h]at e;cases e
  |some c =>rw[h]at e;cases e;obtain⟨_,j,f,m⟩:=o i a c h;show l.idxOf (fR rv n c)<i;rw[qyp g.nd m];exact f
 .rw[d i a,d j f]at e;obtain⟨u,t⟩:=at' i a;obtain⟨s,r⟩:=at' j f;have w:=qc4 (rv:=rv) t;have f2:=qc4 (rv:=rv) r;have:=qyo t r (qo4 nd (by lia) (by lia) e);rw[<- this,<- u]at s;exact((El (by lia) g.nd).mp s.symm)
 .show baV (tsF T rv n l) (((T (fR rv n (l.getD i 0))).base).map λb=>l.idxOf (fR rv n b))=_;cases h:(T (fR rv n (l.getD i 0))).base with
  |none=>rfl
  |some c =>obtain⟨x,j,f,m⟩:=o i a c h;show V.str (tsF T rv n l (l.idxOf (fR rv n c))).name=.str (names.getD c Ba);rw[qyp g.nd m,d j (by lia),Ak (l:=l),m];show V.str (names.getD (fR rv n (fR rv n c)) Ba)=_;rw[qq3 x]
def RsL.rules {a:Adr}{H:Hp}{us:List V}(i:us.length=n)(l:∀j<n,∃d,us[j]?=some (.ref d)/\RuleB a H d (T (fR rv n j)) (bvN names (T (fR rv n j)).base))(f:∀k<n,TdOk names (T k) k):qqw a.kE H us (nmF names rv n) (bsF T rv n):=by
 refine⟨by rw[i,qfz],λj v e=>?_⟩;have b:j<n:=by have:=(Ac.mp e).1;lia
 obtain⟨d,g,m,pe,pa,pl,w,s,py,ul,o,_⟩:=l j b;rw[e]at g;cases g;refine⟨d,m,_,Z,o,by rw[qmf b,<- (f _ (qc4 b)).nm];rfl,?_⟩;rw[qsn b];have:qo0 (nmF names rv n) (((T (fR rv n j)).base).map (fR rv n))=bvN names (T (fR rv n j)).base:=by
  cases p:(T (fR rv n j)).base with
  |none=>rfl
  |some c =>
   have:=(f _ (qc4 b)).ba c p;have f1:=qc4 (rv:=rv) b;have h:c<n:=by lia
   show V.str (nm (nmF names rv n) (fR rv n c))=_;rw[qmf (qc4 h),qq3 h];rfl
 rw[this];rfl
def book_F {a:Adr}{H:Hp}{us:List V}{bk:Addr}(r:∀k<n,TdOk names (T k) k)(B:n<=4)(A:names.length=26)(nd:names.Nodup)(t:∀j<n,∃c,us[j]?=some (.ref c)/\RuleB a H c (T (fR rv n j)) (bvN names (T (fR rv n j)).base)){l:List Nat}(h:GoodI (bsF T rv n) n l)(z:l.length=n)(q:BookAt a.kN H bk (nmF names rv n) (l.map (nm (nmF names rv n))) us):BookT a H bk n (tsF T rv n l):=by
 obtain⟨t1,f⟩:=ts_F (rv:=rv) r B A nd h z;have lt:∀i<n,l[i]?=some (l.getD i 0)/\l.getD i 0<n:=λi b=>by
  have e:l[i]?=some (l.getD i 0):=by rw[Ak,Ae (by lia)];rfl
  exact⟨e,h.lt _ (A2 e)⟩
 refine⟨nmF names rv n,us,?_,λi b=>?_⟩
 .have:((Ao n).map λi=>(tsF T rv n l i).name)=l.map (nm (nmF names rv n)):=by
   refine BZ λi=>?_
   rw[Ag,Ag]
   by_cases b:i<n
   .obtain⟨g,d⟩:=lt i b;rw[AV b,g];show some (tsF T rv n l i).name=some (nm (nmF names rv n) (l.getD i 0));rw[(f i b).1,qmf d]
   .rw[AI (by rw[Aq];lia),AI (by lia)];rfl
  rw[this]
  exact q
 .obtain⟨g,d⟩:=lt i b;obtain⟨c,x,u,m,p,pl,w,s,y,o,v⟩:=t _ d;refine⟨l.getD i 0,c,by rw[qmf d,(f i b).1],x,u,m,p,pl,w,s,y,o,?_⟩;rw[(f i b).2];exact v
end
def qg9 {n:Nat}{H:Hp}{v:V}(h:qb2 v=true):DkV n H v v:=by
 cases n with|zero=>exact⟨Z,h⟩|succ n=>exact .inl ⟨Z,h⟩
def qha {H:Hp}{p q:Addr}{us d:List V}{ts:List (List V)}(n:H p=some (.lst us))(l:H q=some (.lst d))(t:Tups H us ts)(t':Tups H d ts)(h:∀r∈ts,∀v∈r,qb2 v=true):DkV 2 H (.ref p) (.ref q):=by refine .inr ⟨p,q,us,d,Z,Z,.inl ⟨n,l⟩,by rw[t.length,t'.length],λi x y ex m=>?_⟩;obtain⟨a,r,rfl,g,o⟩:=t.get' ex;obtain⟨b,r',rfl,c,k⟩:=t'.get' m;rw[g]at c;cases c;refine .inr ⟨a,b,r,r,Z,Z,.inr ⟨o,k⟩,Z,λj x y f e=>?_⟩;rw[f]at e;cases e;exact qg9 (h r (A2 g) x (A2 f))
def qo6 {a:List Act}:∀r∈a.map qdo,∀v∈r,qb2 v=true:=λr c v b=>by obtain⟨t,_,rfl⟩:=AU.mp c;unfold qdo at b;simp at b;rcases b with rfl|rfl|rfl <;>rfl
def qyq (o:Option Int):qb2 (oV o)=true:=by cases o <;>rfl
def encQ_fl {ps:List Pz}:∀r∈ps.map qki,∀v∈r,qb2 v=true:=λr b v a=>by
 obtain⟨t,_,rfl⟩:=AU.mp b;unfold qki at a;simp at a;rcases a with rfl|rfl
 .rfl
 .exact qyq _
def encR_fl {ps:List R3}:∀r∈ps.map qsd,∀v∈r,qb2 v=true:=λr b v a=>by obtain⟨t,_,rfl⟩:=AU.mp b;unfold qsd at a;simp at a;rcases a with rfl|rfl|rfl <;>rfl
theorem dk_acc {H:Hp}{q f g e c d:Addr}{n:Str}{st:RS}{s r:Option Int}(h:AccAt H q f g n st s r)(h':AccAt H e c d n st s r):DkV 3 H (.ref q) (.ref e):=by
 obtain⟨k,⟨u4,z,t⟩,⟨u6,v,p⟩⟩:=h;obtain⟨u,⟨w4,l,w⟩,⟨w6,j,o⟩⟩:=h';have m:DkV 2 H (.ref f) (.ref c):=qha z l t w encQ_fl;have A:DkV 2 H (.ref g) (.ref d):=qha v j p o encR_fl;refine .inr ⟨q,e,_,_,Z,Z,.inr ⟨k,u⟩,Z,λi x y a b=>?_⟩
 match i,a,b with
 |0,a,b=>cases a;cases b;exact qg9 rfl
 |1,a,b=>cases a;cases b;exact qg9 rfl
 |2,a,b=>cases a;cases b;exact qg9 (qyq s)
 |3,a,b=>cases a;cases b;exact qg9 rfl
 |4,a,b=>cases a;cases b;exact m
 |5,a,b=>cases a;cases b;exact qg9 (qyq r)
 |6,a,b=>cases a;cases b;exact A
 |i+7,a,b=>cases a
def qky {bs:List Bool}{rs:List Rw}{ts:Nat->TD}{Zq:ZZ}{n:Nat}{H:Hp}{d e:Addr}{q g:Nat->Addr}{y s t u l o:Nat->Nat->Addr}(p:∀i<n,∀j<n,(ts i).name=(ts j).name->i=j)(h:qmc bs rs ts Zq n H d q y s t)(h':qmc bs rs ts Zq n H e g u l o):DkD 4 H (.ref d) (.ref e):=by
 refine⟨d,e,_,_,Z,Z,.inl h.1,.inl h'.1,by rw[qew,qew],λk x m=>?_⟩;obtain⟨i,a,r⟩:=AU.mp m;have a:=AN.mp a;cases r;refine⟨_,qix p a,.inr ⟨q i,g i,_,_,Z,Z,.inl ⟨(h.2 i a).1,(h'.2 i a).1⟩,by rw[Ab,Ab],λj x y c f=>?_⟩⟩;have b:j<(Zq i).length:=by have:=(Ac.mp c).1;rw[Ab,Aq]at this;exact this
 rw[Ag,AV b]at c f;cases c;cases f;exact dk_acc ((h.2 i a).2 j b) ((h'.2 i a).2 j b)
structure Tc where
 d:Addr
 q:Nat->Addr
 y:Nat->Nat->Addr
 p4:Nat->Nat->Addr
 p6:Nat->Nat->Addr
def Cel (Zq:ZZ)(n:Nat)(c:Tc)(b:Addr):Prop:=b=c.d\/(∃i,i<n/\b=c.q i)\/Pq Zq n c.p4 c.p6 b
section
variable {bs:List Bool}{rs:List Rw}{ts:Nat->TD}{Zq:ZZ}{n:Nat}{H H':Hp}{c:Tc}{d:Addr}{q:Nat->Addr}{y p4 p6:Nat->Nat->Addr}
abbrev TdA (bs:List Bool)(rs:List Rw)(ts:Nat->TD)(Zq:ZZ)(n:Nat)(H:Hp)(c:Tc):Prop:=qmc bs rs ts Zq n H c.d c.q c.y c.p4 c.p6
def qf0 (h:TdA bs rs ts Zq n H c)(k:∀b o,(Cel Zq n c b \/ ∃t,o=.tup t)->H b=some o->H' b=some o):TdA bs rs ts Zq n H' c:=by have d:∀b u,H b=some (.tup u)->H' b=some (.tup u):=λb u e=>k b _ (.inr ⟨u,Z⟩) e;refine⟨k _ _ (.inl (.inl Z)) h.1,λi a=>⟨k _ _ (.inl (.inr (.inl ⟨i,a,Z⟩))) (h.2 i a).1,λj f=>?_⟩⟩;obtain⟨s,⟨m,g,q⟩,⟨p,l,r⟩⟩:=(h.2 i a).2 j f;exact⟨d _ _ s,⟨m,k _ _ (.inl (.inr (.inr ⟨i,a,j,f,.inl Z⟩))) g,qcp q d⟩,⟨p,k _ _ (.inl (.inr (.inr ⟨i,a,j,f,.inr Z⟩))) l,qcp r d⟩⟩
def qso (h:TdA bs rs ts Zq n H c){b:Addr}(d:Cel Zq n c b):(∃kv,H b=some (.dK kv)) \/ ∃u,H b=some (.lst u):=by
 rcases d with rfl|⟨i,a,rfl⟩|⟨i,a,j,g,d⟩
 .exact .inl ⟨_,h.1⟩
 .exact .inr ⟨_,(h.2 i a).1⟩
 .obtain⟨h1,⟨u4,e,h3⟩,⟨u6,f,h5⟩⟩:=(h.2 i a).2 j g;rcases d with rfl|rfl
  .exact .inr ⟨_,e⟩
  .exact .inr ⟨_,f⟩
def qo7 (h:NewT H Zq n c.d c.q c.y c.p4 c.p6){b:Addr}(f:Cel Zq n c b):H b=none:=by
 rcases f with rfl|⟨i,a,rfl⟩|⟨i,a,j,e,rfl|rfl⟩
 .exact h.1
 .exact(h.2 i a).1
 .exact((h.2 i a).2 j e).2.1
 .exact((h.2 i a).2 j e).2.2
def qiz {b:Addr}{o:HO}(h:SpoP H H' Zq n c.d c.q c.p4 c.p6)(a:¬Cel Zq n c b)(e:H b=some o):H' b=some o :=
 h b o (λz=>a (.inl z)) (λi f z=>a (.inr (.inl ⟨i,f,z⟩))) (λz=>a (.inr (.inr z))) e
theorem sb_free {H J:Hp}{b a:Addr}{ps:Array Value}(d:J a=some (.tbl ps))(k:SameBut a H J)(n:J b=none):H b=none:=by
 cases e:H b with
 |none=>rfl
 |some o =>
  by_cases c:b=a
  .rw[c,d]at n;cases n
  .rw[k b o c e]at n;cases n
structure Td5 (bs:List Bool)(rs:List Rw)(ts:Nat->TD)(Zq:ZZ)(n:Nat)(B H:Hp)(pT:Addr)(cs:List Tc):Prop where
 hT:H pT=some (.lst (cs.map λc=>.ref c.d))
 td:∀c∈cs,TdA bs rs ts Zq n H c
 sp:∀c∈cs,qsl Zq n c.q c.p4 c.p6
 nw:∀c∈cs,∀b,Cel Zq n c b->B b=none/\b≠pT
 ap:cs.Pairwise λc c'=>∀b,Cel Zq n c b->¬Cel Zq n c' b
variable {B J J':Hp}{pT Pt:Addr}{cs:List Tc}{ps:Array Value}
def qsp (h:TdA bs rs ts Zq n H c)(d:H Pt=some (.tbl ps)){b:Addr}{o:HO}(a:Cel Zq n c b \/ ∃t,o=.tup t)(e:H b=some o):b≠Pt:=λz=>by
 rw[z,d]at e;rcases a with a|⟨t,rfl⟩
 .rw[z]at a;rcases qso h a with ⟨u,q⟩|⟨u,q⟩ <;>rw[d]at q <;>cases q
 .cases e
def Td5.kp (T:Td5 bs rs ts Zq n B J pT cs)(a:J Pt=some (.tbl ps))(k:SameBut Pt J J'):Td5 bs rs ts Zq n B J' pT cs :=
 ⟨k _ _ (λz=>by have:=T.hT;rw[z,a]at this;cases this) T.hT,λc d=>qf0 (T.td c d) λb o f e=>k b o (qsp (T.td c d) a f e) e,T.sp,T.nw,T.ap⟩
def Td5.snoc (T:Td5 bs rs ts Zq n B J pT cs)(j:J Pt=some (.tbl ps))(m:SameBut Pt B J)(k:SameBut Pt J J')(h':TdA bs rs ts Zq n J' c)(s:qsl Zq n c.q c.p4 c.p6)(h:NewT J Zq n c.d c.q c.y c.p4 c.p6):Td5 bs rs ts Zq n B (upd J' pT (.lst ((cs.map λc=>.ref c.d)++[.ref c.d]))) pT (cs++[c]):=by
 have i:=T.kp j k;have l:∀c∈cs,∀b,Cel Zq n c b->J b≠none:=λc a b f z=>by rcases qso (T.td c a) f with ⟨u,q⟩|⟨u,q⟩ <;>rw[z]at q <;>cases q
 refine⟨by rw[qk,Ar];rfl,λg a=>?_,λg a=>?_,λg a b f=>?_,Bk.mpr ⟨T.ap,Co _ _,λx p y r b f z=>?_⟩⟩
 .rcases A7.mp a with a|a
  .refine qf0 (i.td g a) λb o f e=>?_;rw[qr]
   .exact e
   .rintro rfl;rcases f with f|⟨t,rfl⟩
    .exact(T.nw g a _ f).2 rfl
    .rw[i.hT]at e;cases e
  .rw[Ai.mp a];refine qf0 h' λb o f e=>?_;rw[qr]
   .exact e
   .rintro rfl;rcases f with f|⟨t,rfl⟩
    .have:=qo7 h f;rw[T.hT]at this;cases this
    .rw[i.hT]at e;cases e
 .rcases A7.mp a with a|a
  .exact T.sp g a
  .rw[Ai.mp a];exact s
 .rcases A7.mp a with a|a
  .exact T.nw g a b f
  .rw[Ai.mp a]at f;have e:=qo7 h f;exact⟨sb_free j m e,λz=>by rw[z,T.hT]at e;cases e⟩
 .rw[Ai.mp r]at z;exact l x p b f (qo7 h z)
def Td5.spoilt {c0 a f:Tc}{pos:Pos}{g:Str}(T:Td5 bs rs ts Zq n B J pT [c0,a,f])(w:Lam.LamAt J Pt pos g)(k:SameBut Pt B J)(s:SpoP J J' Zq n a.d a.q a.p4 a.p6):TdA bs rs ts Zq n J' c0/\TdA bs rs ts Zq n J' f/\SameBut Pt B J'/\Lam.LamAt J' Pt pos g/\J' pT=some (.lst [.ref c0.d,.ref a.d,.ref f.d]):=by
 have y:=T.td a (by simp);have ap:=T.ap;rw[Bs,Bs]at ap;have j:=ap.1 a (by simp);have i:=ap.2.1 f (by simp);have keep:∀b o,(∀u,o ≠ .dK u)->(∀u,o ≠ .lst u)->J b=some o->J' b=some o:=λb o r l e=>qiz s (λz=>by
  rcases qso y z with ⟨u,q⟩|⟨u,q⟩ <;>rw[q]at e
  .exact r u (AD e).symm
  .exact l u (AD e).symm) e
 refine⟨qf0 (T.td c0 (by simp)) λb o c e=>?_,qf0 (T.td f (by simp)) λb o c e=>?_,λb o x e=>qiz s (λz=>?_) (k b o x e),?_,qiz s (λz=>(T.nw a (by simp) _ z).2 Z) T.hT⟩
 .rcases c with c|⟨t,rfl⟩
  .exact qiz s (j b c) e
  .exact keep b _ (λ_ z=>nomatch z) (λ_ z=>nomatch z) e
 .rcases c with c|⟨t,rfl⟩
  .exact qiz s (λz=>i b z c) e
  .exact keep b _ (λ_ z=>nomatch z) (λ_ z=>nomatch z) e
 .rw[(T.nw a (by simp) b z).1]at e;cases e
 .rcases w with h|⟨m,v,p⟩
  .exact .inl (keep _ _ (λ_ z=>nomatch z) (λ_ z=>nomatch z) h)
  .exact .inr ⟨m,keep _ _ (λ_ z=>nomatch z) (λ_ z=>nomatch z) v,keep _ _ (λ_ z=>nomatch z) (λ_ z=>nomatch z) p⟩
end
section
variable {names:List Str}{T:Nat->TD}{rv:Bool}{n:Nat}
def names_F (f:∀k<n,TdOk names (T k) k)(m:n<=4)(h:names.length=26)(nd:names.Nodup){l:List Nat}(b:GoodI (bsF T rv n) n l)(j:l.length=n):((Ao n).map λi=>(tsF T rv n l i).name)=l.map (nm (nmF names rv n)):=by
 obtain⟨t1,d⟩:=ts_F (rv:=rv) f m h nd b j;have lt:∀i<n,l[i]?=some (l.getD i 0)/\l.getD i 0<n:=λi a=>by
  have e:l[i]?=some (l.getD i 0):=by rw[Ak,Ae (by lia)];rfl
  exact⟨e,b.lt _ (A2 e)⟩
 refine BZ λi=>?_;rw[Ag,Ag];by_cases a:i<n
 .obtain⟨c,g⟩:=lt i a;rw[AV a,c];show some (tsF T rv n l i).name=some (nm (nmF names rv n) (l.getD i 0));rw[(d i a).1,qmf g]
 .rw[AI (by rw[Aq];lia),AI (by lia)];rfl
end
def qq4:AR K (.type "dict") (.type "dict")=some true:=by kernel_rfl
def qt7 {H:Hp}{p q:Addr}{xs:List Str}(c:H p=some (.lst (xs.map V.str)))(d:H q=some (.lst (xs.map V.str))):DkV 1 H (.ref p) (.ref q):=by
 refine .inr ⟨p,q,_,_,Z,Z,.inl ⟨c,d⟩,Z,λi x y a b=>?_⟩;rw[a]at b;cases b;rw[Ag]at a;cases e:xs[i]? with|none=>rw[e]at a;cases a|some z=>rw[e]at a;cases a;exact⟨Z,Z⟩
def qq5 {n:Nat}{ts:Nat->TD}{p:Nat->Addr}:((kvR n ts p).map λa=>kV a.1)=((Ao n).map λi=>(ts i).name).map V.str:=by unfold kvR;rw[Ca,Ca];rfl
def rules_T {a:Adr}{H H':Hp}{us:List V}{nms:List Str}{bs:List (Option Nat)}(k:KpT H H')(h:qqw a.kE H us nms bs):qqw a.kE H' us nms bs:=⟨h.1,λj y e=>by obtain⟨p,d,fs,c,b,f⟩:=h.2 j y e;exact⟨p,d,fs,c,k _ _ (λ_ z=>nomatch z) b,f⟩⟩
def KpT.l {H H':Hp}{b:Addr}{u:List V}(k:KpT H H')(e:H b=some (.lst u)):H' b=some (.lst u):=k b _ (λ_ z=>nomatch z) e
noncomputable def wkF (c:Int)(n:Nat):List Int:=(Ao n).map λ(j:Nat)=>1+(c / 7+(j:Int)) % 7
def wk_ok (c:Int){n:Nat}(h:n<=6):OkW (wkF c n):=by
 refine⟨by unfold wkF;rw[Ab,Aq];exact h,?_,λw d=>?_⟩
 .unfold wkF;refine Cn.mpr (De.imp_of_mem λ{i j} b f a e=>a ?_);have:=AN.mp b;have:=AN.mp f;lia
 .obtain⟨j,_,rfl⟩:=AU.mp d;lia
theorem qyr {H:Hp}{us:List V}{a:List Act}(t:Tups H us (a.map qdo)):Tups H us.reverse (a.reverse.map qdo):=by
 generalize e:a.map qdo=ts at t;rw[DF,e];clear e
 induction t with
 |nil=>exact .nil
 |cons h _ ih=>rw[Cm,Cm];exact qg8 ih h
def start14 {vs:List Str}{v:V}(h:vs.length=14):L2.start vs [v]=[some v,none,none,none,none,none,none,none,none,none,none,none,none,none]:=by unfold L2.start;rw[h];rfl
def wds_nd {c:Int}:(wds c 26).Nodup:=by unfold wds;rw[Cw,Cn,Bd];intro i j a b hij e;rw[Aq]at a b;rw[Do,Do]at e;have:=wd_inj (by lia) (by lia) e;lia
section
variable {P:AK}{w:World}{K:Ah}{mg:Str->Option Value}{base:Heap}{a:Adr}
set_option maxHeartbeats 4000000
theorem qen (T:Txt K mg a):FnOk P w K mg base CX0 1 a.bO a.nQ ["self","table"] (spKInit a):=by
 refine T.dU.fn.ok qlt (λvs H Q E h=>?_) (λcdv A outer s H vs Q E hr h=>?_)
 .obtain⟨_,_,_,_,rfl,_⟩:=h
  all_goals rfl
 .obtain⟨i,x,dx,tb,rfl,d,k⟩:=h;refine⟨_,(qj (qay (pv 0) (pv 1) Z)),?_⟩;cases i with|a=>exact(nmc Z (nmc Z ⟨_,_,_,_,Z,d,T.bM,qp T.rZ Uk,Uk,k⟩))|b=>exact(nmc Z (nmc Z ⟨_,_,_,_,Z,d,T.bJ,qp T.rY Uk,Uk,k⟩))|c=>exact(nmc Z (nmc Z ⟨_,_,_,_,Z,d,T.gK,qp T.bD Uk,Uk,k⟩))
theorem qys (T:Txt K mg a):FnOk P w K mg base CX0 3 a.xK a.tD ["unit","table"] (spKind a):=by
 refine T.dL.fn.ok qw2 (λvs H Q E h=>?_) (λcdv A outer s H vs Q E e h=>?_)
 .obtain⟨_,_,rfl,_⟩:=h
  all_goals rfl
 .obtain⟨i,tb,rfl,k⟩:=h;refine⟨_,(qf (zb (qt qch (pv 0) zg (qad _)) (qj (qo (qdx T.yV (qen T) (e.mono Uk) Z T.zV T.dU.bd .nil qac (qd (pv 1) qg qe)))) qaf)
   (qf (zb (qt qch (pv 0) zg (qad _)) (qj (qo (qdx T.zE (qen T) (e.mono Uk) Z T.zI T.dU.bd .nil qac (qd (pv 1) qg qe)))) qaf)
   (qj (qo (qdx T.yT (qen T) (e.mono Uk) Z T.xX T.dU.bd .nil qac (qd (pv 1) qg qe)))))),?_⟩
  cases i with|a=>exact(nmc Z ⟨Z,(nmc Z (qbi Ez (nmc Z ⟨Z,(nmc Z (qbi Ez (nmc Z (λx d nx nd f=>⟨.a,x,d,_,Z,qk,Z,k x d _ (ql4 nx nd) nx qk⟩))))⟩)))⟩)|b=>exact(nmc Z ⟨Z,(nmc Z (qcn Z (nmc Z (λx d nx nd f=>⟨.b,x,d,_,Z,qk,Z,k x d _ (ql4 nx nd) nx qk⟩))))⟩)|c=>exact(nmc Z ⟨Z,(nmc Z (qbi Ez (nmc Z ⟨Z,(nmc Z (qcn Z (nmc Z (λx d nx nd f=>⟨.c,x,d,_,Z,qk,Z,k x d _ (ql4 nx nd) nx qk⟩))))⟩)))⟩)
theorem qhb (T:Txt K mg a):FnOk P w K mg base CX0 1 a.tS a.pQ ["thing"] (sp1 λ_=>.bl true):=by
 refine T.kY.fn.ok qu7 (λvs H Q E h=>?_) (λcdv A outer s H vs Q E hr h=>?_)
 .obtain⟨_,rfl,_⟩:=h
  all_goals rfl
 .obtain⟨y,rfl,k⟩:=h;refine⟨_,(qj (qo (qhk (zd qge (by rfl) T.bQ qb4 (qd (pv 0) (qd (qh6 (v:=.ty "int") Z T.yI qw0 Z) qg qe) qe)) (qf7 (qvx (zd qge (by rfl) T.bQ qb4 (qd (pv 0) (qd (qh6 (v:=.ty "bool") Z T.zK qu5 Z) qg qe) qe))))))),?_⟩;exact(nmc Z ⟨_,_,_,_,Z,.int _,qpp,(nmc Z (qd6 (nmc Z ⟨_,_,_,_,Z,.int _,qoc,(nmc Z k)⟩)))⟩)
theorem qhh (T:Txt K mg a):FnOk P w K mg base CX0 2 a.mN a.mF ["first","last","most"] spStr:=by
 refine T.gR.fn.ok qmx (λvs H Q E h=>?_) (λcdv A outer s H vs Q E b h=>?_)
 .obtain⟨_,_,_,rfl,_⟩:=h
  all_goals rfl
 .obtain⟨f,l,m,rfl,c,e,d,k⟩:=h;refine⟨_,(qf (zb (qd3 (PW.pt (qc5 (zf (zc (qhb T) (b.mono Uk) Z T.kY.mgx T.kY.fn.kp T.kY.bd .nil qac (qd (pv 0) qg qe))) (qco (zf (zc (qhb T) (b.mono Uk) Z T.kY.mgx T.kY.fn.kp T.kY.bd .nil qac (qd (pv 1) qg qe))))))) (qj (qo qcg)) qaf)
   (qj (qo (quu qga qga qc3 qi (pv 0) (pv 1) (qv qah (pv 0) (pv 2)))))),?_⟩
  refine(nmc Z (nmc Z (nmc Z (qd6 (nmc Z (nmc Z (nmc Z (qbs ?_))))))));refine(nmc Z (iic Z Z (nmc Z (qcn c (nmc Z (iic Z Z (nmc Z (qcn e (nmc Z (nmc Z (iic Z Z (iic Z Z ?_))))))))))));show Q (.bl (decide (l<f+m))) H;rw[decide_eq_true d];exact k
theorem qo8 (T:Txt K mg a):FnOk P w K mg base CX0 1 a.nI a.pD ["stretches","day"] spPlace:=by
 refine T.gI.fn.ok qg4 (λvs H Q E h=>?_) (λcdv A outer s H vs Q E hr h=>?_)
 .obtain⟨_,_,_,_,_,rfl,_⟩:=h
  all_goals rfl
 .obtain⟨p,us,ts,es,d,rfl,R,U,he,hl,J,k⟩:=h;refine⟨_,(qf (qu (i:=2) qg4.nd Z (Au Z) qi)
   (qf (qu (i:=3) qg4.nd Z (Au Z) (zd qb1 (by rfl) T.gA qb5 (qd (pv 0) qg qe)))
   (qf (qf8 A8 (qt qc3 (pv 2) (pv 3) (qad _)) (qf (qu (i:=4) qg4.nd Z (Au Z) (qv qa1 (qv qah (pv 2) (pv 3)) qi))
   (qj (zb (qt qc3 (zp zq (zp zr (pv 0) (pv 4) (λ_ _=>rfl)) qi (λ_ _=>rfl)) (pv 1) (qad _)) (qj (qu (i:=2) qg4.nd Z (Au Z) (qv qah (pv 4) qi))) (qj (qu (i:=3) qg4.nd Z (Au Z) (pv 4)))))))
   (qj (qo (pv 2)))))),?_⟩
  have L:=U.length.trans hl;refine(nmc Z ⟨_,_,Z,.inl ⟨_,SqL.of R,Z⟩,?_⟩);refine⟨λm σ' H'=>H'=H/\∃(lo b:Int)(v:Option V),σ'=[some (.ref p),some (.int d),some (.int lo),some (.int b),v]/\m=(b-lo).toNat/\0<=lo/\lo<=b/\b<=es.length/\(∀(i:Nat)(e:Int),es[i]?=some e->(i:Int)<lo->e<d)/\(∀(i:Nat)(e:Int),es[i]?=some e->b<=(i:Int)->¬e<d), 
   ⟨_,Z,0,(us.length:Int),none,Z,Z,Bo _,Dn _,Int.le_of_eq (congrArg (λn:Nat=>(n:Int)) L),λi e _ z=>absurd z (B2.mpr (Dn i)),λi e z c=>absurd (Dd.mp c) (Nat.not_le.mpr (L ▸ (Ac.mp z).1))⟩,?_⟩
  rintro m σ' H' ⟨rfl,lo,b,v,rfl,rfl,C,h1,D,W,O⟩;refine(nmc Z (nmc Z (iic Z Z (nmc Z ?_))));refine qbx (λc=>?_) (λc=>?_)
  .have u:lo<b:=of_decide_eq_true c;refine⟨λσ2 I=>I=H'/\∃(l g:Int)(v:Option V),σ2=[some (.ref p),some (.int d),some (.int l),some (.int g),v]/\g-l<b-lo/\0<=l/\l<=g/\g<=es.length/\(∀(i:Nat)(e:Int),es[i]?=some e->(i:Int)<l->e<d)/\(∀(i:Nat)(e:Int),es[i]?=some e->g<=(i:Int)->¬e<d),?_,?_⟩
   .rintro σ2 I ⟨rfl,l,g,v2,rfl,g0,g1,g2,g3,g4,g5⟩;exact⟨_,tn_lt g0 (Int.sub_pos.mpr u),Z,l,g,v2,Z,Z,g1,g2,g3,g4,g5⟩
   .refine(nmc Z (nmc Z (iic Z Z (icc Z Z ⟨Uk,Uk⟩ ?_))));obtain⟨j,N,M,G⟩:=mid C u;have r:j<es.length:=D6.mp (Bb G D);have F:es[j]?=some (es[j]'r):=Ae _;obtain⟨t,X,t2⟩:=he j _ F;obtain⟨a,Y,a2⟩:=U.get X;dsimp only[];generalize (lo+b) / 2=mid at N |-;subst N;have S:∀{i:Nat}{e:Int},es[i]?=some e->(i<j->e<es[j]'r)/\(j<i->es[j]'r<e):=λ{i e} z=>by obtain⟨zi,ze⟩:=Ac.mp z;subst ze;exact⟨λq=>Bd.mp J i j _ _ q,λq=>Bd.mp J j i _ _ q⟩
    refine(nmc Z (nmc Z (lxo (R) ((qao Y)) (txo (a2) t2 (nmc Z (iic Z Z (nmc Z ?_)))))));refine qbx (λe=>?_) (λe=>?_)
    .have o:=of_decide_eq_true e;refine(nmc Z (iic Z Z ⟨Z,(j:Int)+1,b,_,Z,Int.sub_lt_sub_left (Int.lt_add_one_of_le M) b,Dn (j+1),G,D,λi x f q=>?_,O⟩));by_cases z:i=j
     .subst z;rw[F]at f;cases f;exact o
     .exact CF ((S f).1 (Nat.lt_of_le_of_ne (Dd.mp (DM q)) z)) o
    .have o:¬es[j]'r<d:=λz=>e (decide_eq_true z);refine(nmc Z ⟨Z,lo,(j:Int),_,Z,Int.sub_lt_sub_right G lo,C,M,Dd.mpr (B9 r),W,λi x f q=>?_⟩);by_cases z:i=j
     .subst z;rw[F]at f;cases f;exact o
     .exact λy=>o (CF ((S f).2 (Nat.lt_of_le_of_ne (Dd.mp q) (By z))) y)
  .have u:¬lo<b:=λz=>c (decide_eq_true z);have B:(lo.toNat:Int)=lo:=Cz C;have e:(cnt es d:Nat)=lo.toNat:=qrq (Dd.mp (Bm (Int.le_of_eq B) (Bm h1 D))) (λi x f q=>W i x f (Bb (D6.mpr q) (Int.le_of_eq B))) λi x f q=>O i x f (Bm (B2.mp u) (Bm (Int.le_of_eq B.symm) (Dd.mpr q)));refine(nmc Z ?_);show Q (.int lo) H';rw[<- B,<- e];exact k
theorem qyt (T:Txt K mg a):FnOk P w K mg base CX0 1 a.tU a.n9 ["laid"] spJoin:=by
 refine T.dP.fn.ok qgq (λvs H Q E h=>?_) (λcdv A outer s H vs Q E hr h=>?_)
 .obtain⟨_,_,_,_,_,rfl,_⟩:=h
  all_goals rfl
 .obtain⟨W,dq,j,p,rs,rfl,inj,sc,⟨us,U,Y⟩,hl,k⟩:=h;refine⟨_,(qf (qu (i:=1) qgq.nd Z (Au Z) (zh qg))
   (qf (qa3 A8 Z (qa0 (pv 0)) (qe0 Z (qar (qag (i:=2) qgq.nd Z (Au Z)) (qar (qag (i:=3) qgq.nd Z (Au Z)) (qar (qag (i:=4) qgq.nd Z (Au Z)) qde)))) (qj (zb (PW.pt (qc5 (qv0 (pv 1) (λ_=>rfl)) (qc5 (qt qch (zp zq (zp zr (pv 1) (qeq qcx qi) (λ_ _=>rfl)) qi (λ_ _=>rfl)) (pv 4) (qad _)) (qco (qt qch (qv qah (zp zq (zp zr (pv 1) (qeq qcx qi) (λ_ _=>rfl)) qi (λ_ _=>rfl)) qi) (pv 2) (qad _)))))) (qj (ps_asg (zj (qd (zp zq (zp zr (pv 1) (qeq qcx qi) (λ_ _=>rfl)) qi (λ_ _=>rfl)) (qd (pv 3) (qd (pv 4) qg qe) qe) zn)) (pg_sub (pv 1) (qeq qcx qi) qv5))) (qj (qz (qbr Ax A3 A4 qam (pv 1) (qd (zj (qd (pv 2) (qd (pv 3) (qd (pv 4) qg qe) qe) qe)) qg zo)))))))
   (qj (qo (pv 1))))),?_⟩
  refine⟨qdy,λq J=>?_⟩;have lu:=AtG.len Y;refine(nmc Z ⟨_,Z,⟨_,SqL.of (qx J _ _ U)⟩,qa5 (K:=K) (a:=p) (xs:=us) (λi σ H'=>Same H H'/\∃(q:Addr)(L M O:Option V),σ=[some (.ref p),some (.ref q),L,M,O]/\H q=none/\AtG j H' q (jn (rs.take i)))
   ⟨qx J,q,none,none,none,Z,J,[],qk,.nil⟩ (λi σ H' _ h=>SqL.of (h.1 _ _ U)) ?_ ?_⟩)
  .rintro i x σ H' hx ⟨v,C,L,M,O,rfl,l,D,m,d⟩;obtain⟨a,t,rfl,h1,h2⟩:=Y.get' hx;obtain⟨r,h3,rfl⟩:=qw4 h1;have I:D.length<=1000:=A9 (BY (AtG.len d)) (A9 (qw8 (rs.take i)) (A9 (DP _ _) hl));refine⟨_,_,Z,SqT.of (v _ _ h2),Z,_,_,Z,_,_,Z,_,_,Z,Z,?_⟩;have js:rs.take (i+1)=rs.take i++[r]:=qcv h3;have u:=jn_snoc (rs.take i) r;rw[<- js]at u;apply use (p:=jn1 (jn (rs.take i)) r=jn (rs.take i)++[r])
   .intro n;rcases BG (jn (rs.take i)) with e|⟨ts,t,e⟩
    .have N:D=[]:=DQ (by rw[AtG.len d,e];rfl);refine(nmc Z ⟨false,.inl ⟨_,SqL.of m,by rw[N];rfl⟩,qbs (qbs ?_)⟩);exact n (by rw[e];rfl)
    .rw[BH]at e;rw[e]at d;obtain⟨S,b,N,hb⟩:∃(S:List V)(b:Addr),D=S++[.ref b]/\H' b=some (.tup (qoq j t)):=by have G:=AtG.len d;rw[Af,AY]at G;obtain⟨b,R,X⟩:=AtG.row d (i:=ts.length) (r:=t) (by simp);refine⟨D.take ts.length,b,?_,X⟩;rw[<- qcv R,CP (BY G)]
     have c:=m;rw[N]at c d;refine(nmc Z ⟨true,.inl ⟨_,SqL.of c,by simp⟩,qd6 (nmc Z (nmc Z (lxo (c) (qd5 _ _) (txo (hb) Z (nmc Z ⟨sc _ _,(nmc Z ?_)⟩)))))⟩);by_cases B:t.2.2=r.2.2
     .refine qcn (congrArg j B) (nmc Z (nmc Z (lxo (c) (qd5 _ _) (txo (hb) Z (iic Z Z (nmc Z ⟨Z,(nmc Z ?_)⟩))))));by_cases y:t.2.1+1=r.1
      .refine qcn (congrArg V.int y) (nmc Z (nmc Z (lxo (c) (qd5 _ _) (txo (hb) Z (nmc Z (nmc Z ⟨qjr _ _ _,λq2 f=>(nmc Z (nmc Z ⟨_,_,_,_,Z,Z,qx f _ _ c,qte _ _,?_⟩))⟩))))));have g:=qx (o:=.tup [V.int t.1,V.int r.2.1,j r.2.2]) f;rw[qxa];refine⟨qai (v.trans g) l,C,_,_,_,Z,l,_,qk,?_⟩;rw[u,e,qea,if_pos ⟨B,y⟩,Ar];rw[Ar]at d;exact((d.same g).setLast (qk (o:=.tup (qoq j (t.1,r.2.1,r.2.2))))).upd (g _ _ c)
      .refine qbi (λz=>y (V.int.inj z)) ?_;exact n (by rw[e,qea,if_neg (λz=>y z.2)])
     .refine qbi (λz=>B (inj _ _ z)) (qbs ?_);exact n (by rw[e,qea,if_neg (λz=>B z.1)])
   .intro ej;refine(nmc Z ⟨.inl ⟨Z,_,SqL.of m⟩,(nmc Z (nmc Z (nmc Z ⟨qjr _ _ _,λq2 f=>⟨_,_,_,Z,Z,qx f _ _ m,qbe (A9 I Uk),?_⟩⟩)))⟩);have g:=qx (o:=.tup [V.int r.1,V.int r.2.1,j r.2.2]) f;refine⟨qai (v.trans g) l,C,_,_,_,Z,l,_,qk,?_⟩;rw[u,ej,Ar];exact((d.same g).snoc (qk (o:=.tup (qoq j r)))).upd (g _ _ m)
  .rintro σ H' ⟨v,C,L,M,O,rfl,l,F⟩;rw[lu,Bw]at F;exact(nmc Z (k C H' l v F))
theorem qsq (T:Txt K mg a):FnOk P w K mg base CX0 2 a.mP a.xM ["laid","first","last","word"] spOver:=by
 refine T.bY.fn.ok qef (λvs H Q E h=>?_) (λcdv A outer s H vs Q E hr h=>?_)
 .obtain⟨_,_,_,_,_,rfl,_⟩:=h
  all_goals rfl
 .obtain⟨p,rs,f,l,d,rfl,⟨us,c,I⟩,Y,hfl,hl,k⟩:=h;refine⟨_,(qf (qu (i:=4) qef.nd Z (Au Z) (zc (qo8 T) (hr.mono Uk) Z T.gI.mgx T.gI.fn.kp T.gI.bd .nil qac (qd (pv 0) (qd (pv 1) qg qe) qe)))
   (qf (qu (i:=5) qef.nd Z (Au Z) (zc (qo8 T) (hr.mono Uk) Z T.gI.mgx T.gI.fn.kp T.gI.bd .nil qac (qd (pv 0) (qd (qv qah (pv 2) qi) qg zm) qe)))
   (qf (qu (i:=6) qef.nd Z (Au Z) (qgc qh9 (pv 0) qh8 (qfi (pv 4))))
   (qf (zb (PW.pt (qc5 (qt qc3 (pv 4) (zd qb1 (by rfl) T.gA qb5 (qd (pv 0) qg qe)) (qad _)) (qco (qt qc3 (zp zq (zp zr (pv 0) (pv 4) (λ_ _=>rfl)) qi (λ_ _=>rfl)) (pv 1) (qad _))))) (qj (qz (qbr Ax A3 A4 qam (pv 6) (qd (zj (qd (zp zq (zp zr (pv 0) (pv 4) (λ_ _=>rfl)) qi (λ_ _=>rfl)) (qd (qv qbq (pv 1) qi) (qd (zp zq (zp zr (pv 0) (pv 4) (λ_ _=>rfl)) qi (λ_ _=>rfl)) qg zn) zm) zn)) qg zo)))) qaf)
   (qf (qz (qbr Ax A3 A4 qam (pv 6) (qd (zj (qd (pv 1) (qd (pv 2) (qd (pv 3) qg qe) qe) qe)) qg zo)))
   (qf (zb (PW.pt (qc5 (qt qc3 (pv 5) (zd qb1 (by rfl) T.gA qb5 (qd (pv 0) qg qe)) (qad _)) (qco (qt qga (zp zq (zp zr (pv 0) (pv 5) (λ_ _=>rfl)) qi (λ_ _=>rfl)) (pv 2) (qad _))))) (qf (qz (qbr Ax A3 A4 qam (pv 6) (qd (zj (qd (qv qah (pv 2) qi) (qd (zp zq (zp zr (pv 0) (pv 5) (λ_ _=>rfl)) qi (λ_ _=>rfl)) (qd (zp zq (zp zr (pv 0) (pv 5) (λ_ _=>rfl)) qi (λ_ _=>rfl)) qg zn) zn) zm)) qg zo)))
   (qj (qk0 (i:=5) qef.nd Z (Au Z) qi qrf))) qaf)
   (qj (qo (qv qk5 (pv 6) (qgc qh9 (pv 0) (qfi (pv 5)) qh8)))))))))),?_⟩
  have x:=At.len I;have up:=qs5 Y;have el:(rs.map enc).length=(ends rs).length:=by rw[Ab,Ab]
  refine(nmc Z (nmc Z ⟨_,_,_,_,_,Z,c,I,λi e h=>ql0 h,el,up,?_⟩));refine(nmc Z (nmc Z (iic Z Z ⟨_,_,_,_,_,Z,c,I,λi e h=>ql0 h,el,up,?_⟩)));have hb:=qoe (ends rs) f;rw[Ab]at hb;refine(nmc Z (nmc Z ⟨_,Z,_,_,Z,SqL.of c,λq hq=>?_⟩));rw[qqe us (cnt (ends rs) f) (x ▸ hb)];have b:=qx (o:=.lst (us.take (cnt (ends rs) f))) hq;have lc:=qjc f Y;have v:(us.take (cnt (ends rs) f)).length<=1000:=A9 (DP _ _) (x ▸ hl);have O:Tups (upd H q (.lst (us.take (cnt (ends rs) f)))) (us.take (cnt (ends rs) f)) ((rs.take (cnt (ends rs) f)).map enc):=by rw[DJ];exact(I.same b).take _
  have D:=qk (H:=H) (a:=q) (o:=.lst (us.take (cnt (ends rs) f)));generalize upd H q (.lst (us.take (cnt (ends rs) f)))=H0 at b O D |-;generalize us.take (cnt (ends rs) f)=u0 at O D v;apply useH (p:=λ(n:Hp)=>Same H n/\∃m:List V,n q=some (.lst m)/\Tups n m ((left rs f).map enc)/\m.length<=1200)
  .intro F;refine(nmc Z (nmc Z ⟨_,_,Z,.inl ⟨_,SqL.of (b _ _ c),Z⟩,(iic Z Z (nmc Z ?_))⟩));by_cases cb:cnt (ends rs) f<rs.length
   .obtain⟨r1,hr1⟩:∃r1,rs[cnt (ends rs) f]?=some r1:=⟨_,Ae cb⟩;obtain⟨a1,U,ae⟩:=At.row I hr1;rw[hr1]at lc;refine qcn (lenI x cb) (nmc Z (nmc Z (lxo (b _ _ c) (qao U) (txo (b _ _ ae) Z (nmc Z (iic Z Z (nmc Z ?_)))))));by_cases cf:r1.1<f
    .refine qcn cf (nmc Z ⟨.inl ⟨Z,_,SqL.of D⟩,(nmc Z (nmc Z (lxo (b _ _ c) (qao U) (txo (b _ _ ae) Z (nmc Z (iic Z Z (nmc Z (nmc Z (lxo (b _ _ c) (qao U) (txo (b _ _ ae) Z ⟨qjr _ _ _,λu aj=>⟨_,_,_,Z,Z,qx aj _ _ D,qbe (A9 v Uk),?_⟩⟩))))))))))⟩);have z1:=qx (o:=.tup [V.int r1.1,V.int (f-1),V.str r1.2.2]) aj;have s1:Same H (upd (upd H0 u (.tup [V.int r1.1,V.int (f-1),V.str r1.2.2])) q (.lst (u0++[.ref u]))):=qai (b.trans z1) hq;have L:=qk (H:=upd H0 u (.tup [V.int r1.1,V.int (f-1),V.str r1.2.2])) (a:=q) (o:=.lst (u0++[.ref u]));have t1:Tups (upd (upd H0 u (.tup [V.int r1.1,V.int (f-1),V.str r1.2.2])) q (.lst (u0++[.ref u]))) (u0++[.ref u]) ((left rs f).map enc):=by rw[show left rs f=rs.take (cnt (ends rs) f)++[((r1.1,f-1,r1.2.2):Rw)] by rw[lc];exact congrArg _ (if_pos cf),Ar];exact((O.same z1).snoc (qk (o:=.tup (enc (r1.1,f-1,r1.2.2))))).upd (z1 _ _ D)
     generalize upd (upd H0 u (.tup [V.int r1.1,V.int (f-1),V.str r1.2.2])) q (.lst (u0++[.ref u]))=n at s1 L t1 |-;exact F n ⟨s1,_,L,t1,sn1 v⟩
    .refine qbi cf ?_;exact F H0 ⟨b,_,D,by rw[show left rs f=rs.take (cnt (ends rs) f) by rw[lc];show _++(if r1.1<f then _ else [])=_;rw[if_neg cf,BC]];exact O,A9 v Uk⟩
   .rw[AI (DE.mp cb)]at lc;refine qbi (λz=>cb (D6.mp (x ▸ z))) (qbs ?_);exact F H0 ⟨b,_,D,by rw[show left rs f=rs.take (cnt (ends rs) f) by rw[lc];exact BC _];exact O,A9 v Uk⟩
  .rintro n ⟨s1,m,L,t1,l1⟩;refine(nmc Z ⟨.inl ⟨Z,_,SqL.of L⟩,(nmc Z (nmc Z (nmc Z ⟨qjr _ _ _,λj ag=>⟨_,_,_,Z,Z,qx ag _ _ L,qbe (A9 l1 Uk),?_⟩⟩)))⟩);have z2:=qx (o:=.tup [V.int f,V.int l,V.str d]) ag;have g:Same H (upd (upd n j (.tup [V.int f,V.int l,V.str d])) q (.lst (m++[.ref j]))):=qai (s1.trans z2) hq;have G:=qk (H:=upd n j (.tup [V.int f,V.int l,V.str d])) (a:=q) (o:=.lst (m++[.ref j]));have R:Tups (upd (upd n j (.tup [V.int f,V.int l,V.str d])) q (.lst (m++[.ref j]))) (m++[.ref j]) ((left rs f++[((f,l,d):Rw)]).map enc):=by rw[Ar];exact((t1.same z2).snoc (qk (o:=.tup (enc (f,l,d))))).upd (z2 _ _ L)
   generalize upd (upd n j (.tup [V.int f,V.int l,V.str d])) q (.lst (m++[.ref j]))=H2 at g G R |-;have M:(m++[V.ref j]).length<=1500:=sn15 l1;generalize m++[V.ref j]=u2 at G R M |-;apply use2 (p:=λ(J:Hp)(N:Nat)=>Same H J/\∃(W:List V)(X:List Rw),J q=some (.lst W)/\Tups J W (X.map enc)/\W.length<=2000/\over rs f l d=X++rs.drop N/\N<=rs.length)
   .intro C;refine(nmc Z (nmc Z ⟨_,_,Z,.inl ⟨_,SqL.of (g _ _ c),Z⟩,(iic Z Z (nmc Z ?_))⟩));have t:=qhp l Y;by_cases y:cnt (ends rs) (l+1)<rs.length
    .obtain⟨r2,hr2⟩:∃r2,rs[cnt (ends rs) (l+1)]?=some r2:=⟨_,Ae y⟩;obtain⟨a2,ad,af⟩:=At.row I hr2;rw[hr2]at t;dsimp only at t;refine qcn (lenI x y) (nmc Z (nmc Z (lxo (g _ _ c) (qao ad) (txo (g _ _ af) Z (nmc Z (iic Z Z (nmc Z ?_)))))));by_cases cl:r2.1<=l
     .refine qcn cl (nmc Z ⟨.inl ⟨Z,_,SqL.of G⟩,(nmc Z (iic Z Z (nmc Z (nmc Z (lxo (g _ _ c) (qao ad) (txo (g _ _ af) Z (nmc Z (nmc Z (lxo (g _ _ c) (qao ad) (txo (g _ _ af) Z ⟨qjr _ _ _,λr ah=>⟨_,_,_,Z,Z,qx ah _ _ G,qbe (A9 M Uk),?_⟩⟩))))))))))⟩);have z3:=qx (o:=.tup [V.int (l+1),V.int r2.2.1,V.str r2.2.2]) ah;have B:Same H (upd (upd H2 r (.tup [V.int (l+1),V.int r2.2.1,V.str r2.2.2])) q (.lst (u2++[.ref r]))):=qai (g.trans z3) hq;have h3:=qk (H:=upd H2 r (.tup [V.int (l+1),V.int r2.2.1,V.str r2.2.2])) (a:=q) (o:=.lst (u2++[.ref r]));have t3:Tups (upd (upd H2 r (.tup [V.int (l+1),V.int r2.2.1,V.str r2.2.2])) q (.lst (u2++[.ref r]))) (u2++[.ref r]) (((left rs f++[(f,l,d)])++[((l+1,r2.2.1,r2.2.2):Rw)]).map enc):=by rw[Ar];exact((R.same z3).snoc (qk (o:=.tup (enc (l+1,r2.2.1,r2.2.2))))).upd (z3 _ _ G)
      generalize upd (upd H2 r (.tup [V.int (l+1),V.int r2.2.1,V.str r2.2.2])) q (.lst (u2++[.ref r]))=J at B h3 t3 |-;rw[if_pos cl]at t;have ov:over rs f l d=((left rs f++[(f,l,d)])++[((l+1,r2.2.1,r2.2.2):Rw)])++rs.drop (cnt (ends rs) (l+1)+1):=by unfold over;rw[t];simp
      have hN:cnt (ends rs) (l+1)+1<=rs.length:=y;refine(nmc Z (iic Z Z ?_));dsimp only[];rw[show ((cnt (ends rs) (l+1):Nat):Int)+1=((cnt (ends rs) (l+1)+1:Nat):Int) from Z];generalize cnt (ends rs) (l+1)+1=N at ov hN |-;exact C J N ⟨B,_,_,h3,t3,sn2 M,ov,hN⟩
     .rw[if_neg cl]at t;refine qbi cl ?_;exact C H2 (cnt (ends rs) (l+1)) ⟨g,_,_,G,R,A9 M Uk,by unfold over;rw[t];simp,B9 y⟩
    .rw[AI (DE.mp y)]at t;dsimp only at t;refine qbi (λz=>y (D6.mp (x ▸ z))) (qbs ?_);have ai:=qoe (ends rs) (l+1);rw[Ab]at ai;exact C H2 (cnt (ends rs) (l+1)) ⟨g,_,_,G,R,A9 M Uk,by unfold over;rw[t,List.drop_of_length_le (DE.mp y)];simp,ai⟩
   .rintro J N ⟨B,W,X,h3,t3,l3,ov,hN⟩;refine(nmc Z (nmc Z (nmc Z ⟨_,Z,_,_,Z,SqL.of (B _ _ c),λq5 al=>?_⟩)));dsimp only[];rw[qw5 us N (x ▸ hN)];have S:=qx (o:=.lst (us.drop N)) al;refine⟨_,_,_,_,Z,Z,S _ _ h3,qk,qdd (by rw[BE];exact A9 (Nat.add_le_add l3 (A9 (Nat.sub_le _ _) (x ▸ hl))) Uk),λq6 ak=>?_⟩;have s6:=qx (o:=.lst (W++us.drop N)) ak;refine k q6 _ (B.free (S.free ak)) ((B.trans S).trans s6) ⟨_,qk,?_⟩;have tt:=((t3.same (S.trans s6)).app ((I.same ((B.trans S).trans s6)).drop N));rw[<- Es,<- Ar]at tt;rw[ov];exact tt
theorem qvl (T:Txt K mg a):FnOk P w K mg base CX0 3 a.mW a.xU ["rows"] spOv:=by
 refine T.fA.fn.ok qdz (λvs H Q E h=>?_) (λcdv A outer s H vs Q E f h=>?_)
 .obtain⟨_,_,rfl,_⟩:=h
  all_goals rfl
 .obtain⟨p,rs,rfl,⟨us,C,D⟩,ok,B,k⟩:=h;refine⟨_,(qf (qu (i:=1) qdz.nd Z (Au Z) (zh qg))
   (qf (qa3 A8 Z (qa0 (pv 0)) (qe0 Z (qar (qag (i:=2) qdz.nd Z (Au Z)) (qar (qag (i:=3) qdz.nd Z (Au Z)) (qar (qag (i:=4) qdz.nd Z (Au Z)) qde)))) (qj (qu (i:=1) qdz.nd Z (Au Z) (zc (qsq T) (f.mono Uk) Z T.bY.mgx T.bY.fn.kp T.bY.bd .nil qac (qd (pv 1) (qd (pv 2) (qd (pv 3) (qd (pv 4) qg qe) qe) qe) qe)))))
   (qj (qo (zc (qyt T) (f.mono Uk) Z T.dP.mgx T.dP.fn.kp T.dP.bd .nil qac (qd (pv 1) qg qe)))))),?_⟩
  refine⟨qdy,λq j=>?_⟩;have N:=At.len D;refine(nmc Z ⟨_,Z,⟨_,SqL.of (qx j _ _ C)⟩,qa5 (K:=K) (a:=p) (xs:=us) (λi σ H'=>Same H H'/\∃(q:Addr)(n o v:Option V),σ=[some (.ref p),some (.ref q),n,o,v]/\H q=none/\At H' q (lay (rs.take i)))
   ⟨qx j,q,none,none,none,Z,j,[],qk,.nil⟩ (λi σ H' _ h=>SqL.of (h.1 _ _ C)) ?_ ?_⟩)
  .rintro i x σ H' I ⟨d,M,n,o,v,rfl,J,c⟩;obtain⟨a,t,rfl,O,L⟩:=D.get' I;obtain⟨r,F,rfl⟩:=qkr O;have g:=qw9 ok i;have G:=(qwj g).1;have b:=qor g;have f:=ok r (A2 F);refine⟨_,_,Z,SqT.of (d _ _ L),Z,_,_,Z,_,_,Z,_,_,Z,Z,?_⟩;refine(nmc Z (nmc Z (nmc Z (nmc Z ⟨_,_,_,_,_,Z,c,G,f,A9 b (A9 (DV 3 (A9 (DP _ _) B)) Uk),λm y l u e=>?_⟩))));refine⟨d.trans u,m,_,_,_,Z,d.free l,?_⟩;rw[qcv F,qwi];exact e
  .rintro σ H' ⟨d,M,n,o,v,rfl,J,c⟩;rw[N,Bw]at c;have b:=qor ok;exact(nmc Z ⟨_,_,V.str,_,_,Z,λ_ _ z=>V.str.inj z,λ_ _=>rfl,c,A9 b (A9 (DV 3 B) Uk),λm y l u e=>k m y (d.free l) (d.trans u) e⟩)
theorem qey (T:Txt K mg a):FnOk P w K mg base CX0 1 a.gQ a.dX ["self","units"] (qgv λu=>.int u):=by
 refine T.m8.fn.ok qil (λvs H Q E h=>?_) (λcdv A outer s H vs Q E hr h=>?_)
 .obtain⟨_,_,rfl,_⟩:=h
  all_goals rfl
 .obtain⟨x,u,rfl,k⟩:=h;refine⟨_,(qj (qo (pv 1))),?_⟩;exact(nmc Z k)
theorem qmg (T:Txt K mg a):FnOk P w K mg base CX0 1 a.bK a.l9 ["self","units"] (qgv λu=>.int (7*u)):=by
 refine T.pX.fn.ok qlu (λvs H Q E h=>?_) (λcdv A outer s H vs Q E hr h=>?_)
 .obtain⟨_,_,rfl,_⟩:=h
  all_goals rfl
 .obtain⟨x,u,rfl,k⟩:=h;refine⟨_,(qj (qo (qv qbl (qbw (v:=.int 7) Z T.yR.choose_spec ⟨_,Z⟩) (pv 1)))),?_⟩;exact(nmc Z (iic Z Z ⟨.inl ⟨Uk,Uk⟩,k⟩))
theorem qf2 (T:Txt K mg a):FnOk P w K mg base CX0 1 a.gW a.bT ["self","first","many"] (qe7 λf m=>.int (f+m-1)):=by
 refine T.fT.fn.ok qkg (λvs H Q E h=>?_) (λcdv A outer s H vs Q E hr h=>?_)
 .obtain⟨_,_,_,rfl,_⟩:=h
  all_goals rfl
 .obtain⟨x,u,v,rfl,k⟩:=h;refine⟨_,(qj (qo (qv qbq (qv qah (pv 1) (pv 2)) qi))),?_⟩;exact(nmc Z (nmc Z (iic Z Z (iic Z Z k))))
theorem qi0 (T:Txt K mg a):FnOk P w K mg base CX0 1 a.tT a.nU ["year"] (sp1 λy=>.int ((3*y+14) / 17)):=by
 refine T.gX.fn.ok qoo (λvs H Q E h=>?_) (λcdv A outer s H vs Q E hr h=>?_)
 .obtain⟨_,rfl,_⟩:=h
  all_goals rfl
 .obtain⟨y,rfl,k⟩:=h;refine⟨_,(qj (qo (qv qa1 (qv qah (qv qbl qi (pv 0)) qi) qi))),?_⟩;exact(nmc Z (icc Z Z (mulL Uk Uk) (iic Z Z (icc Z Z ⟨Uk,Uk⟩ k))))
theorem qbo (T:Txt K mg a):FnOk P w K mg base CX0 2 a.lK a.pZ ["self","year"] (spPBy a):=by
 refine T.bI.fn.ok qdu (λvs H Q E h=>?_) (λcdv A outer s H vs Q E l h=>?_)
 .obtain⟨_,_,_,rfl,_⟩:=h
  all_goals rfl
 .obtain⟨x,bs,y,rfl,f,k⟩:=h;refine⟨_,(qf (qu (i:=2) qdu.nd Z (Au Z) (qv qbq (zp zr (qab (pv 0) Z) (qbw (v:=.int 371) Z T.fU.choose_spec ⟨_,Z⟩) (λ_ _=>rfl)) (zp zr (qab (pv 0) Z) (qbw (v:=.int 364) Z T.m3.choose_spec ⟨_,Z⟩) (λ_ _=>rfl))))
   (qj (qo (qv qah (qv qbl (pv 1) (zp zr (qab (pv 0) Z) (qbw (v:=.int 364) Z T.m3.choose_spec ⟨_,Z⟩) (λ_ _=>rfl))) (qv qbl (zc (qi0 T) (l.mono Uk) Z T.gX.mgx T.gX.fn.kp T.gX.bd .nil qac (qd (pv 1) qg qe)) (pv 2)))))),?_⟩
  obtain⟨dx,a1,a2,a3,c,e1,e2,d,b⟩:=f;have g:atI ((cuL bs).map V.int) 371=some (.int (opn bs 371)):=ql1 (j:=371) (by rw[Ag,qrt bs (by rw[b];decide)];rfl) rfl;have e:atI ((cuL bs).map V.int) 364=some (.int (opn bs 364)):=ql1 (j:=364) (by rw[Ag,qrt bs (by rw[b];decide)];rfl) rfl;refine(nmc Z (flc (c) (T.kQ) (qp T.gD Uk) (rfl) (lxo (d) g (nmc Z (flc (c) (T.kQ) (qp T.gD Uk) (rfl) (lxo (d) e (iic Z Z ?_)))))));exact(nmc Z (nmc Z (flc (c) (T.kQ) (qp T.gD Uk) (rfl) (lxo (d) e (iic Z Z ⟨.inr (opB b),(nmc Z (nmc Z (nmc Z (iic Z Z ⟨.inr (opD b),(iic Z Z k)⟩))))⟩)))))
theorem qi1 (T:Txt K mg a):FnOk P w K mg base CX0 3 a.hV a.tZ ["self","many"] (spYw a):=by
 refine T.xE.fn.ok qc0 (λvs H Q E h=>?_) (λcdv A outer s H vs Q E o h=>?_)
 .obtain⟨_,_,_,rfl,_⟩:=h
  all_goals rfl
 .obtain⟨x,bs,m,rfl,f,r,g,k⟩:=h;refine⟨_,(qf (qu (i:=2) qc0.nd Z (Au Z) (qv qbl (qbw (v:=.int 17) Z T.mU.choose_spec ⟨_,Z⟩) (qv qa1 (pv 1) (qal (pv 0) T.kQ T.dG (qbo T) (o.mono Uk) T.bI.bd .nil qac (qd (qbw (v:=.int 17) Z T.mU.choose_spec ⟨_,Z⟩) qg qe)))))
   (qf (qf8 A8 (qt qga (qal (pv 0) T.kQ T.dG (qbo T) (o.mono Uk) T.bI.bd .nil qac (qd (qv qah (pv 2) qi) qg zm)) (pv 1) (qad _)) (qj (qk0 (i:=2) qc0.nd Z (Au Z) qi qrf)))
   (qj (qo (pv 2))))),?_⟩
  have b:=f;obtain⟨dx,a1,a2,a3,n,e1,e2,e3,p⟩:=f;have tb:=pby_17B p g;refine(nmc Z (nmc Z ⟨_,_,_,Z,n,Z,_,_,_,Z,b,(iic Z Z ⟨⟨tb.1,tb.2⟩,(iic Z Z ⟨.inl ⟨Uk,Uk⟩,?_⟩)⟩)⟩));have q0:0<=m / pby bs 17:=Int.ediv_nonneg r (Dc tb.1);have l:pby bs (17*(m / pby bs 17))<=m:=by rw[pby_17];exact Int.ediv_mul_le m (Int.ne_of_gt tb.1)
  dsimp only[];have j:0<=17*(m / pby bs 17):=by lia
  generalize 17*(m / pby bs 17)=y0 at l j |-;refine⟨λz σ' H'=>H'=H/\∃y:Int,σ'=[some (.ref x),some (.int m),some (.int y)]/\z=(m-pby bs y).toNat/\0<=y/\pby bs y<=m,⟨_,Z,y0,Z,Z,j,l⟩,?_⟩;rintro z σ' H' ⟨rfl,y,rfl,rfl,u,B⟩;refine(nmc Z ⟨_,_,_,Z,n,Z,(nmc Z (iic Z Z ⟨_,_,_,Z,b,(nmc Z (iic Z Z (nmc Z (qbx (λc=>?_) (λc=>?_)))))⟩))⟩)
  .have d:pby bs (y+1)<=m:=of_decide_eq_true c;have lt:=pby_lt p g y;exact⟨λσ2 e=>e=H'/\σ2=[some (.ref x),some (.int m),some (.int (y+1))],λσ2 e ⟨t,q⟩=>⟨(m-pby bs (y+1)).toNat,by lia,t,y+1,q,Z,by lia,d⟩,(nmc Z (iic Z Z ⟨Z,Z⟩))⟩
  .have d:¬pby bs (y+1)<=m:=λz=>c (decide_eq_true z);exact(nmc Z (k y u B (Int.not_le.mp d)))
theorem qka (T:Txt K mg a):FnOk P w K mg base CX0 2 a.pV a.nR ["year"] (sp1 λy=>.int (fw y)):=by
 refine T.gM.fn.ok qp6 (λvs H Q E h=>?_) (λcdv A outer s H vs Q E b h=>?_)
 .obtain⟨_,rfl,_⟩:=h
  all_goals rfl
 .obtain⟨y,rfl,k⟩:=h;refine⟨_,(qj (qo (qv qah (qv qbl qi (pv 0)) (zc (qi0 T) (b.mono Uk) Z T.gX.mgx T.gX.fn.kp T.gX.bd .nil qac (qd (pv 0) qg qe))))),?_⟩;exact(nmc Z (icc Z Z (mulL Uk Uk) (nmc Z (nmc Z (iic Z Z k)))))
theorem qi2 (T:Txt K mg a):FnOk P w K mg base CX0 4 a.fV a.mT ["self","many"] (spPNth a):=by
 refine T.lU.fn.ok qim (λvs H Q E h=>?_) (λcdv A outer s H vs Q E d h=>?_)
 .obtain⟨_,_,_,rfl,_⟩:=h
  all_goals rfl
 .obtain⟨x,bs,m,rfl,e,l,n,k⟩:=h;refine⟨_,(qf (qu (i:=2) qim.nd Z (Au Z) (qal (pv 0) T.kQ T.yU (qi1 T) (d.mono Uk) T.xE.bd .nil qac (qd (pv 1) qg qe)))
   (qj (qo (qv qah (qv qbl qi (zc (qka T) (d.mono Uk) Z T.gM.mgx T.gM.fn.kp T.gM.bd .nil qac (qd (pv 2) qg qe))) (zp zr (qab (pv 0) Z) (qv qbq (pv 1) (qal (pv 0) T.kQ T.dG (qbo T) (d.mono Uk) T.bI.bd .nil qac (qd (pv 2) qg qe))) (λ_ _=>rfl)))))),?_⟩
  have b:=e;obtain⟨dx,a1,a2,a3,c,e1,g,e3,u⟩:=e;refine(nmc Z ⟨_,_,_,Z,c,Z,(nmc Z ⟨_,_,_,Z,b,l,n,λy o f q=>?_⟩)⟩);obtain⟨w,r,v,p,t⟩:=pn_day u o f q;exact(nmc Z ⟨_,Z,(iic Z Z ⟨.inl ⟨Uk,Uk⟩,(nmc Z (flc (c) (T.kQ) (qp T.gD Uk) (rfl) (nmc Z (nmc Z ⟨_,_,_,Z,c,Z,(nmc Z ⟨_,_,_,Z,b,(iic Z Z (lxo (g) (ql1 (j:=(m-pby bs y).toNat) (by rw[Ag,r];rfl) (Cz (Int.sub_nonneg_of_le f)).symm) (iic Z Z (k _ v p t))))⟩)⟩))))⟩)⟩)
theorem qq6 (T:Txt K mg a):FnOk P w K mg base CX0 1 a.tY a.sY ["week"] (sp1 λy=>.int (yo y)):=by
 refine T.gU.fn.ok qw3 (λvs H Q E h=>?_) (λcdv A outer s H vs Q E hr h=>?_)
 .obtain⟨_,rfl,_⟩:=h
  all_goals rfl
 .obtain⟨y,rfl,k⟩:=h;refine⟨_,(qj (qo (qv qa1 (qv qah (qv qbl qi (pv 0)) qi) qi))),?_⟩;exact(nmc Z (icc Z Z (mulL Uk Uk) (iic Z Z (icc Z Z ⟨Uk,Uk⟩ k))))
theorem qvm (T:Txt K mg a):FnOk P w K mg base CX0 2 a.pI a.rX ["day"] qvc:=by
 refine T.bX.fn.ok qu8 (λvs H Q E h=>?_) (λcdv A outer s H vs Q E c h=>?_)
 .obtain⟨_,rfl,_⟩:=h
  all_goals rfl
 .obtain⟨n,rfl,b,k⟩:=h;refine⟨_,(qf (zb (qd3 (PW.pt (qc5 (zf (zc (qhb T) (c.mono Uk) Z T.kY.mgx T.kY.fn.kp T.kY.bd .nil qac (qd (pv 0) qg qe))) (qco (qt op_ge (pv 0) qi (qad _)))))) (qj qfa) qaf)
   (qj (qo (qv qah (qv qau (pv 0) qi) qi)))),?_⟩
  refine(nmc Z (nmc Z (nmc Z (qd6 (nmc Z (iic Z Z (nmc Z (iteNS b ?_))))))));exact(nmc Z (icc Z Z (pos Uk) (iic Z Z k)))
theorem qyu (T:Txt K mg a):FnOk P w K mg base CX0 3 a.pM a.xL ["day"] qxb:=by
 refine T.bV.fn.ok qin (λvs H Q E h=>?_) (λcdv A outer s H vs Q E b h=>?_)
 .obtain⟨_,rfl,_⟩:=h
  all_goals rfl
 .obtain⟨n,rfl,d,k⟩:=h;refine⟨_,(qf (qu (i:=1) qin.nd Z (Au Z) (zc (qvm T) (b.mono Uk) Z T.bX.mgx T.bX.fn.kp T.bX.bd .nil qac (qd (pv 0) qg qe)))
   (qf (qu (i:=2) qin.nd Z (Au Z) (qv qa1 (pv 0) qi))
   (qf (qu (i:=3) qin.nd Z (Au Z) (zc (qq6 T) (b.mono Uk) Z T.gU.mgx T.gU.fn.kp T.gU.bd .nil qac (qd (pv 2) qg qe)))
   (qj (qo (zj (qd (pv 3) (qd (qv qah (qv qbq (pv 2) (zc (qka T) (b.mono Uk) Z T.gM.mgx T.gM.fn.kp T.gM.bd .nil qac (qd (pv 3) qg qe))) qi) (qd (pv 1) qg qe) zm) qe))))))),?_⟩
  exact(nmc Z ⟨_,Z,d,(nmc Z (icc Z Z ⟨Uk,Uk⟩ (nmc Z (nmc Z (nmc Z (nmc Z (nmc Z (nmc Z (iic Z Z (iic Z Z (nmc Z ⟨qjr _ _ _,λp c=>k p c⟩)))))))))))⟩)
theorem qq7 (T:Txt K mg a):FnOk P w K mg base CX0 4 a.mL a.nL ["day"] spDoy:=by
 refine T.dZ.fn.ok qj7 (λvs H Q E h=>?_) (λcdv A outer s H vs Q E d h=>?_)
 .obtain⟨_,rfl,_⟩:=h
  all_goals rfl
 .obtain⟨n,rfl,b,k⟩:=h;refine⟨_,(qf (qu (i:=1) qj7.nd Z (Au Z) (zc (qyu T) (d.mono Uk) Z T.bV.mgx T.bV.fn.kp T.bV.bd .nil qac (qd (pv 0) qg qe)))
   (qj (qo (qv qbq (qv qah (qv qbl qi (qv qbq (zp zq (pv 1) qi (λ_ _=>rfl)) qi)) (zp zq (pv 1) qi (λ_ _=>rfl))) qi)))),?_⟩
  refine(nmc Z ⟨_,Z,b,λp f=>?_⟩);have c:=k _ (qx (o:=.tup [V.int (yo (n / 7)),V.int (n / 7-fw (yo (n / 7))+1),V.int (n % 7+1)]) f);refine(nmc Z (txo (qk) Z (iic Z Z (icc Z Z (mulL Uk Uk) (nmc Z (txo (qk) Z (iic Z Z (iic Z Z ?_))))))));have e:7*(n / 7-fw (yo (n / 7))+1-1)+(n % 7+1)-1=doy n:=by unfold doy;lia
  show Q (.int (7*(n / 7-fw (yo (n / 7))+1-1)+(n % 7+1)-1)) _;rw[e];exact c
theorem qdt (T:Txt K mg a):FnOk P w K mg base CX0 5 a.m5 a.sU ["self","day"] (spPBef a):=by
 refine T.dB.fn.ok qf1 (λvs H Q E h=>?_) (λcdv A outer s H vs Q E b h=>?_)
 .obtain⟨_,_,_,rfl,_⟩:=h
  all_goals rfl
 .obtain⟨x,bs,n,rfl,c,d,k⟩:=h;refine⟨_,(qf (qu (i:=2) qf1.nd Z (Au Z) (zc (qq6 T) (b.mono Uk) Z T.gU.mgx T.gU.fn.kp T.gU.bd .nil qac (qd (qv qa1 (pv 1) qi) qg zm)))
   (qj (qo (qv qah (qal (pv 0) T.kQ T.dG (qbo T) (b.mono Uk) T.bI.bd .nil qac (qd (pv 2) qg qe)) (zp zr (qab (pv 0) Z) (zc (qq7 T) (b.mono Uk) Z T.dZ.mgx T.dZ.fn.kp T.dZ.bd .nil qac (qd (pv 1) qg qe)) (λ_ _=>rfl)))))),?_⟩
  have g:=c;obtain⟨dx,a1,a2,a3,f,e1,e2,o,m⟩:=c;obtain⟨e,l⟩:=qxc d;refine(nmc Z (icc Z Z ⟨Uk,Uk⟩ (nmc Z ?_)));refine(nmc Z ⟨_,_,_,Z,f,Z,(nmc Z ⟨_,_,_,Z,g,(nmc Z (flc (f) (T.kQ) (qp T.gD Uk) (rfl) (nmc Z ⟨_,Z,d,λH' s=>?_⟩)))⟩)⟩);exact(lxo (s _ _ o) (ql1 (j:=(doy n).toNat) (by rw[Ag,qrt bs (by rw[m];exact B9 ((Int.toNat_lt e).mpr l))];rfl) (Cz e).symm) (iic Z Z (k H' s)))
theorem qi3 (T:Txt K mg a):FnOk P w K mg base CX0 6 a.fL a.sV ["self","row","end"] (spShift a):=by
 refine T.lA.fn.ok qfu (λvs H Q E h=>?_) (λcdv A outer s H vs Q E o h=>?_)
 .obtain⟨_,_,_,_,_,_,_,_,_,rfl,_⟩:=h
  all_goals rfl
 .obtain⟨x,p,q,z,y,dx,bs,r,e,rfl,m,g,n,v,C,k⟩:=h;refine⟨_,(qf (qu (i:=3) qfu.nd Z (Au Z) (qv qbq (qal (qab (pv 0) Z) T.kQ T.lJ (qdt T) (o.mono Uk) T.dB.bd .nil qac (qd (pv 2) qg qe)) (qal (qab (pv 0) Z) T.kQ T.lJ (qdt T) (o.mono Uk) T.dB.bd .nil qac (qd (zp zq (pv 1) qi (λ_ _=>rfl)) qg zn))))
   (qf (qu (i:=4) qfu.nd Z (Au Z) (qck (qt qch (zp zq (pv 1) qi (λ_ _=>rfl)) zg (qad _)) (qv qbq (pv 2) (zp zq (pv 1) qi (λ_ _=>rfl))) qi))
   (qj (qo (qv qbq (pv 4) (pv 3)))))),?_⟩
  have d:=g;obtain⟨dp,a1,a2,a3,t,_⟩:=g;refine(nmc Z (flc (m) (T.kL) (qp T.kW Uk) (rfl) ⟨_,_,_,Z,t,Z,(nmc Z ⟨_,_,_,Z,d,C,λH1 f=>?_⟩)⟩));refine(nmc Z (flc (f _ _ m) (T.kL) (qp T.kW Uk) (rfl) ⟨_,_,_,Z,f _ _ t,Z,(nmc Z (txo (f _ _ n) Z ⟨_,_,_,Z,d.same f,v,λu B=>?_⟩))⟩));have j:=f.trans B;have l:=j _ _ n;refine(iic Z Z (nmc Z (txo (l) Z ⟨Z,(nmc Z ?_)⟩)));have b:=k u j;unfold shf at b;by_cases c:r.2.2=Aa "open"
  .rw[if_pos c]at b;exact qcn (congrArg V.str c) (nmc Z (nmc Z (txo (l) Z (iic Z Z (nmc Z (nmc Z (iic Z Z b)))))))
  .rw[if_neg c]at b;exact qbi (λz=>c (V.str.inj z)) (nmc Z (nmc Z (iic Z Z b)))
theorem qb8 (T:Txt K mg a):FnOk P w K mg base CX0 7 a.hJ a.xP ["self","day"] (spTBef a):=by
 refine T.gT.fn.ok qdi (λvs H Q E h=>?_) (λcdv A outer s H vs Q E v h=>?_)
 .obtain⟨_,_,_,_,rfl,_⟩:=h
  all_goals rfl
 .obtain⟨x,bs,rs,n,rfl,J,O,N,B,k⟩:=h;refine⟨_,(qf (qu (i:=2) qdi.nd Z (Au Z) (zc (qo8 T) (v.mono Uk) Z T.gI.mgx T.gI.fn.kp T.gI.bd .nil qac (qd (qab (pv 0) Z) (qd (pv 1) qg qe) qan)))
   (qf (qu (i:=3) qdi.nd Z (Au Z) (qv qah (qal (qab (pv 0) Z) T.kQ T.lJ (qdt T) (v.mono Uk) T.dB.bd .nil qac (qd (pv 1) qg qe)) (zp zr (qab (pv 0) Z) (pv 2) (λ_ _=>rfl))))
   (qf (zb (PW.pt (qc5 (qt qc3 (pv 2) (zd qb1 (by rfl) T.gA qb5 (qd (qab (pv 0) Z) qg qan)) (qad _)) (qco (qt qc3 (zp zq (zp zr (qab (pv 0) Z) (pv 2) (λ_ _=>rfl)) qi (λ_ _=>rfl)) (pv 1) (qad _))))) (qj (qk0 (i:=3) qdi.nd Z (Au Z) (qal (pv 0) T.kL T.pU (qi3 T) (v.mono Uk) T.lA.bd .nil qac (qd (zp zr (qab (pv 0) Z) (pv 2) (λ_ _=>rfl)) (qd (pv 1) qg qe) zn)) qrf)) qaf)
   (qj (qo (pv 3)))))),?_⟩
  obtain⟨dx,p,q,z,c,u,⟨us,j,m⟩,hz⟩:=J;have g:=qhr O;have F:=At.len m;have G:=qoe (ends rs) n;rw[Ab]at G;refine(nmc Z (flc (c) (T.kL) (qp T.kW Uk) (rfl) (nmc Z ⟨_,_,_,_,_,Z,j,m,λi e h=>ql0 h,by rw[Ab,Ab],qs5 g,?_⟩)));have d:=u;obtain⟨dp,a1,a2,a3,R,_⟩:=u;refine(nmc Z (flc (c) (T.kL) (qp T.kW Uk) (rfl) ⟨_,_,_,Z,R,Z,(nmc Z ⟨_,_,_,Z,d,B,λC f=>?_⟩)⟩));have c:=f _ _ c;have j:=f _ _ j;have m:=m.same f;have hz:=f _ _ hz;have d:=d.same f;refine(nmc Z (flc (c) (T.kL) (qp T.kW Uk) (rfl) (nmc Z (lxo (hz) (qao (by rw[Ag,qxd bs rs G];rfl)) (iic Z Z ?_)))));refine(nmc Z (nmc Z (flc (c) (T.kL) (qp T.kW Uk) (rfl) ⟨_,_,Z,.inl ⟨_,SqL.of j,Z⟩,(iic Z Z (nmc Z ?_))⟩)));by_cases o:cnt (ends rs) n<rs.length
  .obtain⟨r,hr'⟩:∃r,rs[cnt (ends rs) n]?=some r:=⟨_,Ae o⟩;obtain⟨b,I,D⟩:=At.row m hr';refine qcn (lenI F o) (nmc Z (flc (c) (T.kL) (qp T.kW Uk) (rfl) (nmc Z (lxo (j) (qao I) (txo (D) Z (nmc Z (iic Z Z (nmc Z ?_))))))));by_cases t:r.1<n
   .refine qcn t (nmc Z (nmc Z ⟨_,_,_,Z,c,Z,(nmc Z (flc (c) (T.kL) (qp T.kW Uk) (rfl) (nmc Z (lxo (j) (qao I) (nmc Z ⟨_,_,_,_,_,_,_,_,_,Z,c,d,D,N r (A2 hr'),B,λL M=>(iic Z Z (nmc Z ?_))⟩)))))⟩));have y:=k L (f.trans M);rw[<- tb_some g hr' t]at y;exact y
   .have l:=k C f;rw[<- tb_late g hr' t]at l;exact qbi t (nmc Z l)
  .have l:=k C f;rw[<- tb_none g (AI (DE.mp o))]at l;exact qbi (λz=>o (D6.mp (F ▸ z))) (qbs (nmc Z l))
theorem qmh (T:Txt K mg a):FnOk P w K mg base CX0 8 a.lN a.rJ ["self","many"] (spTNth a):=by
 refine T.hX.fn.ok qfv (λvs H Q E h=>?_) (λcdv A outer s H vs Q E N h=>?_)
 .obtain⟨_,_,_,_,rfl,_⟩:=h
  all_goals rfl
 .obtain⟨x,bs,rs,m,rfl,hx,g,B,hw,ho,h0,k⟩:=h;refine⟨_,(qf (qa3 A8 Z (qkp Z T.fD (qd (qab (pv 0) Z) qg qan)) (qe0 Z (qar (qag (i:=2) qfv.nd Z (Au Z)) (qar (qag (i:=3) qfv.nd Z (Au Z)) qde))) (qf (qu (i:=4) qfv.nd Z (Au Z) (qal (pv 0) T.kL T.gZ (qb8 T) (N.mono Uk) T.gT.bd .nil qac (qd (zp zq (pv 3) qi (λ_ _=>rfl)) qg zn)))
   (qf (zb (qt qc3 (pv 1) (pv 4) (qad _)) (qj (qo (qal (qab (pv 0) Z) T.kQ T.mR (qi2 T) (N.mono Uk) T.lU.bd .nil qac (qd (qv qbq (pv 1) (zp zr (qab (pv 0) Z) (pv 2) (λ_ _=>rfl))) qg zm)))) qaf)
   (qj (zb (qt qc3 (pv 1) (qal (pv 0) T.kL T.gZ (qb8 T) (N.mono Uk) T.gT.bd .nil qac (qd (qv qah (zp zq (pv 3) qi (λ_ _=>rfl)) qi) qg zm)) (qad _)) (qj (qo (qv qbq (qv qah (zp zq (pv 3) qi (λ_ _=>rfl)) (pv 1)) (pv 4)))) qaf)))))
   (qj (qo (qal (qab (pv 0) Z) T.kQ T.mR (qi2 T) (N.mono Uk) T.lU.bd .nil qac (qd (qv qbq (pv 1) (zp zr (qab (pv 0) Z) (qeq qcx qi) (λ_ _=>rfl))) qg zm))))),?_⟩
  have U:=hx;obtain⟨dx,p,q,z,n,R,⟨us,hq,hu⟩,hz⟩:=hx;have ad:=qhr g;have lu:=At.len hu;have I:=R;obtain⟨dp,a1,a2,a3,p1,_,_,_,hl⟩:=R;have C:=qxj hl g hw;refine(nmc Z (flc (n) (T.kL) (qp T.kW Uk) (rfl) ⟨_,_,Z,hq,qie (K:=K) (a:=q) (xs:=us) (λi σ H'=>Same H H'/\qbb bs rs (lo rs i)<=m/\∃Y X v4:Option V,σ=[some (.ref x),some (.int m),Y,X,v4]) ⟨Same.refl H,by rw[show lo rs 0=0 from Z,qot B g.ok];exact h0,none,none,none,Z⟩ (λi σ H' _ h=>SqL.of (h.1 _ _ hq)) ?_ ?_⟩))
  .rintro i y t σ H' hy ⟨j,M,Y,X,v4,rfl⟩ hn;obtain⟨b,t1,rfl,g1,g2⟩:=hu.get' hy;obtain⟨r,u,rfl⟩:=qkr g1;have hi:i<rs.length:=(Ac.mp u).1;have O:=B r (A2 u);have rk:=g.ok r (A2 u);have D:=j.trans (qx (o:=.tup [V.int (i:Int),V.ref b]) hn);refine⟨_,_,Z,SqT.of qk,Z,_,_,Z,_,_,Z,Z,?_⟩;generalize upd H' t _=H1 at D |-;refine(nmc Z ⟨_,_,_,Z,D _ _ n,Z,(nmc Z (txo (D _ _ g2) Z ⟨_,_,_,_,Z,U.same D,g,B,O,λH2 z2=>?_⟩))⟩);have f:=D.trans z2;refine(nmc Z (nmc Z (iic Z Z (nmc Z (qbx (λc=>?_) (λc=>?_))))))
   .have W:m<qbb bs rs r.1:=of_decide_eq_true c;obtain⟨J,v⟩:=qto hl g B (B9 hi) M λs L=>Bb W (C.le O (qvh ad u s L));exact(nmc Z (flc ((f _ _ n)) (T.kL) (qp T.kW Uk) (rfl) ⟨_,_,_,Z,f _ _ p1,Z,(nmc Z (nmc Z (flc ((f _ _ n)) (T.kL) (qp T.kW Uk) (rfl) (nmc Z (lxo (f _ _ hz) (qao (by rw[Ag,qxd bs rs (B9 hi)];rfl)) (iic Z Z ⟨_,_,_,Z,I.same f,J,ho,λd l F G=>k d H2 f l (v d l F G).1 (v d l F G).2⟩))))))⟩))
   .have W:qbb bs rs r.1<=m:=B2.mp λz=>c (decide_eq_true z);refine(nmc Z (nmc Z ⟨_,_,_,Z,f _ _ n,Z,(nmc Z (txo (f _ _ g2) Z (iic Z Z ⟨_,_,_,_,Z,U.same f,g,B,Ed (Bm O rk),λH3 z3=>?_⟩)))⟩));have s3:=f.trans z3;refine(iic Z Z (nmc Z (qbx (λe=>?_) (λe=>?_))))
    .obtain⟨J,v,u2⟩:=row_use g u (hw r (A2 u)) W (of_decide_eq_true e);exact(nmc Z (txo (s3 _ _ g2) Z (nmc Z (iic Z Z (nmc Z (iic Z Z (k _ H3 s3 (Bm O J) v u2)))))))
    .exact⟨s3,by rw[qtn u];exact B2.mp λz=>e (decide_eq_true z),_,_,_,Z⟩
  .rintro σ H' ⟨j,M,Y,X,v4,rfl⟩;rw[lu]at M;obtain⟨J,v⟩:=qto hl g B (Al _) M λs L=>by rw[List.drop_length]at L;cases L
   have el:(shL bs rs).map V.int=((Ao rs.length).map λk=>V.int ((rs.take k).map λr=>shf bs r (r.2.1+1)).sum)++[V.int ((rs.take rs.length).map λr=>shf bs r (r.2.1+1)).sum]:=by unfold shL;rw[Bt,Ar,Ar,Ca];rfl
   have S:=j _ _ hz;rw[el]at S;exact(nmc Z (flc ((j _ _ n)) (T.kL) (qp T.kW Uk) (rfl) ⟨_,_,_,Z,j _ _ p1,Z,(nmc Z (nmc Z (flc ((j _ _ n)) (T.kL) (qp T.kW Uk) (rfl) (nmc Z (lxo (S) (qd5 _ _) (iic Z Z ⟨_,_,_,Z,I.same j,J,ho,λd l F G=>k d H' j l (v d l F G).1 (v d l F G).2⟩))))))⟩))
theorem qjx (T:Txt K mg a):FnOk P w K mg base CX0 9 a.bG a.lW ["self","first","many"] (ql3 a):=by
 refine T.rQ.fn.ok qjo (λvs H Q E h=>?_) (λcdv A outer s H vs Q E i h=>?_)
 .obtain⟨_,_,_,_,_,rfl,_⟩:=h
  all_goals rfl
 .obtain⟨x,bs,rs,f,m,rfl,⟨dx,tb,c,b⟩,ok,e,h1,k⟩:=h;refine⟨_,(qj (qo (qal (qab (pv 0) Z) T.kL T.mY (qmh T) (i.mono Uk) T.hX.bd .nil qac (qd (qv qbq (qv qah (qal (qab (pv 0) Z) T.kL T.gZ (qb8 T) (i.mono Uk) T.gT.bd .nil qac (qd (pv 1) qg qe)) (pv 2)) qi) qg zm)))),?_⟩;obtain⟨_,_,_,_,g⟩:=b.ins;have q:=(qxj ok.hl ok.ap ok.wd).le (n:=0) (m:=f) (Bo _) e;rw[qot ok.nn ok.ap.ok]at q;refine(nmc Z (flc (c) (T.gK) (qp T.bD Uk) (rfl) ⟨_,_,_,Z,g,Z,(nmc Z (flc (c) (T.gK) (qp T.bD Uk) (rfl) ⟨_,_,_,Z,g,Z,(nmc Z ⟨_,_,_,_,Z,b,ok.ap,ok.nn,e,λH1 j=>(nmc Z (iic Z Z (iic Z Z ⟨_,_,_,_,Z,b.same j,ok.ap,ok.nn,ok.wd,ok.op,by lia,λd l p o t r=>k d l (j.trans p) o t r⟩)))⟩)⟩))⟩))
theorem qdv (T:Txt K mg a):FnOk P w K mg base CX0 1 a.gS a.bW ["self","first","last"] (qe7 λf l=>.int (if l-f+1 > 0 then l-f+1 else 0)):=by
 refine T.m6.fn.ok qhd (λvs H Q E h=>?_) (λcdv A outer s H vs Q E hr h=>?_)
 .obtain⟨_,_,_,rfl,_⟩:=h
  all_goals rfl
 .obtain⟨x,u,v,rfl,k⟩:=h;refine⟨_,(qj (qo (zd (qi8 Z) (by rfl) T.lG qls (qd qi (qd (qv qah (qv qbq (pv 2) (pv 1)) qi) qg zm) ql)))),?_⟩;exact(nmc Z (nmc Z (iic Z Z (iic Z Z ⟨_,_,Z,k⟩))))
theorem qg1 (T:Txt K mg a):FnOk P w K mg base CX0 8 a.bH a.fY ["self","first","last"] (qxl a):=by
 refine T.tV.fn.ok qgr (λvs H Q E h=>?_) (λcdv A outer s H vs Q E j h=>?_)
 .obtain⟨_,_,_,_,_,rfl,_⟩:=h
  all_goals rfl
 .obtain⟨x,bs,rs,f,l,rfl,⟨dx,tb,g,e⟩,ok,n,k⟩:=h;refine⟨_,(qf (zb (qt qc3 (pv 2) (pv 1) (qad _)) (qj (qo qi)) qaf)
   (qj (qo (qv qbq (qal (qab (pv 0) Z) T.kL T.gZ (qb8 T) (j.mono Uk) T.gT.bd .nil qac (qd (qv qah (pv 2) qi) qg zm)) (qal (qab (pv 0) Z) T.kL T.gZ (qb8 T) (j.mono Uk) T.gT.bd .nil qac (qd (pv 1) qg qe)))))),?_⟩
  obtain⟨_,_,_,_,i⟩:=e.ins;refine(nmc Z (nmc Z (iic Z Z (nmc Z (qbx (λc=>?_) (λc=>?_))))))
  .have b:=k H (Same.refl H);rw[if_pos (of_decide_eq_true c)]at b;exact b
  .have o:¬l<f:=λz=>c (decide_eq_true z);refine(nmc Z (flc (g) (T.gK) (qp T.bD Uk) (rfl) ⟨_,_,_,Z,i,Z,(nmc Z (iic Z Z ⟨_,_,_,_,Z,e,ok.ap,ok.nn,by lia,λH1 d=>(nmc Z (flc ((d _ _ g)) (T.gK) (qp T.bD Uk) (rfl) ⟨_,_,_,Z,d _ _ i,Z,(nmc Z ⟨_,_,_,_,Z,e.same d,ok.ap,ok.nn,n,λm p=>(iic Z Z ?_)⟩)⟩))⟩))⟩));have b:=k m (d.trans p);rw[if_neg o]at b;exact b
theorem qvn (T:Txt K mg a):FnOk P w K mg base CX0 10 a.tE a.mV ["kind","start","units","pauses"] (spFullD a):=by
 refine T.dC.fn.ok qct (λvs H Q E h=>?_) (λcdv A outer s H vs Q E n h=>?_)
 .obtain⟨_,_,_,_,_,_,_,_,rfl,_⟩:=h
  all_goals rfl
 .obtain⟨x,pq,i,st,u,bs,rs,ps,rfl,G,tok,hq,ok,y,u1,k⟩:=h;refine⟨_,(qf (qu (i:=4) qct.nd Z (Au Z) (qlf (ι:=Three) (C:=(qcl a.kP a.kR a.kO)) (f:=(qcl a.gQ a.bK a.gQ)) (fd:=(qcl a.dX a.l9 a.dX)) (ps:=(qcl (["self","units"]:List Str) (["self","units"]:List Str) (["self","units"]:List Str))) (sp:=(qcl (qgv λu=>.int u) (qgv λu=>.int (7*u)) (qgv λu=>.int u))) (k:=(qcl 1 1 1)) (pv 0) (qf4 T.bM T.bJ T.gK) (qf4 T.yO T.zX T.zR) (qf4 (qey T) (qmg T) (qey T)) (qf4 (n.mono Uk) (n.mono Uk) (n.mono Uk)) (qf4 T.m8.bd T.pX.bd T.m8.bd) .nil qac (qd (pv 2) qg qe)))
   (qf (qu (i:=5) qct.nd Z (Au Z) (qv qah (pv 1) qi))
   (qf (qa3 A8 Z (qa0 (pv 3)) (qe0 Z (qar (qag (i:=6) qct.nd Z (Au Z)) (qar (qag (i:=7) qct.nd Z (Au Z)) qde))) (qf (qu (i:=8) qct.nd Z (Au Z) (qlf (ι:=Three) (C:=(qcl a.kP a.kR a.kO)) (f:=(qcl a.gS a.gS a.bH)) (fd:=(qcl a.bW a.bW a.fY)) (ps:=(qcl (["self","first","last"]:List Str) (["self","first","last"]:List Str) (["self","first","last"]:List Str))) (sp:=(qcl (qe7 λf l=>.int (if l-f+1 > 0 then l-f+1 else 0)) (qe7 λf l=>.int (if l-f+1 > 0 then l-f+1 else 0)) (qxl a))) (k:=(qcl 1 1 8)) (pv 0) (qf4 T.bM T.bJ T.gK) (qf4 T.zM T.zN T.zH) (qf4 (qdv T) (qdv T) (qg1 T)) (qf4 (n.mono Uk) (n.mono Uk) (n.mono Uk)) (qf4 T.m6.bd T.m6.bd T.tV.bd) .nil qac (qd (pv 5) (qd (qv qbq (pv 6) qi) qg zm) qe)))
   (qf (zb (qt op_ge (pv 8) (pv 4) (qad _)) (qj qph) qaf)
   (qf (zb (qt qcb (pv 7) qat (qad _)) (qj (qo qat)) qaf)
   (qf (qk0 (i:=4) qct.nd Z (Au Z) (pv 8) ip_sub)
   (qj (qu (i:=5) qct.nd Z (Au Z) (zd (qi8 Z) (by rfl) T.lG qls (qd (pv 5) (qd (qv qah (pv 7) qi) qg zm) qe)))))))))
   (qj (qo (qlf (ι:=Three) (C:=(qcl a.kP a.kR a.kO)) (f:=(qcl a.gW a.gW a.bG)) (fd:=(qcl a.bT a.bT a.lW)) (ps:=(qcl (["self","first","many"]:List Str) (["self","first","many"]:List Str) (["self","first","many"]:List Str))) (sp:=(qcl (qe7 λf m=>.int (f+m-1)) (qe7 λf m=>.int (f+m-1)) (ql3 a))) (k:=(qcl 1 1 9)) (pv 0) (qf4 T.bM T.bJ T.gK) (qf4 T.xY T.zF T.yA) (qf4 (qf2 T) (qf2 T) (qjx T)) (qf4 (n.mono Uk) (n.mono Uk) (n.mono Uk)) (qf4 T.fT.bd T.fT.bd T.rQ.bd) .nil qac (qd (pv 5) (qd (pv 4) qg qe) qe))))))),?_⟩
  obtain⟨I,tb,D,ht⟩:=id G;obtain⟨us,J,ty⟩:=hq;have B:=kcnt tok i;have m1:=qqm u1 i;have lu:us.length=ps.length:=by rw[ty.length,Ab]
  refine(nmc Z ⟨i,x,I,_,Z,D,Z,(nmc Z (kfor (nmc Z (iic Z Z (nmc Z ?_)))))⟩);refine⟨_,Z,⟨_,SqL.of J⟩,qa5 (K:=K) (a:=pq) (xs:=us) (λj σ H'=>Same H H'/\∃(b L:Int)(v6 M W:Option V),σ=[some (.ref x),some (.int st),some (.int u),some (.ref pq),some (.int L),some (.int b),v6,M,W]/\Go (kf bs rs i) ps st (qcl u (7*u) u i) j b L)
   ⟨Same.refl H,_,_,none,none,none,Z,go_zero m1⟩ (λj σ H' _ h=>SqL.of (h.1 _ _ J)) ?_ ?_⟩
  .rintro j v σ H' ad ⟨p,b,L,v6,M,W,rfl,q⟩;obtain⟨c,t,rfl,h1,N⟩:=ty.get' ad;obtain⟨⟨F,o⟩,X,rfl⟩:=qql h1;have N:=p _ _ N;have hb:=q.hb;refine⟨_,_,Z,SqT.of N,Z,_,_,Z,_,_,Z,Z,?_⟩;refine(nmc Z ⟨i,x,I,_,Z,p _ _ D,Z,(nmc Z (nmc Z (iic Z Z (kin (G.same p) tok (by lia) λH2 s2=>?_))))⟩);have r:=p.trans s2;refine(nmc Z (nmc Z (iic Z Z (nmc Z (qbx (λc=>?_) (λc=>?_))))))
   .have g:=go_fin B y ok q X (of_decide_eq_true c);exact(nmc Z ⟨i,x,I,_,Z,r _ _ D,Z,(nmc Z (nmc Z (qxn (G.same r) tok (by have:=g.hb;lia) g.hL λd U O R S Y=>k U (some d) (r.trans O) (qqj B y g R S Y))))⟩)
   .have c':cin (kb bs rs i) b (F-1)<L:=Int.not_le.mp λz=>c (decide_eq_true z);cases o with|none=>exact(nmc Z ⟨Z,(nmc Z (qcn Z (k _ none r (go_none B y ok q X c'))))⟩)|some e=>exact(nmc Z ⟨Z,(nmc Z (qbi (λz=>nomatch z) (nmc Z (nmc Z (iic Z Z (nmc Z (nmc Z (iic Z Z ⟨_,_,Z,r,_,_,_,_,_,Z,go_next B y ok q X c'⟩))))))))⟩)
  .rintro σ H' ⟨p,b,L,v6,M,W,rfl,q⟩;rw[lu]at q;have g:=go_end (f:=kb bs rs i) q;exact(nmc Z ⟨i,x,I,_,Z,p _ _ D,Z,(nmc Z (nmc Z (qxn (G.same p) tok (by have:=g.hb;lia) g.hL λd U O R S Y=>k U (some d) (p.trans O) (qqj B y g R S Y))))⟩)
theorem qf3 (T:Txt K mg a):FnOk P w K mg base CX0 9 a.lI a.xH ["self","day"] (spTNext a):=by
 refine T.fP.fn.ok qkh (λvs H Q E h=>?_) (λcdv A outer s H vs Q E o h=>?_)
 .obtain⟨_,_,_,_,rfl,_⟩:=h
  all_goals rfl
 .obtain⟨x,bs,rs,n,rfl,i,e,f,j,v,l,k⟩:=h;refine⟨_,(qj (qo (qal (pv 0) T.kL T.mY (qmh T) (o.mono Uk) T.hX.bd .nil qac (qd (qal (pv 0) T.kL T.gZ (qb8 T) (o.mono Uk) T.gT.bd .nil qac (qd (pv 1) qg qe)) qg zl)))),?_⟩;have c:=i;obtain⟨dx,p,q,z,g,_⟩:=i;refine(nmc Z ⟨_,_,_,Z,g,Z,(nmc Z ⟨_,_,_,Z,g,Z,(nmc Z ⟨_,_,_,_,Z,c,e,f,l,λH1 t=>?_⟩)⟩)⟩);obtain⟨dp,a1,a2,a3,p1,p2,p3,p4,hl⟩:∃dp a1 a2 a3,H p=some (.ins a.kK dp (pfs a1 a2 a3))/\H a1=some (.lst (bs.map V.bl))/\H a2=some (.lst ((odL bs).map V.int))/\H a3=some (.lst ((cuL bs).map V.int))/\bs.length=371:=by obtain⟨_,p',_,_,b,C,_⟩:=c;rw[g]at b;injection b with b;injection b with _ _ b;injection b with b _;injection b with _ b;injection b with b;subst b;exact C
  have r:=(qxj hl e j).le (n:=0) (m:=n) (Bo _) l;rw[qot f e.ok]at r;exact⟨_,_,_,_,Z,c.same t,e,f,j,v,r,λd u B y F D=>k d u (t.trans B) y F D⟩
theorem qsr (T:Txt K mg a):FnOk P w K mg base CX0 10 a.mH a.sL ["table","day","pauses"] (spFDue a):=by
 refine T.bZ.fn.ok qeg (λvs H Q E h=>?_) (λcdv A outer s H vs Q E J h=>?_)
 .obtain⟨_,_,_,_,_,_,rfl,_⟩:=h
  all_goals rfl
 .obtain⟨tb,G,d,bs,rs,ps,rfl,x,tok,N,ok,r,k⟩:=h;refine⟨_,(qf (qu (i:=3) qeg.nd Z (Au Z) (qal (pv 0) T.kL T.sR (qf3 T) (J.mono Uk) T.fP.bd .nil qac (qd (pv 1) qg qe)))
   (qf (qa3 A8 Z (qa0 (pv 2)) (qe0 Z (qar (qag (i:=4) qeg.nd Z (Au Z)) (qar (qag (i:=5) qeg.nd Z (Au Z)) qde))) (qf (zb (qt qc3 (pv 3) (pv 4) (qad _)) (qj qph) qaf)
   (qf (zb (qt qcb (pv 5) qat (qad _)) (qj (qo qat)) qaf)
   (qj (zb (qt qga (pv 3) (pv 5) (qad _)) (qj (qu (i:=3) qeg.nd Z (Au Z) (qal (pv 0) T.kL T.sR (qf3 T) (J.mono Uk) T.fP.bd .nil qac (qd (qv qah (pv 5) qi) qg zm)))) qaf)))))
   (qj (qo (pv 3))))),?_⟩
  obtain⟨_,_,_,_,I⟩:=x.ins;obtain⟨us,B,ty⟩:=N;have L:=qxj tok.hl tok.ap tok.wd;have O:us.length=ps.length:=by rw[ty.length,Ab]
  refine(nmc Z ⟨_,_,_,Z,I,Z,(nmc Z ⟨_,_,_,_,Z,x,tok.ap,tok.nn,tok.wd,tok.op,r,λt H1 b p m n=>?_⟩)⟩);refine(nmc Z ⟨_,Z,⟨_,SqL.of (b _ _ B)⟩,qa5 (K:=K) (a:=G) (xs:=us) (λj σ H'=>Same H H'/\∃(t:Int)(u y:Option V),σ=[some (.ref tb),some (.int d),some (.ref G),some (.int t),u,y]/\Gd (tfr bs rs) ps d j t)
   ⟨b,t,none,none,Z,gd_zero L r p m n⟩ (λj σ H' _ h=>SqL.of (h.1 _ _ B)) ?_ ?_⟩)
  .clear p m n;rintro j v σ H' D ⟨b,t,u,y,rfl,f⟩;obtain⟨c,t,rfl,R,q⟩:=ty.get' D;obtain⟨⟨F,o⟩,l,rfl⟩:=qql R;have q:=b _ _ q;have hf:=f.hf;refine⟨_,_,Z,SqT.of q,Z,_,_,Z,_,_,Z,Z,?_⟩;refine(nmc Z (nmc Z (iic Z Z (nmc Z (qbx (λc=>?_) (λc=>?_))))))
   .exact(nmc Z (k _ (some _) b (gd_not ok f l (of_decide_eq_true c))))
   .have C:F<=_:=B2.mp λz=>c (decide_eq_true z);cases o with
    |none=>exact(nmc Z ⟨Z,(nmc Z (qcn Z (k _ none b (gd_none f l C))))⟩)
    |some e =>
     have e0:=(ok.ok _ (A2 l)).2 e rfl;refine(nmc Z ⟨Z,(nmc Z (qbi (λz=>nomatch z) (nmc Z (nmc Z (iic Z Z (nmc Z (qbx (λg=>?_) (λg=>?_))))))))⟩)
     .have g:=of_decide_eq_true g;exact(nmc Z ⟨_,_,_,Z,b _ _ I,Z,(nmc Z (iic Z Z ⟨_,_,_,_,Z,x.same b,tok.ap,tok.nn,tok.wd,tok.op,by lia,λt' H2 M p m n=>⟨b.trans M,_,_,_,Z,gd_leap L r f l C g p m n⟩⟩))⟩)
     .exact⟨b,_,_,_,Z,gd_over f l (Int.not_le.mp λz=>g (decide_eq_true z))⟩
  .rintro σ H' ⟨b,t,u,y,rfl,f⟩;rw[O]at f;exact(nmc Z (k _ (some t) b (gd_end f)))
theorem qhc (T:Txt K mg a):FnOk P w K mg base CX0 11 a.mM a.mC ["kind","start","units","pauses"] (spLastD a):=by
 refine T.kZ.fn.ok qnv (λvs H Q E h=>?_) (λcdv A outer s H vs Q E j h=>?_)
 .obtain⟨_,_,_,_,_,_,_,_,rfl,_⟩:=h
  all_goals rfl
 .obtain⟨x,d,i,st,u,bs,rs,ps,rfl,g,tok,e,ok,o,t,k⟩:=h;refine⟨_,(qf (qu (i:=4) qnv.nd Z (Au Z) (zc (qvn T) (j.mono Uk) Z T.dC.mgx T.dC.fn.kp T.dC.bd .nil qac (qd (pv 0) (qd (pv 1) (qd (pv 2) (qd (pv 3) qg qe) qe) qe) qe)))
   (qf (zb (qt qcb (pv 4) qat (qad _)) (qj (qo qat)) qaf)
   (qj (qo (zc (qsr T) (j.mono Uk) Z T.bZ.mgx T.bZ.fn.kp T.bZ.bd .nil qac (qd (qab (pv 0) Z) (qd (pv 4) (qd (pv 3) qg qe) qe) qan)))))),?_⟩
  obtain⟨dx,tb,m,q⟩:=id g;refine(nmc Z (nmc Z (nmc Z (nmc Z ⟨x,d,i,st,u,bs,rs,ps,Z,g,tok,e,ok,o,t,λH1 v c b=>?_⟩))));cases v with|none=>exact(nmc Z ⟨Z,(nmc Z (qcn Z (k _ none c (.inl ⟨b,Z⟩))))⟩)|some f =>have f0:=b.1;exact(nmc Z ⟨Z,(nmc Z (qbi (λz=>nomatch z) (nmc Z ⟨_,_,_,_,_,Z,c _ _ m,qf4 (p:=λi=>Cls K (kC a i)) T.bM T.bJ T.gK i,qf4 (p:=λi=>NoAttr K (kC a i) (Aa "table")) (qp T.rZ Uk) (qp T.rY Uk) (qp T.bD Uk) i,Z,(nmc Z (nmc Z ⟨tb,d,f,bs,rs,ps,Z,q.same c,tok,e.same c,ok,by lia,λH2 r n l=>k _ r (c.trans n) (.inr ⟨f,b,l⟩)⟩))⟩)))⟩)
theorem qjy (T:Txt K mg a){cL v:Addr}(hcl:a.bP.code=.ref cL)(LF:Lam.LamF mg base cL v):FnOk P w K mg base CX0 4 a.rT a.bP ["acts"] (spIo v):=by
 refine Lam.okT T.gH.fn hcl qu9 (λvs H Q E h=>?_) (λcdv ae A outer s H vs Q E hr h=>?_)
 .obtain⟨_,_,_,rfl,_⟩:=h
  all_goals rfl
 .obtain⟨p,us,d,rfl,hp,Y,hl,hL,k⟩:=h;refine⟨_,(qj (qo (Lam.pe_sortLamT (N:=["act"]) (js:=[none]) (XN:=["acts"]) (xs:=qaa qdm) Z (hr.mono Uk) (by rfl) T.rW (qd (pv 0) qg qe) LF ae Z Z Ez Z Z Ez Z Z Z (λ_ _ _ _ _=>rfl) (λ_ _ _ _ _ _=>(zj (qd (zp (qkn (K:=K) Z) (pv 0) qi (λ_ _=>rfl)) (qd (zp (qkn (K:=K) Z) (pv 0) qi (λ_ _=>rfl)) qg zn) zn)))))),?_⟩;have U:=Y.length;rw[Ab]at U;refine(nmc Z ⟨p,us,Z,SqL.of hp,by lia,hL,λS c' kp D M G C=>?_⟩);obtain⟨ps,J⟩:=hL.tbl;have ad:Tups S us (d.map qdo):=qcp Y λb t e=>kp b _ (λz=>by rw[z,J]at e;cases e) e;have nkP:G≠v:=λz=>by rw[z,D]at C;cases C
  refine⟨λi H'=>Same S H'/\∃y,H' G=some (.lst y)/\Tups H' y ((d.take i).map λt=>Lam.encK (qdp t)),⟨qx C,[],qk,.nil⟩,λi x H' hx W=>?_,λH' W=>?_⟩
  .obtain⟨f,y,m,l⟩:=W;have I:i<d.length:=by have:=(Ac.mp hx).1;lia
   obtain⟨b,eb,qb⟩:=ad.get (i:=i) (r:=qdo d[i]) (by rw[Ag,Ae I];rfl);rw[hx]at eb;cases eb;have e3:=f _ _ qb;refine⟨f _ _ M,(nmc Z (txo (e3) Z (nmc Z (txo (e3) Z ⟨qqd _ _,λt R=>?_⟩))))⟩;obtain⟨st,et⟩:=alc (o:=.tup [V.int d[i].2.2,V.str d[i].1]) R;have lk:=l.length;rw[Ab,Bj]at lk;refine⟨y,st _ _ m,qbe (by lia),?_,_,qk,?_⟩
   .exact λb o e=>by rw[qr (qae e C)];exact st _ _ (f _ _ e)
   .rw[B0,Ae I,Ar];refine qg8 (qcp l λc u e=>?_) ?_
    .rw[qr (λz=>by rw[z,m]at e;cases e)];exact st _ _ e
    .rw[qr (λz=>by rw[z,m]at R;cases R)];exact et
  .obtain⟨f,y,m,l⟩:=W;rw[U,Bw]at l;refine⟨y,d.map qdp,m,by rw[Ca];exact l,by rw[Ab];lia,λF q pp pw g=>?_⟩;have B:∀j∈F,j<d.length:=λj O=>by have:=AN.mp (pp.mem_iff.mp O);lia
   have nqk:q≠G:=λz=>by rw[z,m]at g;cases g
   have s3:Same S (upd (upd H' G (.lst [])) q (.lst (F.map λi=>us.getD i V.non))):=λb o e=>by rw[qr (qae (f _ _ e) g),qr (qae e C)];exact f _ _ e
   have X:∀b t,H b=some (.tup t)->b≠v:=λb t e z=>by rw[z,J]at e;cases e
   have L:SameBut v H (upd (upd H' G (.lst [])) q (.lst (F.map λi=>us.getD i V.non))):=λb o n e=>s3 _ _ (kp b o n e);have af:H q=none:=by
    by_cases z:q=v
    .rw[z]at g;rw[f _ _ D]at g;cases g
    .cases e:H q with
     |none=>rfl
     |some o=>rw[f _ _ (kp q o z e)]at g;cases g
   refine k q _ _ (F.map λi=>d.getD i dA) af L (Lam.LamAt.same (.inr ⟨c',D,M⟩) s3) ?_ ?_ qk ?_
   .have:=pp.map λi=>d.getD i dA;rw[U,qrs]at this;exact this
   .rw[Cn]at pw |-;refine pw.imp_of_mem λ{i j} I O h=>?_;have ei:(d.map qdp).getD i Lam.kDf=qdp (d.getD i dA):=by simp[B i I]
    have ej:(d.map qdp).getD j Lam.kDf=qdp (d.getD j dA):=by simp[B j O]
    rw[ei,ej]at h;exact h
   .exact qmb (qcp Y λb t e=>L b _ (X b t e) e) F B
theorem qm3 (T:Txt K mg a):FnOk P w K mg base CX0 1 a.lE a.xO ["self"] (spBHang a):=by
 refine T.xJ.fn.ok qmy (λvs H Q E h=>?_) (λcdv A outer s H vs Q E hr h=>?_)
 .obtain⟨_,_,_,_,rfl,_⟩:=h
  all_goals rfl
 .obtain⟨x,nms,ord,us,rfl,b,k⟩:=h;refine⟨_,(qj (qo (qb6 qce (by rfl) T.gC qbu (qd (qab (pv 0) Z) qg qan)))),?_⟩;obtain⟨dx,po,pd,kvs,d,c,h3,h4,h5⟩:=b;exact(nmc Z (flc (d) (T.gL) (qp T.bE Uk) (rfl) ⟨_,_,Z,.inl (SqL.of c),λl e=>k l e⟩))
theorem qo9 (T:Txt K mg a):FnOk P w K mg base CX0 1 a.mB a.xB ["self","name"] (spBRule a):=by
 refine T.nX.fn.ok qop (λvs H Q E h=>?_) (λcdv A outer s H vs Q E d h=>?_)
 .obtain⟨_,_,_,_,_,_,rfl,_⟩:=h
  all_goals rfl
 .obtain⟨x,nms,ord,us,j,y,rfl,e,f,k⟩:=h;refine⟨_,(qf (zb (qvw (qun (qci d) (pv 1) (qab (pv 0) Z))) (qj qfa) qaf)
   (qj (qo (qdf (qci d) (qab (pv 0) Z) (pv 1) (λ_ _=>rfl))))),?_⟩
  obtain⟨dx,po,b,kvs,c,h2,l,h4,i⟩:=e;have g:DGet H b (.str (nm nms j)) (some y):=i j y f ▸ DGet.k (k:=.inr (nm nms j)) l;exact(nmc Z (nmc Z (flc (c) (T.gL) (qp T.bE Uk) (rfl) ⟨b,_,Z,g,(nmc Z (qbs (nmc Z (flc (c) (T.gL) (qp T.bE Uk) (rfl) (nmc Z ⟨b,_,Z,g,k⟩)))))⟩)))
theorem qq8 (T:Txt K mg a):FnOk P w K mg base CX0 1 a.hM a.rP ["self"] (spOvr a):=by
 refine T.pG.fn.ok qp7 (λvs H Q E h=>?_) (λcdv A outer s H vs Q E hr h=>?_)
 .obtain⟨_,_,_,_,_,_,_,rfl,_⟩:=h
  all_goals rfl
 .obtain⟨x,B,S,rd,st,bs,rs,rfl,b,k⟩:=h;refine⟨_,(qj (qo (qab (pv 0) Z))),?_⟩;obtain⟨dx,rl,cn,pr,pp,pg,ur,up,rfl,R⟩:=id b;exact(nmc Z (flc (R.hx) (T.k8) (qp T.kD Uk) (rfl) k))
theorem qq9 (T:Txt K mg a):FnOk P w K mg base CX0 2 a.xN a.rN ["runs"] (spIr a):=by
 refine T.dE.fn.ok qp8 (λvs H Q E h=>?_) (λcdv A outer s H vs Q E e h=>?_)
 .obtain⟨_,_,_,rfl,_⟩:=h
  all_goals rfl
 .obtain⟨l,xs,b,rfl,c,hl,d,k⟩:=h;refine⟨_,(qj (qo (qhk (qdw qpi (zd qb1 (by rfl) T.gA qb5 (qd (pv 0) qg qe)) qi (qad _)) (qf7 (qvx (qbg (zp zr (pv 0) (qeq qcx qi) (λ_ _=>rfl)) T.k8 T.yD (qq8 T) (e.mono Uk) T.pG.bd .nil qac)))))),?_⟩;refine(nmc Z ⟨_,_,Z,.inl ⟨_,SqL.of c,Z⟩,(iic Z Z ?_)⟩);rcases d with ⟨rfl,rfl⟩|⟨ys,y,B,S,rd,st,bs,rs,rfl,R,rfl⟩
  .exact⟨_,Z,qbs k⟩
  .obtain⟨dy,rly,cny,pry,ppy,pgy,ury,upy,eS,Y⟩:=id R;have hn:((ys++[V.ref y]).length:Int)=(ys.length:Int)+1:=by rw[Af];rfl
   refine⟨_,Z,?_⟩;rw[if_pos (decide_eq_true (by lia))];exact(nmc Z ⟨_,Z,(lxo (c) (qks _ _) ⟨_,_,_,Z,Y.hx,Z,y,B,S,rd,st,bs,rs,Z,R,_,Z,k⟩)⟩)
theorem qi4 (T:Txt K mg a):FnOk P w K mg base CX0 1 a.m9 a.pY ["self","kind"] (spStl a):=by
 refine T.tI.fn.ok qio (λvs H Q E h=>?_) (λcdv A outer s H vs Q E hr h=>?_)
 .obtain⟨_,_,_,rfl,_⟩:=h
  all_goals rfl
 .obtain⟨rl,d,rd,rfl,l,k⟩:=h;refine⟨_,(qf (zb (qt qcb (qab (pv 0) Z) qat (qad _)) (qj (qo zg)) qaf)
   (qf (zb (qt qch (pv 1) (zp zq (qab (pv 0) Z) qi (λ_ _=>rfl)) (qad _)) (qj (qo zg)) qaf)
   (qj (qo (qck (qt qch (pv 1) (zp zq (qab (pv 0) Z) qi (λ_ _=>rfl)) (qad _)) zg zg))))),?_⟩
  obtain⟨dx,pe,pa,pl,nm',w1,op,b1,s1,py,us,j,g,h3,h4,h5,h6⟩:=l;cases e:rd.still with
  |none =>rw[e]at g k;cases g;exact(nmc Z (flc (j) (T.kG) (qp T.kH Uk) (rfl) ⟨Z,(nmc Z (qcn Z k))⟩))
  |some z =>
   obtain⟨i,f⟩:=z;rw[e]at g k;obtain⟨p,rfl,m⟩:=g;refine(nmc Z (flc (j) (T.kG) (qp T.kH Uk) (rfl) ⟨Z,(nmc Z (qbi (λz=>nomatch z) (nmc Z (nmc Z (flc (j) (T.kG) (qp T.kH Uk) (rfl) (txo (m) Z ⟨Z,(nmc Z (qbx (λc=>?_) (λc=>?_)))⟩))))))⟩))
   .have c:=V.str.inj (of_decide_eq_true c);rw[show qqq (some (i,f)) d=Aa "still" by unfold qqq;simp only;rw[if_pos c]]at k;exact k
   .have c:¬d=i:=λq=>c (decide_eq_true (congrArg V.str q));refine(nmc Z (nmc Z (flc (j) (T.kG) (qp T.kH Uk) (rfl) (txo (m) Z ⟨Z,(nmc Z (qbx (λb=>?_) (λb=>?_)))⟩))))
    .have b:=V.str.inj (of_decide_eq_true b);rw[show qqq (some (i,f)) d=Aa "goes on" by unfold qqq;simp only;rw[if_neg c,if_pos b]]at k;exact k
    .have b:¬d=f:=λq=>b (decide_eq_true (congrArg V.str q));rw[show qqq (some (i,f)) d=Aa "" by unfold qqq;simp only;rw[if_neg c,if_neg b]]at k;exact k
theorem qss (T:Txt K mg a):FnOk P w K mg base CX0 2 a.lC a.pR ["self","kind"] (spRole a):=by
 refine T.nD.fn.ok qr4 (λvs H Q E h=>?_) (λcdv A outer s H vs Q E Y h=>?_)
 .obtain⟨_,_,_,rfl,_⟩:=h
  all_goals rfl
 .obtain⟨O,e,rd,rfl,C,ok,k⟩:=h;refine⟨_,(qf (zb (PW.pt (qep (qt qch (pv 1) (qab (pv 0) Z) (qad _)) (qd2 (qt qc7 (pv 1) (qab (pv 0) Z) (by with_unfolding_all rfl))))) (qj (qo zg)) qaf)
   (qf (zb (qt qc7 (pv 1) (qab (pv 0) Z) (by with_unfolding_all rfl)) (qj (qo zg)) qaf)
   (qf (zb (qt qc7 (pv 1) (qfk (N:=["row"]) (js:=[none]) (XN:=["self","kind"]) (xs:=qaa qg3) Z Z Z Ez (qa0 (qab (pv 0) Z)) (λ_ _ _ _ _ _=>(qag (i:=0) (show Cw (["row"]:List Str) from by decide +kernel) Z (Au Z) (DC Z))) (λ_ _ _ _ _ _=>qfj) (λ_ _ _ _ _ _=>(zp (qkn (K:=K) Z) (pv 0) qi (λ_ _=>rfl)))) (by with_unfolding_all rfl)) (qj (qo zg)) qaf)
   (qj (qo (qal (pv 0) T.kG T.yS (qi4 T) (Y.mono Uk) T.tI.bd .nil qac (qd (pv 1) qg qe))))))),?_⟩
  have J:=C;obtain⟨dx,pe,pa,pl,nm',w1,op,b1,s1,py,us,n,h2,h3,X,M,F⟩:=id C;apply use (p:=¬(e=rd.owes\/rd.ends.contains e=true))
  .intro W;have B:e=rd.owes\/rd.ends.contains e=true->Q (.str (Aa "ends")) H:=λz=>by have:=k H (Same.refl H);unfold qbj at this;rw[if_pos z]at this;exact this
   refine(nmc Z (nmc Z (flc (n) (T.kG) (qp T.kH Uk) (rfl) ⟨Z,(nmc Z (qbx (λc=>qd6 (B (.inl (V.str.inj (of_decide_eq_true c))))) (λc=>(nmc Z (nmc Z (flc (n) (T.kG) (qp T.kH Uk) (rfl) ⟨_,_,Z,.inl (SqL.of h3),Z,qd1 _,(nmc Z ?_)⟩))))))⟩)));show if inV (.str e) (rd.ends.map V.str)=true then _ else _;rw[qff];exact qbx (λd=>B (.inr d)) (λd=>W λz=>by
    rcases z with z|z
    .exact c (decide_eq_true (congrArg V.str z))
    .exact d z)
  .intro D;refine(nmc Z (nmc Z (flc (n) (T.kG) (qp T.kH Uk) (rfl) ⟨_,_,Z,.inl (SqL.of X),Z,qd1 _,(nmc Z ?_)⟩)));show if inV (.str e) (rd.anew.map V.str)=true then _ else _;rw[qff];refine qbx (λd=>?_) (λd=>?_)
   .have:=k H (Same.refl H);unfold qbj at this;rw[if_neg D,if_pos d]at this;exact this
   .have U:us.length=rd.longer.length:=by rw[F.length,Ab]
    have hll:=ok.l;refine(nmc Z (nmc Z (flc (n) (T.kG) (qp T.kH Uk) (rfl) ⟨_,Z,⟨_,SqL.of M⟩,?_⟩)));let f:V->V:=λv=>match v with
     |.ref b=>match H b with
      |some (.tup [.str y,.int _,.int _])=>.str y
      |_=>.non
     |_=>.non
    refine qg2 f (λσ'=>∃v,σ'=[v]) (qd7 (K:=K) (SqL.of M)) (qdd (by lia)) ⟨none,Z⟩ (λv σ' H' RR hv sm R q=>?_) qeu λp5 L=>?_
    .obtain⟨v0,rfl⟩:=R;obtain⟨j,S⟩:=Bv hv;obtain⟨b,t,rfl,g,x⟩:=F.get' S;rw[Ag]at g;cases u:rd.longer[j]? with
     |none=>rw[u]at g;cases g
     |some r =>
      rw[u]at g;cases g;have ef:f (.ref b)=.str r.1:=by show (match H b with|some (.tup [.str y,.int _,.int _])=>V.str y|_=>.non)=_;rw[x];rfl
      have q:=q [some (.ref b)] ⟨_,Z⟩;rw[ef]at q;exact(nmc Z (txo (sm _ _ x) Z q))
    have I:us.map f=(rd.longer.map (·.1)).map V.str:=by
     refine BZ λj=>?_;rw[Ag,Ag,Ag];cases u:rd.longer[j]? with
     |none=>rw[AI (by rw[U];exact Dg.mp u)];rfl
     |some r =>obtain⟨b,g,x⟩:=F.get (i:=j) (r:=qqp r) (by rw[Ag,u];rfl);rw[g];show some (match H b with|some (.tup [.str y,.int _,.int _])=>V.str y|_=>.non)=_;rw[x];rfl
    have m:=qx (o:=.lst (us.map f)) L;refine⟨_,_,Z,.inl (SqL.of qk),Z,by rw[I];exact qd1 _,(nmc Z ?_)⟩;show if inV (.str e) (us.map f)=true then _ else _;rw[I,qff];rw[I]at m;refine qbx (λG=>?_) (λG=>?_)
    .have:=k _ m;unfold qbj at this;rw[if_neg D,if_neg d,if_pos G]at this;exact this
    .have:=k _ m;unfold qbj at this;rw[if_neg D,if_neg d,if_neg G]at this;exact(nmc Z ⟨_,_,_,Z,m _ _ n,Z,(nmc Z ⟨O,e,rd,Z,J.same m,this⟩)⟩)
theorem qhi (T:Txt K mg a):FnOk P w K mg base CX0 1 a.fM a.nF ["self"] (spHl a):=by
 refine T.fZ.fn.ok qmz (λvs H Q E h=>?_) (λcdv A outer s H vs Q E hr h=>?_)
 .obtain⟨_,_,_,_,_,_,_,rfl,_⟩:=h
  all_goals rfl
 .obtain⟨x,B,S,rd,st,bs,rs,rfl,d,k⟩:=h;refine⟨_,(qj (qo (qhk (qdw qpi (zd qb1 (by rfl) T.gA qb5 (qd (qab (pv 0) Z) qg qan)) qi (qad _)) (qf7 (qdw qcb (zp zq (zp zr (qab (pv 0) Z) (qeq qcx qi) (λ_ _=>rfl)) qi (λ_ _=>rfl)) qat (qad _)))))),?_⟩;obtain⟨dx,rl,cn,pr,pp,pg,ur,g,rfl,R⟩:=id d;refine(nmc Z (flc (R.hx) (T.k8) (qp T.kD Uk) (rfl) ⟨_,_,Z,.inl ⟨_,SqL.of R.hp,Z⟩,(iic Z Z (nmc Z ?_))⟩));rcases BG st.ps with e|⟨qs,p,e⟩
  .have i:g=[]:=DQ (by rw[R.tp.length,Ab,e];rfl);rw[e]at k;subst i;exact qbs k
  .rw[BH]at e;obtain⟨F,o⟩:=p;have tp:=R.tp;rw[e]at tp k;obtain⟨vs,c,b,f,tv⟩:=qn0 tp;rw[qqt]at k;refine qcn (by rw[b,Af,AY];lia) (nmc Z (flc (R.hx) (T.k8) (qp T.kD Uk) (rfl) ⟨_,Z,(lxo (R.hp) ((b ▸ qks vs _)) (txo (f) Z ⟨Z,k⟩))⟩))
theorem qn5 (T:Txt K mg a):FnOk P w K mg base CX0 2 a.fS a.sQ ["self","day"] (spGo a):=by
 refine T.lV.fn.ok qnw (λvs H Q E h=>?_) (λcdv A outer s H vs Q E N h=>?_)
 .obtain⟨_,_,_,_,_,_,_,_,_,rfl,_⟩:=h
  all_goals rfl
 .obtain⟨x,B,S,rd,st,bs,rs,c,d,rfl,v,ok,k⟩:=h;refine⟨_,(qf (zb (qd3 (zf (qbg (pv 0) T.k8 T.pP (qhi T) (N.mono Uk) T.fZ.bd .nil qac))) (qj (qo qcg)) qaf)
   (qf (qu (i:=2) qnw.nd Z (Au Z) (zp zq (qv8 Ax PySem.F.slot_list_pop PySem.F.type_list_pop mt_pop (qab (pv 0) Z)) qi (λ_ _=>rfl)))
   (qf (zb (qt qc3 (pv 2) (pv 1) (qad _)) (qj (qz (qbr Ax A3 A4 qam (qab (pv 0) Z) (qd (zj (qd (pv 2) (qd (qv qbq (pv 1) qi) qg zm) qe)) qg zo)))) qaf)
   (qj (qo qcg))))),?_⟩
  obtain⟨G,rl,cn,u,j,t,I,U,rfl,R⟩:=id v;refine(nmc Z ⟨_,_,_,Z,R.hx,Z,x,B,_,rd,st,bs,rs,Z,v,(nmc Z ?_)⟩);cases p:qa2 st.ps with
  |false =>rw[p,qiu p]at k;exact qd6 (k H (KeepS.of (Same.refl H)) v)
  |true =>
   obtain⟨l,F,e⟩:=qox p;have tp:=R.tp;rw[e]at tp;obtain⟨vs,c1,r,C,J⟩:=qn0 tp;rw[p,e,qkt]at k;refine qbs (nmc Z (flc (R.hx) (T.k8) (qp T.kD Uk) (rfl) ⟨.inl ⟨Z,_,SqL.of R.hp⟩,_,_,_,Z,Z,R.hp,(r ▸ last_ix vs _),?_⟩));have O:U.dropLast=vs:=by rw[r,List.dropLast_concat]
   rw[O];have g:=R.setP (up':=vs) (ps':=l) J;have y:KeepS [x,u,j,t] H (upd H j (.lst vs)):=qej (by simp);have q:=(qr (o:=.lst vs) (λz=>by rw[z,R.hp]at C;cases C)).trans C;generalize upd H j _=H1 at g y q |-;refine(txo (q) Z (nmc Z (nmc Z (iic Z Z (nmc Z (qbx (λf=>?_) (λf=>?_)))))))
   .have f:=of_decide_eq_true f;rw[if_pos f]at k;refine(nmc Z (flc (g.hx) (T.k8) (qp T.kD Uk) (rfl) ⟨.inl ⟨Z,_,SqL.of g.hp⟩,(nmc Z (nmc Z (iic Z Z ⟨qqd _ _,λM D=>?_⟩)))⟩));dsimp only[];obtain⟨m,L⟩:=alc (o:=.tup (qki (F,some (d-1)))) D;have ll:=ok.pl;have lr:=ok.rl;have lq:l.length+1=st.ps.length:=by rw[e,Af];rfl
    have lv:vs.length=l.length:=by rw[J.length,Ab]
    refine⟨_,_,_,Z,Z,m _ _ g.hp,qbe (by lia),?_⟩;have R2:=(g.same m).setP (up':=vs++[.ref M]) (ps':=l++[(F,some (d-1))]) (by rw[Ar];exact(g.tp.same m).snoc L);exact k _ (λb o n e=>qej (by simp) b o n (m _ _ (y b o n e))) ⟨G,rl,cn,u,j,t,I,_,Z,R2⟩
   .have f:¬F<d:=λz=>f (decide_eq_true z);rw[if_neg f,BC]at k;exact k _ y ⟨G,rl,cn,u,j,t,I,vs,Z,g⟩
theorem qra (T:Txt K mg a):FnOk P w K mg base CX0 3 a.lL a.mI ["self","day"] (spFi a):=by
 refine T.tN.fn.ok qp9 (λvs H Q E h=>?_) (λcdv A outer s H vs Q E z h=>?_)
 .obtain⟨_,_,_,_,_,_,_,_,_,rfl,_⟩:=h
  all_goals rfl
 .obtain⟨x,B,S,rd,st,bs,rs,c,d,rfl,q,ok,k⟩:=h;refine⟨_,(qf (qz (qal (pv 0) T.k8 T.nT (qn5 T) (z.mono Uk) T.lV.bd .nil qac (qd (pv 1) qg qe)))
   (qf (qay (pv 0) qcg Z)
   (qj (qo qcg)))),?_⟩
  obtain⟨dx,rl,cn,j,l,i,ur,up,rfl,R⟩:=id q;refine(nmc Z ⟨_,_,_,Z,R.hx,Z,(nmc Z ⟨x,B,_,rd,st,bs,rs,c,d,Z,q,ok,λH1 v y=>?_⟩)⟩);obtain⟨p,f,g,pr1,pp1,pg1,m,r,u,t⟩:=y;cases u;refine(nmc Z ⟨_,_,_,_,Z,t.hx,T.k8,qp T.kD Uk,(show 9<1000 by decide),?_⟩);rw[show qbf (Aa "over") (.bl true) (rnF (.ref f) (.ref g) (.ref j) (.bl st.over) (.int st.day) st.bv (.int st.units) (.ref l) (.ref i))=rnF (.ref f) (.ref g) (.ref j) (.bl true) (.int st.day) st.bv (.int st.units) (.ref l) (.ref i) by with_unfolding_all rfl];exact k _ (λb o n e=>qej (by simp) b o n (v b o n e)) ⟨p,f,g,j,l,i,m,r,Z,t.setF (o':=true) (u':=st.units)⟩
theorem qmi (T:Txt K mg a):FnOk P w K mg base CX0 1 a.bC a.bR ["self"] (spSt a 0):=by
 refine T.gE.fn.ok qdj (λvs H Q E h=>?_) (λcdv A outer s H vs Q E hr h=>?_)
 .obtain⟨_,_,_,_,_,_,_,_,rfl,_⟩:=h
  all_goals rfl
 .obtain⟨x,B,S,rd,st,bs,rs,s,rfl,d,b,k⟩:=h;refine⟨_,(qj (qo (qck (qt qcb (qab (pv 0) Z) qat (qad _)) (qab (pv 0) Z) qwg))),?_⟩;obtain⟨dx,rl,cn,pr,pp,pg,ur,up,rfl,R⟩:=id d;obtain⟨c,rfl⟩:=b;exact(nmc Z (flc (R.hx) (T.k8) (qp T.kD Uk) (rfl) ⟨Z,(nmc Z (qcn c (nmc Z (flc (R.hx) (T.k8) (qp T.kD Uk) (rfl) (k H (Same.refl H))))))⟩))
theorem qm4 (T:Txt K mg a):FnOk P w K mg base CX0 12 a.bA a.bN ["self"] (spLt a 0):=by
 refine T.gJ.fn.ok qbm (λvs H Q E h=>?_) (λcdv A outer s H vs Q E g h=>?_)
 .obtain⟨_,_,_,_,_,_,_,_,_,rfl,_⟩:=h
  all_goals rfl
 .obtain⟨x,B,S,rd,st,bs,rs,c,s,rfl,f,tok,ok,e,k⟩:=h;refine⟨_,(qf (qu (i:=1) qbm.nd Z (Au Z) (qbg (pv 0) T.k8 T.gY (qmi T) (g.mono Uk) T.gE.bd .nil qac))
   (qf (zb (qt qcb (pv 1) qat (qad _)) (qj (qo qat)) qaf)
   (qj (qo (zc (qhc T) (g.mono Uk) Z T.kZ.mgx T.kZ.fn.kp T.kZ.bd .nil qac (qd (qab (pv 0) Z) (qd (pv 1) (qd (qab (pv 0) Z) (qd (qab (pv 0) Z) qg qan) qan) qe) qan)))))),?_⟩
  obtain⟨dx,rl,cn,pr,l,pg,ur,j,rfl,R⟩:=id f;refine(nmc Z ⟨_,_,_,Z,R.hx,Z,x,B,_,rd,st,bs,rs,s,Z,f,e,λm b=>?_⟩);have R:=R.same b;cases s with|none=>exact(nmc Z ⟨Z,(nmc Z (qcn Z (k m none b Z)))⟩)|some d =>refine(nmc Z ⟨Z,(nmc Z (qbi (λz=>nomatch z) ?_))⟩);exact(nmc Z (flc (R.hx) (T.k8) (qp T.kD Uk) (rfl) (nmc Z (nmc Z (flc (R.hx) (T.k8) (qp T.kD Uk) (rfl) (nmc Z (flc (R.hx) (T.k8) (qp T.kD Uk) (rfl) ⟨cn,l,rd.unit,d,st.units,bs,rs,st.ps,Z,R.kd.same R.sm,tok,⟨j,R.hp,R.tp⟩,ok.ps,qdk e ok.d0,ok.u1,λH' r s lst=>k H' r (b.trans s) lst⟩)))))))
theorem qmj (T:Txt K mg a):FnOk P w K mg base CX0 13 a.bC a.bR ["self"] (spSt a 1):=by
 refine T.gE.fn.ok qdj (λvs H Q E h=>?_) (λcdv A outer s H vs Q E v h=>?_)
 .obtain⟨_,_,_,_,_,_,_,_,rfl,_⟩:=h
  all_goals rfl
 .obtain⟨x,B,S,rd,st,bs,rs,s,rfl,u,q,k⟩:=h;refine⟨_,(qj (qo (qck (qt qcb (qab (pv 0) Z) qat (qad _)) (qab (pv 0) Z) (qbg (qab (pv 0) Z) T.k8 T.bL (qm4 T) (v.mono Uk) T.gJ.bd .nil qac)))),?_⟩;obtain⟨dx,rl,cn,pr,pp,pg,ur,up,rfl,R⟩:=id u;rcases q with ⟨b,rfl⟩|⟨y,C,m,d,g,c,j,n,o,b,f,F,i,l,t⟩
  .exact(nmc Z (flc (R.hx) (T.k8) (qp T.kD Uk) (rfl) ⟨Z,(nmc Z (qcn b (nmc Z (flc (R.hx) (T.k8) (qp T.kD Uk) (rfl) (k H (Same.refl H))))))⟩))
  .obtain⟨dy,rly,cny,pry,ppy,pgy,ury,upy,eS,Y⟩:=id f;refine(nmc Z (flc (R.hx) (T.k8) (qp T.kD Uk) (rfl) ⟨Z,(nmc Z (qbi (by rw[b];exact λz=>nomatch z) (nmc Z (flc (R.hx) (T.k8) (qp T.kD Uk) (rfl) ⟨_,_,_,b,Y.hx,Z,y,C,m,d,g,c,j,n,o,(by rw[b];rfl),f,F,i,l,λp r1 D r=>?_⟩))))⟩));obtain rfl:=qfg (λx e=>qdk (e ▸ l) i.d0) r t;exact k p D
theorem qm5 (T:Txt K mg a):FnOk P w K mg base CX0 14 a.bA a.bN ["self"] (spLt a 1):=by
 refine T.gJ.fn.ok qbm (λvs H Q E h=>?_) (λcdv A outer s H vs Q E g h=>?_)
 .obtain⟨_,_,_,_,_,_,_,_,_,rfl,_⟩:=h
  all_goals rfl
 .obtain⟨x,B,S,rd,st,bs,rs,c,s,rfl,f,tok,ok,e,k⟩:=h;refine⟨_,(qf (qu (i:=1) qbm.nd Z (Au Z) (qbg (pv 0) T.k8 T.gY (qmj T) (g.mono Uk) T.gE.bd .nil qac))
   (qf (zb (qt qcb (pv 1) qat (qad _)) (qj (qo qat)) qaf)
   (qj (qo (zc (qhc T) (g.mono Uk) Z T.kZ.mgx T.kZ.fn.kp T.kZ.bd .nil qac (qd (qab (pv 0) Z) (qd (pv 1) (qd (qab (pv 0) Z) (qd (qab (pv 0) Z) qg qan) qan) qe) qan)))))),?_⟩
  obtain⟨dx,rl,cn,pr,l,pg,ur,j,rfl,R⟩:=id f;refine(nmc Z ⟨_,_,_,Z,R.hx,Z,x,B,_,rd,st,bs,rs,s,Z,f,e,λm b=>?_⟩);have R:=R.same b;cases s with|none=>exact(nmc Z ⟨Z,(nmc Z (qcn Z (k m none b Z)))⟩)|some d =>refine(nmc Z ⟨Z,(nmc Z (qbi (λz=>nomatch z) ?_))⟩);exact(nmc Z (flc (R.hx) (T.k8) (qp T.kD Uk) (rfl) (nmc Z (nmc Z (flc (R.hx) (T.k8) (qp T.kD Uk) (rfl) (nmc Z (flc (R.hx) (T.k8) (qp T.kD Uk) (rfl) ⟨cn,l,rd.unit,d,st.units,bs,rs,st.ps,Z,R.kd.same R.sm,tok,⟨j,R.hp,R.tp⟩,ok.ps,qdk e ok.d0,ok.u1,λH' r s lst=>k H' r (b.trans s) lst⟩)))))))
theorem qmk (T:Txt K mg a):FnOk P w K mg base CX0 15 a.bC a.bR ["self"] (spSt a 2):=by
 refine T.gE.fn.ok qdj (λvs H Q E h=>?_) (λcdv A outer s H vs Q E v h=>?_)
 .obtain⟨_,_,_,_,_,_,_,_,rfl,_⟩:=h
  all_goals rfl
 .obtain⟨x,B,S,rd,st,bs,rs,s,rfl,u,q,k⟩:=h;refine⟨_,(qj (qo (qck (qt qcb (qab (pv 0) Z) qat (qad _)) (qab (pv 0) Z) (qbg (qab (pv 0) Z) T.k8 T.bL (qm5 T) (v.mono Uk) T.gJ.bd .nil qac)))),?_⟩;obtain⟨dx,rl,cn,pr,pp,pg,ur,up,rfl,R⟩:=id u;rcases q with ⟨b,rfl⟩|⟨y,C,m,d,g,c,j,n,o,b,f,F,i,l,t⟩
  .exact(nmc Z (flc (R.hx) (T.k8) (qp T.kD Uk) (rfl) ⟨Z,(nmc Z (qcn b (nmc Z (flc (R.hx) (T.k8) (qp T.kD Uk) (rfl) (k H (Same.refl H))))))⟩))
  .obtain⟨dy,rly,cny,pry,ppy,pgy,ury,upy,eS,Y⟩:=id f;refine(nmc Z (flc (R.hx) (T.k8) (qp T.kD Uk) (rfl) ⟨Z,(nmc Z (qbi (by rw[b];exact λz=>nomatch z) (nmc Z (flc (R.hx) (T.k8) (qp T.kD Uk) (rfl) ⟨_,_,_,b,Y.hx,Z,y,C,m,d,g,c,j,n,o,(by rw[b];rfl),f,F,i,l,λp r1 D r=>?_⟩))))⟩));obtain rfl:=qfg (λx e=>qdk (e ▸ l) i.d0) r t;exact k p D
theorem qm6 (T:Txt K mg a):FnOk P w K mg base CX0 16 a.bA a.bN ["self"] (spLt a 2):=by
 refine T.gJ.fn.ok qbm (λvs H Q E h=>?_) (λcdv A outer s H vs Q E g h=>?_)
 .obtain⟨_,_,_,_,_,_,_,_,_,rfl,_⟩:=h
  all_goals rfl
 .obtain⟨x,B,S,rd,st,bs,rs,c,s,rfl,f,tok,ok,e,k⟩:=h;refine⟨_,(qf (qu (i:=1) qbm.nd Z (Au Z) (qbg (pv 0) T.k8 T.gY (qmk T) (g.mono Uk) T.gE.bd .nil qac))
   (qf (zb (qt qcb (pv 1) qat (qad _)) (qj (qo qat)) qaf)
   (qj (qo (zc (qhc T) (g.mono Uk) Z T.kZ.mgx T.kZ.fn.kp T.kZ.bd .nil qac (qd (qab (pv 0) Z) (qd (pv 1) (qd (qab (pv 0) Z) (qd (qab (pv 0) Z) qg qan) qan) qe) qan)))))),?_⟩
  obtain⟨dx,rl,cn,pr,l,pg,ur,j,rfl,R⟩:=id f;refine(nmc Z ⟨_,_,_,Z,R.hx,Z,x,B,_,rd,st,bs,rs,s,Z,f,e,λm b=>?_⟩);have R:=R.same b;cases s with|none=>exact(nmc Z ⟨Z,(nmc Z (qcn Z (k m none b Z)))⟩)|some d =>refine(nmc Z ⟨Z,(nmc Z (qbi (λz=>nomatch z) ?_))⟩);exact(nmc Z (flc (R.hx) (T.k8) (qp T.kD Uk) (rfl) (nmc Z (nmc Z (flc (R.hx) (T.k8) (qp T.kD Uk) (rfl) (nmc Z (flc (R.hx) (T.k8) (qp T.kD Uk) (rfl) ⟨cn,l,rd.unit,d,st.units,bs,rs,st.ps,Z,R.kd.same R.sm,tok,⟨j,R.hp,R.tp⟩,ok.ps,qdk e ok.d0,ok.u1,λH' r s lst=>k H' r (b.trans s) lst⟩)))))))
theorem qeo (T:Txt K mg a):FnOk P w K mg base CX0 17 a.bC a.bR ["self"] (spSt a 3):=by
 refine T.gE.fn.ok qdj (λvs H Q E h=>?_) (λcdv A outer s H vs Q E v h=>?_)
 .obtain⟨_,_,_,_,_,_,_,_,rfl,_⟩:=h
  all_goals rfl
 .obtain⟨x,B,S,rd,st,bs,rs,s,rfl,u,q,k⟩:=h;refine⟨_,(qj (qo (qck (qt qcb (qab (pv 0) Z) qat (qad _)) (qab (pv 0) Z) (qbg (qab (pv 0) Z) T.k8 T.bL (qm6 T) (v.mono Uk) T.gJ.bd .nil qac)))),?_⟩;obtain⟨dx,rl,cn,pr,pp,pg,ur,up,rfl,R⟩:=id u;rcases q with ⟨b,rfl⟩|⟨y,C,m,d,g,c,j,n,o,b,f,F,i,l,t⟩
  .exact(nmc Z (flc (R.hx) (T.k8) (qp T.kD Uk) (rfl) ⟨Z,(nmc Z (qcn b (nmc Z (flc (R.hx) (T.k8) (qp T.kD Uk) (rfl) (k H (Same.refl H))))))⟩))
  .obtain⟨dy,rly,cny,pry,ppy,pgy,ury,upy,eS,Y⟩:=id f;refine(nmc Z (flc (R.hx) (T.k8) (qp T.kD Uk) (rfl) ⟨Z,(nmc Z (qbi (by rw[b];exact λz=>nomatch z) (nmc Z (flc (R.hx) (T.k8) (qp T.kD Uk) (rfl) ⟨_,_,_,b,Y.hx,Z,y,C,m,d,g,c,j,n,o,(by rw[b];rfl),f,F,i,l,λp r1 D r=>?_⟩))))⟩));obtain rfl:=qfg (λx e=>qdk (e ▸ l) i.d0) r t;exact k p D
theorem qhj (T:Txt K mg a):FnOk P w K mg base CX0 18 a.bA a.bN ["self"] (spLt a 3):=by
 refine T.gJ.fn.ok qbm (λvs H Q E h=>?_) (λcdv A outer s H vs Q E g h=>?_)
 .obtain⟨_,_,_,_,_,_,_,_,_,rfl,_⟩:=h
  all_goals rfl
 .obtain⟨x,B,S,rd,st,bs,rs,c,s,rfl,f,tok,ok,e,k⟩:=h;refine⟨_,(qf (qu (i:=1) qbm.nd Z (Au Z) (qbg (pv 0) T.k8 T.gY (qeo T) (g.mono Uk) T.gE.bd .nil qac))
   (qf (zb (qt qcb (pv 1) qat (qad _)) (qj (qo qat)) qaf)
   (qj (qo (zc (qhc T) (g.mono Uk) Z T.kZ.mgx T.kZ.fn.kp T.kZ.bd .nil qac (qd (qab (pv 0) Z) (qd (pv 1) (qd (qab (pv 0) Z) (qd (qab (pv 0) Z) qg qan) qan) qe) qan)))))),?_⟩
  obtain⟨dx,rl,cn,pr,l,pg,ur,j,rfl,R⟩:=id f;refine(nmc Z ⟨_,_,_,Z,R.hx,Z,x,B,_,rd,st,bs,rs,s,Z,f,e,λm b=>?_⟩);have R:=R.same b;cases s with|none=>exact(nmc Z ⟨Z,(nmc Z (qcn Z (k m none b Z)))⟩)|some d =>refine(nmc Z ⟨Z,(nmc Z (qbi (λz=>nomatch z) ?_))⟩);exact(nmc Z (flc (R.hx) (T.k8) (qp T.kD Uk) (rfl) (nmc Z (nmc Z (flc (R.hx) (T.k8) (qp T.kD Uk) (rfl) (nmc Z (flc (R.hx) (T.k8) (qp T.kD Uk) (rfl) ⟨cn,l,rd.unit,d,st.units,bs,rs,st.ps,Z,R.kd.same R.sm,tok,⟨j,R.hp,R.tp⟩,ok.ps,qdk e ok.d0,ok.u1,λH' r s lst=>k H' r (b.trans s) lst⟩)))))))
theorem qkk (T:Txt K mg a):FnOk P w K mg base CX0 19 a.lR a.rS ["self","day"] (spUw a):=by
 refine T.r8.fn.ok qdr (λvs H Q E h=>?_) (λcdv A outer s H vs Q E n h=>?_)
 .obtain⟨_,_,_,_,_,_,_,_,_,_,_,rfl,_⟩:=h
  all_goals rfl
 .obtain⟨x,B,S,rd,st,bs,rs,c,d,s,r,rfl,j,tok,ok,g,lst,k⟩:=h;refine⟨_,(qf (qu (i:=2) qdr.nd Z (Au Z) (qbg (pv 0) T.k8 T.gY (qeo T) (n.mono Uk) T.gE.bd .nil qac))
   (qf (zb (PW.pt (qep (qt qcb (pv 2) qat (qad _)) (qd2 (qt qga (pv 1) (pv 2) (qad _))))) (qj (qo qcg)) qaf)
   (qf (qu (i:=3) qdr.nd Z (Au Z) (qbg (pv 0) T.k8 T.bL (qhj T) (n.mono Uk) T.gJ.bd .nil qac))
   (qj (qo (pe_or (qdw qcb (pv 3) qat (qad _)) (qf7 (qdw qga (pv 1) (pv 3) (qad _))))))))),?_⟩
  obtain⟨dx,rl,cn,pr,pp,pg,ur,up,rfl,R⟩:=id j;have v:∀z,s=some z->0<=z:=λz e=>qdk (e ▸ g) ok.d0;refine(nmc Z ⟨_,_,_,Z,R.hx,Z,x,B,_,rd,st,bs,rs,s,Z,j,g,λo b=>?_⟩);have R:=R.same b;cases s with
  |none=>exact(nmc Z ⟨Z,(nmc Z (qcn Z (qd6 (k o b))))⟩)
  |some z =>
   refine(nmc Z ⟨Z,(nmc Z (qbi (λz=>nomatch z) (nmc Z (nmc Z (iic Z Z (nmc Z (qbx (λf=>?_) (λf=>?_))))))))⟩)
   .have f:=of_decide_eq_true f;have e:under (some z) r d=false:=by unfold under;simp only;rw[decide_eq_false (by lia)];rfl
    rw[e]at k;exact k o b
   .have f:¬d<=z:=λq=>f (decide_eq_true q);refine(nmc Z ⟨_,_,_,Z,R.hx,Z,x,B,_,rd,st,bs,rs,c,_,Z,j.same b,tok,ok,g.same b,λp u t m=>?_⟩);obtain rfl:=qfg v m lst;have k:=k p (b.trans t);cases u with
    |none =>
     have e:under (some z) none d=true:=by unfold under;simp only;rw[decide_eq_true (by lia)];rfl
     rw[e]at k;exact(nmc Z ⟨Z,(nmc Z (qcn Z k))⟩)
    |some l =>
     have e:under (some z) (some l) d=decide (d<=l):=by unfold under;simp only;rw[decide_eq_true (by lia)];rfl
     rw[e]at k;exact(nmc Z ⟨Z,(nmc Z (qbi (λz=>nomatch z) (nmc Z (nmc Z (iic Z Z k)))))⟩)
theorem qkb (T:Txt K mg a):FnOk P w K mg base CX0 1 a.fN a.nE ["self","day","base"] (spSetO a):=by
 refine T.lZ.fn.ok qqa (λvs H Q E h=>?_) (λcdv A outer s H vs Q E hr h=>?_)
 .obtain⟨_,_,_,_,_,_,_,_,_,_,rfl,_⟩:=h
  all_goals rfl
 .obtain⟨x,i,b,cn,c,ov,f,fs,d,rd,rfl,hx,ae,af,v,k⟩:=h;refine⟨_,(qf (qay (pv 0) (pv 1) Z)
   (qf (qay (pv 0) (pv 2) Z)
   (qf (qay (pv 0) (qab (qab (pv 0) Z) Z) Z)
   (qf (qay (pv 0) (zh qg) Z)
   (qj (qay (pv 0) qdl Z)))))),?_⟩
  obtain⟨dxr,pe,pa,pl,vn,vw,vp,vb,vs',py,us,ad,_⟩:=af;rcases ae with rfl|⟨dy,N,un,n,l,rfl⟩
  .have b0:SameBut x H H:=λ_ _ _ e=>e;have x0:H x=some (.ins a.kA i (rn4 (.ref b) cn c ov)):=hx;have g0:=ad;refine(nmc Z (nmc Z ⟨_,_,_,_,Z,x0,T.k8,qp T.kD Uk,(show 4<1000 by decide),?_⟩));rw[show qbf (Aa "day") (.int d) (rn4 (.ref b) cn c ov)=(rn5 (.ref b) cn c ov (.int d)) by with_unfolding_all rfl];have X:SameBut x H (upd H x (.ins a.kA i (rn5 (.ref b) cn c ov (.int d)))):=b0.set;have x1:=qk (H:=H) (a:=x) (o:=.ins a.kA i (rn5 (.ref b) cn c ov (.int d)));have U:=(qr (o:=.ins a.kA i (rn5 (.ref b) cn c ov (.int d))) v).trans g0;generalize upd H x _=H1 at X x1 U |-;refine(nmc Z (nmc Z ⟨_,_,_,_,Z,x1,T.k8,qp T.kD Uk,(show 5<1000 by decide),?_⟩));rw[show qbf (Aa "base") (f) (rn5 (.ref b) cn c ov (.int d))=(rn6 (.ref b) cn c ov (.int d) f) by with_unfolding_all rfl];have W:SameBut x H (upd H1 x (.ins a.kA i (rn6 (.ref b) cn c ov (.int d) f))):=X.set;have G:=qk (H:=H1) (a:=x) (o:=.ins a.kA i (rn6 (.ref b) cn c ov (.int d) f));have M:=(qr (o:=.ins a.kA i (rn6 (.ref b) cn c ov (.int d) f)) v).trans U;generalize upd H1 x _=H2 at W G M |-;refine(nmc Z (flc (G) (T.k8) (qp T.kD Uk) (rfl) (flc (M) (T.kG) (qp T.kH Uk) (rfl) (nmc Z ⟨_,_,_,_,Z,G,T.k8,qp T.kD Uk,(show 6<1000 by decide),?_⟩))));rw[show qbf (Aa "units") (.int rd.many) (rn6 (.ref b) cn c ov (.int d) f)=(rn7 (.ref b) cn c ov (.int d) f (.int rd.many)) by with_unfolding_all rfl];have O:SameBut x H (upd H2 x (.ins a.kA i (rn7 (.ref b) cn c ov (.int d) f (.int rd.many)))):=W.set;have L:=qk (H:=H2) (a:=x) (o:=.ins a.kA i (rn7 (.ref b) cn c ov (.int d) f (.int rd.many)));have g3:=(qr (o:=.ins a.kA i (rn7 (.ref b) cn c ov (.int d) f (.int rd.many))) v).trans M;generalize upd H2 x _=H3 at O L g3 |-;refine⟨qdy,λj t=>?_⟩;obtain⟨J,g⟩:=alc (o:=.lst []) t;have C:=J _ _ L;have q:j≠x:=λz=>by rw[z,L]at t;cases t
   have V:H j=none:=O.free q t;have B:=O.trans (SameBut.of J);generalize upd H3 j _=J3 at J g C B  |-;refine(nmc Z ⟨_,_,_,_,Z,C,T.k8,qp T.kD Uk,(show 7<1000 by decide),?_⟩);rw[show qbf (Aa "pauses") (.ref j) (rn7 (.ref b) cn c ov (.int d) f (.int rd.many))=(rn8 (.ref b) cn c ov (.int d) f (.int rd.many) (.ref j)) by with_unfolding_all rfl];have R:SameBut x H (upd J3 x (.ins a.kA i (rn8 (.ref b) cn c ov (.int d) f (.int rd.many) (.ref j)))):=B.set;have I:=qk (H:=J3) (a:=x) (o:=.ins a.kA i (rn8 (.ref b) cn c ov (.int d) f (.int rd.many) (.ref j)));have g:=(qr (o:=.ins a.kA i (rn8 (.ref b) cn c ov (.int d) f (.int rd.many) (.ref j))) q).trans g;generalize upd J3 x _=H4 at R I g |-;refine λm r=>?_;obtain⟨y,p⟩:=alc (o:=.dK []) r;have D:=y _ _ I;have u:m≠x:=λz=>by rw[z,I]at r;cases r
   have Y:H m=none:=R.free u r;have F:=R.trans (SameBut.of y);have g:=y _ _ g;generalize upd H4 m _=J4 at y p D F g |-;refine(nmc Z ⟨_,_,_,_,Z,D,T.k8,qp T.kD Uk,(show 8<1000 by decide),?_⟩);rw[show qbf (Aa "grants") (.ref m) (rn8 (.ref b) cn c ov (.int d) f (.int rd.many) (.ref j))=(rn9 (.ref b) cn c ov (.int d) f (.int rd.many) (.ref j) (.ref m)) by with_unfolding_all rfl];have b5:SameBut x H (upd J4 x (.ins a.kA i (rn9 (.ref b) cn c ov (.int d) f (.int rd.many) (.ref j) (.ref m)))):=F.set;have S:=qk (H:=J4) (a:=x) (o:=.ins a.kA i (rn9 (.ref b) cn c ov (.int d) f (.int rd.many) (.ref j) (.ref m)));have g:=(qr (o:=.ins a.kA i (rn9 (.ref b) cn c ov (.int d) f (.int rd.many) (.ref j) (.ref m))) q).trans g;have p:=(qr (o:=.ins a.kA i (rn9 (.ref b) cn c ov (.int d) f (.int rd.many) (.ref j) (.ref m))) u).trans p;generalize upd J4 x _=H5 at b5 S g p |-;exact k H5 j m b5 V Y S g p
  .have b0:SameBut x H H:=λ_ _ _ e=>e;have x0:H x=some (.ins a.kA i (rn9 (.ref b) cn c ov dy N un n l)):=hx;have g0:=ad;refine(nmc Z (nmc Z ⟨_,_,_,_,Z,x0,T.k8,qp T.kD Uk,(show 9<1000 by decide),?_⟩));rw[show qbf (Aa "day") (.int d) (rn9 (.ref b) cn c ov dy N un n l)=(rn9 (.ref b) cn c ov (.int d) N un n l) by with_unfolding_all rfl];have X:SameBut x H (upd H x (.ins a.kA i (rn9 (.ref b) cn c ov (.int d) N un n l))):=b0.set;have x1:=qk (H:=H) (a:=x) (o:=.ins a.kA i (rn9 (.ref b) cn c ov (.int d) N un n l));have U:=(qr (o:=.ins a.kA i (rn9 (.ref b) cn c ov (.int d) N un n l)) v).trans g0;generalize upd H x _=H1 at X x1 U |-;refine(nmc Z (nmc Z ⟨_,_,_,_,Z,x1,T.k8,qp T.kD Uk,(show 9<1000 by decide),?_⟩));rw[show qbf (Aa "base") (f) (rn9 (.ref b) cn c ov (.int d) N un n l)=(rn9 (.ref b) cn c ov (.int d) f un n l) by with_unfolding_all rfl];have W:SameBut x H (upd H1 x (.ins a.kA i (rn9 (.ref b) cn c ov (.int d) f un n l))):=X.set;have G:=qk (H:=H1) (a:=x) (o:=.ins a.kA i (rn9 (.ref b) cn c ov (.int d) f un n l));have M:=(qr (o:=.ins a.kA i (rn9 (.ref b) cn c ov (.int d) f un n l)) v).trans U;generalize upd H1 x _=H2 at W G M |-;refine(nmc Z (flc (G) (T.k8) (qp T.kD Uk) (rfl) (flc (M) (T.kG) (qp T.kH Uk) (rfl) (nmc Z ⟨_,_,_,_,Z,G,T.k8,qp T.kD Uk,(show 9<1000 by decide),?_⟩))));rw[show qbf (Aa "units") (.int rd.many) (rn9 (.ref b) cn c ov (.int d) f un n l)=(rn9 (.ref b) cn c ov (.int d) f (.int rd.many) n l) by with_unfolding_all rfl];have O:SameBut x H (upd H2 x (.ins a.kA i (rn9 (.ref b) cn c ov (.int d) f (.int rd.many) n l))):=W.set;have L:=qk (H:=H2) (a:=x) (o:=.ins a.kA i (rn9 (.ref b) cn c ov (.int d) f (.int rd.many) n l));have g3:=(qr (o:=.ins a.kA i (rn9 (.ref b) cn c ov (.int d) f (.int rd.many) n l)) v).trans M;generalize upd H2 x _=H3 at O L g3 |-;refine⟨qdy,λj t=>?_⟩;obtain⟨J,g⟩:=alc (o:=.lst []) t;have C:=J _ _ L;have q:j≠x:=λz=>by rw[z,L]at t;cases t
   have V:H j=none:=O.free q t;have B:=O.trans (SameBut.of J);generalize upd H3 j _=J3 at J g C B  |-;refine(nmc Z ⟨_,_,_,_,Z,C,T.k8,qp T.kD Uk,(show 9<1000 by decide),?_⟩);rw[show qbf (Aa "pauses") (.ref j) (rn9 (.ref b) cn c ov (.int d) f (.int rd.many) n l)=(rn9 (.ref b) cn c ov (.int d) f (.int rd.many) (.ref j) l) by with_unfolding_all rfl];have R:SameBut x H (upd J3 x (.ins a.kA i (rn9 (.ref b) cn c ov (.int d) f (.int rd.many) (.ref j) l))):=B.set;have I:=qk (H:=J3) (a:=x) (o:=.ins a.kA i (rn9 (.ref b) cn c ov (.int d) f (.int rd.many) (.ref j) l));have g:=(qr (o:=.ins a.kA i (rn9 (.ref b) cn c ov (.int d) f (.int rd.many) (.ref j) l)) q).trans g;generalize upd J3 x _=H4 at R I g |-;refine λm r=>?_;obtain⟨y,p⟩:=alc (o:=.dK []) r;have D:=y _ _ I;have u:m≠x:=λz=>by rw[z,I]at r;cases r
   have Y:H m=none:=R.free u r;have F:=R.trans (SameBut.of y);have g:=y _ _ g;generalize upd H4 m _=J4 at y p D F g |-;refine(nmc Z ⟨_,_,_,_,Z,D,T.k8,qp T.kD Uk,(show 9<1000 by decide),?_⟩);rw[show qbf (Aa "grants") (.ref m) (rn9 (.ref b) cn c ov (.int d) f (.int rd.many) (.ref j) l)=(rn9 (.ref b) cn c ov (.int d) f (.int rd.many) (.ref j) (.ref m)) by with_unfolding_all rfl];have b5:SameBut x H (upd J4 x (.ins a.kA i (rn9 (.ref b) cn c ov (.int d) f (.int rd.many) (.ref j) (.ref m)))):=F.set;have S:=qk (H:=J4) (a:=x) (o:=.ins a.kA i (rn9 (.ref b) cn c ov (.int d) f (.int rd.many) (.ref j) (.ref m)));have g:=(qr (o:=.ins a.kA i (rn9 (.ref b) cn c ov (.int d) f (.int rd.many) (.ref j) (.ref m))) q).trans g;have p:=(qr (o:=.ins a.kA i (rn9 (.ref b) cn c ov (.int d) f (.int rd.many) (.ref j) (.ref m))) u).trans p;generalize upd J4 x _=H5 at b5 S g p |-;exact k H5 j m b5 V Y S g p
theorem qml (T:Txt K mg a):FnOk P w K mg base CX0 2 a.lD a.tH ["self","day"] (spAn a):=by
 refine T.rF.fn.ok qlv (λvs H Q E h=>?_) (λcdv A outer s H vs Q E hr h=>?_)
 .obtain⟨_,_,_,_,_,_,_,_,rfl,_⟩:=h
  all_goals rfl
 .obtain⟨x,B,S,rd,st,bs,rs,d,rfl,F,k⟩:=h;refine⟨_,(qf (qz (qal (pv 0) T.k8 T.mJ (qkb T) (hr.mono Uk) T.lZ.bd .nil qac (qd (pv 1) (qd qat qg ql) qe)))
   (qj (qo qcg))),?_⟩
  obtain⟨t,rl,cn,j,pp,pg,G,up,rfl,R⟩:=id F;have u:rl≠x:=λz=>by obtain⟨dxr,pe,pa,pl,vn,vw,vp,vb,vs',py,us,i,_⟩:=R.rl;rw[z,R.bx]at i;cases i
  refine(nmc Z ⟨_,_,_,Z,R.hx,Z,(nmc Z ⟨x,t,rl,.ref cn,.ref j,.bl st.over,.non,_,d,rd,Z,R.hx,.inr ⟨_,_,_,_,_,Z⟩,R.rl.same R.sm,u,λC g p l f m D y v=>?_⟩)⟩);have q:=By (qit R.hx R.hr);have r:j≠g:=λz=>by rw[<- z,R.hr]at f;cases f
  have I:Same B C:=λb o e=>l b o (qae e R.bx) (R.sm b o e);refine k C [x,j,g,p] (λb o n e=>l b o (λz=>n (by rw[z];simp)) e) (λb c=>?_) ⟨t,rl,cn,j,g,p,G,[],Z,r,D,l _ _ q R.hr,qip l R.hx R.tr,y,.nil,v,R.rl,R.kd,I,R.bx,R.br,R.sm.free f,R.sm.free m⟩;rcases Av.mp c with z|c
  .exact .inl (by rw[z];simp)
  .rcases Av.mp c with z|c
   .exact .inl (by rw[z];simp)
   .rcases Av.mp c with z|c
    .exact .inr (by rw[z];exact f)
    .exact .inr (by rw[Ai.mp c];exact m)
theorem qm7 (T:Txt K mg a):FnOk P w K mg base CX0 1 a.lB a.nN ["self","kind"] (spLe a):=by
 refine T.sT.fn.ok qcm (λvs H Q E h=>?_) (λcdv A outer s H vs Q E O h=>?_)
 .obtain⟨_,_,_,_,_,_,_,_,_,rfl,_⟩:=h
  all_goals rfl
 .obtain⟨x,B,S,rd,st,bs,rs,c,d,rfl,Y,ok,kn,k⟩:=h;refine⟨_,(qf (qu (i:=2) qcm.nd Z (Au Z) (qwd (qci O) (qab (pv 0) Z) (pv 1) qi ⟨Z,Z,Z,Z⟩))
   (qf (qa3 A8 Z (qa0 (qab (qab (pv 0) Z) Z)) (qe0 Z (qar (qag (i:=3) qcm.nd Z (Au Z)) (qar (qag (i:=4) qcm.nd Z (Au Z)) (qar (qag (i:=5) qcm.nd Z (Au Z)) qde)))) (qj (zb (PW.pt (qc5 (qt qch (pv 3) (pv 1) (qad _)) (qco (qt qc3 (pv 2) (pv 5) (qad _))))) (qf (qes (qci O) (qab (pv 0) Z) (pv 1) (qv qah (pv 2) qi) Z)
   (qf (qug (pv 0) (pv 4) in_add)
   (qj (qo qcg)))) qaf)))
   (qj (qo qcg)))),?_⟩
  obtain⟨W,rl,cn,y,u,f,U,X,rfl,R⟩:=id Y;obtain⟨dxr,pe,pa,pl,vn,vw,vp,vb,vs',py,us,h1,h2,h3,h4,L,M⟩:=R.rl.same R.sm;refine⟨_,Z,_,_,_,_,_,Z,R.hx,T.k8,qp T.kD Uk,Z,f,Z,.inl ⟨_,.inl R.hg⟩,_,Z,_,DGet.k (k:=.inr d) R.hg,?_⟩;rw[gv_get ok.gi d];refine⟨_,Z,_,_,_,_,_,Z,R.hx,T.k8,qp T.kD Uk,Z,_,_,_,_,_,Z,h1,T.kG,qp T.kH Uk,Z,_,Z,⟨_,SqL.of L⟩,qa5 (K:=K) (a:=pl) (xs:=us) (λi σ H'=>H'=H/\(∃D G F:Option V,σ=[some (.ref x),some (.str d),some (.int (gv st.gr d)),D,G,F])/\((rd.longer.take i).find? λt=>decide (t.1=d) && decide (gv st.gr d<t.2.2))=none) ⟨Z,⟨none,none,none,Z⟩,Z⟩ (λi σ H' _ h=>SqL.of (h.1 ▸ L)) ?_ ?_⟩
  .rintro i v σ H' hx ⟨rfl,⟨D,G,F,rfl⟩,l⟩;obtain⟨b,t,rfl,m,g2⟩:=M.get' hx;rw[Ag]at m;cases p:rd.longer[i]? with
   |none=>rw[p]at m;cases m
   |some z =>
    rw[p]at m;cases m;obtain⟨I,r,N⟩:=z;refine⟨_,_,Z,SqT.of g2,Z,_,_,Z,_,_,Z,_,_,Z,Z,?_⟩;refine⟨_,Z,_,Z,Z,_,Z,qbx (λj=>?_) (λj=>qbs ?_)⟩
    .have j:=V.str.inj (of_decide_eq_true j);refine⟨_,Z,_,Z,_,_,Z,Z,_,Z,qbx (λg=>?_) (λg=>?_)⟩
     .have g:=of_decide_eq_true g;have ef:=find_at l p (by simp only;rw[decide_eq_true j,decide_eq_true g];rfl);have lg:=ok.gl;have lr:=ok.rl;refine⟨_,Z,_,_,Z,Z,_,Z,_,_,_,_,_,Z,R.hx,T.k8,qp T.kD Uk,Z,_,Z,f,_,Z,DPut.k (k:=.inr d) R.hg (by rw[Bq];lia),?_⟩;dsimp only[];have C:=R.setG (gr':=qc2 st.gr (.inr d) (.int (gv st.gr d+1)));have J:KeepS [x,y,u,f] H' (upd H' f (.dK (qc2 st.gr (.inr d) (.int (gv st.gr d+1))))):=qej (by simp);generalize upd H' f _=H1 at C J |-;refine⟨_,Z,_,_,_,_,_,Z,C.hx,T.k8,qp T.kD Uk,Z,_,Z,_,_,Z,Z,_,_,C.hx,(show 9<1000 by decide),?_⟩;rw[show qbf (Aa "units") (V.int (st.units+r)) (rnF (.ref rl) (.ref cn) (.ref y) (.bl st.over) (.int st.day) st.bv (.int st.units) (.ref u) (.ref f))=rnF (.ref rl) (.ref cn) (.ref y) (.bl st.over) (.int st.day) st.bv (.int (st.units+r)) (.ref u) (.ref f) by with_unfolding_all rfl];exact k _ (I,r,N) (λb o n e=>qej (by simp) b o n (J b o n e)) ef ⟨W,rl,cn,y,u,f,U,X,Z,C.setF (o':=st.over) (u':=st.units+r)⟩
     .have g:¬gv st.gr d<N:=λq=>g (decide_eq_true q);exact⟨Z,⟨_,_,_,Z⟩,qts l p (by simp only;rw[decide_eq_false g,Ck])⟩
    .have j:¬I=d:=λq=>j (decide_eq_true (congrArg V.str q));exact⟨Z,⟨_,_,_,Z⟩,qts l p (by simp only;rw[decide_eq_false j,CI])⟩
  .rintro σ H' ⟨rfl,⟨D,G,F,rfl⟩,l⟩;have lu:us.length=rd.longer.length:=by rw[M.length,Ab]
   rw[lu,Bw]at l;exact kn l
theorem qvo (T:Txt K mg a):FnOk P w K mg base CX0 2 a.lQ a.xF ["self","day"] (spHa a):=by
 refine T.mD.fn.ok qva (λvs H Q E h=>?_) (λcdv A outer s H vs Q E v h=>?_)
 .obtain⟨_,_,_,_,_,_,_,_,_,rfl,_⟩:=h
  all_goals rfl
 .obtain⟨x,B,S,rd,st,bs,rs,c,d,rfl,i,ok,y,k⟩:=h;refine⟨_,(qf (zb (zf (qbg (pv 0) T.k8 T.pP (qhi T) (v.mono Uk) T.fZ.bd .nil qac)) (qj (qo qcg)) qaf)
   (qf (qz (qbr Ax A3 A4 qam (qab (pv 0) Z) (qd (zj (qd (pv 1) (qd qat qg ql) qe)) qg zo)))
   (qj (qo qcg)))),?_⟩
  obtain⟨t,rl,cn,q,z,m,u,l,rfl,R⟩:=id i;refine(nmc Z ⟨_,_,_,Z,R.hx,Z,x,B,_,rd,st,bs,rs,Z,i,(nmc Z ?_)⟩);cases j:qa2 st.ps with
  |true=>exact qd6 (y j)
  |false =>
   refine qbs (nmc Z (flc (R.hx) (T.k8) (qp T.kD Uk) (rfl) ⟨.inl ⟨Z,_,SqL.of R.hp⟩,(nmc Z ⟨qqd _ _,λr g=>?_⟩)⟩));obtain⟨f,p⟩:=alc (o:=.tup (qki (d,none))) g;have ll:=ok.pl;have lr:=ok.rl;have lv:l.length=st.ps.length:=by rw[R.tp.length,Ab]
   refine⟨_,_,_,Z,Z,f _ _ R.hp,qbe (by lia),?_⟩;have R2:=(R.same f).setP (up':=l++[.ref r]) (ps':=st.ps++[(d,none)]) (by rw[Ar];exact(R.tp.same f).snoc p);exact k _ (λb o n e=>qej (by simp) b o n (f _ _ e)) j ⟨t,rl,cn,q,z,m,u,_,Z,R2⟩
theorem qst (T:Txt K mg a):FnOk P w K mg base CX0 20 a.fJ a.tQ ["self","word","day","kind"] (spWk a):=by
 refine T.pJ.fn.ok qr5 (λvs H Q E h=>?_) (λcdv A outer s H vs Q E C h=>?_)
 .obtain⟨_,_,_,_,_,_,_,_,_,_,_,_,_,rfl,_⟩:=h
  all_goals rfl
 .obtain⟨x,B,S,rd,st,bs,rs,c,d,G,W,s,r,rfl,F,tok,ok,N,lst,k⟩:=h;refine⟨_,(qf (zb (qt qch (pv 1) zg (qad _)) (qj (qo (qal (pv 0) T.k8 T.z9 (qra T) (C.mono Uk) T.tN.bd .nil qac (qd (pv 2) qg qe)))) qaf)
   (qf (zb (qd3 (zf (qal (pv 0) T.k8 T.zL (qkk T) (C.mono Uk) T.r8.bd .nil qac (qd (pv 2) qg qe)))) (qj (qo qcg)) qaf)
   (qf (zb (qt qch (pv 1) zg (qad _)) (qj (qo (qal (pv 0) T.k8 T.yY (qml T) (C.mono Uk) T.rF.bd .nil qac (qd (pv 2) qg qe)))) qaf)
   (qf (zb (qt qch (pv 1) zg (qad _)) (qj (qo (qal (pv 0) T.k8 T.y9 (qm7 T) (C.mono Uk) T.sT.bd .nil qac (qd (pv 3) qg qe)))) qaf)
   (qj (qo (qck (qt qch (pv 1) zg (qad _)) (qal (pv 0) T.k8 T.zY (qvo T) (C.mono Uk) T.mD.bd .nil qac (qd (pv 2) qg qe)) (qal (pv 0) T.k8 T.nT (qn5 T) (C.mono Uk) T.lV.bd .nil qac (qd (pv 2) qg qe))))))))),?_⟩
  obtain⟨dx,rl,cn,M,pp,L,ur,up,rfl,R⟩:=id F;refine(nmc Z ⟨Z,(nmc Z (qbx (λf=>?_) (λf=>?_)))⟩)
  .have f:=V.str.inj (of_decide_eq_true f);exact(nmc Z ⟨_,_,_,Z,R.hx,Z,(nmc Z ⟨x,B,_,rd,st,bs,rs,c,d,Z,F,ok,λD X R1=>(k D _ X Fresh.refl).2 _ (by unfold qbk;rw[if_pos f]) R1⟩)⟩)
  .have f:¬G=Aa "ends" := λq=>f (decide_eq_true (congrArg V.str q));refine(nmc Z ⟨_,_,_,Z,R.hx,Z,(nmc Z ⟨x,B,_,rd,st,bs,rs,c,d,s,r,Z,F,tok,ok,N,lst,λD m=>?_⟩)⟩);have i:=F.same m;have R:=R.same m;cases J:under s r d with
   |false=>exact(nmc Z (qd6 ((k D _ (KeepS.of m) Fresh.refl).1 (by unfold qbk;rw[if_neg f,if_pos J]) i)))
   |true =>
    have l:¬under s r d=false:=λz=>by rw[J]at z;cases z
    refine(nmc Z (qbs (nmc Z ⟨Z,(nmc Z (qbx (λg=>?_) (λg=>?_)))⟩)))
    .have g:=V.str.inj (of_decide_eq_true g);exact(nmc Z ⟨_,_,_,Z,R.hx,Z,(nmc Z ⟨x,B,_,rd,st,bs,rs,d,Z,i,λp S2 v Y R2=>(k p S2 (λb o n e=>v b o n (m _ _ e)) (λb O=>(Y b O).imp id λz=>m.free z)).2 _ (by unfold qbk;rw[if_neg f,if_neg l,if_pos g]) R2⟩)⟩)
    .have g:¬G=Aa "anew" := λq=>g (decide_eq_true (congrArg V.str q));refine(nmc Z ⟨Z,(nmc Z (qbx (λj=>?_) (λj=>?_)))⟩)
     .have j:=V.str.inj (of_decide_eq_true j);refine(nmc Z ⟨_,_,_,Z,R.hx,Z,(nmc Z ⟨x,B,_,rd,st,bs,rs,c,W,Z,i,ok,λen=>?_,λp t v U R2=>?_⟩)⟩)
      .exact(k D _ (KeepS.of m) Fresh.refl).1 (by unfold qbk;rw[if_neg f,if_neg l,if_neg g,if_pos j,en]) i
      .exact(k p _ (λb o n e=>v b o n (m _ _ e)) Fresh.refl).2 _ (by unfold qbk;rw[if_neg f,if_neg l,if_neg g,if_pos j,U]) R2
     .have j:¬G=Aa "longer" := λq=>j (decide_eq_true (congrArg V.str q));refine(nmc Z ⟨Z,(nmc Z (qbx (λu=>?_) (λu=>?_)))⟩)
      .have u:=V.str.inj (of_decide_eq_true u);refine(nmc Z ⟨_,_,_,Z,R.hx,Z,(nmc Z ⟨x,B,_,rd,st,bs,rs,c,d,Z,i,ok,λy=>?_,λp v y R2=>?_⟩)⟩)
       .exact(k D _ (KeepS.of m) Fresh.refl).1 (by unfold qbk;rw[if_neg f,if_neg l,if_neg g,if_neg j,if_pos u,if_pos y]) i
       .exact(k p _ (λb o n e=>v b o n (m _ _ e)) Fresh.refl).2 _ (by unfold qbk;rw[if_neg f,if_neg l,if_neg g,if_neg j,if_pos u,y,if_neg Uk]) R2
      .have u:¬G=Aa "still" := λq=>u (decide_eq_true (congrArg V.str q));refine(nmc Z ⟨_,_,_,Z,R.hx,Z,(nmc Z ⟨x,B,_,rd,st,bs,rs,c,d,Z,i,ok,λp v R2=>?_⟩)⟩);have I:KeepS [x,M,pp,L] H p:=λb o n e=>v b o n (m _ _ e);cases y:qa2 st.ps with|true=>exact(k p _ I Fresh.refl).2 _ (by unfold qbk;rw[if_neg f,if_neg l,if_neg g,if_neg j,if_neg u,if_pos y]) R2|false =>rw[qiu y]at R2;exact(k p _ I Fresh.refl).1 (by unfold qbk;rw[if_neg f,if_neg l,if_neg g,if_neg j,if_neg u,y,if_neg Uk]) R2
theorem qvp (T:Txt K mg a):FnOk P w K mg base CX0 21 a.fO a.rV ["self","name","day","kind"] (spFe a):=by
 refine T.pC.fn.ok qnx (λvs H Q E h=>?_) (λcdv A outer s H vs Q E hr h=>?_)
 .obtain⟨_,_,_,_,_,_,_,_,_,_,_,_,_,rfl,_⟩:=h
  all_goals rfl
 .obtain⟨x,B,S,rd,st,bs,rs,c,d,n,g,s,r,rfl,hR,tok,ad,ok,hB,lst,k⟩:=h;refine⟨_,(qf (qu (i:=4) qnx.nd Z (Au Z) (qal (qab (pv 0) Z) T.kG T.xZ (qss T) (hr.mono Uk) T.nD.bd .nil qac (qd (pv 3) qg qe)))
   (qf (zb (PW.pt (qep (qt qch (pv 4) zg (qad _)) (qep (zf (qab (pv 0) Z)) (qd2 (qd3 (zf (qal (pv 0) T.k8 T.yG (qst T) (hr.mono Uk) T.pJ.bd .nil qac (qd (pv 4) (qd (pv 2) (qd (pv 3) qg qe) qe) qe)))))))) (qj (qo qcg)) qaf)
   (qf (qz (qbr Ax A3 A4 qam (qab (pv 0) Z) (qd (zj (qd (pv 1) (qd (pv 2) (qd (pv 4) qg qe) qe) qe)) qg zo)))
   (qj (qo qcg))))),?_⟩
  obtain⟨dx,rl,cn,I,G,C,ur,up,rfl,R⟩:=id hR;have l:=R.rl.same R.sm;obtain⟨dxr,pe,pa,pl,vn,vw,vp,vb,vs',py,us,h1,_⟩:=id l;refine(nmc Z (flc (R.hx) (T.k8) (qp T.kD Uk) (rfl) ⟨_,_,_,Z,h1,Z,(nmc Z ⟨rl,g,rd,Z,l,ad,λH1 f=>?_⟩)⟩));have y:=hR.same f;have R1:=R.same f;have O:∀H' D,KeepS [x,I,G,C] H H'->Fresh H [x,I,G,C] D->RunAt a B H' x D rd st bs rs->qcc rd st s r n d g=(st,false)->Q (.bl false) H':=λH' D K' F' R' e=>by have:=k H' D K' F';rw[e]at this;exact this R'
  refine(nmc Z ⟨Z,(nmc Z (qbx (λj=>qd6 ?_) (λj=>?_)))⟩)
  .have j:=V.str.inj (of_decide_eq_true j);exact O H1 _ (KeepS.of f) Fresh.refl y (by unfold qcc;rw[if_pos (.inl j)])
  .have j:¬qbj rd g=Aa "" := λq=>j (decide_eq_true (congrArg V.str q));refine(nmc Z (flc (R1.hx) (T.k8) (qp T.kD Uk) (rfl) (nmc Z (qbx (λN=>qd6 ?_) (λN=>?_)))))
   .exact O H1 _ (KeepS.of f) Fresh.refl y (by unfold qcc;rw[if_pos (.inr N)])
   .have M:¬(qbj rd g=Aa "" \/ st.over=true):=λz=>z.elim j N;refine(nmc Z ⟨_,_,_,Z,R1.hx,Z,(nmc Z (nmc Z (nmc Z ⟨x,B,_,rd,st,bs,rs,c,d,_,g,s,r,Z,y,tok,ok,hB.same f,lst,λH2 S2 K2 X=>⟨λen R2=>?_,λv es R2=>?_⟩⟩)))⟩)
    .exact(nmc Z (qd6 (O H2 S2 (λb o n e=>K2 b o n (f _ _ e)) (λb U=>(X b U).imp id λz=>f.free z) R2 (by unfold qcc;rw[if_neg M,en]))))
    .have k:=k;have ef:qcc rd st s r n d g=({v with rows:=v.rows++[(n,d,qbj rd g)]},true):=by unfold qcc;rw[if_neg M,es]
     rw[ef]at k;obtain⟨af,ae,ah,u,p,t,L,ag,rfl,m⟩:=R2;refine(nmc Z (qbs (nmc Z (flc (m.hx) (T.k8) (qp T.kD Uk) (rfl) ⟨.inl ⟨Z,_,SqL.of m.hr⟩,(nmc Z (nmc Z (nmc Z ⟨qjr _ _ _,λq3 Y=>?_⟩)))⟩))));obtain⟨F,e3⟩:=alc (o:=.tup (qsd (n,d,qbj rd g))) Y;have lr:v.rows.length<=400:=by rw[ql8 es];exact ok.rl
     have lv:L.length=v.rows.length:=by rw[m.tr.length,Ab]
     refine⟨_,_,_,Z,Z,F _ _ m.hr,qbe (by lia),?_⟩;have X3:=(m.same F).setR (ur':=L++[.ref q3]) (rows':=v.rows++[(n,d,qbj rd g)]) (by rw[Ar];exact(m.tr.same F).snoc e3);have J:Fresh H [x,I,G,C] [x,u,p,t]:=λb U=>(X b U).imp id λz=>f.free z;have W:KeepS [x,I,G,C] H H2:=λb o n e=>K2 b o n (f _ _ e);refine k _ [x,u,p,t] (W.trans J (λb o n e=>qej (by simp) b o n (F _ _ e))) J ⟨af,ae,ah,u,p,t,_,ag,Z,X3⟩
theorem qvq (T:Txt K mg a):FnOk P w K mg base CX0 4 a.hZ a.pA ["self","rule","table","name","day","base"] (qxx a):=by
 refine T.xS.fn.ok qvb (λvs H Q E h=>?_) (λcdv A outer s H vs Q E hr h=>?_)
 .obtain⟨_,_,_,_,_,_,_,_,_,_,_,rfl,_⟩:=h
  all_goals rfl
 .obtain⟨x,g,c,tb,n,d,rd,bs,rs,t,bb,rfl,hx,sb,r,C,ae,k⟩:=h;refine⟨_,(qf (qay (pv 0) (pv 1) Z)
   (qf (qay (pv 0) (zc (qys T) (hr.mono Uk) Z T.dL.mgx T.dL.fn.kp T.dL.bd .nil qac (qd (qab (pv 1) Z) (qd (pv 2) qg qe) qan)) Z)
   (qf (qay (pv 0) (zh (qd (zj (qd (pv 3) (qd (pv 4) (qd zg qg ql) qe) qe)) qg zo)) Z)
   (qf (qay (pv 0) qcg Z)
   (qj (qz (qal (pv 0) T.k8 T.mJ (qkb T) (hr.mono Uk) T.lZ.bd .nil qac (qd (pv 4) (qd (pv 5) qg qe) qe)))))))),?_⟩
  have ar:=C.same sb;have htb0:=ae.same sb;obtain⟨aw,pe,pa,pl,vn,vw,vp,vb,bh,py,us,q,_⟩:=id ar;have af:c≠x:=λz=>by obtain⟨aw,pe,pa,pl,vn,vw,vp,vb,bh,py,us,q,_⟩:=id C;rw[z,r]at q;cases q
  refine(nmc Z (nmc Z ⟨_,_,_,_,Z,hx,T.k8,qp T.kD Uk,(show 0<1000 by decide),?_⟩));rw[show qbf (Aa "rule") (.ref c) []=(rn1 (.ref c)) by with_unfolding_all rfl];have z1:Same t (upd H x (.ins a.kA g (rn1 (.ref c)))):=qai sb r;have y1:SameBut x H (upd H x (.ins a.kA g (rn1 (.ref c)))):=SameBut.set (λ_ _ _ e=>e);have x1:=qk (H:=H) (a:=x) (o:=.ins a.kA g (rn1 (.ref c)));have g1:=(qr (o:=.ins a.kA g (rn1 (.ref c))) af).trans q;generalize upd H x _=H1 at z1 y1 x1 g1 |-;refine(nmc Z (flc (g1) (T.kG) (qp T.kH Uk) (rfl) (nmc Z ⟨rd.unit,tb,Z,λcn B W s2 v bc=>?_⟩)));have x2:=s2 _ _ x1;have z2:=z1.trans s2;have y2:=y1.trans (SameBut.of s2);have l:cn≠x:=λz=>by rw[z,x1]at v;cases v
  refine(nmc Z ⟨_,_,_,_,Z,x2,T.k8,qp T.kD Uk,(show 1<1000 by decide),?_⟩);rw[show qbf (Aa "counting") (.ref cn) (rn1 (.ref c))=(rn2 (.ref c) (.ref cn)) by with_unfolding_all rfl];have z3:Same t (upd W x (.ins a.kA g (rn2 (.ref c) (.ref cn)))):=qai z2 r;have y3:SameBut x H (upd W x (.ins a.kA g (rn2 (.ref c) (.ref cn)))):=y2.set;have x3:=qk (H:=W) (a:=x) (o:=.ins a.kA g (rn2 (.ref c) (.ref cn)));have G:=(qr (o:=.ins a.kA g (rn2 (.ref c) (.ref cn))) l).trans bc;generalize upd W x _=H3 at z3 y3 x3 G |-;refine(nmc Z (nmc Z ⟨qjr _ _ _,λq1 bi=>?_⟩));obtain⟨Y,F⟩:=alc (o:=.tup [V.str n,V.int d,V.str (Aa "begins")]) bi;generalize upd H3 q1 _=H4 at Y F |-;refine⟨fit1 _,λf O=>?_⟩;obtain⟨s5,e5⟩:=alc (o:=.lst [V.ref q1]) O;have bf:=(z3.trans Y).free O;generalize upd H4 f _=H5 at s5 e5 |-;have y:=Y.trans s5;have x5:=y _ _ x3;have ao:=y _ _ G;have F:=s5 _ _ F;have z5:=z3.trans y;have y5:=y3.trans (SameBut.of y);have p:f≠x:=By (qit x5 e5);have L:q1≠x:=λz=>by rw[z,x5]at F;cases F
  refine(nmc Z ⟨_,_,_,_,Z,x5,T.k8,qp T.kD Uk,(show 2<1000 by decide),?_⟩);rw[show qbf (Aa "rows") (.ref f) (rn2 (.ref c) (.ref cn))=(rn3 (.ref c) (.ref cn) (.ref f)) by with_unfolding_all rfl];have z6:Same t (upd H5 x (.ins a.kA g (rn3 (.ref c) (.ref cn) (.ref f)))):=qai z5 r;have y6:SameBut x H (upd H5 x (.ins a.kA g (rn3 (.ref c) (.ref cn) (.ref f)))):=y5.set;have x6:=qk (H:=H5) (a:=x) (o:=.ins a.kA g (rn3 (.ref c) (.ref cn) (.ref f)));have R:=(qr (o:=.ins a.kA g (rn3 (.ref c) (.ref cn) (.ref f))) l).trans ao;have ag:=(qr (o:=.ins a.kA g (rn3 (.ref c) (.ref cn) (.ref f))) p).trans e5;have ai:=(qr (o:=.ins a.kA g (rn3 (.ref c) (.ref cn) (.ref f))) L).trans F;generalize upd H5 x _=H6 at z6 y6 x6 R ag ai |-;refine(nmc Z ⟨_,_,_,_,Z,x6,T.k8,qp T.kD Uk,(show 3<1000 by decide),?_⟩);rw[show qbf (Aa "over") (.bl false) (rn3 (.ref c) (.ref cn) (.ref f))=(rn4 (.ref c) (.ref cn) (.ref f) (.bl false)) by with_unfolding_all rfl];have U:Same t (upd H6 x (.ins a.kA g (rn4 (.ref c) (.ref cn) (.ref f) (.bl false)))):=qai z6 r;have y7:SameBut x H (upd H6 x (.ins a.kA g (rn4 (.ref c) (.ref cn) (.ref f) (.bl false)))):=y6.set;have M:=qk (H:=H6) (a:=x) (o:=.ins a.kA g (rn4 (.ref c) (.ref cn) (.ref f) (.bl false)));have N:=(qr (o:=.ins a.kA g (rn4 (.ref c) (.ref cn) (.ref f) (.bl false))) l).trans R;have S:=(qr (o:=.ins a.kA g (rn4 (.ref c) (.ref cn) (.ref f) (.bl false))) p).trans ag;have ah:=(qr (o:=.ins a.kA g (rn4 (.ref c) (.ref cn) (.ref f) (.bl false))) L).trans ai;generalize upd H6 x _=H7 at U y7 M N S ah |-;refine(nmc Z ⟨_,_,_,Z,M,Z,(nmc Z (nmc Z ⟨x,g,c,.ref cn,.ref f,.bl false,bb,_,d,rd,Z,M,.inl Z,C.same U,af,λH8 D I J m u x8 aj ak=>?_⟩))⟩);have z8:Same t H8:=λb o e=>J b o (qae e r) (U b o e);have j:=J _ _ l N;have ad:=J _ _ p S;have av:=J _ _ L ah;have ay:f≠D:=λz=>by rw[<- z,S]at m;cases m
  have y8:=y7.trans J;have fr:=qxw r bf (U.free m) (U.free u);have bj:t cn=none:=z1.free v;have al:cn∉[x,f,D,I]:=λi=>by
   rcases Av.mp i with z|i
   .exact l z
   .rcases Av.mp i with z|i
    .rw[z,ad]at j;cases j
    .rcases Av.mp i with z|i
     .rw[z,aj]at j;cases j
     .rw[Ai.mp i,ak]at j;cases j
  have aq:H f=none:=(y3.trans (SameBut.of Y)).free p O;have am:H D=none:=y7.free (λz=>by rw[z,M]at m;cases m) m;have au:H I=none:=y7.free (λz=>by rw[z,M]at u;cases u) u;have sB:=qx (o:=.ins (kC a rd.unit) B (kfs tb)) bj;have X:∀b∈[x,f,D,I],upd t cn (.ins (kC a rd.unit) B (kfs tb)) b=none:=λb i=>by rw[qr (λz:b=cn=>al (by rw[<- z];exact i))];exact fr b i
  refine k H8 [x,f,D,I] cn (.ins (kC a rd.unit) B (kfs tb)) y8 (λb i=>?_) (by simp) (y1.free l v) al ⟨g,c,cn,f,D,I,[V.ref q1],[],Z,ay,x8,ad,.cons av .nil,aj,.nil,ak,C.same sB,⟨B,tb,qk,ae.same sB⟩,λb o e=>?_,X _ (by simp),X _ (by simp),X _ (by simp),X _ (by simp)⟩
  .rcases Av.mp i with z|i
   .exact .inl z
   .rcases Av.mp i with z|i
    .exact .inr (by rw[z];exact aq)
    .rcases Av.mp i with z|i
     .exact .inr (by rw[z];exact am)
     .exact .inr (by rw[Ai.mp i];exact au)
  .by_cases z:b=cn
   .rw[z,qk]at e;rw[z,j];exact e
   .rw[qr z]at e;exact z8 b o e
theorem okTake (T:Txt K mg a):FnOk P w K mg base CX0 22 a.nH a.mE ["book","table","runs","act"] (spTake a):=by
 refine T.dR.fn.ok qgs (λvs H Q E h=>?_) (λcdv A outer s H vs Q E J h=>?_)
 .obtain⟨_,_,_,_,_,_,_,_,_,_,_,_,_,_,_,_,rfl,_⟩:=h
  all_goals rfl
 .obtain⟨bk,tb,v,aa,B,n,N,ts,Zq,x,S,p,bs,rs,D,ac,rfl,G,hb,c9,tok,ex,ae,bq,W,ah,hD,hN,k⟩:=h;refine⟨_,(qf (qu (i:=4) qgs.nd Z (Au Z) (zp zq (pv 3) qi (λ_ _=>rfl)))
   (qf (qu (i:=5) qgs.nd Z (Au Z) (zp zq (pv 3) qi (λ_ _=>rfl)))
   (qf (qu (i:=6) qgs.nd Z (Au Z) (zp zq (pv 3) qi (λ_ _=>rfl)))
   (qf (qu (i:=7) qgs.nd Z (Au Z) qdl)
   (qf (qhs A8 Z (pv 2) (qag (i:=8) qgs.nd Z (Au Z)) (qf (qu (i:=9) qgs.nd Z (Au Z) (qal (pv 0) T.gL T.yK (qo9 T) (J.mono Uk) T.nX.bd .nil qac (qd (pv 8) qg qe)))
   (qj (zb (zf (zc (qq9 T) (J.mono Uk) Z T.dE.mgx T.dE.fn.kp T.dE.bd .nil qac (qd (qdf (qci J) (pv 2) (pv 8) (λ_ _=>rfl)) qg zn))) (qj (qz (qal (zp zr (qdf (qci J) (pv 2) (pv 8) (λ_ _=>rfl)) (qeq qcx qi) (λ_ _=>rfl)) T.k8 T.yW (qvp T) (J.mono Uk) T.pC.bd .nil qac (qd (pv 4) (qd (pv 6) (qd (pv 5) qg qe) qe) qe)))) (qj (zb (PW.pt (qep (qt qch (pv 5) (qab (pv 9) Z) (qad _)) (qd2 (qvw (pc_dinN (qci J) (qab (pv 9) Z) (pv 7)))))) (qj (qes (qci J) (pv 7) (pv 8) (qdx T.zP (qvq T) (J.mono Uk) Z T.zA T.xS.bd .nil qac (qd (pv 9) (qd (pv 1) (qd (pv 4) (qd (pv 6) (qd (qu4 (qci J) (pv 7) (qab (pv 9) Z) ⟨Z,Z,Z,Z⟩) qg zl) qe) qe) qe) qe)) Z)) qaf))))))
   (qj (qhs A8 Z (pv 7) (qag (i:=8) qgs.nd Z (Au Z)) (qj (qz (qbr Ax A3 A4 qam (qdf (qci J) (pv 2) (pv 8) (λ_ _=>rfl)) (qd (qdf (qci J) (pv 7) (pv 8) (λ_ _=>rfl)) qg zn))))))))))),?_⟩
  have ae:=W.sm _ _ ae;refine(nmc Z (txo (ae) Z (nmc Z (txo (ae) Z (nmc Z (txo (ae) Z (λr nb=>?_)))))));have n4:=G.n4;have s1:=qx (o:=.dK []) nb;have am:=s1 _ _ bq;have af:r≠v:=λz=>by rw[z,bq]at nb;cases nb
  have W1:=W.more (o:=.dK []) nb (λ_ z=>nomatch z);have au:=qk (H:=H) (a:=r) (o:=.dK []);generalize upd H r _=H1 at s1 am W1 au |-;refine(nmc Z ⟨v,_,Z,am,λo=>⟨λi σ' H'=>∃(F:Hp)(g:Nat->Nat->Addr)(S':Nat->Nat->List Addr),i<=n/\Same B F/\H' v=some (.frz o (.dK (kvR n ts p)))/\WH a F H' n ts (tk bs rs ts Zq ac i).1 g S' p (λi=>(Zq i).length) [r,v] bs rs/\H' r=some (.dK (bgK ts (λj=>g j (Zq j).length) (tk bs rs ts Zq ac i).2 i))/\∃v8 v9:Option V,σ'=[some (.ref bk),some (.ref tb),some (.ref v),some (.ref aa),some (.str ac.1),some (.str ac.2.1),some (.int ac.2.2),some (.ref r),v8,v9],?_,?_,?_,?_⟩⟩)
  .refine⟨B,x,S,AQ _,Same.refl B,qk,W1.but (by simp) (λ_ z=>nomatch z),?_,none,none,Z⟩;rw[qr af,au];rfl
  .rintro i σ' H' ⟨_,_,_,_,_,h,_⟩;exact h
  .rintro i kv σ' H' I ⟨F,g,S',hin,sB,ad,C,t,v8,v9,rfl⟩;obtain⟨d,rfl⟩:=qyf I;have eY:=qma (bs:=bs) (rs:=rs) (ts:=ts) (Zq:=Zq) (ac:=ac) (Al i);have L:=qt2 (bs:=bs) (rs:=rs) (ac:=ac) G ah ex hD hN (m:=i) (B9 d);have M:=λb=>qkw (bs:=bs) (rs:=rs) (ts:=ts) (Zq:=Zq) (ac:=ac) (m:=i) (i:=b);have t1:=λc=>tk_run (bs:=bs) (rs:=rs) (ts:=ts) (Zq:=Zq) (ac:=ac) (i:=i) c;have t2:=λc=>tk_beg (bs:=bs) (rs:=rs) (ts:=ts) (Zq:=Zq) (ac:=ac) (i:=i) c;have t3:=λc=>tk_no (bs:=bs) (rs:=rs) (ts:=ts) (Zq:=Zq) (ac:=ac) (i:=i) c;generalize tk bs rs ts Zq ac i=YF at C t eY L M t1 t2 t3;obtain⟨Y,f⟩:=YF;dsimp only at C t eY L M t1 t2 t3;have fi:f i=false:=by
    cases e:f i with|false=>rfl|true=>have:=(M i).1 e;lia
   obtain⟨nms,us,bw,cg⟩:=hb.same sB;obtain⟨j,rl,e1,e2,bt⟩:=cg i d;have bh:=bw.same C.sm;have bz:=bt.same C.sm;obtain⟨dxb,pob,pdb,kvb,dc,_⟩:=id bh;refine(nmc Z ⟨_,_,_,Z,dc,Z,(nmc Z ⟨bk,nms,_,us,j,.ref rl,(by rw[e1];rfl),bh,e2,?_⟩)⟩);have ai:DGet H' v (kV (.inr (ts i).name)) (some (.ref (p i))):=.inl ⟨_,.inr (ts i).name,.inr ⟨o,ad⟩,Z,(qix G.nn d).symm⟩;have hl:=C.hl i d;have lz:=(ah.rl i d).1;have lY:(Y i).length=(Zq i).length:=by rw[eY]
   refine(nmc Z (nmc Z ⟨v,_,Z,ai,p i,_,qo1 (Zq i),Z,hl,(by rw[Ab,Aq];lia),?_,_,Z,?_⟩))
   .by_cases z:Zq i=[]
    .rw[z];exact .inl ⟨Z,Z⟩
    .have hp:=Cd.mpr z;refine .inr ⟨_,_,F,_,_,_,bs,rs,qqy hp (g i),C.R i d ((Zq i).length-1) (by lia),?_⟩;rw[runB_at z,eY]
   refine qbx (λc=>?_) (λc=>?_)
   .have z:=qsk c;have hp:=Cd.mpr z;have c8:Y i≠[]:=by rw[eY];exact z
    have t1:=t1 c;have mm:=qel (l:=Y i) (j:=(Y i).length-1) (by lia);have R0:=C.R i d ((Y i).length-1) (by lia);obtain⟨dx1,rl1,cn1,pr1,pp1,pg1,ur1,up1,eS,X1⟩:=id R0;have aw:=L.wf i d _ mm;have bi:=L.ok i d _ mm;have hB:=qt0 C L ex tok 3 i _ d (by lia) aw;refine(nmc Z (nmc Z ⟨v,_,Z,ai,_,Z,(lxo (hl) ((by rw[qqy hp];exact qks _ _)) ⟨_,_,_,Z,(by rw[<- lY];exact X1.hx),Z,(nmc Z (nmc Z (nmc Z ⟨_,F,_,_,_,bs,rs,ac.2.2,ac.2.2,ac.1,ac.2.1,_,_,(by rw[<- lY];rfl),R0,tok,G.rd i d,bi.bv _,hB,(qyd L ex d bi aw).bv _,λH2 S2 K2 F2 R2=>?_⟩)))⟩)⟩));rw[feel_bv (qju g (ts i).base) qgx]at R2;have W2:=C.felt d c8 K2 F2 R2;have eb:=C.eB r (by simp);have ed:=C.eB v (by simp);refine⟨F,g,_,d,sB,K2 _ _ (ed.2.2.2 i d _ (by lia)) ad,(by rw[t1];exact W2),?_,_,_,Z⟩;rw[t1];show H2 r=some (.dK (bgK ts (λj=>g j (Zq j).length) f (i+1)));rw[qyg fi λ_ _=>rfl];exact K2 _ _ (eb.2.2.2 i d _ (by lia)) t
   .have bf:∀b,f b=true->(Y b).length=(Zq b).length+1:=λb e=>by rw[(M b).2,if_pos e]
    obtain⟨ob,gN,av,c7⟩:=newR_bb (ac:=ac) (x:=g) G.nn d (G.ba i d) bf t;obtain⟨dxr,pe,pa,pl,wr,sr,pyr,usr,ar,hr2⟩:=id bz;have ay:=opV_is (ts i).opens ac.2.1;apply use (p:=opT (ts i) ac.2.1 f=true)
    .intro aq;have no:opT (ts i) ac.2.1 f=false->∃(F:Hp)(g:Nat->Nat->Addr)(S':Nat->Nat->List Addr),i+1<=n/\Same B F/\H' v=some (.frz o (.dK (kvR n ts p)))/\WH a F H' n ts (tk bs rs ts Zq ac (i+1)).1 g S' p (λi=>(Zq i).length) [r,v] bs rs/\H' r=some (.dK (bgK ts (λj=>g j (Zq j).length) (tk bs rs ts Zq ac (i+1)).2 (i+1)))/\∃v8 v9:Option V,[some (.ref bk),some (.ref tb),some (.ref v),some (.ref aa),some (.str ac.1),some (.str ac.2.1),some (.int ac.2.2),some (.ref r),some (.str (ts i).name),some (.ref rl)]=[some (.ref bk),some (.ref tb),some (.ref v),some (.ref aa),some (.str ac.1),some (.str ac.2.1),some (.int ac.2.2),some (.ref r),v8,v9]:=λe=>by rw[t3 c e];exact⟨F,g,S',d,sB,ad,C,by rw[qyg fi λ_ _=>rfl];exact t,_,_,Z⟩
     refine(nmc Z (nmc Z (flc (ar) (T.kG) (qp T.kH Uk) (rfl) ⟨ay.1,_,Z,?_⟩)));rw[ay.2];refine qbx (λc1=>qd6 (aq ?_)) (λc1=>(nmc Z (flc (ar) (T.kG) (qp T.kH Uk) (rfl) (nmc Z ⟨r,ob,Z,gN,_,Z,?_⟩))))
     .unfold opT;rw[c1];rfl
     .rw[av];have eo:opT (ts i) ac.2.1 f=fB (ts i).base f:=by
       unfold opT;cases e:decide ((ts i).opens=some ac.2.1) with|true=>exact absurd e c1|false=>exact DH _
      rw[<- eo];refine qbx (λc2=>aq c2) (λc2=>no ?_);cases e:opT (ts i) ac.2.1 f with|false=>rfl|true=>exact absurd e c2
    .intro bu;have t2:=t2 c bu;refine(nmc Z (nmc Z (nmc Z (nmc Z (nmc Z ⟨r,Z,.inl ⟨_,.inl t⟩,(nmc Z (flc (ar) (T.kG) (qp T.kH Uk) (rfl) ⟨ob,gN,λy dy ny ao nne=>?_⟩))⟩)))));have keep:Same H' (upd (upd H' dy (.own y)) y (.ins a.kA dy [])):=λb u e=>by rw[qr (qae e ny),qr (qae e ao)];exact e
     refine⟨y,dy,rl,tb,ac.1,ac.2.2,(ts i).rd,bs,rs,F,_,Z,qk,C.sm.trans keep,C.sm.free ny,bt.at,c9.same sB,λH2 S2 cn oc b2 f2 hy2 bc cp R2=>⟨Z,(nmc Z (nmc Z ⟨r,_,Z,DPut.k (k:=.inr (ts i).name) ((b2.made ny ao) _ _ t) (by have:=bgK_len (ts:=ts) (y:=λj=>g j (Zq j).length) (f:=f) (m:=i);rw[Bq];lia),?_⟩))⟩⟩;have s2:Same H' H2:=b2.made ny ao;rw[c7]at R2;have cr:=newR_wf (ac:=ac) (G.ba i d) bf;have W2:=C.begun L.wf d s2 (λb cw=>?_) (keep.free bc) cp cr R2
     .have U:=W2.but (c:=r) (by simp) (o:=.dK (qc2 (bgK ts (λj=>g j (Zq j).length) f i) (.inr (ts i).name) (.ref y))) (λ_ z=>nomatch z);refine⟨_,_,_,d,sB.trans (qx (C.sm.free (keep.free bc))),?_,(by rw[t2];exact U),?_,_,_,Z⟩
      .rw[qr (By af)];exact s2 _ _ ad
      .rw[qk,t2];have e3:qbh (bgK ts (λj=>g j (Zq j).length) f i) (.inr (ts i).name)=none:=by rw[qkx G.nn (B9 d) d,if_neg (λz=>absurd z.1 (BX _))]
       rw[qic _ e3];show some (HO.dK _)=some (HO.dK (bgK ts (λj=>pu2 g i (Y i).length y j (Zq j).length) (put f i true) (i+1)));rw[bgK_yes (y:=λj=>g j (Zq j).length) (λj hj=>qcd (.inl (AE hj)))];show _=some (HO.dK (_++[(_,V.ref (pu2 g i (Y i).length y i (Zq i).length))]));rw[lY,qds]
     .rcases f2 b cw with z|z
      .rw[z];exact ny
      .exact keep.free z
  .rintro σ' H' ⟨F,g,S',_,sB,ad,C,t,v8,v9,rfl⟩;rw[qew]at C t;have L:=qt2 (bs:=bs) (rs:=rs) (ac:=ac) G ah ex hD hN (m:=n) (Al n);have M:=λb=>qkw (bs:=bs) (rs:=rs) (ts:=ts) (Zq:=Zq) (ac:=ac) (m:=n) (i:=b);generalize tk bs rs ts Zq ac n=YF at C t L M k;obtain⟨Y,f⟩:=YF;dsimp only at C t L M k;have W2:=C.but (c:=v) (by simp) (o:=.dK (kvR n ts p)) (λ_ z=>nomatch z);have al:upd H' v (.dK (kvR n ts p)) r=some (.dK (bgK ts (λj=>g j (Zq j).length) f n)):=by rw[qr af];exact t
   have aj:=qk (H:=H') (a:=v) (o:=.dK (kvR n ts p));generalize upd H' v _=H2 at W2 al aj |-;obtain⟨gl,egl⟩:∃gl,gl=(Ao n).filter f:=⟨_,Z⟩;have ak:∀i,i∈gl↔i<n/\f i=true:=λi=>by rw[egl,BQ,AN]
   have ca:gl.Nodup:=by rw[egl];exact De.filter _
   have bj:bgK ts (λj=>g j (Zq j).length) f n=gl.map λi=>(.inr (ts i).name,.ref (g i (Zq i).length)):=by rw[egl];rfl
   refine(nmc Z ⟨r,_,Z,al,λo2=>⟨λm σ' H'=>H' v=some (.dK (kvR n ts p))/\H' r=some (.frz o2 (.dK (bgK ts (λj=>g j (Zq j).length) f n)))/\WH a F H' n ts Y g S' p (λi=>(Zq i).length+if i∈gl.take m then 1 else 0) [r,v] bs rs/\∃v8 v9:Option V,σ'=[some (.ref bk),some (.ref tb),some (.ref v),some (.ref aa),some (.str ac.1),some (.str ac.2.1),some (.int ac.2.2),some (.ref r),v8,v9],?_,?_,?_,?_⟩⟩)
   .refine⟨by rw[qr (By af)];exact aj,qk,?_,_,_,Z⟩;have:=W2.but (c:=r) (by simp) (o:=.frz o2 (.dK (bgK ts (λj=>g j (Zq j).length) f n))) (λ_ z=>nomatch z);rw[show (λi=>(Zq i).length+if i∈gl.take 0 then 1 else 0)=λi=>(Zq i).length from funext λi=>by rw[D3,if_neg AM];rfl];exact this
   .rintro m σ' H3 ⟨_,h,_⟩;exact h
   .rintro m kv σ' H3 I ⟨X,ag,U,v8,v9,rfl⟩;rw[bj,Ag]at I;cases eg:gl[m]? with
    |none=>rw[eg]at I;cases I
    |some i =>
    rw[eg]at I;cases I;obtain⟨d,fi⟩:=(ak i).mp (A2 eg);have nt:i∉gl.take m:=λz=>by obtain⟨j,hj⟩:=Bv z;have lt:=(Ac.mp hj).1;rw[Bj]at lt;rw[List.getElem?_take,if_pos (by lia)]at hj;have:=(El (by lia) ca).mp (hj.trans eg.symm);lia
    have lY:(Y i).length=(Zq i).length+1:=by rw[(M i).2,if_pos fi]
    have hl:=U.hl i d;have lz:=(ah.rl i d).1;rw[if_neg nt,Nat.add_zero]at hl;have ai:DGet H3 v (kV (.inr (ts i).name)) (some (.ref (p i))):=.inl ⟨_,.inr (ts i).name,.inl X,Z,(qix G.nn d).symm⟩;have cx:DGet H3 r (kV (.inr (ts i).name)) (some (.ref (g i (Zq i).length))):=.inl ⟨_,.inr (ts i).name,.inr ⟨o2,ag⟩,Z,by rw[qkx G.nn (Al n) d,if_pos ⟨d,fi⟩]⟩;refine(nmc Z (nmc Z ⟨v,_,Z,ai,.inl ⟨Z,_,SqL.of hl⟩,(nmc Z (nmc Z ⟨r,_,Z,cx,_,_,_,Z,Z,hl,qbe (by rw[Ab,Aq];lia),?_⟩))⟩));have W4:=U.listed d (by rw[if_neg nt,lY];lia);rw[if_neg nt,Nat.add_zero,Bt,Ar]at W4;have cq:=U.eB v (by simp);have cz:=U.eB r (by simp);refine⟨by rw[qr (cq.2.2.1 i d)];exact X,by rw[qr (cz.2.2.1 i d)];exact ag,?_,_,_,Z⟩;rw[show (λO=>(Zq O).length+if O∈gl.take (m+1) then 1 else 0)=put (λO=>(Zq O).length+if O∈gl.take m then 1 else 0) i ((Zq i).length+1) from funext λO=>by
     rw[B0,eg];by_cases z:O=i
     .subst z;rw[qaz,if_pos (by simp)]
     .rw[qas z];have:O∈gl.take m++(some i).toList↔O∈gl.take m:=by simp[z]
      by_cases w:O∈gl.take m
      .rw[if_pos w,if_pos (this.mpr w)]
      .rw[if_neg w,if_neg (λq=>w (this.mp q))]]
    exact W4
   .rintro σ' H3 ⟨X,ag,U,v8,v9,rfl⟩;rw[bj,Ab,Bw]at U;have W4:=(U.but (c:=r) (by simp) (o:=.dK (bgK ts (λj=>g j (Zq j).length) f n)) (λ_ z=>nomatch z)).less (E':=[v]) (by simp);rw[show (λi=>(Zq i).length+if i∈gl then 1 else 0)=λi=>(Y i).length from funext λi=>by
     rw[(M i).2];by_cases z:f i=true
     .rw[if_pos z,if_pos ((ak i).mpr ⟨(M i).1 z,z⟩)]
     .rw[if_neg z,if_neg (λq=>z ((ak i).mp q).2)]]at W4
    exact k _ F g S' sB (by rw[qr (By af)];exact X) W4
theorem qmm (T:Txt K mg a):FnOk P w K mg base CX0 1 a.hU a.rM ["self","last"] (spSw a):=by
 refine T.sS.fn.ok qlw (λvs H Q E h=>?_) (λcdv A outer s H vs Q E hr h=>?_)
 .obtain⟨_,_,_,_,_,_,_,_,rfl,_⟩:=h
  all_goals rfl
 .obtain⟨x,B,S,rd,st,bs,rs,r,rfl,b,k⟩:=h;refine⟨_,(qf (zb (zf (qab (pv 0) Z)) (qj (qo zg)) qaf)
   (qj (qo (qck (qt qcb (pv 1) qat (qad _)) zg zg)))),?_⟩
  obtain⟨dx,rl,cn,pr,pp,pg,ur,up,rfl,R⟩:=id b;unfold swd at k;refine(nmc Z (flc (R.hx) (T.k8) (qp T.kD Uk) (rfl) (nmc Z (qbx (λc=>?_) (λc=>?_)))))
  .rw[if_pos c]at k;exact k
  .rw[if_neg c]at k;cases r with|none =>rw[if_pos Z]at k;exact(nmc Z ⟨Z,(nmc Z (qcn Z k))⟩)|some l =>rw[if_neg (λz=>nomatch z)]at k;exact(nmc Z ⟨Z,(nmc Z (qbi (λz=>nomatch z) k))⟩)
theorem qpa (T:Txt K mg a):FnOk P w K mg base CX0 19 a.hG a.rL ["self"] (spAc a):=by
 refine T.mG.fn.ok qfw (λvs H Q E h=>?_) (λcdv A outer s H vs Q E hr h=>?_)
 .obtain⟨_,_,_,_,_,_,_,_,_,_,_,_,_,_,rfl,_⟩:=h
  all_goals rfl
 .obtain⟨x,B,S,rd,st,bs,rs,c,s,r,n,w0,d0,rw0,rfl,m,tok,ok,v,lst,M,k⟩:=h;refine⟨_,(qf (qu (i:=1) qfw.nd Z (Au Z) (qbg (pv 0) T.k8 T.gY (qeo T) (hr.mono Uk) T.gE.bd .nil qac))
   (qf (qu (i:=2) qfw.nd Z (Au Z) (qbg (pv 0) T.k8 T.bL (qhj T) (hr.mono Uk) T.gJ.bd .nil qac))
   (qj (qo (zj (qd (zp zq (zp zr (qab (pv 0) Z) qi (λ_ _=>rfl)) qi (λ_ _=>rfl)) (qd (qal (pv 0) T.k8 T.yE (qmm T) (hr.mono Uk) T.sS.bd .nil qac (qd (pv 2) qg qe)) (qd (pv 1) (qd (qab (pv 0) Z) (qd (qb6 qce (by rfl) T.gC qbu (qd (qab (pv 0) Z) qg qan)) (qd (pv 2) (qd (qb6 qce (by rfl) T.gC qbu (qd (qab (pv 0) Z) qg qan)) qg zl) qe) zl) qan) qe) zl) zn)))))),?_⟩
  obtain⟨dx,rl,cn,pr,pp,pg,U,X,rfl,R⟩:=id m;have s0:∀z,s=some z->0<=z:=λz e=>qdk (e ▸ v) ok.d0;refine(nmc Z ⟨_,_,_,Z,R.hx,Z,x,B,_,rd,st,bs,rs,s,Z,m,v,λH0 p=>?_⟩);have X0:=R.same p;refine(nmc Z ⟨_,_,_,Z,X0.hx,Z,x,B,_,rd,st,bs,rs,c,s,Z,m.same p,tok,ok,v.same p,λH1 y d F=>?_⟩);obtain rfl:=qfg s0 F lst;have d:=p.trans d;have b:=R.same d;have I:=m.same d;have tr:=b.tr;rw[M]at tr;obtain⟨q0,Y,J⟩:=tr.get (i:=0) (r:=qsd (n,d0,w0)) rfl;refine(nmc Z (flc (b.hx) (T.k8) (qp T.kD Uk) (rfl) (lxo (b.hr) ((qao (j:=0) Y)) (txo (J) Z (nmc Z ⟨_,_,_,Z,b.hx,Z,(nmc Z ⟨x,B,_,rd,st,bs,rs,y,Z,I,(nmc Z (nmc Z (flc (b.hx) (T.k8) (qp T.kD Uk) (rfl) (nmc Z (flc (b.hx) (T.k8) (qp T.kD Uk) (rfl) ⟨_,_,Z,.inl (SqL.of b.hp),λC t=>?_⟩)))))⟩)⟩)))));obtain⟨g,W⟩:=alc (o:=.lst X) t;have n4:=d.free t;generalize upd H1 C _=H4 at g W |-;have l:=b.same g;refine(nmc Z (nmc Z (flc (l.hx) (T.k8) (qp T.kD Uk) (rfl) ⟨_,_,Z,.inl (SqL.of l.hr),λG u=>?_⟩)));obtain⟨D,N⟩:=alc (o:=.lst U) u;have n6:=(d.trans g).free u;generalize upd H4 G _=H6 at D N |-;refine⟨fit7 _ _ _ _ _ _ _,λq O=>?_⟩;have L:=qx (o:=.tup [V.str n,V.str (swd st.over y),oV s,V.int st.units,V.ref C,oV y,V.ref G]) O;have f:=D.trans L;exact k q C G _ (d.trans (g.trans f)) ((d.trans (g.trans D)).free O) n4 n6 ⟨qk,⟨X,f _ _ W,l.tp.same f⟩,⟨U,L _ _ N,l.tr.same f⟩⟩
theorem qjz (T:Txt K mg a){cL Pt:Addr}(hcl:a.bP.code=.ref cL)(LF:Lam.LamF mg base cL Pt):FnOk P w K mg base CX0 24 a.xG a.sM ["book","table","acts"] (spHist a Pt):=by
 refine T.gF.fn.ok qd0 (λvs H Q E h=>?_) (λcdv A outer s H vs Q E hr h=>?_)
 .obtain⟨_,_,_,_,_,_,_,_,_,rfl,_⟩:=h
  all_goals rfl
 .obtain⟨bk,tb,pa,us,av,n,ts,bs,rs,rfl,T0,hb,dv,tok,ex,dw,dr,hln,hd0,hL,k⟩:=h;refine⟨_,(qf (qu (i:=3) qd0.nd Z (Au Z) qdl)
   (qf (qa3 A8 Z (qa0 (qbg (pv 0) T.gL T.yB (qm3 T) (hr.mono Uk) T.xJ.bd .nil qac)) (qag (i:=4) qd0.nd Z (Au Z)) (qj (qes (qci hr) (pv 3) (pv 4) (zh qg) Z)))
   (qf (qa3 A8 Z (qa0 (zc (qjy T hcl LF) (hr.mono Uk) Z T.gH.mgx T.gH.fn.kp T.gH.bd .nil qac (qd (pv 2) qg qe))) (qag (i:=5) qd0.nd Z (Au Z)) (qj (qz (zc (okTake T) (hr.mono Uk) Z T.dR.mgx T.dR.fn.kp T.dR.bd .nil qac (qd (pv 0) (qd (pv 1) (qd (pv 3) (qd (pv 5) qg qe) qe) qe) qe)))))
   (qf (qu (i:=6) qd0.nd Z (Au Z) qdl)
   (qf (qhs A8 Z (pv 3) (qag (i:=4) qd0.nd Z (Au Z)) (qj (qes (qci hr) (pv 6) (pv 4) (qfk (N:=["run"]) (js:=[none]) (XN:=["book","table","acts","runs","term","act","told"]) (xs:=qaa qig) Z Z Z Ez (qa0 (qdf (qci hr) (pv 3) (pv 4) (λ_ _=>rfl))) (λ_ _ _ _ _ _=>(qag (i:=0) (show Cw (["run"]:List Str) from by decide +kernel) Z (Au Z) (DC Z))) (λ_ _ _ _ _ _=>qfj) (λ_ _ _ _ _ _=>(qbg (pv 0) T.k8 T.zD (qpa T) (hr.mono Uk) T.mG.bd .nil qac))) Z)))
   (qj (qo (pv 6)))))))),?_⟩
  have n4:=T0.n4;refine λB nd=>?_;obtain⟨s1,ak⟩:=alc (o:=.dK []) nd;generalize upd H B _=H1 at s1 ak |-;obtain⟨nms,fj,fg,hru⟩:=id hb;have bz:=fg.same s1;obtain⟨dxb,pob,pdb,kvb,fz,_⟩:=id bz;refine(nmc Z ⟨_,_,_,Z,fz,Z,bk,nms,_,fj,Z,bz,λqh nh=>?_⟩);obtain⟨s2,eh⟩:=alc (o:=.lst (((Ao n).map λi=>(ts i).name).map V.str)) nh;have au:=s2 _ _ ak;have dz:qh≠B:=λz=>by rw[z,ak]at nh;cases nh
  generalize upd H1 qh _=H2 at s2 eh au |-;refine⟨_,Z,⟨_,SqL.of eh⟩,qa5 (K:=K) (a:=qh) (xs:=((Ao n).map λi=>(ts i).name).map V.str) (λi σ H'=>Same H H'/\H' qh=some (.lst (((Ao n).map λi=>(ts i).name).map V.str))/\∃p:Nat->Addr,H' B=some (.dK (kvR i ts p))/\(∀j<i,H' (p j)=some (.lst [])/\H (p j)=none/\p j≠B/\p j≠qh/\∀j'<j,p j'≠p j)/\∃v4:Option V,σ=[some (.ref bk),some (.ref tb),some (.ref pa),some (.ref B),v4,none,none]) ⟨s1.trans s2,eh,λ_=>B,au,λj f=>absurd f (Bg _),none,Z⟩ (λi σ H' _ h=>SqL.of h.2.1) ?_ ?_⟩
  .rintro i v σ H' hv ⟨s3,bf,p,ae,G,v4,rfl⟩;have C:i<n:=by have:=(Ac.mp hv).1;rw[Ab,Ab,Aq]at this;exact this
   rw[Ag,Ag,AV C]at hv;cases hv;refine⟨qdy,λpi ni=>(nmc Z (nmc Z ⟨B,_,Z,DPut.k (k:=.inr (ts i).name) (qx ni _ _ ae) (by rw[qew,Bq];lia),?_⟩))⟩;have cg:pi≠B:=λz=>by rw[z,ae]at ni;cases ni
   have cw:pi≠qh:=λz=>by rw[z,bf]at ni;cases ni
   have ca:∀j<i,pi≠p j:=λj f z=>by rw[z,(G j f).1]at ni;cases ni
   have e3:qbh (kvR i ts p) (.inr (ts i).name)=none:=qo3 λw m=>by obtain⟨j,f,e⟩:=AU.mp m;injection e with e1 _;have f:=AN.mp f;have:=T0.nn j (by lia) i C (CW.inj e1);lia
   have bj:qc2 (kvR i ts p) (.inr (ts i).name) (.ref pi)=kvR (i+1) ts (put p i pi):=by rw[qic _ e3];unfold kvR;rw[Bt,Ar];refine congr (congrArg _ (BL λj f=>by rw[qas (AE (AN.mp f))])) ?_;show _=[(_,V.ref (put p i pi i))];rw[qaz]
   rw[bj];refine⟨λb o e=>by rw[qr (qae e nd),qr (qae (s3 _ _ e) ni)];exact s3 _ _ e,by rw[qr dz,qr (By cw)];exact bf,put p i pi,qk,λj f=>?_,_,Z⟩;by_cases z:j=i
   .subst z;rw[qaz];exact⟨by rw[qr cg,qk],s3.free ni,cg,cw,λj' ao=>by rw[qas (AE ao)];exact By (ca j' ao)⟩
   .obtain⟨X,O,g3,U,g5⟩:=G j (by lia);rw[qas z];exact⟨by rw[qr g3,qr (By (ca j (by lia)))];exact X,O,g3,U,λj' ao=>by rw[qas (by lia)];exact g5 j' ao⟩
  rintro σ H3 ⟨s3,bf,p,ae,G,v4,rfl⟩;rw[Ab,Ab,Aq]at ae G;refine(nmc Z ⟨pa,us,av,Z,s3 _ _ dw,dr.same s3,by lia,hL.same s3,λL H4 am d aq s4 dm bu cr ea ta=>?_⟩);obtain⟨tps,fq⟩:=(hL.same s3).tbl;have ar:KpT H3 H4:=KpT.of fq s4;have ay:H4 B=some (.dK (kvR n ts p)):=ar _ _ (λ_ z=>nomatch z) ae;have cx:∀j<n,H4 (p j)=some (.lst []):=λj f=>ar _ _ (λ_ z=>nomatch z) (G j f).1;obtain⟨F,f1,f2,f3⟩:=mask_ex (λb=>b=B \/ ∃j,j<n/\b=p j) H4;have aj:∀b o,(∀l,o ≠ .lst l)->(∀l,o ≠ .dK l)->H4 b=some o->F b=some o:=λb o n1 n2 e=>f2 b o (λz=>by
   rcases z with z|⟨j,f,z⟩
   .rw[z,ay]at e;exact n2 _ (AD e).symm
   .rw[z,cx j f]at e;exact n1 _ (AD e).symm) e
  have kF:KpT H F:=λb o n1 e=>f2 b o (λz=>by
   rcases z with z|⟨j,f,z⟩
   .rw[z,nd]at e;cases e
   .rw[z,(G j f).2.1]at e;cases e) (ar b o n1 (s3 _ _ e))
  have de:Lam.LamAt F Pt ioP ioQ:=by
   rcases dm with h|⟨c,X,O⟩
   .exact .inl (aj _ _ (λ_ z=>nomatch z) (λ_ z=>nomatch z) h)
   .exact .inr ⟨c,aj _ _ (λ_ z=>nomatch z) (λ_ z=>nomatch z) X,aj _ _ (λ_ z=>nomatch z) (λ_ z=>nomatch z) O⟩
  have gb:F L=some (.lst am):=f2 _ _ (λz=>by
   rcases z with z|⟨j,f,z⟩
   .rw[z,ae]at aq;cases aq
   .rw[z,(G j f).1]at aq;cases aq) ea
  have c9:Tups F am (d.map qdo):=qcp ta λb u e=>aj b _ (λ_ z=>nomatch z) (λ_ z=>nomatch z) e;have bF:=qsm kF hb;have tF:=qt5 kF dv;have l4:d.length=av.length:=bu.length_eq;have du:am.length=d.length:=by have:=c9.length;rw[Ab]at this;exact this
  have W0:WH a F H4 n ts (qek bs rs ts n (d.take 0)) (λ_ _=>B) (λ_ _=>[]) p (λi=>(qek bs rs ts n (d.take 0) i).length) [B] bs rs:=by
   refine⟨f3,λi C=>cx i C,λi C=>Al _,λi C j f=>absurd f (Bg _),λi C j f=>absurd f (Bg _),λi C=>f1 _ (.inr ⟨i,C,Z⟩),λi C D bc ne=>?_,λi C D bc j f=>absurd f (Bg _),λc hc=>?_⟩
   .rcases Nat.lt_or_gt_of_ne ne with h|h
    .exact(G D bc).2.2.2.2 i h
    .exact By ((G i C).2.2.2.2 D h)
   .rw[Ai.mp hc];exact⟨f1 _ (.inl Z),⟨_,ay,λ_ z=>nomatch z⟩,λi C=>By (G i C).2.2.1,λi C j f=>absurd f (Bg _)⟩
  have P0:PZ n ts (qek bs rs ts n (d.take 0)) ((d.take 0).getLastD dA).2.2 0:=⟨λi C st h=>absurd h AM,λi C st h=>absurd h AM,λi C=>⟨Al _,λst h=>absurd h AM⟩,Bo _⟩;refine⟨L,Z,⟨_,SqL.of ea⟩,qa5 (K:=K) (a:=L) (xs:=am) (λm σ H'=>∃(B':Hp)(x:Nat->Nat->Addr)(S:Nat->Nat->List Addr),Same F B'/\H' B=some (.dK (kvR n ts p))/\WH a B' H' n ts (qek bs rs ts n (d.take m)) x S p (λi=>(qek bs rs ts n (d.take m) i).length) [B] bs rs/\PZ n ts (qek bs rs ts n (d.take m)) ((d.take m).getLastD dA).2.2 m/\∃v5:Option V,σ=[some (.ref bk),some (.ref tb),some (.ref pa),some (.ref B),v4,v5,none]) ⟨F,_,_,Same.refl F,ay,W0,P0,none,Z⟩ (λm σ H' _ h=>by obtain⟨B',x,S,sB,_,W',_⟩:=h;exact SqL.of ((sB.trans W'.sm) _ _ gb)) ?_ ?_⟩
  .rintro m v σ H' hv ⟨B',x,S,sB,dh,W',P',v5,rfl⟩;have hm:m<d.length:=by have:=(Ac.mp hv).1;lia
   have em:=Ae hm;obtain⟨b,eb,qb⟩:=c9.get (i:=m) (r:=qdo d[m]) (by rw[Ag,em];rfl);rw[hv]at eb;cases eb;generalize d[m]=ac at em qb;have a0:=hd0 ac (bu.mem_iff.mp (A2 em));have hD:((d.take m).getLastD dA).2.2<=ac.2.2:=by
    rw[List.getLastD_eq_getLast?];cases m with|zero=>exact a0|succ m =>rw[List.getLast?_take,if_neg (by lia),Ee,Ae (by lia)];exact sort_le cr (BU m) (Ae (by lia)) em
   have et:d.take (m+1)=d.take m++[ac]:=by rw[B0,em];rfl
   refine(nmc Z (nmc Z (nmc Z (nmc Z ⟨bk,tb,B,b,B',n,m,ts,_,x,S,p,bs,rs,_,ac,Z,T0,bF.same sB,tF.same sB,tok,ex,sB _ _ qb,dh,W',P',hD,by lia,λH'' dt x' S' dl c7 ga=>?_⟩))));have fk:=qt2 (bs:=bs) (rs:=rs) (ac:=ac) T0 P' ex hD (by lia) (m:=n) (Al n);refine⟨dt,x',S',sB.trans dl,c7,?_,?_,_,Z⟩
   .rw[et,qn3];exact ga
   .rw[et,qn3,show (d.take m++[ac]).getLastD dA=ac by simp];exact fk
  rintro σ H5 ⟨B5,x,S,al,df,W5,P5,v5,rfl⟩;rw[du,Bw]at W5 P5;have ai:∀{J:Hp}{b:Addr},Same B5 J->J b=none->H b=none:=λ{J b} sJ e=>by
   cases eH:H b with
   |none=>rfl
   |some o =>
    exfalso;by_cases z:∃t,o=.tbl t
    .obtain⟨t,rfl⟩:=z;obtain⟨ps,g⟩:=de.tbl;by_cases w:b=Pt
     .rw[w]at e;rw[sJ _ _ (al _ _ g)]at e;cases e
     .have:=s4 b _ w (s3 _ _ eH);rw[sJ _ _ (al _ _ (aj b (.tbl t) (λ_ z=>by cases z) (λ_ z=>by cases z) this))]at e;cases e
    .rw[sJ _ _ (al _ _ (kF b o (λt q=>z ⟨t,q⟩) eH))]at e;cases e
  refine λpt ah=>?_;have W6:=W5.more (o:=.dK []) ah (λ_ z=>nomatch z);have cq:=qx (o:=.dK []) ah _ _ df;have dc:=qk (H:=H5) (a:=pt) (o:=.dK []);have bq:pt≠B:=λz=>by rw[z,df]at ah;cases ah
  have dg:H pt=none:=ai W5.sm ah;generalize upd H5 pt _=H6 at W6 cq dc |-;generalize eZ:qek bs rs ts n d=Zq at W5 W6 P5;refine(nmc Z ⟨B,_,Z,cq,λo=>⟨λi σ' H'=>∃(q:Nat->Addr)(y p4 p6:Nat->Nat->Addr),H' B=some (.frz o (.dK (kvR n ts p)))/\WH a B5 H' n ts Zq x S p (λi=>(Zq i).length) [pt,B] bs rs/\H' pt=some (.dK (kvR i ts q))/\(∀D<i,AccI bs rs ts Zq D (ofl [pt,B] H') (q D) (y D) (p4 D) (p6 D)/\H (q D)=none/\∀j<(Zq D).length,H (y D j)=none/\H (p4 D j)=none/\H (p6 D j)=none)/\qsl Zq i q p4 p6/\∃v4:Option V,σ'=[some (.ref bk),some (.ref tb),some (.ref pa),some (.ref B),v4,v5,some (.ref pt)],?_,?_,?_,?_⟩⟩)
  .exact⟨λ_=>B,λ_ _=>B,λ_ _=>B,λ_ _=>B,qk,W6.but (by simp) (λ_ z=>nomatch z),by rw[qr bq];exact dc,λi C=>absurd C (Bg _),λi C=>absurd C (Bg _),_,Z⟩
  .rintro i σ' H' ⟨_,_,_,_,h,_⟩;exact h
  .rintro i kv σ' H' fc ⟨q,y,p4,p6,ad,W',W,hA,ag,v4,rfl⟩;obtain⟨HB,eHB⟩:∃HB,HB=H':=⟨_,Z⟩;obtain⟨C,rfl⟩:=qyf fc;have fu:DGet H' B (kV (.inr (ts i).name)) (some (.ref (p i))):=.inl ⟨_,.inr (ts i).name,.inr ⟨o,ad⟩,Z,(qix T0.nn C).symm⟩;have hl:=W'.hl i C;have lz:=(P5.rl i C).1;refine(nmc Z (nmc Z ⟨B,_,Z,fu,_,Z,⟨_,SqL.of hl⟩,?_⟩));have xj:∀(j:Nat)(v:V),((Ao (Zq i).length).map λj=>V.ref (x i j))[j]?=some v->j<(Zq i).length/\v=.ref (x i j):=λj v e=>by
    rw[Ag]at e;by_cases h:j<(Zq i).length
    .rw[AV h]at e;cases e;exact⟨h,Z⟩
    .rw[AI (by rw[Aq];lia)]at e;cases e
   refine qws (λI v L H'=>∃r4 r6:Addr,(∀j,((Ao (Zq i).length).map λj=>V.ref (x i j))[j]?=some v->AccAt (ofl [I,pt,B] H') L r4 r6 (nm0 ((Zq i).getD j dRS)) ((Zq i).getD j dRS) (stF bs rs ts Zq 3 i ((Zq i).getD j dRS)) (lsC bs rs (ts i).rd ((Zq i).getD j dRS) (stF bs rs ts Zq 3 i ((Zq i).getD j dRS))))/\H' L≠none/\L≠I/\H L=none/\H r4=none/\H r6=none/\HB r4=none/\HB r6=none) (λI v L J J' kp=>?_) (λI v L J g=>?_) (λσ'=>∃v,σ'=[v]) (qd7 (K:=K) (SqL.of hl)) (qdd (by rw[Ab,Aq];lia)) ⟨none,Z⟩ (λI v σ' J RR' hv hpn Y fe ft qq=>?_) qeu λI H8 qs M s8 e8 l8 nd8 g8=>?_
   .rintro⟨r4,r6,X,O,g3,U⟩;refine⟨r4,r6,λj e=>(X j e).same (qgy (λ_ h=>h) λb u nb e=>kp b u (λz=>nb (by rw[z];simp)) e),?_,g3,U⟩;cases e:J L with|none=>exact absurd e O|some u=>rw[kp _ _ g3 e];exact λz=>nomatch z
   .obtain⟨_,_,_,O,_⟩:=g;exact O
   .obtain⟨v0,rfl⟩:=ft;obtain⟨zs,bw⟩:=fe;obtain⟨j,f⟩:=Bv hv;obtain⟨lj,rfl⟩:=xj j _ f;have WJ:=W'.same Y;have mm:=qel lj;have bi:=P5.ok i C _ mm;have c8:=P5.wf i C _ mm;have R0:=WJ.R i C j lj;obtain⟨dx1,rl1,cn1,pr1,pp1,pg1,ur1,up1,eS,X1⟩:=id R0;have hB:=qt0 WJ P5 ex tok 3 i _ C (by lia) c8;obtain⟨⟨n0,d0,w0⟩,rw0,erw⟩:∃r0 rr,((Zq i).getD j dRS).rows=r0::rr:=by
     cases e:((Zq i).getD j dRS).rows with|nil=>exact absurd e bi.r0|cons r0 rr=>exact⟨r0,rr,Z⟩
    have en:nm0 ((Zq i).getD j dRS)=n0:=by unfold nm0;rw[erw];rfl
    refine(nmc Z ⟨_,_,_,Z,X1.hx,Z,_,B5,_,_,_,bs,rs,_,_,_,n0,w0,d0,rw0,Z,R0,tok,bi.bv _,hB,(qyd P5 ex C bi c8).bv _,erw,λL r4 r6 H9 s9 nq bh bt cz=>?_⟩);have f4:∀b,J b=none->b∉[I,pt,B]:=λb e z=>by
     rcases Av.mp z with z|z
     .rw[z,bw]at e;cases e
     .rcases Av.mp z with z|z
      .rw[z,Y _ _ W]at e;cases e
      .rw[Ai.mp z,Y _ _ ad]at e;cases e
    have dj:=cz.ofL (l:=[I,pt,B]) (λc hc t e=>by
     rcases Av.mp hc with z|z
     .rw[z,s9 _ _ bw]at e;cases e
     .rcases Av.mp z with z|z
      .rw[z,s9 _ _ (Y _ _ W)]at e;cases e
      .rw[Ai.mp z,s9 _ _ (Y _ _ ad)]at e;cases e) (f4 _ bh) (f4 _ bt)
    refine qq _ L H9 ⟨_,Z⟩ s9 nq ⟨r4,r6,λj' e=>?_,(by rw[cz.1];exact λz=>nomatch z),(λz=>by rw[z,bw]at nq;cases nq),ai WJ.sm nq,ai WJ.sm bh,ai WJ.sm bt,eHB ▸ Y.free bh,eHB ▸ Y.free bt⟩;obtain⟨fh,ej⟩:=xj j' _ e;have:j=j':=W'.inj C lj fh (V.ref.inj ej);subst this;rw[en];exact dj
   .rw[Ab,Aq]at l8;have W8:=W'.same s8;have di:∀j:Nat,∃pr:Addr×Addr,j<(Zq i).length->AccAt (ofl [I,pt,B] H8) (qs.getD j 0) pr.1 pr.2 (nm0 ((Zq i).getD j dRS)) ((Zq i).getD j dRS) (stF bs rs ts Zq 3 i ((Zq i).getD j dRS)) (lsC bs rs (ts i).rd ((Zq i).getD j dRS) (stF bs rs ts Zq 3 i ((Zq i).getD j dRS)))/\H (qs.getD j 0)=none/\H pr.1=none/\H pr.2=none/\HB pr.1=none/\HB pr.2=none:=λj=>by
     by_cases h:j<(Zq i).length
     .have ev:((Ao (Zq i).length).map λj=>V.ref (x i j))[j]?=some (.ref (x i j)):=by rw[Ag,AV h];rfl
      have eq:qs[j]?=some (qs.getD j 0):=by rw[Ak,Ae (by lia)];rfl
      obtain⟨⟨r4,r6,X,O,g3,U⟩,_⟩:=g8 j _ _ ev eq;exact⟨(r4,r6),λ_=>⟨X j ev,U⟩⟩
     .exact⟨(0,0),λz=>absurd z h⟩
    obtain⟨pr,af⟩:=Classical.axiomOfChoice di;have cp:I≠pt:=λz=>by rw[z,W]at M;cases M
    have dk:I≠B:=λz=>by rw[z,ad]at M;cases M
    have e3:qbh (kvR i ts q) (.inr (ts i).name)=none:=qo3 λw m=>by obtain⟨j,f,e⟩:=AU.mp m;injection e with e1 _;have f:=AN.mp f;have:=T0.nn j (by lia) i C (CW.inj e1);lia
    have bj:qc2 (kvR i ts q) (.inr (ts i).name) (.ref I)=kvR (i+1) ts (put q i I):=by rw[qic _ e3];unfold kvR;rw[Bt,Ar];refine congr (congrArg _ (BL λj f=>by rw[qas (AE (AN.mp f))])) ?_;show _=[(_,V.ref (put q i I i))];rw[qaz]
    refine(nmc Z (nmc Z ⟨pt,_,Z,DPut.k (k:=.inr (ts i).name) (s8 _ _ W) (by rw[qew,Bq];lia),?_⟩));rw[bj];have kU:∀b u,b∉[pt,B]->H8 b=some u->upd H8 pt (.dK (kvR (i+1) ts (put q i I))) b=some u:=λb u nb e=>by rw[qr (λz=>nb (by rw[z];simp))];exact e
    refine⟨put q i I,put y i (λj=>qs.getD j 0),put p4 i (λj=>(pr j).1),put p6 i (λj=>(pr j).2),by rw[qr (By bq)];exact s8 _ _ ad,W8.but (by simp) (λ_ z=>nomatch z),qk,λD bc=>?_,qyh ag ?_ ?_,_,Z⟩
    rotate_left
    .subst eHB;intro i1 h1;obtain⟨⟨X,O⟩,_⟩:=hA i1 h1;have e1:=(qh4 X).2;refine⟨(λz=>by rw[z,M]at e1;cases e1),λj f=>?_,λj f=>?_⟩
     .obtain⟨_,⟨u4,U,_⟩,⟨u6,g6,_⟩⟩:=O j f;have U:=(qh4 U).2;have g6:=(qh4 g6).2;exact⟨(λz=>by rw[<- z,M]at U;cases U),(λz=>by rw[<- z,M]at g6;cases g6)⟩
     .obtain⟨_,_,_,_,c4,c6⟩:=af j f;exact⟨(λz=>by rw[z,c4]at e1;cases e1),(λz=>by rw[z,c6]at e1;cases e1)⟩
    .intro j f;obtain⟨⟨_,⟨u4,U,_⟩,⟨u6,g6,_⟩⟩,_⟩:=af j f;exact⟨(λz=>(qh4 U).1 (by rw[<- z];simp)),(λz=>(qh4 g6).1 (by rw[<- z];simp))⟩
    by_cases z:D=i
    .subst z;rw[qaz,qaz,qaz,qaz];refine⟨⟨?_,λj f=>(af j f).1.same (qgy (by simp) λb u nb e=>kU b u (λw=>nb (by simp at w |-;exact .inr w)) e)⟩,ai W'.sm M,λj f=>⟨(af j f).2.1,(af j f).2.2.1,(af j f).2.2.2.1⟩⟩;refine qjw (by simp[cp,dk]) ?_;rw[qr cp,e8]
     congr 2
     refine BZ λj=>?_;rw[Ag,Ag];by_cases h:j<(Zq D).length
     .rw[AV h];show _=some (V.ref (qs.getD j 0));rw[Ak,Ae (by lia)];rfl
     .rw[AI (by lia),AI (by rw[Aq];lia)];rfl
    .rw[qas z,qas z,qas z,qas z];obtain⟨X,O⟩:=hA D (by lia);exact⟨X.same (qgy (λ_ h=>h) λb u nb e=>kU b u nb (s8 _ _ e)),O⟩
  .rintro σ' H' ⟨q,y,p4,p6,ad,W',W,hA,ag,v4,rfl⟩;rw[qew]at W hA ag;have W9:=W'.but (c:=B) (by simp) (o:=.dK (kvR n ts p)) (λ_ z=>nomatch z);have aw:upd H' B (.dK (kvR n ts p)) pt=some (.dK (kvR n ts q)):=by rw[qr bq];exact W
   have k9:∀b u,b∉[pt,B]->H' b=some u->upd H' B (.dK (kvR n ts p)) b=some u:=λb u nb e=>by rw[qr (λz=>nb (by rw[z];simp))];exact e
   generalize upd H' B _=H9 at W9 aw k9 |-;have sF:=al.trans W9.sm;subst eZ;refine(nmc Z (k pt H9 d q y p4 p6 (λb u nb e=>?_) (de.same sF) bu cr ⟨aw,λi C=>(hA i C).1.same (qt4 k9)⟩ ⟨dg,λi C=>(hA i C).2⟩ P5 ag));have e4:=s4 b u nb (s3 _ _ e);refine sF _ _ (f2 b u (λz=>?_) e4);rcases z with z|⟨j,f,z⟩
   .rw[z,nd]at e;cases e
   .rw[z,(G j f).2.1]at e;cases e
theorem qvr (T:Txt K mg a):FnOk P w K mg base CX0 1 a.pW a.pO ["name","bases","taken"] spUnt:=by
 refine T.fH.fn.ok qg5 (λvs H Q E h=>?_) (λcdv A outer s H vs Q E hr h=>?_)
 .obtain⟨_,_,_,_,_,_,_,_,_,rfl,_⟩:=h
  all_goals rfl
 .obtain⟨x,d,t,kvs,nms,bs,p,tk,n,rfl,Y,ht,D,hk,rfl,W,k⟩:=h;refine⟨_,(qf (qu (i:=3) qg5.nd Z (Au Z) (zh qg))
   (qf (qu (i:=4) qg5.nd Z (Au Z) (pv 0))
   (qf (qf8 A8 (PW.pt (qc5 (qt qh7 (pv 4) qat (qad _)) (qco (qt qib (pv 4) (pv 2) (by with_unfolding_all rfl))))) (qf (zb (qt qc7 (pv 4) (pv 3) (by with_unfolding_all rfl)) (qj qfa) qaf)
   (qf (qz (qbr Ax A3 A4 qam (pv 3) (qd (pv 4) qg qe)))
   (qj (qu (i:=4) qg5.nd Z (Au Z) (qdf (qci hr) (pv 1) (pv 4) (λ_ _=>rfl)))))))
   (qj (qo (pv 3)))))),?_⟩
  refine⟨qdy,λq C=>?_⟩;obtain⟨X,S⟩:=alc (o:=.lst []) C;generalize upd H q _=H0 at X S |-;refine(nmc Z ?_);refine⟨λm σ' H'=>Same H H'/\∃g:List Str,H' q=some (.lst (g.map V.str))/\((∃c:Nat,σ'=[some (.str (nm nms n)),some (.ref d),some (.ref t),some (.ref q),some (.str (nm nms c))]/\c<nms.length/\p c<m/\g++upW nms bs tk m c=upW nms bs tk 7 n/\g.length+m=7/\∀y∈g,∃j,j<nms.length/\y=nm nms j/\p c<p j) \/
    (σ'=[some (.str (nm nms n)),some (.ref d),some (.ref t),some (.ref q),some .non]/\g=upW nms bs tk 7 n)),⟨7,X,[],S,.inl ⟨n,Z,hk,D.lo n,Z,Z,λy L=>absurd L AM⟩⟩,?_⟩
  rintro m σ' H' ⟨F,g,r,⟨c,rfl,G,hm,l,hl,I⟩|⟨rfl,e⟩⟩
  .refine(nmc Z ⟨Z,(nmc Z (qtf (λz=>nomatch z) (nmc Z (nmc Z ⟨_,_,Z,.inl (SqL.of (F _ _ ht)),Z,qd1 _,(nmc Z ?_)⟩))))⟩);show if (!inV (.str (nm nms c)) (tk.map V.str))=true then _ else _;rw[qff];cases O:tk.contains (nm nms c) with
   |true =>refine qbs (nmc Z (k q H' C F ?_));rw[qtz (BO.mp O),BC]at l;rw[r,l]
   |false =>
    have nt:¬nm nms c∈tk:=λz=>by rw[BO.mpr z]at O;cases O
    have np:g.contains (nm nms c)=false:=by
     cases ep:g.contains (nm nms c) with
     |false=>rfl
     |true =>obtain⟨j,J,N,v⟩:=I _ (BO.mp ep);rw[ql9 D.nd G J N]at v;exact absurd v (BX _)
    obtain⟨f,rfl⟩:∃f,m=f+1:=⟨m-1,by lia⟩;rw[qty nt]at l;have lz:(g.map V.str).length<=90000:=by rw[Ab];lia
    refine qd6 ⟨λσ2 u=>Same H u/\∃g:List Str,u q=some (.lst (g.map V.str))/\((∃c:Nat,σ2=[some (.str (nm nms n)),some (.ref d),some (.ref t),some (.ref q),some (.str (nm nms c))]/\c<nms.length/\p c<f/\g++upW nms bs tk f c=upW nms bs tk 7 n/\g.length+f=7/\∀y∈g,∃j,j<nms.length/\y=nm nms j/\p c<p j) \/
     (σ2=[some (.str (nm nms n)),some (.ref d),some (.ref t),some (.ref q),some .non]/\g=upW nms bs tk 7 n)),λσ2 u z=>⟨f,BU f,z⟩,?_⟩
    refine(nmc Z (nmc Z ⟨_,_,Z,.inl (SqL.of r),Z,qd1 _,(nmc Z ?_)⟩));show if (inV (.str (nm nms c)) (g.map V.str))=true then _ else _;rw[qff,np];refine qbs (nmc Z ⟨.inl ⟨Z,_,SqL.of r⟩,(nmc Z ⟨_,_,_,Z,Z,r,qbe lz,?_⟩)⟩);have B:Same H (upd H' q (.lst (g.map V.str++[V.str (nm nms c)]))):=qai F C;have M:upd H' q (.lst (g.map V.str++[V.str (nm nms c)])) q=some (.lst ((g++[nm nms c]).map V.str)):=by rw[qk,Ar];rfl
    generalize upd H' q _=u at B M |-;refine(nmc Z (nmc Z ⟨d,_,Z,(W c G) ▸ DGet.k (k:=.inr (nm nms c)) (B _ _ Y),?_⟩));cases R:bo bs c with
    |none =>rw[R]at l;exact⟨B,_,M,.inr ⟨Z,l⟩⟩
    |some b =>
     rw[R]at l;obtain⟨b1,U⟩:=D.ok c b (by rw[qx8 (by rw[D.len];exact G),R]);refine⟨B,_,M,.inl ⟨b,Z,b1,by lia,?_,by rw[Af];show g.length+1+f=7;lia,λy L=>?_⟩⟩
     .rw[Em];exact l
     .rcases A7.mp L with z|z
      .obtain⟨j,J,N,v⟩:=I y z;exact⟨j,J,N,Nat.lt_trans U v⟩
      .exact⟨c,G,Ai.mp z,U⟩
  .refine(nmc Z ⟨Z,(nmc Z (qtd Z (qbs (nmc Z (k q H' C F ?_)))))⟩);rw[r,e]
theorem qmn (T:Txt K mg a):FnOk P w K mg base CX0 2 a.r9 a.nG ["rules"] (qx9 a):=by
 refine T.dW.fn.ok qbv (λvs H Q E h=>?_) (λcdv A outer s H vs Q E W h=>?_)
 .obtain⟨_,_,_,_,_,rfl,_⟩:=h
  all_goals rfl
 .obtain⟨r,us,nms,bs,rk,rfl,y,f,v,k⟩:=h;refine⟨_,(qf (qu (i:=1) qbv.nd Z (Au Z) qdl)
   (qf (qa3 A8 Z (qa0 (pv 0)) (qag (i:=2) qbv.nd Z (Au Z)) (qj (qes (qci W) (pv 1) (qab (pv 2) Z) (qab (pv 2) Z) Z)))
   (qf (qu (i:=3) qbv.nd Z (Au Z) (zh qg))
   (qf (qa3 A8 Z (qa0 (pv 0)) (qag (i:=2) qbv.nd Z (Au Z)) (qj (qk0 (i:=3) qbv.nd Z (Au Z) (qru Z (by rfl) T.gC (by rfl) T.zO qbu (qd (zc (qvr T) (W.mono Uk) Z T.fH.mgx T.fH.fn.kp T.fH.bd .nil qac (qd (qab (pv 2) Z) (qd (pv 1) (qd (pv 3) qg qe) qe) qan)) qg zl)) ip_ext)))
   (qj (qo (pv 3))))))),?_⟩
  refine λd I=>?_;obtain⟨F,L⟩:=alc (o:=.dK []) I;generalize upd H d _=H0 at F L |-;refine(nmc Z ⟨_,Z,⟨_,SqL.of (F _ _ y)⟩,qa5 (K:=K) (a:=r) (xs:=us) (λi σ H'=>Same H H'/\∃(l:Option V)(kvs:List (Key×V)),σ=[some (.ref r),some (.ref d),l,none]/\H' d=some (.dK kvs)/\kvs.length<=i/\∀k<i,qbh kvs (.inr (nm nms k))=some (qo0 nms (bo bs k)))
   ⟨F,none,[],Z,L,Al _,λk hk=>absurd hk (Bg _)⟩ (λi σ H' _ h=>SqL.of (h.1 _ _ y)) ?_ ?_⟩)
  .rintro i x σ H' m ⟨e,l,kvs,rfl,g,Y,B⟩;have C:i<nms.length:=by rw[<- f.1];exact(Ac.mp m).1
   obtain⟨p,dx,fs,rfl,u,G,r3⟩:=(f.2 i x m).same e;refine(nmc Z (flc (u) (T.kG) (qp T.kH Uk) (r3) (nmc Z (nmc Z (flc (u) (T.kG) (qp T.kH Uk) (G) ⟨d,_,Z,DPut.k (k:=.inr (nm nms i)) g (by rw[Bq];have:=v.sm;lia),?_⟩)))));exact⟨qai e I,_,_,Z,qk,A9 (qcs _ _ _) (C5 Y),qtx v.nd C B⟩
  .rintro σ M ⟨e,l,kvs,rfl,g,Y,B⟩;rw[f.1]at B;refine⟨qdy,λt n=>?_⟩;have D:=e.trans (qx (o:=.lst []) n);have N:=qx (o:=.lst []) n _ _ g;have j:=qk (H:=M) (a:=t) (o:=.lst []);have U:=e.free n;have S:d≠t:=λz=>by rw[<- z,g]at n;cases n
   generalize upd M t _=H2 at D N j |-;refine(nmc Z ⟨_,Z,⟨_,SqL.of (D _ _ y)⟩,qa5 (K:=K) (a:=r) (xs:=us) (λi σ H'=>Same H H'/\H' d=some (.dK kvs)/\H' t=some (.lst ((qca nms bs i).map V.str))/\∃l:Option V,σ=[some (.ref r),some (.ref d),l,some (.ref t)])
    ⟨D,N,j,_,Z⟩ (λi σ H' _ h=>SqL.of (h.1 _ _ y)) ?_ ?_⟩)
   .rintro i x σ H' m ⟨e,g,j,l,rfl⟩;have C:i<nms.length:=by rw[<- f.1];exact(Ac.mp m).1
    obtain⟨p,dx,fs,rfl,u,G,r3⟩:=(f.2 i x m).same e;refine(nmc Z (nmc Z (flc (u) (T.kG) (qp T.kH Uk) (G) (nmc Z (nmc Z ⟨_,_,_,_,nms,bs,rk,_,i,Z,g,j,v,C,Z,B,λq1 X n1 z1 e1=>?_⟩)))));refine⟨_,_,Z,SqL.of e1,λR O=>?_⟩;have q:=z1.trans (qx (o:=.lst ((upW nms bs (qca nms bs i) 7 i).map V.str).reverse) O);have J:=qk (H:=X) (a:=R) (o:=.lst ((upW nms bs (qca nms bs i) 7 i).map V.str).reverse);generalize upd X R _=H4 at q J |-;refine⟨_,_,_,_,Z,Z,q _ _ j,J,qdd (by have a:=qqv nms bs i;have b:=qiv nms bs (qca nms bs i) 7 i;have c:=v.sm;rw[Bx,Ab,Ab];lia),?_⟩;refine⟨qai (e.trans q) U,(qr S).trans (q _ _ g),?_,_,Z⟩;rw[qk,qfh,<- DF,<- Ar]
   .rintro σ H' ⟨e,g,j,l,rfl⟩;rw[f.1]at j;exact(nmc Z (k t H' U e j))
theorem qmo (T:Txt K mg a):FnOk P w K mg base CX0 1 a.tW a.rH ["within","week","yearly"] spFyw:=by
 refine T.fG.fn.ok qlx (λvs H Q E h=>?_) (λcdv A outer s H vs Q E hr h=>?_)
 .obtain⟨_,_,_,_,_,rfl,_⟩:=h
  all_goals rfl
 .obtain⟨i,pw,py,e,yr,rfl,C,⟨us,m,ty⟩,hl,k⟩:=h;refine⟨_,(qj (qo (pe_or (qdw qc7 (qv qah (qv qau (pv 0) qi) qi) (pv 1) (by with_unfolding_all rfl)) (qf7 (zd (qut Z) (by rfl) T.yF qwz (qd (qfk (N:=["first","last","within"]) (js:=[none,none,some 0]) (XN:=["within","week","yearly"]) (xs:=qaa qdh) Z Z Z Ez (qa0 (pv 2)) (λ_ _ _ _ _ _=>(pg_tupC (K:=K) Z (n:=2) Z (qar (qag (i:=0) (show Cw (["first","last","within"]:List Str) from by decide +kernel) Z (Au Z) (DC Z)) (qar (qag (i:=1) (show Cw (["first","last","within"]:List Str) from by decide +kernel) Z (Au Z) (DC Z)) qde)))) (λ_ _ _ _ _ _=>qfj) (λ_ _ _ _ _ _=>(qpj qga qga (pv 0) (pv 2) (pv 1)))) qg qwe)))))),?_⟩;refine(nmc Z (icc Z Z (pos Uk) (iic Z Z (nmc Z ⟨_,_,Z,.inl (SqL.of C),Z,qnq _,(nmc Z ?_)⟩))));show if inV (.int (i % 7+1)) (e.map V.int)=true then _ else _;rw[qpy];have c:=λH' s=>k H' s;unfold fy at c;cases B:e.contains (i % 7+1) with
  |true =>rw[B,Bool.true_or]at c;exact qd6 (c _ (Same.refl H))
  |false =>
   rw[B]at c;have lu:us.length=yr.length:=by rw[ty.length,Ab]
   refine qbs (nmc Z ⟨_,Z,⟨_,SqL.of m⟩,?_⟩);let f:V->V:=λv=>match v with
    |.ref b=>match H b with
     |some (.tup [.int x,.int y])=>.bl (decide (x<=i) && decide (i<=y))
     |_=>.non
    |_=>.non
   refine qnl f (λσ'=>∃u p,σ'=[u,p,some (.int i)]) (qd7 (SqL.of m)) (qdd (by lia)) ⟨none,none,Z⟩ (λv σ' H' RR hv U X q=>?_) (gk_tup λxs σ' H' RR RR' h z=>?_) λG H2 hp2 I l=>?_
   .obtain⟨u,p,rfl⟩:=X;obtain⟨j,J⟩:=Bv hv;obtain⟨b,t,rfl,R,o⟩:=ty.get' J;obtain⟨r,_,rfl⟩:=qqf R;have S:f (.ref b)=.bl (decide (r.1<=i) && decide (i<=r.2)):=by show (match H b with|some (.tup [.int x,.int y])=>V.bl (decide (x<=i) && decide (i<=y))|_=>.non)=_;rw[o];rfl
    have q:=q [some (.int r.1),some (.int r.2),some (.int i)] H' ⟨_,_,Z⟩ (Same.refl H');rw[S]at q;refine⟨_,_,Z,SqT.of (U _ _ o),Z,_,_,Z,_,_,Z,Z,(nmc Z (nmc Z (iic Z Z (nmc Z ?_))))⟩;by_cases d:r.1<=i
    .rw[decide_eq_true d,Bool.true_and]at q;exact qcn d (nmc Z (iic Z Z q))
    .rw[decide_eq_false d,CI]at q;exact qbi d q
   .obtain⟨L,Y,M,D,O,l,z⟩:=z;exact⟨L,Y,M,D,O,l,⟨z.1,h _ _ z.2⟩⟩
   have W:us.map f=(yr.map λr=>decide (r.1<=i) && decide (i<=r.2)).map V.bl:=by rw[Ca];exact qpx (g:=f) ty λb r F=>by show (match H b with|some (.tup [.int x,.int y])=>V.bl (decide (x<=i) && decide (i<=y))|_=>.non)=_;rw[F];rfl
   refine⟨G,yr.map λr=>decide (r.1<=i) && decide (i<=r.2),Z,SqL.of (by rw[l,W]),?_⟩;show Q (.bl ((yr.map λr=>decide (r.1<=i) && decide (i<=r.2)).any λb=>b)) _;rw[List.any_map];exact c _ I
theorem qrb (T:Txt K mg a):FnOk P w K mg base CX0 1 a.mZ a.t9 ["free_days"] spCu:=by
 refine T.dJ.fn.ok qgt (λvs H Q E h=>?_) (λcdv A outer s H vs Q E hr h=>?_)
 .obtain⟨_,_,rfl,_⟩:=h
  all_goals rfl
 .obtain⟨p,bs,rfl,u,hl,k⟩:=h;refine⟨_,(qf (qu (i:=1) qgt.nd Z (Au Z) (zh (qd qi qg ql)))
   (qf (qa3 A8 Z (qa0 (pv 0)) (qag (i:=2) qgt.nd Z (Au Z)) (qj (qz (qbr Ax A3 A4 qam (pv 1) (qd (qck (zf (pv 2)) (zp zr (pv 1) (qeq qcx qi) (λ_ _=>rfl)) (qv qah (zp zr (pv 1) (qeq qcx qi) (λ_ _=>rfl)) qi)) qg qwf)))))
   (qj (qo (pv 1))))),?_⟩
  refine⟨qdd (by show 1<=100000;decide),λq g=>?_⟩;have y:=qx (o:=.lst [V.int 0]) g;refine(nmc Z ⟨_,Z,⟨_,SqL.of (y _ _ u)⟩,qa5 (K:=K) (a:=p) (xs:=bs.map V.bl) (λi σ H'=>Same H H'/\H' q=some (.lst (((Ao (i+1)).map λk=>opn bs k).map V.int))/\∃v:Option V,σ=[some (.ref p),some (.ref q),v])
   ⟨y,qk,none,Z⟩ (λi σ H' _ h=>SqL.of (h.1 _ _ u)) ?_ ?_⟩)
  .rintro i x σ H' d ⟨l,c,v,rfl⟩;rw[Ag]at d;cases ex:bs[i]? with
   |none=>rw[ex]at d;cases d
   |some b =>
    rw[ex]at d;cases d;have hi:i<bs.length:=(Ac.mp ex).1;have t:∀m,((Ao (m+1)).map λk=>opn bs k).map V.int=((Ao m).map λk=>opn bs k).map V.int++[V.int (opn bs m)]:=λm=>by rw[Bt,Ar,Ar];rfl
    have f:(((Ao (i+1)).map λk=>opn bs k).map V.int).length<=90000:=by rw[Ab,Ab,Aq];lia
    have n:=c;rw[t]at n;have e:∀z,z=opn bs (i+1)->Same H (upd H' q (.lst (((Ao (i+1)).map λk=>opn bs k).map V.int++[V.int z])))/\upd H' q (.lst (((Ao (i+1)).map λk=>opn bs k).map V.int++[V.int z])) q=some (.lst (((Ao (i+1+1)).map λk=>opn bs k).map V.int))/\True:=λz B=>by subst B;exact⟨qai l g,by rw[qk,t (i+1)],trivial⟩
    refine(nmc Z ⟨.inl ⟨Z,_,SqL.of c⟩,(nmc Z (nmc Z ?_))⟩);cases b with
    |true =>obtain⟨r,j,_⟩:=e (opn bs i) (by rw[qle ex];rfl);exact qd6 (nmc Z (nmc Z (lxo (n) (qd5 _ _) ⟨_,_,_,Z,Z,c,qbe f,r,j,_,Z⟩)))
    |false =>obtain⟨r,j,_⟩:=e (opn bs i+1) (by rw[qle ex];rfl);exact qbs (nmc Z (nmc Z (lxo (n) (qd5 _ _) (iic Z Z ⟨_,_,_,Z,Z,c,qbe f,r,j,_,Z⟩))))
  .rintro σ H' ⟨l,c,v,rfl⟩;rw[Ab]at c;exact(nmc Z (k q H' g l c))
theorem qrc (T:Txt K mg a):FnOk P w K mg base CX0 2 a.rB a.rD ["thing"] spWd:=by
 refine T.dD.fn.ok qqb (λvs H Q E h=>?_) (λcdv A outer s H vs Q E d h=>?_)
 .obtain⟨_,rfl,_⟩:=h
  all_goals rfl
 .obtain⟨n,rfl,c,b,k⟩:=h;refine⟨_,(qj (qo (qhk (zc (qhb T) (d.mono Uk) Z T.kY.mgx T.kY.fn.kp T.kY.bd .nil qac (qd (pv 0) qg qe)) (qf7 (qpj qga qga qi (pv 0) qi))))),?_⟩;refine(nmc Z (nmc Z (nmc Z (qd6 (nmc Z (iic Z Z (nmc Z (qcn c (iic Z Z ?_)))))))));show Q (.bl (decide (n<=7))) H;rw[decide_eq_true b];exact k
theorem qpb (T:Txt K mg a):FnOk P w K mg base CX0 3 a.xT a.tL ["week"] spRefW:=by
 refine T.dO.fn.ok qfx (λvs H Q E h=>?_) (λcdv A outer s H vs Q E C h=>?_)
 .obtain⟨_,_,rfl,_⟩:=h
  all_goals rfl
 .obtain⟨p,b,rfl,f,ok,k⟩:=h;refine⟨_,(qj (qa3 A8 Z (qkp Z T.fD (qd (pv 0) qg qe)) (qe0 Z (qar (qag (i:=1) qfx.nd Z (Au Z)) (qar (qag (i:=2) qfx.nd Z (Au Z)) qde))) (qj (zb (PW.pt (qep (qt qch (pv 1) (qbw (v:=.int 6) Z T.zT.choose_spec ⟨_,Z⟩) (qad _)) (qep (qd3 (zf (zc (qrc T) (C.mono Uk) Z T.dD.mgx T.dD.fn.kp T.dD.bd .nil qac (qd (pv 2) qg qe)))) (qd2 (qt qc7 (pv 2) (qgc qh9 (pv 0) qh8 (qfi (pv 1))) (by with_unfolding_all rfl)))))) (qj qfa) qaf)))),?_⟩;have e:=ok.len;refine(nmc Z ⟨_,_,Z,f,qie (K:=K) (a:=p) (xs:=b.map V.int) (λi σ H'=>Same H H'/\∃g j:Option V,σ=[some (.ref p),g,j]) ⟨Same.refl H,none,none,Z⟩ (λi σ H' _ h=>SqL.of (h.1 _ _ f)) ?_ ?_⟩)
  .rintro i x t σ H' c ⟨d,g,j,rfl⟩ B;rw[Ag]at c;cases ex:b[i]? with|none=>rw[ex]at c;cases c|some n =>rw[ex]at c;cases c;have l:i<b.length:=(Ac.mp ex).1;have m:=ok.rng n (A2 ex);have r:=qx (o:=.tup [V.int (i:Int),V.int n]) B;refine⟨_,_,Z,SqT.of qk,Z,_,_,Z,_,_,Z,Z,?_⟩;refine(nmc Z ⟨Z,(nmc Z (qbi (λz=>absurd (Int.ofNat.inj (V.int.inj z)) (AE (A0 l e))) (nmc Z ⟨_,Z,m.1,m.2,(nmc Z (qbs (nmc Z (nmc Z (nmc Z ⟨_,Z,_,_,Z,SqL.of (r _ _ (d _ _ f)),λq y=>?_⟩)))))⟩)))⟩);rw[qqe (b.map V.int) i (by rw[Ab];exact B9 l),<- DJ];have u:=qx (o:=.lst ((b.take i).map V.int)) y;refine⟨_,_,Z,.inl (SqL.of qk),Z,qnq _,(nmc Z ?_)⟩;show if inV (.int n) ((b.take i).map V.int)=true then _ else _;rw[qpy,dup ok.nd ex];exact qbs ⟨(d.trans r).trans u,_,_,Z⟩
  .rintro σ H' ⟨d,g,j,rfl⟩;exact k _ d
theorem qsu (T:Txt K mg a):FnOk P w K mg base CX0 3 a.pH a.nK ["thing"] spYr:=by
 refine T.fF.fn.ok qr6 (λvs H Q E h=>?_) (λcdv A outer s H vs Q E f h=>?_)
 .obtain⟨_,_,rfl,_⟩:=h
  all_goals rfl
 .obtain⟨p,r,rfl,b,c,e,d,g,k⟩:=h;refine⟨_,(qf (zb (qd3 (PW.pt (qc5 (zf (zd qge (by rfl) T.bQ qb4 (qd (pv 0) (qd (qh6 (v:=.ty "tuple") Z T.yZ qr3 Z) qg qe) qe))) (qco (qt qch (zd qb1 (by rfl) T.gA qb5 (qd (pv 0) qg qe)) qi (qad _)))))) (qj (qo qcg)) qaf)
   (qj (qo (qhk (zc (qhh T) (f.mono Uk) Z T.gR.mgx T.gR.fn.kp T.gR.bd .nil qac (qd (zp zq (pv 0) qi (λ_ _=>rfl)) (qd (zp zq (pv 0) qi (λ_ _=>rfl)) (qd (qbw (v:=.int 30) Z T.zZ.choose_spec ⟨_,Z⟩) qg qe) zn) zn)) (qf7 (qdw qc3 (zp zq (pv 0) qi (λ_ _=>rfl)) (qbw (v:=.int 364) Z T.m3.choose_spec ⟨_,Z⟩) (qad _))))))),?_⟩
  refine(nmc Z ⟨_,_,_,_,Z,.tup b,qke,(nmc Z (qd6 (nmc Z ⟨_,_,Z,.inr ⟨_,SqT.of b,Z⟩,Z,(nmc Z (qbs ?_))⟩)))⟩);refine(nmc Z (txo (b) Z (nmc Z (txo (b) Z ⟨_,_,_,Z,c,e,d,(nmc Z (qd6 (nmc Z (txo (b) Z (iic Z Z ?_)))))⟩))));show Q (.bl (decide (r.2<364))) H;rw[decide_eq_true g];exact k
theorem qmp (T:Txt K mg a):FnOk P w K mg base CX0 4 a.mK a.sX ["yearly"] spRefY:=by
 refine T.dH.fn.ok qeh (λvs H Q E h=>?_) (λcdv A outer s H vs Q E y h=>?_)
 .obtain⟨_,_,rfl,_⟩:=h
  all_goals rfl
 .obtain⟨p,yr,rfl,⟨us,f,j⟩,ok,k⟩:=h;refine⟨_,(qj (qa3 A8 Z (qkp Z T.fD (qd (pv 0) qg qe)) (qe0 Z (qar (qag (i:=1) qeh.nd Z (Au Z)) (qar (qag (i:=2) qeh.nd Z (Au Z)) qde))) (qj (zb (PW.pt (qep (qt qch (pv 1) (qbw (v:=.int 4) Z T.zQ.choose_spec ⟨_,Z⟩) (qad _)) (qd2 (qd3 (zf (zc (qsu T) (y.mono Uk) Z T.fF.mgx T.fF.fn.kp T.fF.bd .nil qac (qd (pv 2) qg qe))))))) (qj qfa) qaf)))),?_⟩;have hlen:=ok.len;have lu:us.length=yr.length:=by rw[j.length,Ab]
  refine(nmc Z ⟨_,_,Z,f,qie (K:=K) (a:=p) (xs:=us) (λi σ H'=>Same H H'/\∃d e:Option V,σ=[some (.ref p),d,e]) ⟨Same.refl H,none,none,Z⟩ (λi σ H' _ h=>SqL.of (h.1 _ _ f)) ?_ ?_⟩)
  .rintro i x t σ H' m ⟨b,d,e,rfl⟩ q;obtain⟨n,t1,rfl,B,u⟩:=j.get' m;obtain⟨r,l,rfl⟩:=qqf B;have hi:i<yr.length:=(Ac.mp l).1;have c:=ok.rng r (A2 l);have g:=qx (o:=.tup [V.int (i:Int),V.ref n]) q;refine⟨_,_,Z,SqT.of qk,Z,_,_,Z,_,_,Z,Z,?_⟩;exact(nmc Z ⟨Z,(nmc Z (qbi (λz=>by have:=V.int.inj z;lia) (nmc Z ⟨_,_,Z,g _ _ (b _ _ u),c.1,c.2.1,c.2.2.1,c.2.2.2,(nmc Z (qbs ⟨b.trans g,_,_,Z⟩))⟩)))⟩)
  .rintro σ H' ⟨b,d,e,rfl⟩;exact k _ b
theorem qe9 (T:Txt K mg a):FnOk P w K mg base CX0 1 a.rA a.tP ["things"] spOr:=by
 refine T.gG.fn.ok qm0 (λvs H Q E h=>?_) (λcdv A outer s H vs Q E hr h=>?_)
 .obtain⟨rfl,_⟩|⟨_,rfl,_⟩:=h
  all_goals rfl
 .obtain h:=h;refine⟨_,(qj (qo (qck (qt qcb (pv 0) qat (qad _)) (zh qg) (pv 0)))),?_⟩;rcases h with ⟨rfl,k⟩|⟨p,rfl,k⟩
  .exact(nmc Z ⟨Z,(nmc Z (qcn Z ⟨qdy,λq b=>k q b⟩))⟩)
  .exact(nmc Z ⟨Z,(nmc Z (qbi (λz=>nomatch z) (nmc Z k)))⟩)
theorem okIsRow (T:Txt K mg a):FnOk P w K mg base CX0 3 a.tR a.xI ["row"] spRw:=by
 refine T.dY.fn.ok scIsRow (λvs H Q E h=>?_) (λcdv A outer s H vs Q E i h=>?_)
 .obtain⟨_,_,rfl,_⟩:=h
  all_goals rfl
 .obtain⟨p,r,rfl,b,ok,k⟩:=h;refine⟨_,(qj (qo (qhk (zc (qhh T) (i.mono Uk) Z T.gR.mgx T.gR.fn.kp T.gR.bd .nil qac (qd (zp zq (pv 0) qi (λ_ _=>rfl)) (qd (zp zq (pv 0) qi (λ_ _=>rfl)) (qd (qbw (v:=.int 40) Z T.xV.choose_spec ⟨_,Z⟩) qg qe) zn) zn)) (qhk (zd qge (by rfl) T.bQ qb4 (qd (zp zq (pv 0) qi (λ_ _=>rfl)) (qd (qh6 (v:=.ty "str") Z T.yX qw1 Z) qg qe) zn)) (qf7 (qdw qc7 (zp zq (pv 0) qi (λ_ _=>rfl)) (qbw (v:=.ref a.m4) Z T.xW Z) (by with_unfolding_all rfl))))))),?_⟩;obtain⟨d,g,f,c⟩:=ok;refine(nmc Z (txo (b) Z (nmc Z (txo (b) Z ⟨_,_,_,Z,d,g,f,(nmc Z (qd6 (nmc Z (txo (b) Z ⟨_,_,_,_,Z,.str _,qps,(nmc Z (qd6 (nmc Z (txo (b) Z ⟨_,_,Z,.inr (T.yH _),Z,Z,?_⟩))))⟩))))⟩))));have e:inV (.str r.2.2) [.str (Aa "free"),.str (Aa "open")]=true:=by rcases c with z|z <;>rw[z] <;>decide +kernel
  show Q (.bl (inV (.str r.2.2) [.str (Aa "free"),.str (Aa "open")])) H;rw[e];exact k
theorem qpc (T:Txt K mg a):FnOk P w K mg base CX0 4 a.rO a.mQ ["rows"] spRefR:=by
 refine T.bU.fn.ok qfy (λvs H Q E h=>?_) (λcdv A outer s H vs Q E u h=>?_)
 .obtain⟨_,_,rfl,_⟩:=h
  all_goals rfl
 .obtain⟨p,rs,rfl,⟨us,e,g⟩,hl,ok,k⟩:=h;refine⟨_,(qj (qa3 A8 Z (qkp Z T.fD (qd (pv 0) qg qe)) (qe0 Z (qar (qag (i:=1) qfy.nd Z (Au Z)) (qar (qag (i:=2) qfy.nd Z (Au Z)) qde))) (qj (zb (PW.pt (qep (qt qch (pv 1) (qbw (v:=.int 12) Z T.yL.choose_spec ⟨_,Z⟩) (qad _)) (qd2 (qd3 (zf (zc (okIsRow T) (u.mono Uk) Z T.dY.mgx T.dY.fn.kp T.dY.bd .nil qac (qd (pv 2) qg qe))))))) (qj qfa) qaf)))),?_⟩;have lu:us.length=rs.length:=by rw[g.length,Ab]
  refine(nmc Z ⟨_,_,Z,e,qie (K:=K) (a:=p) (xs:=us) (λi σ H'=>Same H H'/\∃c d:Option V,σ=[some (.ref p),c,d]) ⟨Same.refl H,none,none,Z⟩ (λi σ H' _ h=>SqL.of (h.1 _ _ e)) ?_ ?_⟩)
  .rintro i x t σ H' l ⟨b,c,d,rfl⟩ n;obtain⟨m,t1,rfl,y,q⟩:=g.get' l;obtain⟨r,j,rfl⟩:=qkr y;have hi:i<rs.length:=(Ac.mp j).1;have B:=ok r (A2 j);have f:=qx (o:=.tup [V.int (i:Int),V.ref m]) n;refine⟨_,_,Z,SqT.of qk,Z,_,_,Z,_,_,Z,Z,?_⟩;exact(nmc Z ⟨Z,(nmc Z (qbi (λz=>by have:=V.int.inj z;lia) (nmc Z ⟨_,_,Z,f _ _ (b _ _ q),B,(nmc Z (qbs ⟨b.trans f,_,_,Z⟩))⟩)))⟩)
  .rintro σ H' ⟨b,c,d,rfl⟩;exact k _ b
theorem qez (T:Txt K mg a):FnOk P w K mg base CX0 1 a.rR a.xC ["_law_script","_law_k"] (spCell K):=by
 refine T.kX.fn.ok qqc (λvs H Q E h=>?_) (λcdv A outer s H vs Q E hr h=>?_)
 .obtain⟨_,_,_,rfl,_⟩:=h
  all_goals rfl
 .obtain⟨l,f,i,rfl,b,d,k⟩:=h;refine⟨_,(qf (zb (qt qc3 (pv 1) (zd qb1 (by rfl) T.gA qb5 (qd (pv 0) qg qe)) (qad _)) (qj (qo (zp zr (pv 0) (pv 1) (λ_ _=>rfl)))) qaf)
   (qj (qo qi))),?_⟩
  refine(nmc Z (nmc Z ⟨_,_,Z,.inl ⟨_,b,Z⟩,(iic Z Z (nmc Z ?_))⟩));refine qbx (λc=>?_) (λc=>?_)
  .exact(nmc Z (nmc Z ⟨_,_,_,_,Z,Z,b,qxe d (of_decide_eq_true c),k⟩))
  .have e:cell f i=0:=qxf (λz=>c (decide_eq_true z));rw[e]at k;exact k
theorem qb0 (T:Txt K mg a):FnOk P w K mg base CX0 2 a.xA a.mO ["_law_script","_law_k"] (spMix K):=by
 refine T.kM.fn.ok qly (λvs H Q E h=>?_) (λcdv A outer s H vs Q E c h=>?_)
 .obtain⟨_,_,_,rfl,_⟩:=h
  all_goals rfl
 .obtain⟨l,ns,i,rfl,d,b,h1,k⟩:=h;refine⟨_,(qf (qu (i:=2) qly.nd Z (Au Z) (qv qah (qv qah (zc (qez T) (c.mono Uk) Z T.kX.mgx T.kX.fn.kp T.kX.bd .nil qac (qd (pv 0) (qd (pv 1) qg qe) qe)) qi) (qv qbl (pv 1) (pv 1))))
   (qj (qo (qv qau (qv qbl (qv qau (qv qbl (pv 2) qi) qi) (qv qah qi (qv qbl qi (pv 1)))) qi)))),?_⟩
  refine(nmc Z (nmc Z ⟨_,_,_,Z,d,b,(iic Z Z (nmc Z (nmc Z (iic Z Z ⟨.inr ⟨by lia,by lia⟩,(iic Z Z ?_)⟩))))⟩));dsimp only[qa8,AA,AB];refine(nmc Z (iic Z Z ⟨.inr ⟨Uk,Uk⟩,(icc Z Z (pos Uk) (nmc Z (iic Z Z ⟨.inl ⟨Uk,Uk⟩,(iic Z Z (iic Z Z ⟨.inr ⟨by lia,by lia⟩,(icc Z Z (pos Uk) ?_)⟩))⟩)))⟩));exact k
theorem qmq (T:Txt K mg a):FnOk P w K mg base CX0 1 a.nV a.rE ["_law_cell","_law_many"] spWords:=by
 refine T.gP.fn.ok qbd (λvs H Q E h=>?_) (λcdv A outer s H vs Q E hr h=>?_)
 .obtain⟨_,_,rfl,_⟩:=h
  all_goals rfl
 .obtain⟨c,m,rfl,hm,k⟩:=h;refine⟨_,(qf (qu (i:=2) qbd.nd Z (Au Z) zg)
   (qf (qu (i:=3) qbd.nd Z (Au Z) (qv qah qi (qv qau (pv 0) qi)))
   (qf (qu (i:=4) qbd.nd Z (Au Z) (qv qau (qv qa1 (pv 0) qi) (pv 3)))
   (qf (qu (i:=5) qbd.nd Z (Au Z) (zh qg))
   (qf (qa3 A8 Z (qbp Z T.gB (qd (pv 1) qg qe)) (qag (i:=6) qbd.nd Z (Au Z)) (qf (qu (i:=7) qbd.nd Z (Au Z) (zp zr (zh (qd (pv 3) (qd (qv qah qi (qv qau (pv 6) (pv 3))) qg zm) qe)) (qv qau (qv qa1 (pv 0) qi) qi) (λ_ _=>rfl)))
   (qf (qu (i:=8) qbd.nd Z (Au Z) zg)
   (qf (qa3 A8 Z (qbp Z T.gB (qd (pv 7) qg qe)) (qag (i:=9) qbd.nd Z (Au Z)) (qf (qu (i:=10) qbd.nd Z (Au Z) (qv qah (qv qa1 (pv 0) qi) (qv qbl (qv qbl qi (pv 9)) (pv 9))))
   (qf (zb (qt qch (pv 9) (zd (qna Z) (by rfl) T.sI qp5 (qd (pv 4) (qd (qv qbq (pv 7) qi) qg zm) qe)) (qad _)) (qj (qu (i:=10) qbd.nd Z (Au Z) (qv qah (pv 10) (pv 6)))) qaf)
   (qj (qu (i:=8) qbd.nd Z (Au Z) (qv qri (pv 8) (zp ix_str (pv 2) (qv qau (pv 10) qi) (λ_ _=>rfl))))))))
   (qj (qz (qbr Ax A3 A4 qam (pv 5) (qd (pv 8) qg qe))))))))
   (qj (qo (pv 5)))))))),?_⟩
  have J:=az_len;have zs:=qsf c;refine(nmc Z (icc Z Z (pos Uk) (iic Z Z ?_)));refine(nmc Z (icc Z Z ⟨Uk,Uk⟩ (nmc Z (iic Z Z ⟨(show 0<wsz c by lia),qdy,λq t=>?_⟩))));obtain⟨D,x⟩:=alc (o:=.lst []) t;generalize upd H q _=H1 at D x |-;refine(nmc Z ⟨_,Z,by lia,by lia,qc6 (lo:=0) (n:=((m:Int)).toNat) (λi σ H'=>Same H H'/\H' q=some (.lst ((wds c i).map V.str))/\∃v l u d b:Option V,σ=[some (.int c),some (.int (m:Int)),some (.str az),some (.int (wsz c)),some (.int (c / 8 % wsz c)),some (.ref q),v,l,u,d,b]) ⟨D,x,none,none,none,none,none,Z⟩ ?_ ?_⟩)
  .rintro i σ H' M ⟨r,f,v,l,u,d,b,rfl⟩;have M:i<m:=by lia
   have ff:=qku c (i:Int);rw[Cj];refine(nmc Z (nmc Z (nmc Z (iic Z Z ⟨(show 0<wsz c by lia),(iic Z Z ⟨qqd _ _,λO y=>?_⟩)⟩))));dsimp only[];obtain⟨g,F⟩:=alc (o:=.lst [V.int (wsz c),V.int (1+(i:Int) % wsz c)]) y;generalize upd H' O _=H3 at g F |-;refine(nmc Z (icc Z Z ⟨Uk,Uk⟩ (icc Z Z (pos Uk) (lxo (F) (far_at c (i:Int)) ?_))));refine(nmc Z ⟨_,Z,by lia,by lia,qc6 (lo:=0) (n:=(qf5 c (i:Int)).toNat) (λj σ H'=>H'=H3/\∃d b:Option V,σ=[some (.int c),some (.int (m:Int)),some (.str az),some (.int (wsz c)),some (.int (c / 8 % wsz c)),some (.ref q),some (.int (i:Int)),some (.int (qf5 c (i:Int))),some (.str ⟨(wl c (i:Int) j).toArray⟩),d,b]) ⟨Z,_,_,Z⟩ ?_ ?_⟩)
   .rintro j σ I N ⟨rfl,d,b,rfl⟩;have N:(j:Int)<qf5 c (i:Int):=by lia
    rw[Cj];have C:=qx0 (wl c (i:Int) j) (97+(won c (i:Int) (j:Int) % 26).toNat);rw[<- wl_succ]at C;have R:(wl c (i:Int) j).length=j:=by unfold wl;rw[Ab,Aq]
    apply useF (p:=λo=>o=won c (i:Int) (j:Int))
    .intro B;refine(nmc Z (icc Z Z ⟨Uk,Uk⟩ (nmc Z (iic Z Z ⟨.inl ⟨Uk,Uk⟩,(nmc Z (iic Z Z ⟨.inr ⟨by lia,by lia⟩,(iic Z Z ?_)⟩))⟩))));dsimp only[qa8,AA,AB];refine(nmc Z (nmc Z (nmc Z (iic Z Z ⟨_,_,Z,Z,(nmc Z (qbx (λe=>?_) (λe=>?_)))⟩))))
     rotate_left
     .have e:¬(j:Int)=qkj c (i:Int):=λz=>e (decide_eq_true (congrArg V.int z));have G:c / 64+7*(j:Int)*(j:Int)=won c (i:Int) (j:Int):=by unfold won;rw[if_neg e]
      generalize c / 64+7*(j:Int)*(j:Int)=o at G |-;exact B o G
     .have e:(j:Int)=qkj c (i:Int):=V.int.inj (of_decide_eq_true e);exact(nmc Z (nmc Z (iic Z Z (B _ (by unfold won;rw[if_pos e])))))
    .rintro o rfl;refine(nmc Z (nmc Z (nmc Z (icc Z Z (pos Uk) ⟨_,_,_,Z,Z,qdd (by rw[J];decide),az_ix,_,_,Z,Z,qdd (by show (wl c (i:Int) j).toArray.size+1<=_;rw[Aj,R];lia),Z,some (.int (j:Int)),some (.int (won c (i:Int) (j:Int))),?_⟩))));rw[C];rfl
   .rintro σ I ⟨rfl,d,b,rfl⟩;have L:((wds c i).map V.str).length<=90000:=by rw[Ab,qkv];lia
    refine(nmc Z ⟨.inl ⟨Z,_,SqL.of (g _ _ f)⟩,(nmc Z ⟨_,_,_,Z,Z,g _ _ f,qbe L,qai (r.trans g) t,?_,_,_,_,_,_,Z⟩)⟩);rw[qx1,Ar,qk];rfl
  .rintro σ H' ⟨r,f,v,l,u,d,b,rfl⟩;rw[B8]at f;exact(nmc Z (k q H' t r f))
theorem qsv (T:Txt K mg a):FnOk P w K mg base CX0 1 a.lH a.xQ ["self","name","who","owes","opens","base","many","unit","still"] (qxv a):=by
 refine T.nZ.fn.ok qr7 (λvs H Q E h=>?_) (λcdv A outer s H vs Q E hr h=>?_)
 .obtain⟨_,_,_,_,_,_,_,_,_,_,rfl,_⟩:=h
  all_goals rfl
 .obtain⟨x,m,b,c,d,f,i,l,n,g,rfl,hx,k⟩:=h;refine⟨_,(qf (qay (pv 0) (pv 1) Z)
   (qf (qay (pv 0) (pv 2) Z)
   (qf (qay (pv 0) (pv 3) Z)
   (qf (qay (pv 0) (pv 4) Z)
   (qf (qay (pv 0) (pv 5) Z)
   (qf (qay (pv 0) (pv 6) Z)
   (qf (qay (pv 0) (pv 7) Z)
   (qf (qay (pv 0) (pv 8) Z)
   (qf (qay (pv 0) (zh qg) Z)
   (qf (qay (pv 0) (zh qg) Z)
   (qf (qay (pv 0) (zh qg) Z)
   (qj (qay (pv 0) (zh qg) Z))))))))))))),?_⟩
  have b0:SameBut x H H:=λ_ _ _ e=>e;have x0:=hx;refine(nmc Z (nmc Z ⟨_,_,_,_,Z,x0,T.kG,qp T.kH Uk,(show 0<1000 by decide),?_⟩));rw[show qbf (Aa "name") b []=(rq1 b) by with_unfolding_all rfl];have b1:SameBut x H (upd H x (.ins a.kE m (rq1 b))):=b0.set;have x1:=qk (H:=H) (a:=x) (o:=.ins a.kE m (rq1 b));generalize upd H x _=H1 at b1 x1 |-;refine(nmc Z (nmc Z ⟨_,_,_,_,Z,x1,T.kG,qp T.kH Uk,(show 1<1000 by decide),?_⟩));rw[show qbf (Aa "who") c (rq1 b)=(rq2 b c) by with_unfolding_all rfl];have b2:SameBut x H (upd H1 x (.ins a.kE m (rq2 b c))):=b1.set;have x2:=qk (H:=H1) (a:=x) (o:=.ins a.kE m (rq2 b c));generalize upd H1 x _=H2 at b2 x2 |-;refine(nmc Z (nmc Z ⟨_,_,_,_,Z,x2,T.kG,qp T.kH Uk,(show 2<1000 by decide),?_⟩));rw[show qbf (Aa "owes") d (rq2 b c)=(rq3 b c d) by with_unfolding_all rfl];have b3:SameBut x H (upd H2 x (.ins a.kE m (rq3 b c d))):=b2.set;have x3:=qk (H:=H2) (a:=x) (o:=.ins a.kE m (rq3 b c d));generalize upd H2 x _=H3 at b3 x3 |-;refine(nmc Z (nmc Z ⟨_,_,_,_,Z,x3,T.kG,qp T.kH Uk,(show 3<1000 by decide),?_⟩));rw[show qbf (Aa "opens") f (rq3 b c d)=(rq4 b c d f) by with_unfolding_all rfl];have b4:SameBut x H (upd H3 x (.ins a.kE m (rq4 b c d f))):=b3.set;have x4:=qk (H:=H3) (a:=x) (o:=.ins a.kE m (rq4 b c d f));generalize upd H3 x _=H4 at b4 x4 |-;refine(nmc Z (nmc Z ⟨_,_,_,_,Z,x4,T.kG,qp T.kH Uk,(show 4<1000 by decide),?_⟩));rw[show qbf (Aa "base") i (rq4 b c d f)=(rq5 b c d f i) by with_unfolding_all rfl];have b5:SameBut x H (upd H4 x (.ins a.kE m (rq5 b c d f i))):=b4.set;have x5:=qk (H:=H4) (a:=x) (o:=.ins a.kE m (rq5 b c d f i));generalize upd H4 x _=H5 at b5 x5 |-;refine(nmc Z (nmc Z ⟨_,_,_,_,Z,x5,T.kG,qp T.kH Uk,(show 5<1000 by decide),?_⟩));rw[show qbf (Aa "many") l (rq5 b c d f i)=(rq6 b c d f i l) by with_unfolding_all rfl];have b6:SameBut x H (upd H5 x (.ins a.kE m (rq6 b c d f i l))):=b5.set;have x6:=qk (H:=H5) (a:=x) (o:=.ins a.kE m (rq6 b c d f i l));generalize upd H5 x _=H6 at b6 x6 |-;refine(nmc Z (nmc Z ⟨_,_,_,_,Z,x6,T.kG,qp T.kH Uk,(show 6<1000 by decide),?_⟩));rw[show qbf (Aa "unit") n (rq6 b c d f i l)=(rq7 b c d f i l n) by with_unfolding_all rfl];have b7:SameBut x H (upd H6 x (.ins a.kE m (rq7 b c d f i l n))):=b6.set;have x7:=qk (H:=H6) (a:=x) (o:=.ins a.kE m (rq7 b c d f i l n));generalize upd H6 x _=H7 at b7 x7 |-;refine(nmc Z (nmc Z ⟨_,_,_,_,Z,x7,T.kG,qp T.kH Uk,(show 7<1000 by decide),?_⟩));rw[show qbf (Aa "still") g (rq7 b c d f i l n)=(rq8 b c d f i l n g) by with_unfolding_all rfl];have b8:SameBut x H (upd H7 x (.ins a.kE m (rq8 b c d f i l n g))):=b7.set;have x8:=qk (H:=H7) (a:=x) (o:=.ins a.kE m (rq8 b c d f i l n g));generalize upd H7 x _=H8 at b8 x8 |-;refine⟨qdy,λp L=>?_⟩;obtain⟨s8,j⟩:=alc (o:=.lst []) L;have ak:=s8 _ _ x8;have v:p≠x:=λz=>by rw[z,x8]at L;cases L
  have al:H p=none:=b8.free v L;have ag:=b8.trans (SameBut.of s8);generalize upd H8 p _=J8 at s8 j ak ag  |-;refine(nmc Z ⟨_,_,_,_,Z,ak,T.kG,qp T.kH Uk,(show 8<1000 by decide),?_⟩);rw[show qbf (Aa "ends") (.ref p) (rq8 b c d f i l n g)=(rq9 b c d f i l n g (.ref p)) by with_unfolding_all rfl];have b9:SameBut x H (upd J8 x (.ins a.kE m (rq9 b c d f i l n g (.ref p)))):=ag.set;have x9:=qk (H:=J8) (a:=x) (o:=.ins a.kE m (rq9 b c d f i l n g (.ref p)));have j:=(qr (o:=.ins a.kE m (rq9 b c d f i l n g (.ref p))) v).trans j;generalize upd J8 x _=H9 at b9 x9 j  |-;refine⟨qdy,λr F=>?_⟩;obtain⟨s9,q⟩:=alc (o:=.lst []) F;have ai:=s9 _ _ x9;have D:r≠x:=λz=>by rw[z,x9]at F;cases F
  have am:H r=none:=b9.free D F;have ad:=qae j F;have j:=s9 _ _ j;have ah:=b9.trans (SameBut.of s9);generalize upd H9 r _=J9 at s9 q ai ah j |-;refine(nmc Z ⟨_,_,_,_,Z,ai,T.kG,qp T.kH Uk,(show 9<1000 by decide),?_⟩);rw[show qbf (Aa "anew") (.ref r) (rq9 b c d f i l n g (.ref p))=(qsb b c d f i l n g (.ref p) (.ref r)) by with_unfolding_all rfl];have N:SameBut x H (upd J9 x (.ins a.kE m (qsb b c d f i l n g (.ref p) (.ref r)))):=ah.set;have M:=qk (H:=J9) (a:=x) (o:=.ins a.kE m (qsb b c d f i l n g (.ref p) (.ref r)));have q:=(qr (o:=.ins a.kE m (qsb b c d f i l n g (.ref p) (.ref r))) D).trans q;have j:=(qr (o:=.ins a.kE m (qsb b c d f i l n g (.ref p) (.ref r))) v).trans j;generalize upd J9 x _=H10 at N M q j |-;refine⟨qdy,λpl C=>?_⟩;obtain⟨G,t⟩:=alc (o:=.lst []) C;have R:=G _ _ M;have I:pl≠x:=λz=>by rw[z,M]at C;cases C
  have ao:H pl=none:=N.free I C;have ae:=qae j C;have Y:=qae q C;have j:=G _ _ j;have q:=G _ _ q;have V:=N.trans (SameBut.of G);generalize upd H10 pl _=J10 at G t R V j q |-;refine(nmc Z ⟨_,_,_,_,Z,R,T.kG,qp T.kH Uk,(show 10<1000 by decide),?_⟩);rw[show qbf (Aa "longer") (.ref pl) (qsb b c d f i l n g (.ref p) (.ref r))=(qqo b c d f i l n g (.ref p) (.ref r) (.ref pl)) by with_unfolding_all rfl];have U:SameBut x H (upd J10 x (.ins a.kE m (qqo b c d f i l n g (.ref p) (.ref r) (.ref pl)))):=V.set;have S:=qk (H:=J10) (a:=x) (o:=.ins a.kE m (qqo b c d f i l n g (.ref p) (.ref r) (.ref pl)));have t:=(qr (o:=.ins a.kE m (qqo b c d f i l n g (.ref p) (.ref r) (.ref pl))) I).trans t;have j:=(qr (o:=.ins a.kE m (qqo b c d f i l n g (.ref p) (.ref r) (.ref pl))) v).trans j;have q:=(qr (o:=.ins a.kE m (qqo b c d f i l n g (.ref p) (.ref r) (.ref pl))) D).trans q;generalize upd J10 x _=H11 at U S t j q |-;refine⟨qdy,λu y=>?_⟩;obtain⟨B,J⟩:=alc (o:=.lst []) y;have O:=B _ _ S;have X:u≠x:=λz=>by rw[z,S]at y;cases y
  have fpy:H u=none:=U.free X y;have dpepy:=qae j y;have dpapy:=qae q y;have dplpy:=qae t y;have j:=B _ _ j;have q:=B _ _ q;have t:=B _ _ t;have W:=U.trans (SameBut.of B);generalize upd H11 u _=J11 at B J O W j q t |-;refine(nmc Z ⟨_,_,_,_,Z,O,T.kG,qp T.kH Uk,(show 11<1000 by decide),?_⟩);rw[show qbf (Aa "yields") (.ref u) (qqo b c d f i l n g (.ref p) (.ref r) (.ref pl))=(qsc b c d f i l n g (.ref p) (.ref r) (.ref pl) (.ref u)) by with_unfolding_all rfl];have aj:SameBut x H (upd J11 x (.ins a.kE m (qsc b c d f i l n g (.ref p) (.ref r) (.ref pl) (.ref u)))):=W.set;have af:=qk (H:=J11) (a:=x) (o:=.ins a.kE m (qsc b c d f i l n g (.ref p) (.ref r) (.ref pl) (.ref u)));have J:=(qr (o:=.ins a.kE m (qsc b c d f i l n g (.ref p) (.ref r) (.ref pl) (.ref u))) X).trans J;have j:=(qr (o:=.ins a.kE m (qsc b c d f i l n g (.ref p) (.ref r) (.ref pl) (.ref u))) v).trans j;have q:=(qr (o:=.ins a.kE m (qsc b c d f i l n g (.ref p) (.ref r) (.ref pl) (.ref u))) D).trans q;have t:=(qr (o:=.ins a.kE m (qsc b c d f i l n g (.ref p) (.ref r) (.ref pl) (.ref u))) I).trans t;generalize upd J11 x _=H12 at aj af J j q t |-;exact k H12 p r pl u aj al am ao af j q t ae Y ad
theorem qvs (T:Txt K mg a):FnOk P w K mg base CX0 3 a.nA a.tO ["_law_script","_law_at","_law_k","_law_names","_law_kinds"] (spRl55 a K):=by
 refine T.dS.fn.ok qa7 (λvs H Q E h=>?_) (λcdv A outer s H vs Q E hr h=>?_)
 .obtain⟨_,_,_,_,_,_,_,rfl,_⟩:=h
  all_goals rfl
 .obtain⟨l,pn,r,ns,names,U,i,rfl,hS,hn,ln,hk,lk,hi,k⟩:=h;refine⟨_,(qf (qu (i:=5) qa7.nd Z (DC Z) (zc (qb0 T) (hr.mono Uk) Z T.kM.mgx T.kM.fn.kp T.kM.bd .nil qac (qd (pv 0) (qd (qv qah (pv 1) (qv qbl qi (pv 2))) qg zm) qe)))
   (qf (qu (i:=6) qa7.nd Z (Au Z) (zc (qb0 T) (hr.mono Uk) Z T.kM.mgx T.kM.fn.kp T.kM.bd .nil qac (qd (pv 0) (qd (qv qah (qv qah (pv 1) (qv qbl qi (pv 2))) qi) qg zm) qe)))
   (qf (qla (i:=7) qa7.nd Z Z (N:=["_law_j","_law_kinds","_law_one"]) (js:=[none,some 4,some 5]) (XN:=["_law_script","_law_at","_law_k","_law_names","_law_kinds","_law_one","_law_two","_law_mine","_law_base","_law_opens","_law_still","_law_unit","_law_rule_here","_law_j"]) (xs:=qaa qih) Z Z Z Ez (qbp Z T.gB (qd qi qg ql)) (λ_ _ _ _ _ _=>(qag (i:=0) (show Cw (["_law_j","_law_kinds","_law_one"]:List Str) from by decide +kernel) Z (Au Z) (DC Z))) (λ_ _ _ _ _ _=>qfj) (λ_ _ _ _ _ _=>(zp (qpu (K:=K) Z) (pv 1) (qv qau (qv qah (pv 2) (qv qbl (pv 0) (qv qah qi (qv qau (qv qa1 (pv 2) qi) qi)))) qi) (λ_ _=>rfl))))
   (qf (qu (i:=8) qa7.nd Z (Au Z) qat)
   (qf (qu (i:=9) qa7.nd Z (Au Z) (zp zr (pv 7) qi (λ_ _=>rfl)))
   (qf (zb (PW.pt (qc5 (qt qpi (pv 2) qi (qad _)) (qco (qt qpi (qv qau (qv qa1 (pv 5) qi) qi) qi (qad _))))) (qf (qu (i:=8) qa7.nd Z (Au Z) (zp zr (pv 3) (qv qau (qv qa1 (pv 5) qi) (pv 2)) (λ_ _=>rfl)))
   (qj (qu (i:=9) qa7.nd Z (Au Z) qat))) qaf)
   (qf (qu (i:=10) qa7.nd Z (Au Z) qat)
   (qf (zb (qt qpi (qv qau (qv qa1 (pv 6) qi) qi) qi (qad _)) (qj (qu (i:=10) qa7.nd Z (Au Z) (zj (qd (zp zr (pv 7) qi (λ_ _=>rfl)) (qd (zp zr (pv 7) qi (λ_ _=>rfl)) qg zn) zn)))) qaf)
   (qf (qu (i:=11) qa7.nd Z (Au Z) (zp zr (zh (qd zg (qd zg (qd zg qg ql) ql) ql)) (qv qau (pv 6) qi) (λ_ _=>rfl)))
   (qf (qu (i:=12) qa7.nd Z (Au Z) (qdx T.zU (qsv T) (hr.mono Uk) Z T.zC T.nZ.bd .nil qac (qd (zp zr (pv 3) (pv 2) (λ_ _=>rfl)) (qd (zp zr (pv 3) (qv qah qi (qv qau (qv qa1 (pv 6) qi) qi)) (λ_ _=>rfl)) (qd (zp zr (pv 7) qi (λ_ _=>rfl)) (qd (pv 9) (qd (pv 8) (qd (qv qah qi (qv qau (qv qau (qv qa1 (pv 6) qi) qi) qi)) (qd (pv 11) (qd (pv 10) qg qe) qe) zm) qe) qe) zn) zn) zn)))
   (qf (qa3 A8 Z (qbp Z T.gB (qd (qv qau (qv qa1 (pv 6) qi) qi) qg zm)) (qag (i:=13) qa7.nd Z (Au Z)) (qj (qz (qbr Ax A3 A4 qam (qab (pv 12) Z) (qd (zp zr (pv 7) (qv qah qi (qv qbl qi (pv 13))) (λ_ _=>rfl)) qg zn)))))
   (qf (qa3 A8 Z (qbp Z T.gB (qd (qv qau (qv qa1 (pv 6) qi) qi) qg zm)) (qag (i:=13) qa7.nd Z (Au Z)) (qj (qz (qbr Ax A3 A4 qam (qab (pv 12) Z) (qd (zp zr (pv 7) (qv qah qi (qv qbl qi (pv 13))) (λ_ _=>rfl)) qg zn)))))
   (qf (qa3 A8 Z (qbp Z T.gB (qd (qv qau (qv qa1 (pv 6) qi) qi) qg zm)) (qag (i:=13) qa7.nd Z (Au Z)) (qj (qz (qbr Ax A3 A4 qam (qab (pv 12) Z) (qd (zj (qd (zp zr (pv 7) (qv qah qi (pv 13)) (λ_ _=>rfl)) (qd (qv qah qi (qv qau (qv qa1 (pv 6) qi) qi)) (qd (qv qah qi (qv qau (qv qa1 (pv 6) qi) qi)) qg zm) zm) zn)) qg zo)))))
   (qj (qo (pv 12)))))))))))))))),?_⟩
  refine(nmc Z (nmc Z (nmc Z (iic Z Z ⟨.inl ⟨Uk,Uk⟩,(iic Z Z ⟨l,ns,_,Z,hS,by lia,by lia,?_⟩)⟩))));dsimp only[qa8,AA,AB];refine(nmc Z (nmc Z (nmc Z (iic Z Z ⟨.inl ⟨Uk,Uk⟩,(iic Z Z (iic Z Z ⟨l,ns,_,Z,hS,by lia,by lia,?_⟩))⟩))));dsimp only[qa8,AA,AB];have m1:=qiy ns (4+2*(i:Int));have m2:=qiy ns (4+2*(i:Int)+1);generalize qem ns (4+2*(i:Int))=one at m1 |-;generalize qem ns (4+2*(i:Int)+1)=two at m2 |-;refine⟨_,Z,Uk,Uk,?_⟩;let fm:V->V:=λv=>match v with
   |.int j=>.str (U.getD ((one+j*(1+one / 11 % 10)) % 11).toNat Ba)
   |_=>.non
  refine qg2 fm (λσ'=>∃v,σ'=[v,some (.ref r),some (.int one)]) qet (qdd (by rw[Ab,Aq];decide)) ⟨none,Z⟩ (λv σ' H' RR hv sm s4 q=>?_) qeu λC c9=>?_
  .obtain⟨v0,rfl⟩:=s4;obtain⟨j,D,rfl⟩:=AU.mp hv;have D:j<10:=AN.mp D;have q:=q [some (.int (0+(j:Int))),some (.ref r),some (.int one)] ⟨_,Z⟩;exact(nmc Z (nmc Z (nmc Z (nmc Z (icc Z Z ⟨Uk,Uk⟩ (icc Z Z (pos Uk) (iic Z Z (iic Z Z ⟨.inr ⟨by lia,by lia⟩,(iic Z Z (icc Z Z (pos Uk) (lxo (sm _ _ hk) ((qg0 (Ce _ Uk) (by have:=C9 (one+(0+(j:Int))*(1+one / 11 % 10)) (show (0:Int)<11 by decide);lia))) q)))⟩))))))))
  obtain⟨ms,ems,lms⟩:∃ms:List Str,((Ao ((10:Int)).toNat).map λ(j:Nat)=>V.int (0+(j:Int))).map fm=ms.map V.str/\ms.length=10:=by refine⟨(Ao 10).map λ(j:Nat)=>U.getD ((one+(0+(j:Int))*(1+one / 11 % 10)) % 11).toNat Ba,?_,by rw[Ab,Aq]⟩;rw[Ca,Ca];rfl
  rw[ems];obtain⟨s7,e7⟩:=alc (o:=.lst (ms.map V.str)) c9;generalize upd H C _=H7 at s7 e7 |-;dsimp only[qa8,AA,AB];refine(nmc Z (lxo (e7) ((qn4 (j:=0) (by lia))) ?_));dsimp only[qa8,AA,AB];apply useS2 (p:=λvb vo=>∃(b:Option Nat)(o:Option Str),vb=some (bvN names b)/\vo=some (opV o)/\(∀y,b=some y->y<i)/\(b=none->∃z,o=some z)) (f:=λvb vo=>[some (.ref l),some (.int 4),some (.int (i:Int)),some (.ref pn),some (.ref r),some (.int one),some (.int two),some (.ref C),vb,vo,none,none,none,none]) (J:=H7)
  .intro X;have ad:∀o',o'=some (opV (some (ms.getD 0 Ba)))->∃(b:Option Nat)(o:Option Str),some V.non=some (bvN names b)/\o'=some (opV o)/\(∀y,b=some y->y<i)/\(b=none->∃z,o=some z):=λo' e=>⟨none,_,Z,e,(λy z=>by cases z),λ_=>⟨_,Z⟩⟩;refine(nmc Z (iic Z Z ⟨_,Z,qbx (λc1=>(nmc Z (icc Z Z ⟨Uk,Uk⟩ (icc Z Z (pos Uk) (iic Z Z ⟨_,Z,qbx (λc2=>?_) (λc2=>?_)⟩))))) (λc1=>?_)⟩))
   .have c1:0<(i:Int):=of_decide_eq_true c1;have r1:=Ce (one / 330) (show (i:Int)≠0 by lia);have r2:=C9 (one / 330) c1;refine(nmc Z (nmc Z (icc Z Z ⟨Uk,Uk⟩ (nmc Z (iic Z Z ⟨c1,(lxo (s7 _ _ hn) (qg0 r1 (by lia)) ?_)⟩)))));dsimp only[qa8,AA,AB];refine as2 (σ':=[some (.ref l),some (.int 4),some (.int (i:Int)),some (.ref pn),some (.ref r),some (.int one),some (.int two),some (.ref C),some (bvN names (some (one / 330 % (i:Int)).toNat)),some (opV none),none,none,none,none]) (by rfl) ?_;exact X _ _ ⟨some _,none,Z,Z,(λy z=>by cases z;lia),(λz=>by cases z)⟩
   .exact tn2 (σ':=[some (.ref l),some (.int 4),some (.int (i:Int)),some (.ref pn),some (.ref r),some (.int one),some (.int two),some (.ref C),some V.non,some (opV (some (ms.getD 0 Ba))),none,none,none,none]) rfl (X _ _ (ad _ Z))
   .exact qbs (tn2 (σ':=[some (.ref l),some (.int 4),some (.int (i:Int)),some (.ref pn),some (.ref r),some (.int one),some (.int two),some (.ref C),some V.non,some (opV (some (ms.getD 0 Ba))),none,none,none,none]) Z (X _ _ (ad _ Z)))
  rintro _ _ ⟨b,o,rfl,rfl,hb,ho⟩;apply qyl (p:=λvs J=>∃(S:V)(so:Option (Str×Str)),vs=some S/\Same H7 J/\StAt (nwp H J) S so) (f:=λv=>[some (.ref l),some (.int 4),some (.int (i:Int)),some (.ref pn),some (.ref r),some (.int one),some (.int two),some (.ref C),some (bvN names b),some (opV o),v,none,none,none])
  .intro X;refine(nmc Z (icc Z Z ⟨Uk,Uk⟩ (icc Z Z (pos Uk) (iic Z Z ⟨_,Z,qbx (λc=>?_) (λc=>?_)⟩))))
   .refine(nmc Z (lxo (e7) ((qn4 (j:=6) (by lia))) (nmc Z (lxo (e7) ((qn4 (j:=7) (by lia))) ⟨qqd _ _,λt O=>?_⟩))));refine gn2 (σ':=[some (.ref l),some (.int 4),some (.int (i:Int)),some (.ref pn),some (.ref r),some (.int one),some (.int two),some (.ref C),some (bvN names b),some (opV o),some (.ref t),none,none,none]) rfl ?_;exact X (some (.ref t)) _ ⟨.ref t,some (_,_),Z,qx O,t,Z,qe8 (s7.free O) qk⟩
   .exact tn2 (σ':=[some (.ref l),some (.int 4),some (.int (i:Int)),some (.ref pn),some (.ref r),some (.int one),some (.int two),some (.ref C),some (bvN names b),some (opV o),some .non,none,none,none]) rfl (X (some .non) H7 ⟨.non,none,Z,Same.refl _,Z⟩)
  rintro _ J ⟨S,so,rfl,sJ,bh⟩;refine⟨qjr _ _ _,λq3 bz=>?_⟩;obtain⟨s8,e8⟩:=alc (o:=.lst [V.str (Aa "days"),V.str (Aa "weeks"),V.str (Aa "court")]) bz;generalize upd J q3 _=H8 at s8 e8 |-;refine(nmc Z (icc Z Z (pos Uk) (lxo (e8) (uix_at two) ?_)));dsimp only[qa8,AA,AB];have I:=s7.trans (sJ.trans s8);have W:=(sJ.trans s8) _ _ e7;refine(nmc Z (nmc Z (lxo (I _ _ hn) (qn4 (j:=i) (by lia)) (nmc Z (nmc Z (icc Z Z ⟨Uk,Uk⟩ (icc Z Z (pos Uk) (iic Z Z (lxo (I _ _ hn) (qg0 (by lia) (by lia)) (nmc Z (lxo (W) ((qn4 (j:=1) (by lia))) (nmc Z (nmc Z (nmc Z (icc Z Z ⟨Uk,Uk⟩ (icc Z Z (pos Uk) (icc Z Z (pos Uk) (iic Z Z (nmc Z (nmc Z (λx dx nx nd ne=>?_)))))))))))))))))))));refine⟨x,dx,_,_,_,_,_,_,_,_,Z,qk,λH9 F G pl py b9 bt bc cr R al ag ao aq av ak=>⟨Z,?_⟩⟩;have s9:Same H8 H9:=b9.made nx nd;have keep:=qsg (o:=.ins a.kE dx []) (u:=.own x) nx nd;have af:=keep.free bt;have am:=keep.free bc;have au:=keep.free cr;have aj:=I.free nx;have x1:x≠F:=qit R al;have x2:x≠G:=qit R ag;have x3:x≠pl:=qit R ao;dsimp only[qa8,AA,AB];have lp:∀{c:Int},0<=c->c<=2->∀{j:Nat},j<c.toNat->j<2:=λ{c} h0 h1 {j} D=>by lia
  have L:∀{d:Hp},(∀b o,b≠F->b≠G->b≠pl->H9 b=some o->d b=some o)->Same H8 d:=λ{d} k' b o e=>k' b o (qae e af) (qae e am) (qae e au) (s9 _ _ e);refine(nmc Z (icc Z Z ⟨Uk,Uk⟩ (icc Z Z (pos Uk) ⟨_,Z,by lia,by lia,qc6 (lo:=0) (n:=(two / 216 % 3).toNat) (λj σ d=>(∀b o,b≠F->b≠G->b≠pl->H9 b=some o->d b=some o)/\d F=some (.lst (((Ao j).map λq=>ms.getD (2+6*q) Ba).map V.str))/\d G=some (.lst [])/\d pl=some (.lst [])/\∃g:Option V,σ=[some (.ref l),some (.int 4),some (.int (i:Int)),some (.ref pn),some (.ref r),some (.int one),some (.int two),some (.ref C),some (bvN names b),some (opV o),some S,some (.str (qj9 (uix two))),some (.ref x),g]) ⟨λ_ _ _ _ _ e=>e,al,ag,ao,none,Z⟩ ?_ ?_⟩)))
  .rintro j σ d D ⟨B,Y,ha,m,g,rfl⟩;have D:j<2:=by lia
   have M:=L B _ _ W;refine(nmc Z (flc (B _ _ x1 x2 x3 R) (T.kG) (qp T.kH Uk) (rfl) ⟨.inl ⟨Z,_,SqL.of Y⟩,(nmc Z (nmc Z (iic Z Z ⟨.inl ⟨Uk,Uk⟩,(iic Z Z (lxo (M) (qg0 (by lia) (by lia)) ⟨_,_,_,Z,Z,Y,qbe (by rw[Ab,Ab,Aq];lia),?_⟩))⟩)))⟩));refine⟨λb o n1 n2 n3 e=>by rw[qr n1];exact B b o n1 n2 n3 e,?_,by rw[qr (By ak)];exact ha,by rw[qr (By aq)];exact m,_,Z⟩;rw[qk,qme,show (2+6*(0+(j:Int))).toNat=2+6*j by lia]
  rintro σ J1 ⟨k1,ai,c7,cq,g,rfl⟩;generalize cw:((Ao (two / 216 % 3).toNat).map λq=>ms.getD (2+6*q) Ba)=EL at ai;have bj:EL.length<=2:=by rw[<- cw,Ab,Aq];lia
  refine(nmc Z (icc Z Z ⟨Uk,Uk⟩ (icc Z Z (pos Uk) ⟨_,Z,by lia,by lia,qc6 (lo:=0) (n:=(two / 648 % 3).toNat) (λj σ d=>(∀b o,b≠F->b≠G->b≠pl->H9 b=some o->d b=some o)/\d F=some (.lst (EL.map V.str))/\d G=some (.lst (((Ao j).map λq=>ms.getD (3+6*q) Ba).map V.str))/\d pl=some (.lst [])/\∃g:Option V,σ=[some (.ref l),some (.int 4),some (.int (i:Int)),some (.ref pn),some (.ref r),some (.int one),some (.int two),some (.ref C),some (bvN names b),some (opV o),some S,some (.str (qj9 (uix two))),some (.ref x),g]) ⟨k1,ai,c7,cq,g,Z⟩ ?_ ?_⟩)))
  .rintro j σ d D ⟨B,Y,ha,m,g,rfl⟩;have D:j<2:=by lia
   have M:=L B _ _ W;refine(nmc Z (flc (B _ _ x1 x2 x3 R) (T.kG) (qp T.kH Uk) (rfl) ⟨.inl ⟨Z,_,SqL.of ha⟩,(nmc Z (nmc Z (iic Z Z ⟨.inl ⟨Uk,Uk⟩,(iic Z Z (lxo (M) (qg0 (by lia) (by lia)) ⟨_,_,_,Z,Z,ha,qbe (by rw[Ab,Ab,Aq];lia),?_⟩))⟩)))⟩));refine⟨λb o n1 n2 n3 e=>by rw[qr n2];exact B b o n1 n2 n3 e,by rw[qr ak];exact Y,?_,by rw[qr (By av)];exact m,_,Z⟩;rw[qk,qme,show (3+6*(0+(j:Int))).toNat=3+6*j by lia]
  rintro σ J2 ⟨k2,bf,ar,bq,g,rfl⟩;generalize ca:((Ao (two / 648 % 3).toNat).map λq=>ms.getD (3+6*q) Ba)=AL at ar;have cp:AL.length<=2:=by rw[<- ca,Ab,Aq];lia
  have ay:=I.free au;refine(nmc Z (icc Z Z ⟨Uk,Uk⟩ (icc Z Z (pos Uk) ⟨_,Z,by lia,by lia,qc6 (lo:=0) (n:=(two / 1944 % 3).toNat) (λj σ d=>(∀b o,b≠F->b≠G->b≠pl->H9 b=some o->d b=some o)/\d F=some (.lst (EL.map V.str))/\d G=some (.lst (AL.map V.str))/\∃us,d pl=some (.lst us)/\Tups (nwp H d) us (((Ao j).map λq=>((ms.getD (4+q) Ba,1+two / 5832 % 5,1+two / 29160 % 3):Str×Int×Int)).map qqp)/\∃g:Option V,σ=[some (.ref l),some (.int 4),some (.int (i:Int)),some (.ref pn),some (.ref r),some (.int one),some (.int two),some (.ref C),some (bvN names b),some (opV o),some S,some (.str (qj9 (uix two))),some (.ref x),g]) ⟨k2,bf,ar,[],bq,.nil,g,Z⟩ ?_ ?_⟩)))
  .rintro j σ d D ⟨B,Y,ha,us,m,ht,g,rfl⟩;have D:j<2:=by lia
   have M:=L B _ _ W;have lu:=ht.length;rw[Ab,Ab,Aq]at lu;have zJ:=I.trans (L B);refine(nmc Z (flc (B _ _ x1 x2 x3 R) (T.kG) (qp T.kH Uk) (rfl) ⟨.inl ⟨Z,_,SqL.of m⟩,(nmc Z (nmc Z (iic Z Z (lxo (M) (qg0 (by lia) (by lia)) (nmc Z (icc Z Z ⟨Uk,Uk⟩ (icc Z Z (pos Uk) (iic Z Z (nmc Z (icc Z Z ⟨Uk,Uk⟩ (icc Z Z (pos Uk) (iic Z Z ⟨qjr _ _ _,λt O=>?_⟩))))))))))))⟩));obtain⟨st,et⟩:=alc (o:=.tup [V.str (ms.getD (4+(0+(j:Int))).toNat Ba),V.int (1+two / 5832 % 5),V.int (1+two / 29160 % 3)]) O;have cg:t≠pl:=λz=>by rw[z,m]at O;cases O
   generalize upd d t _=Jt at st et |-;refine⟨_,_,_,Z,Z,st _ _ m,qbe (by lia),?_⟩;have lk2:=st _ _ m;refine⟨λb o n1 n2 n3 e=>by rw[qr n3];exact st _ _ (B b o n1 n2 n3 e),by rw[qr aq];exact st _ _ Y,by rw[qr av];exact st _ _ ha,_,qk,?_,_,Z⟩;rw[qme];refine qg8 (qcp ht λc u e=>?_) ?_
   .obtain⟨h1,h2⟩:=qmd e;refine qe8 h1 ?_;rw[qr (λz=>by rw[z,m]at h2;cases h2)];exact st _ _ h2
   .refine qe8 (zJ.free O) ?_;rw[qr cg,et,show (4+(0+(j:Int))).toNat=4+j by lia];rfl
  rintro σ J3 ⟨k3,bi,bw,cx,bu,ae,g,rfl⟩;generalize aw:((Ao (two / 1944 % 3).toNat).map λq=>((ms.getD (4+q) Ba,1+two / 5832 % 5,1+two / 29160 % 3):Str×Int×Int))=LL at ae;have c8:LL.length<=2:=by rw[<- aw,Ab,Aq];lia
  have ah:=L k3;refine(nmc Z (k x J3 ⟨names.getD i Ba,o,b,⟨ms.getD 1 Ba,EL,AL,LL,so,1+two / 3 % 12 % 7,uix two⟩⟩ (I.trans ah) aj ⟨Z,hb,ho,⟨by show 1<=1+two / 3 % 12 % 7;lia,by show LL.length<=100;lia,by show EL.length<=100;lia,by show AL.length<=100;lia,λt h=>?_⟩,bj,cp,c8⟩ ⟨dx,F,G,pl,_,S,.ref py,cx,qe8 aj (k3 _ _ x1 x2 x3 R),?_,qe8 (I.free af) bi,qe8 (I.free am) bw,qe8 ay bu,ae⟩))
  .rw[<- aw]at h;obtain⟨q,_,rfl⟩:=AU.mp h;show 0<=1+two / 5832 % 5;lia
  .exact bh.same (qyk (s8.trans ah))
theorem qvt (T:Txt K mg a):FnOk P w K mg base CX0 4 a.mS a.sZ ["_law_script","_law_names","_law_kinds"] (spBk55 a K):=by
 refine T.dQ.fn.ok qjp (λvs H Q E h=>?_) (λcdv A outer s H vs Q E G h=>?_)
 .obtain⟨_,_,_,_,_,_,rfl,_⟩:=h
  all_goals rfl
 .obtain⟨l,pn,R,q,names,u,rfl,L,hn,ln,X,lk,k⟩:=h;refine⟨_,(qf (qu (i:=3) qjp.nd Z (Au Z) (zh qg))
   (qf (qa3 A8 Z (qbp Z T.gB (qd (qv qah qi (qv qau (zc (qb0 T) (G.mono Uk) Z T.kM.mgx T.kM.fn.kp T.kM.bd .nil qac (qd (pv 0) (qd qi qg ql) qe)) qi)) qg zm)) (qag (i:=4) qjp.nd Z (Au Z)) (qj (qz (qbr Ax A3 A4 qam (pv 3) (qd (zc (qvs T) (G.mono Uk) Z T.dS.mgx T.dS.fn.kp T.dS.bd .nil qac (qd (pv 0) (qd qi (qd (pv 4) (qd (pv 1) (qd (pv 2) qg qe) qe) qe) ql) qe)) qg zl)))))
   (qf (zb (qt qch (qv qau (qv qa1 (zc (qb0 T) (G.mono Uk) Z T.kM.mgx T.kM.fn.kp T.kM.bd .nil qac (qd (pv 0) (qd qi qg ql) qe)) qi) qi) qi (qad _)) (qj (qz (qv8 Ax PySem.F.slot_list_reverse PySem.F.type_list_reverse qro (pv 3)))) qaf)
   (qj (qo (pv 3)))))),?_⟩
  refine⟨qdy,λd r=>?_⟩;obtain⟨I,S⟩:=alc (o:=.lst []) r;generalize upd H d _=H1 at I S |-;have m0:=qiy q 0;refine(nmc Z ⟨l,q,0,Z,I.seq L,Uk,Uk,(icc Z Z (pos Uk) (iic Z Z ⟨_,Z,by lia,by lia,qc6 (lo:=0) (n:=(1+qem q 0 % 4).toNat) (λi σ J=>Same H J/\∃(us:List V)(Ts:List TD),J d=some (.lst us)/\Ts.length=i/\(∀k t,Ts[k]?=some t->TdOk names t k)/\RsL a (ofl [d] J) us Ts names/\∃M:Option V,σ=[some (.ref l),some (.ref pn),some (.ref R),some (.ref d),M]) ⟨I,[],[],S,Z,(λk t e=>by cases e),⟨Z,λj t e=>by cases e⟩,none,Z⟩ ?_ ?_⟩))⟩)
  .rintro i σ J O ⟨f,us,Ts,g,U,v,p,M,rfl⟩;have O:i<4:=by lia
   refine(nmc Z ⟨.inl ⟨Z,_,SqL.of g⟩,(nmc Z (nmc Z (nmc Z (nmc Z ⟨l,pn,R,q,names,u,i,(by rw[Cj];rfl),f.seq L,f _ _ hn,ln,f _ _ X,lk,O,λx D t C nx tok rb=>⟨_,_,_,Z,Z,C _ _ g,qbe (by rw[p.1];lia),?_⟩⟩))))⟩);have N:Same (ofl [d] J) (ofl [d] (upd D d (.lst (us++[.ref x])))):=qgy (λ_ h=>h) λb o m e=>by rw[qr (λz=>m (by rw[z];simp))];exact C _ _ e
   have Y:Same (nwp J D) (ofl [d] (upd D d (.lst (us++[.ref x])))):=qyj λb o m e=>by
    have B:b≠d:=λz=>by rw[z,g]at m;cases m
    exact qjw (by simp[B]) (by rw[qr B];exact e)
   refine⟨qai (f.trans C) r,_,Ts++[t],qk,by rw[Af,U];rfl,λy t' e=>?_,(p.same N).snoc (rb.same Y),_,Z⟩;by_cases c:y<Ts.length
   .rw[AH c]at e;exact v y t' e
   .rw[AS (by lia)]at e;have W:y-Ts.length=0:=by have:=(Ac.mp e).1;simpa using this
    rw[W]at e;cases e;rw[show y=i by lia];exact tok
  rintro σ J ⟨f,us,Ts,g,U,v,p,M,rfl⟩;refine(nmc Z ⟨l,q,0,Z,f.seq L,Uk,Uk,(icc Z Z ⟨Uk,Uk⟩ (icc Z Z (pos Uk) ⟨Z,_,Z,qbx (λc=>?_) (λc=>?_)⟩))⟩)
  .refine(nmc Z ⟨.inl ⟨Z,_,SqL.of g⟩,d,_,Z,Z,g,?_⟩);have N:Same (ofl [d] J) (ofl [d] (upd J d (.lst us.reverse))):=qgy (λ_ h=>h) λb o m e=>by rw[qr (λz=>m (by rw[z];simp))];exact e
   exact(nmc Z (k d _ _ Ts true r (qai f r) (by lia) (by lia) v qk (p.same N).rev))
  .exact(nmc Z (k d J us Ts false r f (by lia) (by lia) v g p))
theorem qvu (T:Txt K mg a):FnOk P w K mg base CX0 1 a.rK a.nY ["_law_rules"] (spMe55 a):=by
 refine T.dI.fn.ok qjq (λvs H Q E h=>?_) (λcdv A outer s H vs Q E hr h=>?_)
 .obtain⟨_,_,_,_,rfl,_⟩:=h
  all_goals rfl
 .obtain⟨pr,us,Ts,names,rfl,hp,hR,l4,hz,k⟩:=h;refine⟨_,(qf (qu (i:=1) qjq.nd Z (Au Z) (zh qg))
   (qf (qa3 A8 Z (qa0 (pv 0)) (qag (i:=2) qjq.nd Z (Au Z)) (qf (qz (qbr Ax Di Dj qnf (pv 1) (qd (qv qk5 (qv qk5 (qv qk5 (zh (qd (qab (pv 2) Z) qg qan)) (qab (pv 2) Z)) (qab (pv 2) Z)) (qfk (N:=["_law_row"]) (js:=[none]) (XN:=["_law_rules","_law_menu_here","_law_rule_here"]) (xs:=qaa qii) Z Z Z Ez (qa0 (qab (pv 2) Z)) (λ_ _ _ _ _ _=>(qag (i:=0) (show Cw (["_law_row"]:List Str) from by decide +kernel) Z (Au Z) (DC Z))) (λ_ _ _ _ _ _=>qfj) (λ_ _ _ _ _ _=>(zp (qkn (K:=K) Z) (pv 0) qi (λ_ _=>rfl))))) qg zm)))
   (qf (zb (qt qh7 (qab (pv 2) Z) qat (qad _)) (qj (qz (qbr Ax A3 A4 qam (pv 1) (qd (qab (pv 2) Z) qg qan)))) qaf)
   (qj (zb (qt qh7 (qab (pv 2) Z) qat (qad _)) (qj (qz (qbr Ax Di Dj qrv (pv 1) (qd (qab (pv 2) Z) qg qan)))) qaf)))))
   (qj (qo (pv 1))))),?_⟩
  refine⟨qdy,λq B=>?_⟩;obtain⟨s1,e1⟩:=alc (o:=.lst []) B;generalize upd H q _=H1 at s1 e1 |-;refine(nmc Z ⟨_,Z,⟨_,SqL.of (s1 _ _ hp)⟩,qa5 (K:=K) (a:=pr) (xs:=us) (λi σ J=>Same H J/\J q=some (.lst (((Ts.take i).flatMap qex).map V.str))/\∃v2:Option V,σ=[some (.ref pr),some (.ref q),v2]) ⟨s1,e1,none,Z⟩ (λi σ J _ h=>SqL.of (h.1 _ _ hp)) ?_ ?_⟩)
  .rintro i v σ J hv ⟨U,m,v2,rfl⟩;have hi:i<Ts.length:=by rw[<- hR.1];exact(Ac.mp hv).1
   have O:=Ae hi;generalize Ts[i]=t at O;obtain⟨rl,e2,rb⟩:=hR.2 i t O;rw[hv]at e2;cases e2;obtain⟨dx,pe,pa,pl,w',sv,py,ul,F,g2,g3,g4,g5,g6⟩:=rb.same U;obtain⟨z1,z2,z3⟩:=hz t (A2 O);have lT:=qqz (Ts:=Ts.take i) λx hx=>hz x (List.mem_of_mem_take hx);rw[Bj]at lT;have lu:ul.length=t.rd.longer.length:=by have:=g6.length;rw[Ab]at this;exact this
   generalize C:(Ts.take i).flatMap qex=pre at m lT;refine(nmc Z ⟨.inl ⟨Z,_,SqL.of m⟩,(nmc Z (flc (F) (T.kG) (qp T.kH Uk) (rfl) ⟨fit1 _,λp1 n1=>?_⟩))⟩);obtain⟨L,f1⟩:=alc (o:=.lst [V.str t.rd.owes]) n1;generalize upd J p1 _=J1 at L f1 |-;refine(nmc Z (flc (L _ _ F) (T.kG) (qp T.kH Uk) (rfl) ⟨_,_,_,_,Z,Z,f1,L _ _ g3,qdd (by rw[Ab,AY];lia),λp2 n2=>?_⟩));have G:=L.trans (qx (o:=.lst ([V.str t.rd.owes]++t.rd.ends.map V.str)) n2);have f2:=qk (H:=J1) (a:=p2) (o:=.lst ([V.str t.rd.owes]++t.rd.ends.map V.str));generalize upd J1 p2 _=J2 at G f2 |-;refine(nmc Z (flc (G _ _ F) (T.kG) (qp T.kH Uk) (rfl) ⟨_,_,_,_,Z,Z,f2,G _ _ g4,qdd (by rw[Af,Ab,Ab,AY];lia),λp3 n3=>?_⟩));have n:=G.trans (qx (o:=.lst ([V.str t.rd.owes]++t.rd.ends.map V.str++t.rd.anew.map V.str)) n3);have f3:=qk (H:=J2) (a:=p3) (o:=.lst ([V.str t.rd.owes]++t.rd.ends.map V.str++t.rd.anew.map V.str));generalize upd J2 p3 _=J3 at n f3 |-;have h6:=g6.same n;let f:V->V:=λv=>match v with
    |.ref b=>(match J3 b with|some (.tup [.str y,.int _,.int _])=>V.str y|_=>.non)
    |_=>.non
   have Y:∀(b:Addr)(r:Str×Int×Int),J3 b=some (.tup (qqp r))->f (.ref b)=.str r.1:=λb r e=>by show (match J3 b with|some (.tup [.str y,.int _,.int _])=>V.str y|_=>.non)=_;rw[e];rfl
   refine(nmc Z (flc (n _ _ F) (T.kG) (qp T.kH Uk) (rfl) ⟨_,Z,⟨_,SqL.of (n _ _ g5)⟩,?_⟩));refine qg2 f (λσ'=>∃v,σ'=[v]) (qd7 (K:=K) (SqL.of (n _ _ g5))) (qdd (by lia)) ⟨none,Z⟩ (λv σ' H' RR ag sm s4 R=>?_) qeu λp4 n4=>?_
   .obtain⟨v0,rfl⟩:=s4;obtain⟨j,hj⟩:=Bv ag;have lj:=(Ac.mp hj).1;obtain⟨b,S,W⟩:=h6.get (i:=j) (r:=qqp (t.rd.longer[j]'(by lia))) (by rw[Ag,Ae (by lia)];rfl);rw[hj]at S;cases S;have R:=R [some (.ref b)] ⟨_,Z⟩;rw[Y b _ W]at R;exact(nmc Z (txo (sm _ _ W) Z R))
   have em:ul.map f=(t.rd.longer.map (·.1)).map V.str:=by
    refine BZ λj=>?_;rw[Ag,Ag,Ag];by_cases c:j<t.rd.longer.length
    .obtain⟨b,S,W⟩:=h6.get (i:=j) (r:=qqp t.rd.longer[j]) (by rw[Ag,Ae c];rfl);rw[S,Ae c];exact congrArg some (Y b _ W)
    .rw[AI (by lia),AI (by lia)];rfl
   rw[em];have t4:=n.trans (qx (o:=.lst ((t.rd.longer.map (·.1)).map V.str)) n4);have X:=qx (o:=.lst ((t.rd.longer.map (·.1)).map V.str)) n4 _ _ f3;have f4:=qk (H:=J3) (a:=p4) (o:=.lst ((t.rd.longer.map (·.1)).map V.str));generalize upd J3 p4 _=J4 at t4 X f4 |-;refine⟨_,_,_,_,Z,Z,X,f4,qdd (by rw[Af,Af,Ab,Ab,Ab,Ab,AY];lia),λp5 n5=>?_⟩;have t5:=t4.trans (qx (o:=.lst ([V.str t.rd.owes]++t.rd.ends.map V.str++t.rd.anew.map V.str++(t.rd.longer.map (·.1)).map V.str)) n5);have f5:=qk (H:=J4) (a:=p5) (o:=.lst ([V.str t.rd.owes]++t.rd.ends.map V.str++t.rd.anew.map V.str++(t.rd.longer.map (·.1)).map V.str));generalize upd J4 p5 _=J5 at t5 f5 |-;have eM:[V.str t.rd.owes]++t.rd.ends.map V.str++t.rd.anew.map V.str++(t.rd.longer.map (·.1)).map V.str=(t.rd.owes::(t.rd.ends++t.rd.anew++t.rd.longer.map (·.1))).map V.str:=by rw[AX,Ar,Ar];simp
   rw[eM]at f5;refine⟨_,_,_,_,Z,Z,t5 _ _ m,f5,qdd (by rw[Ab,Ab,AG,Af,Af,Ab];lia),?_⟩;have I:Same H (upd J5 q (.lst (pre.map V.str++(t.rd.owes::(t.rd.ends++t.rd.anew++t.rd.longer.map (·.1))).map V.str))):=qai (U.trans t5) B;have u:upd J5 q (.lst (pre.map V.str++(t.rd.owes::(t.rd.ends++t.rd.anew++t.rd.longer.map (·.1))).map V.str)) q=some (.lst ((pre++(t.rd.owes::(t.rd.ends++t.rd.anew++t.rd.longer.map (·.1)))).map V.str)):=by rw[qk,Ar]
   generalize upd J5 q _=J6 at I u |-;have lM:(t.rd.owes::(t.rd.ends++t.rd.anew++t.rd.longer.map (·.1))).length<=7:=by rw[AG,Af,Af,Ab];lia
   obtain⟨M,eMM⟩:∃M,t.rd.owes::(t.rd.ends++t.rd.anew++t.rd.longer.map (·.1))=M:=⟨_,Z⟩;rw[eMM]at u lM;have r6:=rb.same I;obtain⟨ae,ak,ah,ai,w2,ad,aj,af,d,g,k3,k4,k5,k6⟩:=id r6;apply qyl (p:=λ_ J'=>Same H J'/\J' q=some (.lst ((pre++M++t.opens.toList).map V.str))) (f:=λ_=>[some (.ref pr),some (.ref q),some (.ref rl)])
   .intro D;cases eo:t.opens with|none =>rw[eo]at d D;exact(nmc Z (flc (d) (T.kG) (qp T.kH Uk) (rfl) ⟨Z,_,Z,qtd Z (tn2 Z (D none J6 ⟨I,by rw[u];simp⟩))⟩))|some o =>rw[eo]at d D;refine(nmc Z (flc (d) (T.kG) (qp T.kH Uk) (rfl) ⟨Z,_,Z,qtf (λz=>nomatch z) (nmc Z ⟨.inl ⟨Z,_,SqL.of u⟩,(nmc Z (flc (d) (T.kG) (qp T.kH Uk) (rfl) ⟨_,_,_,Z,Z,u,qbe (by rw[Ab,Af];lia),?_⟩))⟩)⟩));exact D none _ ⟨qai I B,by rw[qk];simp;rfl⟩
   rintro _ J7 ⟨s7,f7⟩;have r7:=rb.same s7;obtain⟨ae,ak,ah,ai,w2,ad,aj,af,d,g,k3,k4,k5,k6⟩:=id r7;have e8:(Ts.take (i+1)).flatMap qex=(Ts.take i).flatMap qex++qex t:=by rw[B0,O,List.flatMap_append];simp
   have lo:t.opens.toList.length<=1:=by cases t.opens <;>simp
   cases l:t.rd.still with
   |none =>rw[l]at g;have g:ad=.non:=g;refine(nmc Z (flc (d) (T.kG) (qp T.kH Uk) (rfl) ⟨Z,_,Z,qtd (by rw[g]) (tn2 Z ⟨s7,?_,_,Z⟩)⟩));rw[f7,e8,C];unfold qex;rw[eMM,l];simp
   |some z =>rw[l]at g;obtain⟨b,eb,hb⟩:=g;refine(nmc Z (flc (d) (T.kG) (qp T.kH Uk) (rfl) ⟨Z,_,Z,qtf (λz=>by rw[eb]at z;cases z) (nmc Z ⟨.inl ⟨Z,_,SqL.of f7⟩,(nmc Z (flc (d) (T.kG) (qp T.kH Uk) (rfl) ⟨_,b,_,_,Z,(by rw[eb]),f7,SqT.of hb,qdd (by rw[Ab,Af,Af];show _+2<=_;lia),qai s7 B,?_,_,Z⟩))⟩)⟩));rw[qk,e8,C];unfold qex;rw[eMM,l];simp
  .rintro σ J ⟨U,m,v2,rfl⟩;rw[hR.1,Bw]at m;exact(nmc Z (k q J B U m))
theorem qvv (T:Txt K mg a):FnOk P w K mg base CX0 3 a.nM a.tG ["_law_script","_law_rules","_law_names","_law_first","_law_many"] (spAc55 a K):=by
 refine T.dN.fn.ok qcu (λvs H Q E h=>?_) (λcdv A outer s H vs Q E hr h=>?_)
 .obtain⟨_,_,_,_,_,_,_,_,_,rfl,_⟩:=h
  all_goals rfl
 .obtain⟨l,pr,pn,D,names,us,Ts,first,m,rfl,hS,hp,hR,l1,l4,hz,ho,hn,ln,nd,f0,hm,k⟩:=h;refine⟨_,(qf (qu (i:=5) qcu.nd Z (Au Z) (zc (qvu T) (hr.mono Uk) Z T.dI.mgx T.dI.fn.kp T.dI.bd .nil qac (qd (pv 1) qg qe)))
   (qf (qu (i:=6) qcu.nd Z (Au Z) (qv qah qi (qv qau (zc (qb0 T) (hr.mono Uk) Z T.kM.mgx T.kM.fn.kp T.kM.bd .nil qac (qd (pv 0) (qd qi qg ql) qe)) qi)))
   (qf (qu (i:=7) qcu.nd Z (Au Z) (zh qg))
   (qf (qa3 A8 Z (qbp Z T.gB (qd (pv 4) qg qe)) (qag (i:=8) qcu.nd Z (Au Z)) (qf (qu (i:=9) qcu.nd Z (Au Z) (zc (qb0 T) (hr.mono Uk) Z T.kM.mgx T.kM.fn.kp T.kM.bd .nil qac (qd (pv 0) (qd (qv qah qi (pv 8)) qg zm) qe)))
   (qf (qu (i:=10) qcu.nd Z (Au Z) (zp zr (pv 5) (qv qau (pv 9) (zd qb1 (by rfl) T.gA qb5 (qd (pv 5) qg qe))) (λ_ _=>rfl)))
   (qf (zb (qt qc3 (pv 8) qi (qad _)) (qj (qu (i:=10) qcu.nd Z (Au Z) (zp zr (qfk (N:=["_law_rule_here"]) (js:=[none]) (XN:=["_law_script","_law_rules","_law_names","_law_first","_law_many","_law_menu_here","_law_stride","_law_acts_here","_law_k","_law_cell","_law_kind"]) (xs:=qaa qij) Z Z Z Ez (qa0 (pv 1)) (λ_ _ _ _ _ _=>(qag (i:=0) (show Cw (["_law_rule_here"]:List Str) from by decide +kernel) Z (Au Z) (DC Z))) (λ_ _ _ _ _ _=>(qs4 (qt qh7 (qod (K:=K) Z (pv 0) Z) qat (qad _)))) (λ_ _ _ _ _ _=>(qod (K:=K) Z (pv 0) Z))) qi (λ_ _=>rfl)))) qaf)
   (qj (qz (qbr Ax A3 A4 qam (pv 7) (qd (zj (qd (zp zr (pv 2) (qv qau (qv qah (qv qbl (pv 8) (pv 6)) (qv qa1 (pv 6) qi)) qi) (λ_ _=>rfl)) (qd (pv 10) (qd (qv qah (pv 3) (qv qau (qv qa1 (pv 9) qi) (qv qah qi (qv qbl qi (pv 8))))) qg zm) qe) zn)) qg zo))))))))
   (qj (qo (pv 7))))))),?_⟩
  refine(nmc Z ⟨pr,us,Ts,names,Z,hp,hR,l4,hz,λqm H1 nqm s1 em=>?_⟩);dsimp only[qa8,AA,AB];have lM:=qqz hz;have ak:1<=(Ts.flatMap qex).length:=by
   cases Ts with|nil=>cases l1|cons t Ts=>rw[List.flatMap_cons];unfold qex;simp
  generalize Ts.flatMap qex=M at em lM ak;have m1:=qiy D 1;refine(nmc Z ⟨l,D,1,Z,s1.seq hS,Uk,Uk,(icc Z Z (pos Uk) (iic Z Z ?_))⟩);dsimp only[qa8,AA,AB];obtain⟨s,es,h1,h2⟩:∃s,1+qem D 1 % 22=s/\1<=s/\s<=22:=⟨_,Z,by lia,by lia⟩;rw[es];refine⟨qdy,λx R=>?_⟩;obtain⟨s2,F⟩:=alc (o:=.lst []) R;have al:=s1.free R;generalize upd H1 x _=H2 at s2 F |-;dsimp only[qa8,AA,AB];have bm:=rb (n:=m) (by lia);refine(nmc Z ⟨_,Z,bm.1,bm.2,qc6 (lo:=0) (n:=((m:Int)).toNat) (λi σ J=>Same H1 J/\∃(I:List V)(d:List Act),J x=some (.lst I)/\Tups (nwp H J) I (d.map qdo)/\d.length=i/\NmA names s d/\(∀t∈d,first<=t.2.2)/\∃v8 v9 S:Option V,σ=[some (.ref l),some (.ref pr),some (.ref pn),some (.int first),some (.int (m:Int)),some (.ref qm),some (.int s),some (.ref x),v8,v9,S]) ⟨s2,[],[],F,.nil,Z,(λj t e=>by cases e),(λt h=>by cases h),none,none,none,Z⟩ ?_ ?_⟩)
  .rintro i σ J hi ⟨O,I,d,B,ht,la,hN,hF,v8,v9,S,rfl⟩;have hi:i<20:=by lia
   have G:=s1.trans O;have ah:=O _ _ em;rw[Cj];have mc:=qiy D (13+(i:Int));refine(nmc Z (nmc Z (iic Z Z ⟨l,D,_,Z,G.seq hS,by lia,by lia,?_⟩)));dsimp only[qa8,AA,AB];generalize qem D (13+(i:Int))=c at mc |-;have cm:=C9 c (show (0:Int)<(M.length:Int) by lia);have c0:=Ce c (show (M.length:Int)≠0 by lia);refine(nmc Z (nmc Z (nmc Z ⟨_,_,Z,.inl ⟨_,SqL.of ah,Z⟩,(iic Z Z ⟨(by rw[Ab];lia),(lxo (ah) (qg0 (by rw[Ab];exact c0) (by rw[Ab];exact cm)) ?_)⟩)⟩)));dsimp only[qa8,AA,AB];apply qyl (p:=λv W=>∃kd:Str,v=some (.str kd)/\Same J W) (f:=λv=>[some (.ref l),some (.ref pr),some (.ref pn),some (.int first),some (.int (m:Int)),some (.ref qm),some (.int s),some (.ref x),some (.int (i:Int)),some (.int c),v])
   .intro mm;refine(nmc Z (iic Z Z ⟨_,Z,qbx (λc1=>?_) (λc1=>?_)⟩))
    .have RJ:=hR.same G;let ov:V->V:=λv=>match v with
      |.ref r=>(match J r with|some (.ins _ _ fs)=>(fs.lookup (Aa "opens")).getD .non|_=>.non)
      |_=>.non
     have y:∀(g:Addr)(t:TD)(bv:V),RuleB a J g t bv->ov (.ref g)=opV t.opens:=λg t bv rb=>by obtain⟨dx,pe,pa,pl,w',sv,py,ul,C,_⟩:=rb;show (match J g with|some (.ins _ _ fs)=>(fs.lookup (Aa "opens")).getD .non|_=>.non)=_;rw[C];rfl
     have ad:∀v∈us,∃(g:Addr)(t:TD),v=.ref g/\t∈Ts/\RuleB a J g t (bvN names t.base):=λv hv=>by
      obtain⟨j,X⟩:=Bv hv;have lj:j<Ts.length:=by rw[<- hR.1];exact(Ac.mp X).1
      obtain⟨g,e1,F⟩:=RJ.2 j _ (Ae lj);rw[X]at e1;cases e1;exact⟨g,_,Z,BV lj,F⟩
     refine(nmc Z ⟨_,Z,⟨_,SqL.of (G _ _ hp)⟩,?_⟩);refine qnm (λv=>!decide (ov v=.non)) ov (λσ'=>∃v,σ'=[v]) (qd7 (K:=K) (SqL.of (G _ _ hp))) (qdd (by rw[hR.1];lia)) ⟨none,Z⟩ (λv σ' W N RR hv sm s4 kn Y=>?_) qeu λp5 au=>?_
     .obtain⟨v0,rfl⟩:=s4;obtain⟨g,t,rfl,_,rb⟩:=ad v hv;have U:=y g t _ rb;obtain⟨dx,pe,pa,pl,w',sv,py,ul,C,_⟩:=rb.same sm;have kn:=kn [some (.ref g)] ⟨_,Z⟩;have Y:=Y [some (.ref g)] ⟨_,Z⟩;rw[U]at kn Y;refine(nmc Z (flc (C) (T.kG) (qp T.kH Uk) (rfl) ⟨Z,_,Z,qbx (λc2=>(nmc Z (flc (C) (T.kG) (qp T.kH Uk) (rfl) (Y c2)))) (λc2=>kn ?_)⟩));cases e : !decide (opV t.opens=V.non) with|false=>rfl|true=>exact absurd e c2
     .obtain⟨o,U⟩:∃o:Str,((us.filter λv=>!decide (ov v=.non)).map ov)[0]?=some (.str o):=by
       obtain⟨t,ao,o,U⟩:=ho
       obtain⟨j,X⟩:=Bv ao
       obtain⟨g,e1,F⟩:=RJ.2 j t X
       have mf:(.ref g:V)∈us.filter λv=>!decide (ov v=.non):=BQ.mpr ⟨A2 e1,by rw[y g t _ F,U];rfl⟩
       cases ef:us.filter λv=>!decide (ov v=.non) with
       |nil=>rw[ef]at mf;cases mf
       |cons v vs =>
        have mv:v∈us.filter λv=>!decide (ov v=.non):=by rw[ef];exact Am
        obtain⟨aq,L⟩:=BQ.mp mv;obtain⟨ai,t2,rfl,_,ae⟩:=ad v aq;rw[y ai t2 _ ae]at L;cases af:t2.opens with|none=>rw[af]at L;cases L|some o2=>exact⟨o2,by rw[AX,y ai t2 _ ae,af];rfl⟩
      refine⟨_,_,_,_,Z,Z,SqL.of qk,qao (j:=0) U,?_⟩
      refine gn2 (σ':=[some (.ref l),some (.ref pr),some (.ref pn),some (.int first),some (.int (m:Int)),some (.ref qm),some (.int s),some (.ref x),some (.int (i:Int)),some (.int c),some (.str o)]) rfl ?_
      exact mm _ _ ⟨o,Z,qx au⟩
    .exact tn2 rfl (mm _ J ⟨_,Z,Same.refl J⟩)
   rintro _ W ⟨kd,rfl,q⟩;have ag:=G.trans q;have d0:0<=c / 101 % (2+6*(i:Int)):=Ce _ (by lia);have r1:=Ce ((i:Int)*s+s / 2) (show (23:Int)≠0 by decide);have r2:=C9 ((i:Int)*s+s / 2) (show (0:Int)<23 by decide);refine(nmc Z ⟨.inl ⟨Z,_,SqL.of (q _ _ B)⟩,(nmc Z (nmc Z (nmc Z (iic Z Z ⟨.inr ⟨by lia,by lia⟩,(nmc Z (icc Z Z ⟨Uk,Uk⟩ (iic Z Z (icc Z Z (pos Uk) (lxo (ag _ _ hn) (qg0 r1 (by lia)) (nmc Z (nmc Z (nmc Z (icc Z Z ⟨Uk,Uk⟩ (nmc Z (iic Z Z ⟨.inl ⟨Uk,Uk⟩,(iic Z Z (iic Z Z ⟨(show 0<2+6*(i:Int) by lia),(iic Z Z ⟨qjr _ _ _,λt nt=>?_⟩)⟩))⟩)))))))))))⟩))))⟩);obtain⟨st,et⟩:=alc (o:=.tup [V.str (names.getD (((i:Int)*s+s / 2) % 23).toNat Ba),V.str kd,V.int (first+c / 101 % (2+6*(i:Int)))]) nt;have aj:t≠x:=λz=>by rw[z,q _ _ B]at nt;cases nt
   have ar:=ag.free nt;generalize upd W t _=Jt at st et |-;have lu:=ht.length;rw[Ab]at lu;have am:=st _ _ (q _ _ B);refine⟨_,_,_,Z,Z,am,qbe (by lia),qai (O.trans (q.trans st)) R,_,d++[(names.getD (((i:Int)*s+s / 2) % 23).toNat Ba,kd,first+c / 101 % (2+6*(i:Int)))],qk,?_,by rw[Af,la];rfl,λj t' e=>?_,λt' h=>?_,_,_,_,Z⟩
   .rw[Ar];refine qg8 (qcp ht λb u e=>?_) ?_
    .obtain⟨C,g2⟩:=qmd e;refine qe8 C ?_;rw[qr (λz=>by rw[z,B]at g2;cases g2)];exact(q.trans st) _ _ g2
    .exact qe8 ar (by rw[qr aj];exact et)
   .by_cases cj:j<d.length
    .rw[AH cj]at e;exact hN j t' e
    .rw[AS (by lia)]at e;have e0:j-d.length=0:=by have:=(Ac.mp e).1;simpa using this
     rw[e0]at e;cases e;rw[show j=i by lia]
   .rcases A7.mp h with h|h
    .exact hF t' h
    .rw[Ai.mp h];show first<=first+_
     lia
  .rintro σ J ⟨O,I,d,B,ht,la,hN,hF,v8,v9,S,rfl⟩;exact(nmc Z (k x J I d s al (s1.trans O) B ht (by lia) h1 h2 hN hF))
theorem qpd (T:Txt K mg a):FnOk P w K mg base CX0 2 a.rG a.pN ["_law_rules"] (qx9 a):=by
 refine T.fC.fn.ok qbn (λvs H Q E h=>?_) (λcdv A outer s H vs Q E hr h=>?_)
 .obtain⟨_,_,_,_,_,rfl,_⟩:=h
  all_goals rfl
 .obtain⟨v,us,nms,bs,rk,rfl,hp,n,C,k⟩:=h;refine⟨_,(qf (qu (i:=1) qbn.nd Z (Au Z) qdl)
   (qf (qa3 A8 Z (qa0 (pv 0)) (qag (i:=2) qbn.nd Z (Au Z)) (qj (qes (qci hr) (pv 1) (qab (pv 2) Z) (qab (pv 2) Z) Z)))
   (qf (qu (i:=3) qbn.nd Z (Au Z) (zh qg))
   (qf (qa3 A8 Z (qa0 (pv 0)) (qag (i:=2) qbn.nd Z (Au Z)) (qf (qu (i:=4) qbn.nd Z (Au Z) (qab (pv 2) Z))
   (qf (qu (i:=5) qbn.nd Z (Au Z) (zh qg))
   (qf (qf8 A8 (PW.pt (qc5 (qt qh7 (pv 4) qat (qad _)) (qco (qt qib (pv 4) (pv 3) (by with_unfolding_all rfl))))) (qf (qz (qbr Ax A3 A4 qam (pv 5) (qd (pv 4) qg qe)))
   (qj (qu (i:=4) qbn.nd Z (Au Z) (qdf (qci hr) (pv 1) (pv 4) (λ_ _=>rfl))))))
   (qj (qz (qbr Ax Di Dj qnf (pv 3) (qd (qww (pv 5) (qfi (qeq qcx qi))) qg zn))))))))
   (qj (qo (pv 3))))))),?_⟩
  refine λd hd=>?_;obtain⟨s0,h0⟩:=alc (o:=.dK []) hd;generalize upd H d _=H0 at s0 h0 |-;dsimp only[qa8,AA,AB];refine(nmc Z ⟨_,Z,⟨_,SqL.of (s0 _ _ hp)⟩,qa5 (K:=K) (a:=v) (xs:=us) (λi σ H'=>Same H H'/\∃(y:Option V)(kvs:List (Key×V)),σ=[some (.ref v),some (.ref d),y,none,none,none]/\H' d=some (.dK kvs)/\kvs.length<=i/\∀k<i,qbh kvs (.inr (nm nms k))=some (qo0 nms (bo bs k)))
   ⟨s0,none,[],Z,h0,Al _,λk hk=>absurd hk (Bg _)⟩ (λi σ H' _ h=>SqL.of (h.1 _ _ hp)) ?_ ?_⟩)
  .rintro i x σ H' G ⟨l,y,kvs,rfl,r,hl,hv⟩;have hi:i<nms.length:=by rw[<- n.1];exact(Ac.mp G).1
   obtain⟨p,dx,fs,rfl,W,r2,r3⟩:=(n.2 i x G).same l;refine(nmc Z (flc (W) (T.kG) (qp T.kH Uk) (r3) (nmc Z (nmc Z (flc (W) (T.kG) (qp T.kH Uk) (r2) ⟨d,_,Z,DPut.k (k:=.inr (nm nms i)) r (by rw[Bq];have:=C.sm;lia),?_⟩)))));exact⟨qai l hd,_,_,Z,qk,A9 (qcs _ _ _) (C5 hl),qtx C.nd hi hv⟩
  .rintro σ H1 ⟨l,y,kvs,rfl,r,hl,hv⟩;rw[n.1]at hv;refine⟨qdy,λt S=>?_⟩;have s2:=l.trans (qx (o:=.lst []) S);have h2:=qx (o:=.lst []) S _ _ r;have u:=qk (H:=H1) (a:=t) (o:=.lst []);have M:=l.free S;have ad:d≠t:=λz=>by rw[<- z,r]at S;cases S
   generalize upd H1 t _=H2 at s2 h2 u |-;dsimp only[qa8,AA,AB];refine(nmc Z ⟨_,Z,⟨_,SqL.of (s2 _ _ hp)⟩,qa5 (K:=K) (a:=v) (xs:=us) (λi σ H'=>Same H H'/\H' d=some (.dK kvs)/\H' t=some (.lst ((qca nms bs i).map V.str))/\∃y v4 v5:Option V,σ=[some (.ref v),some (.ref d),y,some (.ref t),v4,v5])
    ⟨s2,h2,u,_,_,_,Z⟩ (λi σ H' _ h=>SqL.of (h.1 _ _ hp)) ?_ ?_⟩)
   .rintro i x σ J G ⟨l,r,u,y,v4,v5,rfl⟩;have hi:i<nms.length:=by rw[<- n.1];exact(Ac.mp G).1
    obtain⟨p,dx,fs,rfl,W,r2,r3⟩:=(n.2 i x G).same l;refine(nmc Z (flc (W) (T.kG) (qp T.kH Uk) (r2) ⟨qdy,λq F=>?_⟩));obtain⟨X,w2⟩:=alc (o:=.lst []) F;have ae:=l.free F;have af:t≠q:=λz=>by rw[<- z,u]at F;cases F
    have ag:d≠q:=λz=>by rw[<- z,r]at F;cases F
    generalize upd J q _=J1 at X w2 |-;dsimp only[qa8,AA,AB];have lO:=qqv nms bs i;have lS:=C.sm;refine⟨λm σ' e=>Same H e/\e d=some (.dK kvs)/\e t=some (.lst ((qca nms bs i).map V.str))/\∃g:List Str,e q=some (.lst (g.map V.str))/\((∃c:Nat,σ'=[some (.ref v),some (.ref d),some (.ref p),some (.ref t),some (.str (nm nms c)),some (.ref q)]/\c<nms.length/\rk c<m/\g++upW nms bs (qca nms bs i) m c=upW nms bs (qca nms bs i) 7 i/\g.length+m=7)\/(σ'=[some (.ref v),some (.ref d),some (.ref p),some (.ref t),some .non,some (.ref q)]/\g=upW nms bs (qca nms bs i) 7 i)),⟨7,l.trans X,X _ _ r,X _ _ u,[],w2,.inl ⟨i,Z,hi,C.lo i,Z,Z⟩⟩,?_⟩;rintro m σ' e ⟨y1,y2,D,g,Y,⟨c,rfl,ha,hm,j,hl⟩|⟨rfl,j⟩⟩
    .refine(nmc Z ⟨Z,(nmc Z (qtf (λz=>nomatch z) (nmc Z (nmc Z ⟨_,_,Z,.inl (SqL.of D),Z,qd1 _,(nmc Z ?_)⟩))))⟩);show if (!inV (.str (nm nms c)) ((qca nms bs i).map V.str))=true then _ else _;rw[qff];cases ec:(qca nms bs i).contains (nm nms c) with
     |true =>refine qbs ?_;rw[qtz (BO.mp ec),BC]at j;subst j;refine(nmc Z ⟨.inl ⟨Z,_,SqL.of D⟩,(nmc Z ⟨_,Z,_,Z,Z,q,_,Z,SqL.of Y,λN B=>?_⟩)⟩);have I:=y1.trans (qx (o:=.lst ((upW nms bs (qca nms bs i) 7 i).map V.str).reverse) B);have R:=qx (o:=.lst ((upW nms bs (qca nms bs i) 7 i).map V.str).reverse) B _ _ D;have O:=qx (o:=.lst ((upW nms bs (qca nms bs i) 7 i).map V.str).reverse) B _ _ y2;have L:=qk (H:=e) (a:=N) (o:=.lst ((upW nms bs (qca nms bs i) 7 i).map V.str).reverse);generalize upd e N _=J2 at I R O L |-;have b:=qiv nms bs (qca nms bs i) 7 i;refine⟨_,_,_,_,Z,Z,R,L,qdd (by rw[Bx,Ab,Ab];lia),qai I M,(qr ad).trans O,?_,_,_,_,Z⟩;rw[qk,qfh,<- DF,<- Ar]
     |false =>
      have nt:¬nm nms c∈qca nms bs i:=λz=>by rw[BO.mpr z]at ec;cases ec
      obtain⟨f,rfl⟩:∃f,m=f+1:=⟨m-1,by lia⟩;rw[qty nt]at j;have lz:(g.map V.str).length<=90000:=by rw[Ab];lia
      refine qd6 ⟨λσ' e=>Same H e/\e d=some (.dK kvs)/\e t=some (.lst ((qca nms bs i).map V.str))/\∃g:List Str,e q=some (.lst (g.map V.str))/\((∃c:Nat,σ'=[some (.ref v),some (.ref d),some (.ref p),some (.ref t),some (.str (nm nms c)),some (.ref q)]/\c<nms.length/\rk c<f/\g++upW nms bs (qca nms bs i) f c=upW nms bs (qca nms bs i) 7 i/\g.length+f=7)\/(σ'=[some (.ref v),some (.ref d),some (.ref p),some (.ref t),some .non,some (.ref q)]/\g=upW nms bs (qca nms bs i) 7 i)),λσ2 H2 z=>⟨f,BU f,z⟩,?_⟩;refine(nmc Z ⟨.inl ⟨Z,_,SqL.of Y⟩,(nmc Z ⟨_,_,_,Z,Z,Y,qbe lz,?_⟩)⟩);have x1:Same H (upd e q (.lst (g.map V.str++[V.str (nm nms c)]))):=qai y1 ae;have x2:upd e q (.lst (g.map V.str++[V.str (nm nms c)])) q=some (.lst ((g++[nm nms c]).map V.str)):=by rw[qk,Ar];rfl
      have U:=(qr (H:=e) (o:=.lst (g.map V.str++[V.str (nm nms c)])) ag).trans y2;have x4:=(qr (H:=e) (o:=.lst (g.map V.str++[V.str (nm nms c)])) af).trans D;generalize upd e q _=J2 at x1 x2 U x4 |-;refine(nmc Z (nmc Z ⟨d,_,Z,(hv c ha) ▸ DGet.k (k:=.inr (nm nms c)) U,?_⟩));cases eb:bo bs c with
      |none =>rw[eb]at j;exact⟨x1,U,x4,_,x2,.inr ⟨Z,j⟩⟩
      |some b =>rw[eb]at j;obtain⟨b1,b2⟩:=C.ok c b (by rw[qx8 (by rw[C.len];exact ha),eb]);refine⟨x1,U,x4,_,x2,.inl ⟨b,Z,b1,by lia,?_,by rw[Af];show g.length+1+f=7;lia⟩⟩;rw[Em];exact j
    .refine(nmc Z ⟨Z,(nmc Z (qtd Z (qbs ?_)))⟩);subst j;refine(nmc Z ⟨.inl ⟨Z,_,SqL.of D⟩,(nmc Z ⟨_,Z,_,Z,Z,q,_,Z,SqL.of Y,λN B=>?_⟩)⟩);have I:=y1.trans (qx (o:=.lst ((upW nms bs (qca nms bs i) 7 i).map V.str).reverse) B);have R:=qx (o:=.lst ((upW nms bs (qca nms bs i) 7 i).map V.str).reverse) B _ _ D;have O:=qx (o:=.lst ((upW nms bs (qca nms bs i) 7 i).map V.str).reverse) B _ _ y2;have L:=qk (H:=e) (a:=N) (o:=.lst ((upW nms bs (qca nms bs i) 7 i).map V.str).reverse);generalize upd e N _=J2 at I R O L |-;have b:=qiv nms bs (qca nms bs i) 7 i;refine⟨_,_,_,_,Z,Z,R,L,qdd (by rw[Bx,Ab,Ab];lia),qai I M,(qr ad).trans O,?_,_,_,_,Z⟩;rw[qk,qfh,<- DF,<- Ar]
   .rintro σ H' ⟨l,r,u,y,v4,v5,rfl⟩;rw[n.1]at u;exact(nmc Z (k t H' M l u))
theorem qrd (T:Txt K mg a):FnOk P w K mg base CX0 1 a.xD a.nJ ["_law_acts_here"] spSo55:=by
 refine T.bS.fn.ok qdn (λvs H Q E h=>?_) (λcdv A outer s H vs Q E hr h=>?_)
 .obtain⟨_,_,_,rfl,_⟩:=h
  all_goals rfl
 .obtain⟨p,us,B,rfl,hp,ht,hl,k⟩:=h;refine⟨_,(qf (qu (i:=1) qdn.nd Z (Au Z) (zh qg))
   (qf (qa3 A8 Z (qa0 (pv 0)) (qag (i:=2) qdn.nd Z (Au Z)) (qf (qu (i:=3) qdn.nd Z (Au Z) qi)
   (qf (qf8 A8 (PW.pt (qc5 (qt qc3 (pv 3) (zd qb1 (by rfl) T.gA qb5 (qd (pv 1) qg qe)) (qad _)) (qco (qt (Lam.op_ltK hr.units) (zj (qd (zp zq (zp zr (pv 1) (pv 3) (λ_ _=>rfl)) qi (λ_ _=>rfl)) (qd (zp zq (zp zr (pv 1) (pv 3) (λ_ _=>rfl)) qi (λ_ _=>rfl)) qg zn) zn)) (zj (qd (zp zq (pv 2) qi (λ_ _=>rfl)) (qd (zp zq (pv 2) qi (λ_ _=>rfl)) qg zn) zn)) (qad _))))) (qj (qu (i:=3) qdn.nd Z (Au Z) (qv qah (pv 3) qi))))
   (qj (qz (qbr Ax PySem.F.slot_list_insert PySem.F.type_list_insert qrx (pv 1) (qd (pv 3) (qd (pv 2) qg qe) qe)))))))
   (qj (qo (pv 1))))),?_⟩
  have lu:=ht.length;rw[Ab]at lu;refine⟨qdy,λq S=>?_⟩;obtain⟨s1,M⟩:=alc (o:=.lst []) S;generalize upd H q _=H1 at s1 M |-;dsimp only[qa8,AA,AB];refine(nmc Z ⟨_,Z,⟨_,SqL.of (s1 _ _ hp)⟩,qa5 (K:=K) (a:=p) (xs:=us) (λi σ J=>Same H J/\∃(n:List V)(d:List Act),J q=some (.lst n)/\Tups H n (d.map qdo)/\d.Perm (B.take i)/\qhg d/\∃v2 v3:Option V,σ=[some (.ref p),some (.ref q),v2,v3]) ⟨s1,[],[],M,.nil,.refl _,.nil,none,none,Z⟩ (λi σ J _ h=>SqL.of (h.1 _ _ hp)) ?_ ?_⟩)
  .rintro i v σ J hv ⟨X,n,d,Y,e,C,O,v2,v3,rfl⟩;have hi:i<B.length:=by have:=(Ac.mp hv).1;lia
   have N:=Ae hi;generalize B[i]=t at N;obtain⟨b,eb,R⟩:=ht.get (i:=i) (r:=qdo t) (by rw[Ag,N];rfl);rw[hv]at eb;cases eb;have lF:=e.length;rw[Ab]at lF;have ad:=C.length_eq;rw[Bj]at ad;dsimp only[qa8,AA,AB];refine⟨λm σ' u=>Same H u/\u q=some (.lst n)/\∃c:Nat,c+m=d.length/\(∀j x,j<c->d[j]?=some x->Lam.ltK (qdp x) (qdp t)=true)/\σ'=[some (.ref p),some (.ref q),some (.ref b),some (.int (c:Int))],⟨d.length,X,Y,0,Nat.zero_add _,(λj x h=>by cases h),Z⟩,?_⟩;rintro m σ' u ⟨g,l,c,em,lo,rfl⟩;refine(nmc Z (nmc Z ⟨_,_,Z,.inl ⟨_,SqL.of l,Z⟩,(iic Z Z ⟨_,Z,qbx (λG=>?_) (λG=>?_)⟩)⟩))
   .have G:=of_decide_eq_true G;have la:c<d.length:=by lia
    have ex:=Ae la;generalize d[c]=x at ex;obtain⟨y,ey,qy⟩:=e.get (i:=c) (r:=qdo x) (by rw[Ag,ex];rfl);refine(nmc Z (nmc Z (lxo (l) (qao ey) (txo (g _ _ qy) Z (nmc Z (nmc Z (lxo (l) (qao ey) (txo (g _ _ qy) Z ⟨qqd _ _,λt1 n1=>?_⟩))))))));obtain⟨st,M⟩:=alc (o:=.tup (Lam.encK (qdp x))) n1;refine(nmc Z (txo ((st _ _ (g _ _ R))) Z (nmc Z (txo ((st _ _ (g _ _ R))) Z ⟨qqd _ _,λt2 n2=>?_⟩))));have D:=qx (o:=.tup (Lam.encK (qdp t))) n2;have e2:=qk (H:=upd u t1 (.tup (Lam.encK (qdp x)))) (a:=t2) (o:=.tup (Lam.encK (qdp t)));refine⟨_,_,qdp x,qdp t,Z,Z,D _ _ M,e2,?_⟩;have U:=g.trans (st.trans D);have I:=D _ _ (st _ _ l);refine⟨_,Z,qbx (λW=>?_) (λW=>?_)⟩
    .obtain⟨m,rfl⟩:∃f,m=f+1:=⟨m-1,by lia⟩;refine⟨λσ' u=>Same H u/\u q=some (.lst n)/\∃c:Nat,c+m=d.length/\(∀j x,j<c->d[j]?=some x->Lam.ltK (qdp x) (qdp t)=true)/\σ'=[some (.ref p),some (.ref q),some (.ref b),some (.int (c:Int))],λσ2 H2 z=>⟨m,BU m,z⟩,?_⟩;refine(nmc Z (iic Z Z ⟨U,I,c+1,by lia,λj x' hj ej=>?_,Z⟩));by_cases z:j=c
     .subst z;rw[ex]at ej;cases ej;exact W
     .exact lo j x' (by lia) ej
    .refine(nmc Z ⟨.inl ⟨Z,_,SqL.of I⟩,(nmc Z (nmc Z ⟨_,_,_,c,Z,Z,I,(by lia),(by lia),qai U S,_,d.take c++t::d.drop c,qk,?_,?_,qq0 O (by lia) lo (λx' L=>by rw[ex]at L;cases L;cases z:Lam.ltK (qdp x) (qdp t) with|false=>rfl|true=>exact absurd z W),_,_,Z⟩))⟩)
     .rw[Ar,AX,DJ,Es];exact(e.take c).app (.cons R (e.drop c))
     .rw[B0,N];refine List.perm_middle.trans ?_;rw[BI];exact(List.Perm.cons t C).trans (DA (l₁:=[t]))
   .have G:¬(c:Int)<(n.length:Int):=λz=>G (decide_eq_true z);refine(nmc Z ⟨.inl ⟨Z,_,SqL.of l⟩,(nmc Z (nmc Z ⟨_,_,_,c,Z,Z,l,(by lia),(by lia),qai g S,_,d.take c++t::d.drop c,qk,?_,?_,qq0 O (by lia) lo (λx' L=>absurd (Ac.mp L).1 (by lia)),_,_,Z⟩))⟩)
    .rw[Ar,AX,DJ,Es];exact(e.take c).app (.cons R (e.drop c))
    .rw[B0,N];refine List.perm_middle.trans ?_;rw[BI];exact(List.Perm.cons t C).trans (DA (l₁:=[t]))
  .rintro σ J ⟨X,n,d,Y,e,C,O,v2,v3,rfl⟩;rw[lu,Bw]at C;exact(nmc Z (k q J n d S X C O Y e))
theorem qsw (T:Txt K mg a):FnOk P w K mg base CX0 1 a.nO a.sP ["_law_told"] spSp55:=by
 refine T.fE.fn.ok qh3 (λvs H Q E h=>?_) (λcdv A outer s H vs Q E hr h=>?_)
 .obtain⟨_,_,_,_,_,_,_,_,_,_,rfl,_⟩:=h
  all_goals rfl
 .obtain⟨d,bs,rs,ts,Zq,n,q,y,B,C,rfl,x,hS,T0,hz,k⟩:=h;refine⟨_,(qf (qa3 A8 Z (qa0 (qb6 (qfm Z) (by rfl) T.gC qbu (qd (pv 0) qg qe))) (qag (i:=1) qh3.nd Z (Au Z)) (qf (qa3 A8 Z (qa0 (qdf (qci hr) (pv 0) (pv 1) (λ_ _=>rfl))) (qag (i:=2) qh3.nd Z (Au Z)) (qf (qz (qbr Ax A3 A4 qam (zp zq (pv 2) qi (λ_ _=>rfl)) (qd (zj (qd qi (qd qi qg ql) ql)) qg zo)))
   (qj (qz (qbr Ax A3 A4 qam (zp zq (pv 2) qi (λ_ _=>rfl)) (qd (zj (qd zg (qd qi (qd zg qg ql) ql) ql)) qg zo))))))
   (qj (qz (qbr Ax A3 A4 qam (qdf (qci hr) (pv 0) (pv 1) (λ_ _=>rfl)) (qd qi qg ql))))))
   (qj (qes (qci hr) (pv 0) zg (zh qg) Z))),?_⟩
  have n4:=T0.n4;refine(nmc Z ⟨d,_,Z,x.1,λl M=>?_⟩);obtain⟨F,e1⟩:=alc (o:=.lst ((kvR n ts q).map λkv=>kV kv.1)) M;generalize upd H l _=H1 at F e1 |-;have O:∀b,Pq Zq n B C b->∃u,H b=some (.lst u)/\u.length<=100:=λb U=>by
   obtain⟨i,c,j,g,U⟩:=U;obtain⟨_,⟨u4,g4,t4⟩,⟨u6,g6,t6⟩⟩:=(x.2 i c).2 j g;have t4:=t4.length;have t6:=t6.length;rw[Ab]at t4 t6;obtain⟨z4,z6⟩:=(hz i c).2 _ (qel g);rcases U with rfl|rfl
   .exact⟨u4,g4,by lia⟩
   .exact⟨u6,g6,by lia⟩
  have ae:∀i<n,l≠q i:=λi c z=>by rw[z,(x.2 i c).1]at M;cases M
  have af:¬Pq Zq n B C l:=λz=>by obtain⟨u,I,_⟩:=O l z;rw[M]at I;cases I
  have ag:l≠d:=λz=>by rw[z,x.1]at M;cases M
  have J0:SpJ H1 H1 Zq n d (kvR n ts q) q B C (λi=>(Ao (Zq i).length).map λj=>.ref (y i j)) 100 0:=by
   refine⟨λb U=>?_,λb o _ _ _ e=>e,F _ _ x.1,λi _ c=>F _ _ (x.2 i c).1,λi c=>⟨_,F _ _ (x.2 i c).1⟩,λi c z=>?_,λi c i' S W=>(hS i c i' S).1 W⟩
   .obtain⟨u,I,u2⟩:=O b U;exact⟨u,F _ _ I,u2⟩
   .obtain⟨i',S,j,g,z⟩:=z;obtain⟨z4,z6⟩:=(hS i c i' S).2 j g;rcases z with z|z
    .exact z4 z
    .exact z6 z
  have tup:∀{J:Hp}{N m:Nat}{b:Addr}{r:List V},SpJ H1 J Zq n d (kvR n ts q) q B C (λi=>(Ao (Zq i).length).map λj=>.ref (y i j)) N m->H b=some (.tup r)->J b=some (.tup r):=λ{J N m b r} h e=>h.fr b _ (λz=>by rw[z,x.1]at e;cases e) (λi c z=>by rw[z,(x.2 i c).1]at e;cases e) (λz=>by obtain⟨u,I,_⟩:=O b z;rw[e]at I;cases I) (F _ _ e);refine⟨_,Z,⟨_,SqL.of e1⟩,qa5 (K:=K) (a:=l) (xs:=(kvR n ts q).map λkv=>kV kv.1) (λi σ J=>SpJ H1 J Zq n d (kvR n ts q) q B C (λi=>(Ao (Zq i).length).map λj=>.ref (y i j)) (100+40*i) i/\∃v1 G:Option V,σ=[some (.ref d),v1,G]) ⟨J0,none,none,Z⟩ (λi σ J _ h=>SqL.of (h.1.fr l _ ag ae af e1)) ?_ ?_⟩
  .rintro i v σ J D ⟨L,v1,G,rfl⟩;have c:i<n:=by have:=(Ac.mp D).1;rw[Ab,qew]at this;exact this
   have ev:v=.str (ts i).name:=by unfold kvR at D;rw[Ag,Ag,AV c]at D;cases D;rfl
   subst ev;have gd:∀{J:Hp}{N m:Nat},SpJ H1 J Zq n d (kvR n ts q) q B C (λi=>(Ao (Zq i).length).map λj=>.ref (y i j)) N m->DGet J d (.str (ts i).name) (some (.ref (q i))):=λ{J N m} h=>(qix T0.nn c (p:=q)) ▸ DGet.k (k:=.inr (ts i).name) h.hd;obtain⟨lz,lz2⟩:=hz i c;refine(nmc Z (nmc Z ⟨d,_,Z,gd L,_,Z,⟨_,SqL.of (L.hq i (Al i) c)⟩,qa5 (K:=K) (a:=q i) (xs:=(Ao (Zq i).length).map λj=>.ref (y i j)) (λj σ J=>SpJ H1 J Zq n d (kvR n ts q) q B C (λi=>(Ao (Zq i).length).map λj=>.ref (y i j)) (100+40*i+2*j) i/\∃G:Option V,σ=[some (.ref d),some (.str (ts i).name),G]) ⟨L,_,Z⟩ (λj σ J _ h=>SqL.of (h.1.hq i (Al i) c)) ?_ ?_⟩))
   .rintro j v σ J' D ⟨f,G,rfl⟩;have g:j<(Zq i).length:=by have:=(Ac.mp D).1;rw[Ab,Aq]at this;exact this
    rw[Ag,AV g]at D;cases D;have ha:=((x.2 i c).2 j g).1;obtain⟨u4,Y,l4⟩:=f.ls (B i j) ⟨i,c,j,g,.inl Z⟩;refine(nmc Z (txo (tup f ha) Z ⟨.inl ⟨Z,_,SqL.of Y⟩,qqd _ _,λt nt=>?_⟩));have st:=qx (o:=.tup [.int 0,.int 0]) nt;have X:=(f.same st).app (v:=.ref t) ⟨i,c,j,g,.inl Z⟩ (st _ _ Y);refine⟨_,_,_,Z,Z,st _ _ Y,qbe (by lia),?_⟩;generalize upd (upd J' t _) (B i j) _=J3 at X |-;obtain⟨u6,h6,l6⟩:=X.ls (C i j) ⟨i,c,j,g,.inr Z⟩;refine(nmc Z (txo (tup X ha) Z ⟨.inl ⟨Z,_,SqL.of h6⟩,qjr _ _ _,λt2 ad=>?_⟩));have R:=qx (o:=.tup [.str (Aa "x"),.int 0,.str (Aa "ends")]) ad;have J4:=(X.same R).app (v:=.ref t2) ⟨i,c,j,g,.inr Z⟩ (R _ _ h6);exact⟨_,_,_,Z,Z,R _ _ h6,qbe (by lia),J4.more (by lia),_,Z⟩
   .rintro σ J' ⟨f,G,rfl⟩;rw[Ab,Aq]at f;have hl:=f.hq i (Al i) c;refine(nmc Z (nmc Z ⟨d,_,Z,gd f,.inl ⟨Z,_,SqL.of hl⟩,_,_,_,Z,Z,hl,qbe (by rw[Ab,Aq];lia),?_⟩));exact⟨(f.more (by lia)).qapp c,_,_,Z⟩
  .rintro σ J ⟨L,v1,G,rfl⟩;refine⟨qdy,λe W=>(nmc Z ⟨d,_,Z,DPut.k (k:=.inr (Aa "x")) (qx W _ _ L.hd) (by rw[qew,Bq];lia),k _ λb o n1 n2 n3 eb=>?_⟩)⟩;have:=L.fr b o n1 n2 n3 (F _ _ eb);rw[qr n1];exact qx W _ _ this
theorem qmr (T:Txt K mg a):FnOk P w K mg base CX0 3 a.fK a.tX ["self","rules"] (spBInit a):=by
 refine T.l7.fn.ok qlz (λvs H Q E h=>?_) (λcdv A outer s H vs Q E hr h=>?_)
 .obtain⟨_,_,_,_,_,_,_,rfl,_⟩:=h
  all_goals rfl
 .obtain⟨x,f,pr,us,nms,bs,rk,rfl,v,q,g,u,k⟩:=h;refine⟨_,(qf (qay (pv 0) (zc (qmn T) (hr.mono Uk) Z T.dW.mgx T.dW.fn.kp T.dW.bd .nil qac (qd (pv 1) qg qe)) Z)
   (qf (qay (pv 0) qdl Z)
   (qj (qa3 A8 Z (qa0 (pv 1)) (qag (i:=2) qlz.nd Z (Au Z)) (qj (qes (qci hr) (qab (pv 0) Z) (qab (pv 2) Z) (pv 2) Z)))))),?_⟩
  refine(nmc Z ⟨_,us,nms,bs,rk,Z,q,g,u,λc R O s1 Y=>?_⟩);have x1:=s1 _ _ v;refine(nmc Z ⟨_,_,_,_,Z,x1,T.gL,qp T.bE Uk,Uk,?_⟩);rw[put1];have F:c≠x:=λz=>by rw[z,v]at O;cases O
  have W:SameBut x H (upd R x (.ins a.kN f [(Aa "order",.ref c)])):=(SameBut.of s1).set;have I:=qk (H:=R) (a:=x) (o:=.ins a.kN f [(Aa "order",.ref c)]);have o2:=(qr (o:=.ins a.kN f [(Aa "order",.ref c)]) F).trans Y;generalize upd R x _=H2 at W I o2 |-;refine λd l=>?_;obtain⟨M,d3⟩:=alc (o:=.dK []) l;have x3:=M _ _ I;have r:d≠x:=λz=>by rw[z,I]at l;cases l
  have ad:c≠d:=λz=>by rw[<- z,o2]at l;cases l
  have nd:=W.free r l;refine(nmc Z ⟨_,_,_,_,Z,x3,T.gL,qp T.bE Uk,(show 1<1000 by decide),?_⟩);rw[put2 _ _ Ez];have S:SameBut x H (upd (upd H2 d (.dK [])) x (.ins a.kN f (bfs c d))):=(W.trans (SameBut.of M)).set;have x4:=qk (H:=upd H2 d (.dK [])) (a:=x) (o:=.ins a.kN f (bfs c d));have o4:=(qr (o:=.ins a.kN f (bfs c d)) F).trans (M _ _ o2);have d4:=(qr (o:=.ins a.kN f (bfs c d)) r).trans d3;generalize upd (upd H2 d (.dK [])) x _=H4 at S x4 o4 d4 |-;have G:pr≠x:=λz=>by rw[z,v]at q;cases q
  have rule:∀{H':Hp}{i:Nat}{y:V},SameBut x H H'->us[i]?=some y->RuN a.kE H' y (nm nms i) (qo0 nms (bo bs i)):=λb e=>by obtain⟨p,D,fs,Y,m,X,h3⟩:=g.2 _ _ e;refine⟨p,D,fs,Y,b _ _ (λz=>?_) m,X,h3⟩;rw[z,v]at m;injection m with m;injection m with _ _ h5;rw[<- h5]at X;cases X
  refine(nmc Z ⟨_,Z,⟨_,SqL.of (S _ _ G q)⟩,qa5 (K:=K) (a:=pr) (xs:=us) (λi σ H'=>SameBut x H H'/\H' x=some (.ins a.kN f (bfs c d))/\H' c=some (.lst ((qca nms bs nms.length).map V.str))/\∃(J:Option V)(kvs:List (Key×V)),σ=[some (.ref x),some (.ref pr),J]/\H' d=some (.dK kvs)/\kvs.length<=i/\(kvs.map λkv=>kV kv.1)=(nms.take i).map V.str/\∀(j:Nat)(z:V),j<i->us[j]?=some z->qbh kvs (.inr (nm nms j))=some z)
   ⟨S,x4,o4,none,[],Z,d4,Al _,Z,λj z hj=>absurd hj (Bg _)⟩ (λi σ H' _ h=>SqL.of (h.1 _ _ G q)) ?_ ?_⟩)
  .rintro i y σ H' L ⟨C,t,N,J,kvs,rfl,d5,hl,B,U⟩;have hi:i<nms.length:=by rw[<- g.1];exact(Ac.mp L).1
   obtain⟨p,D,fs,rfl,r1,r2,r3⟩:=rule C L;refine(nmc Z (nmc Z (flc (t) (T.gL) (qp T.bE Uk) (rfl) (nmc Z (flc (r1) (T.kG) (qp T.kH Uk) (r2) ⟨d,_,Z,DPut.k (k:=.inr (nm nms i)) d5 (by rw[Bq];have:=u.sm;lia),?_⟩)))));exact⟨λb o n e=>by rw[qr (qae e nd)];exact C b o n e,(qr r.symm).trans t,(qr ad).trans N,_,_,Z,qk,A9 (qcs _ _ _) (C5 hl),bk_keys _ u.nd hi B,bk_get u.nd hi g.1 L U⟩
  .rintro σ H' ⟨C,t,N,J,kvs,rfl,d5,hl,B,U⟩;rw[g.1,Bw]at B;exact k H' C λH9 qb9=>⟨f,c,d,kvs,qb9 _ _ (.inr (.inl Z)) t,qb9 _ _ (.inl O) N,qb9 _ _ (.inl nd) d5,B,λj y e=>U j y (Ac.mp e).1 e⟩
theorem qm8 (T:Txt K mg a):FnOk P w K mg base CX0 5 a.fX a.tK ["self","week","yearly"] (spPInit a):=by
 refine T.tJ.fn.ok qm1 (λvs H Q E h=>?_) (λcdv A outer s H vs Q E C h=>?_)
 .obtain⟨_,_,_,_,_,_,rfl,_⟩:=h
  all_goals rfl
 .obtain⟨x,e,pw,py,b,yr,rfl,hx,hw,hy,af,F,k⟩:=h;refine⟨_,(qf (qz (zc (qpb T) (C.mono Uk) Z T.dO.mgx T.dO.fn.kp T.dO.bd .nil qac (qd (pv 1) qg qe)))
   (qf (qz (zc (qmp T) (C.mono Uk) Z T.dH.mgx T.dH.fn.kp T.dH.bd .nil qac (qd (pv 2) qg qe)))
   (qf (qay (pv 0) (qfk (N:=["within","week","yearly"]) (js:=[none,some 1,some 2]) (XN:=["self","week","yearly"]) (xs:=qaa qcz) Z Z Z Ez (qbp Z T.gB (qd (qbw (v:=.int 371) Z T.fU.choose_spec ⟨_,Z⟩) qg qe)) (λ_ _ _ _ _ _=>(qag (i:=0) (show Cw (["within","week","yearly"]:List Str) from by decide +kernel) Z (Au Z) (DC Z))) (λ_ _ _ _ _ _=>qfj) (λ_ _ _ _ _ _=>(zc (qmo T) (C.mono Uk) Z T.fG.mgx T.fG.fn.kp T.fG.bd .nil qac (qd (pv 0) (qd (pv 1) (qd (pv 2) qg qe) qe) qe)))) Z)
   (qf (qay (pv 0) (qfk (N:=["within","self"]) (js:=[none,some 0]) (XN:=["self","week","yearly"]) (xs:=qaa qcz) Z Z Z Ez (qbp Z T.gB (qd (qbw (v:=.int 371) Z T.fU.choose_spec ⟨_,Z⟩) qg qe)) (λ_ _ _ _ _ _=>(qag (i:=0) (show Cw (["within","self"]:List Str) from by decide +kernel) Z (Au Z) (DC Z))) (λ_ _ _ _ _ _=>(qs4 (qd3 (zf (zp (qpu (K:=K) Z) (qod (K:=K) Z (pv 1) Z) (pv 0) (λ_ _=>rfl)))))) (λ_ _ _ _ _ _=>(pv 0))) Z)
   (qj (qay (pv 0) (zc (qrb T) (C.mono Uk) Z T.dJ.mgx T.dJ.fn.kp T.dJ.bd .nil qac (qd (qab (pv 0) Z) qg qan)) Z)))))),?_⟩
  refine(nmc Z ⟨_,_,Z,hw,af,λH1 s1=>?_⟩);refine(nmc Z ⟨_,_,Z,hy.same s1,F,λH2 s2=>?_⟩);have f:=s1.trans s2;have hly:=F.len;refine⟨_,Z,Uk,Uk,?_⟩;refine qnl (λv=>match v with | .int i=>.bl (fy b yr i)|_=>.non) (λσ'=>∃v,σ'=[v,some (.ref pw),some (.ref py)]) qet (qdd (by rw[Ab,Aq];decide)) ⟨none,Z⟩ (λv σ' H' RR U t O q=>?_) qeu λc u p s3 e3=>?_
  .obtain⟨v0,rfl⟩:=O;obtain⟨j,_,rfl⟩:=AU.mp U;exact(nmc Z (nmc Z (nmc Z ⟨_,_,_,_,_,Z,t _ _ (f _ _ hw),(hy.same f).same t,by lia,λr m=>q _ r ⟨_,Z⟩ m⟩)))
  have ah:u c=some (.lst ((fdL b yr).map V.bl)):=by rw[e3];unfold fdL;rw[Ca,Ca];refine congrArg (λl=>some (HO.lst l)) (BL λj _=>?_);show V.bl (fy b yr (0+(j:Int)))=V.bl (fy b yr (j:Int));rw[Cj]
  have n:=f.trans s3;have ad:=n _ _ hx;refine(nmc Z ⟨_,_,_,_,Z,ad,T.kQ,qp T.gD Uk,Uk,?_⟩);rw[put1];have I:c≠x:=λz=>by rw[z,f _ _ hx]at p;cases p
  have M:SameBut x H (upd u x (.ins a.kK e [(Aa "free_days",.ref c)])):=(SameBut.of n).set;have S:=(qr (o:=.ins a.kK e [(Aa "free_days",.ref c)]) I).trans ah;have y:=qk (H:=u) (a:=x) (o:=.ins a.kK e [(Aa "free_days",.ref c)]);generalize upd u x (.ins a.kK e [(Aa "free_days",.ref c)])=H4 at M S y |-;refine⟨_,Z,Uk,Uk,?_⟩;refine qnm (λv=>match v with | .int i=>!((fdL b yr).getD i.toNat true)|_=>false) (λv=>v) (λσ'=>∃v,σ'=[v,some (.ref x)]) qet (qdd (by rw[Ab,Aq];decide)) ⟨none,Z⟩ (λv σ' H' N RR U t O kn Y=>?_) qeu λd g=>?_
  .obtain⟨v0,rfl⟩:=O;obtain⟨j,hj,rfl⟩:=AU.mp U;have ae:j<371:=by simpa using hj
   have ej:(0:Int)+(j:Int)=(j:Int):=Cj _;rw[ej]at kn Y |-;have ag:j<(fdL b yr).length:=by rw[qfl];exact ae
   have eg:(fdL b yr)[j]?=some ((fdL b yr)[j]):=Ae ag;have eD:(fdL b yr).getD ((j:Int)).toNat true=(fdL b yr)[j]:=by rw[B8,Ak,eg];rfl
   refine(nmc Z (flc (t _ _ y) (T.kQ) (qp T.gD Uk) (rfl) (nmc Z (lxo (t _ _ S) (qao (by rw[Ag,eg];rfl)) (nmc Z ?_)))));cases eb:(fdL b yr)[j] with|true=>exact qbs (kn _ ⟨_,Z⟩ (by show (!_)=false;rw[eD,eb];rfl))|false=>exact qd6 (nmc Z (Y _ ⟨_,Z⟩ (by show (!_)=true;rw[eD,eb];rfl)))
  have m:=qx (o:=.lst ((((Ao (371:Int).toNat).map λi=>V.int (0+(i:Nat))).filter λv=>match v with | .int i=>!((fdL b yr).getD i.toNat true)|_=>false).map λv=>v)) g;have e5:upd H4 d (.lst ((((Ao (371:Int).toNat).map λi=>V.int (0+(i:Nat))).filter λv=>match v with | .int i=>!((fdL b yr).getD i.toNat true)|_=>false).map λv=>v)) d=some (.lst ((odL (fdL b yr)).map V.int)):=by
   rw[qk];refine congrArg (λl=>some (HO.lst l)) ?_;unfold odL;rw[List.map_id',List.filter_map,Ca,qfl];refine(congrArg _ (List.filter_congr λi _=>?_)).trans (BL λi _=>?_)
   .show (!((fdL b yr).getD (0+(i:Int)).toNat true))=_;rw[Cj,B8]
   .show V.int (0+(i:Int))=_;rw[Cj];rfl
  have W:=m _ _ y;have f5:=m _ _ S;generalize upd H4 d (.lst ((((Ao (371:Int).toNat).map λi=>V.int (0+(i:Nat))).filter λv=>match v with | .int i=>!((fdL b yr).getD i.toNat true)|_=>false).map λv=>v))=r at m e5 W f5 |-;refine(nmc Z ⟨_,_,_,_,Z,W,T.kQ,qp T.gD Uk,(show 1<1000 by decide),?_⟩);rw[put2 _ _ Ez];have J:d≠x:=λz=>by rw[z,y]at g;cases g
  have R:SameBut x H (upd r x (.ins a.kK e [(Aa "free_days",.ref c),(Aa "open_days",.ref d)])):=(M.trans (SameBut.of m)).set;have G:=(qr (o:=.ins a.kK e [(Aa "free_days",.ref c),(Aa "open_days",.ref d)]) I).trans f5;have X:=(qr (o:=.ins a.kK e [(Aa "free_days",.ref c),(Aa "open_days",.ref d)]) J).trans e5;have D:=qk (H:=r) (a:=x) (o:=.ins a.kK e [(Aa "free_days",.ref c),(Aa "open_days",.ref d)]);generalize upd r x (.ins a.kK e [(Aa "free_days",.ref c),(Aa "open_days",.ref d)])=H6 at R G X D |-;refine(nmc Z (flc (D) (T.kQ) (qp T.gD Uk) (rfl) ⟨_,_,Z,G,by rw[qfl];decide,λp7 H7 L B e7=>?_⟩));have x7:=B _ _ D;refine(nmc Z ⟨_,_,_,_,Z,x7,T.kQ,qp T.gD Uk,(show 2<1000 by decide),?_⟩);rw[put3 _ _ _ Ez Ez];have m7:p7≠x:=λz=>by rw[z,D]at L;cases L
  refine k _ ((R.trans (SameBut.of B)).set) λH9 qb9=>⟨_,c,d,p7,qb9 _ _ (.inr (.inl Z)) qk,qb9 _ _ (.inl (f.free p)) ((qr I).trans (B _ _ G)),qb9 _ _ (.inl (M.free J g)) ((qr J).trans (B _ _ X)),qb9 _ _ (.inl (R.free m7 L)) ((qr m7).trans e7),qfl _ _⟩
theorem qre (T:Txt K mg a):FnOk P w K mg base CX0 7 a.fQ a.lP ["self","week","yearly","rows"] (spTInit a):=by
 refine T.yP.fn.ok qj8 (λvs H Q E h=>?_) (λcdv A outer s H vs Q E J h=>?_)
 .obtain⟨_,_,_,_,_,_,_,_,rfl,_⟩:=h
  all_goals rfl
 .obtain⟨x,g,pw,vy,vr,p,yr,rs,rfl,hx,hw,hy,ay,bz,bi,hl,af,k⟩:=h;refine⟨_,(qf (qay (pv 0) (qdx T.zG (qm8 T) (J.mono Uk) Z T.yC T.tJ.bd .nil qac (qd (pv 1) (qd (zc (qe9 T) (J.mono Uk) Z T.gG.mgx T.gG.fn.kp T.gG.bd .nil qac (qd (pv 2) qg qe)) qg zl) qe)) Z)
   (qf (qz (zc (qpc T) (J.mono Uk) Z T.bU.mgx T.bU.fn.kp T.bU.bd .nil qac (qd (zc (qe9 T) (J.mono Uk) Z T.gG.mgx T.gG.fn.kp T.gG.bd .nil qac (qd (pv 3) qg qe)) qg zl)))
   (qf (qay (pv 0) (zc (qvl T) (J.mono Uk) Z T.fA.mgx T.fA.fn.kp T.fA.bd .nil qac (qd (zc (qe9 T) (J.mono Uk) Z T.gG.mgx T.gG.fn.kp T.gG.bd .nil qac (qd (pv 3) qg qe)) qg zl)) Z)
   (qf (qay (pv 0) (zh (qd qi qg ql)) Z)
   (qj (qa3 A8 Z (qa0 (qab (pv 0) Z)) (qag (i:=4) qj8.nd Z (Au Z)) (qj (qz (qbr Ax A3 A4 qam (qab (pv 0) Z) (qd (qv qah (zp zr (qab (pv 0) Z) (qeq qcx qi) (λ_ _=>rfl)) (qal (pv 0) T.kL T.pU (qi3 T) (J.mono Uk) T.lA.bd .nil qac (qd (pv 4) (qd (qv qah (zp zq (pv 4) qi (λ_ _=>rfl)) qi) qg zm) qe))) qg zm)))))))))),?_⟩
  have ad:∀r∈rs,r.1<=r.2.1:=λr hm=>(af r hm).2.1;obtain⟨c7,_⟩:=qwk ad;have bf:=ov_nn λr hm=>(af r hm).1;have lO:(ov rs).length<=100:=A9 (qw8 _) (A9 (qor ad) (A9 (DV 3 hl) Uk));refine(nmc Z (nmc Z ?_));refine orP hy λpy H0 s0 bq=>?_;intro f ai nx nd ne;have keep:Same H0 (upd (upd H0 ai (.own f)) f (.ins a.kK ai [])):=λb u e=>by rw[qr (qae e nx),qr (qae e nd)];exact e
  refine⟨f,ai,_,_,_,_,Z,qk,keep _ _ (s0 _ _ hw),bq.same keep,bz,bi,λy b1 av=>⟨Z,?_⟩⟩;have aw:=av y λ_ _ _ e=>e;have s1:Same H y:=s0.trans (b1.made nx nd);have N:=s1 _ _ hx;have ae:f≠x:=λz=>by rw[z,s0 _ _ hx]at nx;cases nx
  refine(nmc Z ⟨_,_,_,_,Z,N,T.kL,qp T.kW Uk,Uk,?_⟩);rw[put1];have am:∀{H':Hp}{fs:List (Str×V)},H' x=some (.ins a.kI g fs)->PatAt a.kK H' f (fdL p yr)->∀o,PatAt a.kK (upd H' x o) f (fdL p yr):=λW ⟨d,a1,a2,a3,g1,G,L,M,g5⟩ o =>
   ⟨d,a1,a2,a3,by rw[qr ae];exact g1,by rw[qr (λz=>by rw[z,W]at G;cases G)];exact G,by rw[qr (λz=>by rw[z,W]at L;cases L)];exact L,by rw[qr (λz=>by rw[z,W]at M;cases M)];exact M,g5⟩
  have b2:SameBut x y (upd y x (.ins a.kI g [(Aa "pattern",.ref f)])):=(SameBut.of (Same.refl y)).set;have x2:=qk (H:=y) (a:=x) (o:=.ins a.kI g [(Aa "pattern",.ref f)]);have ag:=am N aw (.ins a.kI g [(Aa "pattern",.ref f)]);generalize upd y x (.ins a.kI g [(Aa "pattern",.ref f)])=H2 at b2 x2 ag |-;have aq:=(ay.same s1).but N b2;refine(nmc Z ?_);refine orR aq λpr Ha sa bt=>?_;refine⟨_,_,Z,bt,hl,af,λH3 s3=>?_⟩;refine(nmc Z ?_);refine orR ((aq.same sa).same s3) λpr' Hb sb bh=>?_;refine⟨_,_,Z,bh,ad,A9 hl Uk,λq H4 nq s4 bu=>?_⟩;have au:=(sa.trans s3).trans sb;have U:=au.trans s4;have x4:=U _ _ x2;refine(nmc Z ⟨_,_,_,_,Z,x4,T.kL,qp T.kW Uk,(show 1<1000 by decide),?_⟩);rw[put2 _ _ Ez];obtain⟨R,q4,t4⟩:=bu;have ah:q≠x:=λz=>by rw[z,x4]at q4;cases q4
  have b5:SameBut x y (upd H4 x (.ins a.kI g [(Aa "pattern",.ref f),(Aa "rows",.ref q)])):=(b2.trans (SameBut.of U)).set;have X:=qk (H:=H4) (a:=x) (o:=.ins a.kI g [(Aa "pattern",.ref f),(Aa "rows",.ref q)]);have al:=am x4 (ag.same U) (.ins a.kI g [(Aa "pattern",.ref f),(Aa "rows",.ref q)]);have q5:=(qr (o:=.ins a.kI g [(Aa "pattern",.ref f),(Aa "rows",.ref q)]) ah).trans q4;have t5:Tups (upd H4 x (.ins a.kI g [(Aa "pattern",.ref f),(Aa "rows",.ref q)])) R ((ov rs).map enc):=qip ((SameBut.of (Same.refl H4)).set) x4 t4;generalize upd H4 x (.ins a.kI g [(Aa "pattern",.ref f),(Aa "rows",.ref q)])=H5 at b5 X al q5 t5 |-;refine⟨qdd (by show 1<=100000;decide),λz hz=>?_⟩;obtain⟨C,z6⟩:=alc (o:=.lst [V.int 0]) hz;have x6:=C _ _ X;refine(nmc Z ⟨_,_,_,_,Z,x6,T.kL,qp T.kW Uk,(show 2<1000 by decide),?_⟩);rw[put3 _ _ _ Ez Ez];have Y:z≠x:=λe=>by rw[e,X]at hz;cases hz
  have c8:q≠z:=λe=>by rw[<- e,q5]at hz;cases hz
  have b7:SameBut x y (upd (upd H5 z (.lst [V.int 0])) x (.ins a.kI g (tfs f q z))):=(b5.trans (SameBut.of C)).set;have x7:=qk (H:=upd H5 z (.lst [V.int 0])) (a:=x) (o:=.ins a.kI g (tfs f q z));obtain⟨d5,a1,a2,a3,g1,G,L,M,g5⟩:=al;have nz:∀{b:Addr}{o:HO},H5 b=some o->b≠z:=λh e=>by rw[e,hz]at h;cases h
  have ak:∀{b:Addr}{l:List V},H5 b=some (.lst l)->b≠x:=λh e=>by rw[e,X]at h;cases h
  have S:=PatAt.upd (o:=.ins a.kI g (tfs f q z)) (C _ _ g1) (C _ _ G) (C _ _ L) (C _ _ M) ae (ak G) (ak L) (ak M);have q7:=(qr (o:=.ins a.kI g (tfs f q z)) ah).trans (C _ _ q5);have z7:=(qr (o:=.ins a.kI g (tfs f q z)) Y).trans z6;have t7:Tups (upd (upd H5 z (.lst [V.int 0])) x (.ins a.kI g (tfs f q z))) R ((ov rs).map enc):=qip ((SameBut.of C).set) X t5;have ar:y z=none:=b5.free Y hz;have bj:H q=none:=s1.free (b2.free ah (au.free nq));generalize upd (upd H5 z (.lst [V.int 0])) x (.ins a.kI g (tfs f q z))=H7 at b7 x7 S q7 z7 t7 |-;have bc:=At.len t7;let D:Nat->Int:=λk=>(((ov rs).take k).map λr=>shf (fdL p yr) r (r.2.1+1)).sum;refine(nmc Z (flc (x7) (T.kL) (qp T.kW Uk) (rfl) ⟨_,Z,⟨_,SqL.of q7⟩,qa5 (K:=K) (a:=q) (xs:=R) (λi σ H'=>SameBut x y H'/\H' x=some (.ins a.kI g (tfs f q z))/\(H' f=some (.ins a.kK d5 (pfs a1 a2 a3))/\H' a1=some (.lst ((fdL p yr).map V.bl))/\H' a2=some (.lst ((odL (fdL p yr)).map V.int))/\H' a3=some (.lst ((cuL (fdL p yr)).map V.int)))/\H' q=some (.lst R)/\Tups H' R ((ov rs).map enc)/\H' z=some (.lst (((Ao (i+1)).map D).map V.int))/\∃v:Option V,σ=[some (.ref x),some (.ref pw),some vy,some vr,v])
   ⟨b7,x7,S,q7,t7,z7,none,Z⟩ (λi σ H' _ h=>SqL.of h.2.2.2.1) ?_ ?_⟩))
  .rintro i w0 σ H8 c9 ⟨O,I,j,q8,t8,F,v,rfl⟩;obtain⟨c,t,rfl,w1,w2⟩:=t8.get' c9;obtain⟨r,w3,rfl⟩:=qkr w1;have hi:i<(ov rs).length:=(Ac.mp w3).1;have r0:=bf r (A2 w3);have r1:=c7.ok r (A2 w3);have eL:∀m,((Ao (m+1)).map D).map V.int=((Ao m).map D).map V.int++[V.int (D m)]:=λm=>by rw[Bt,Ar,Ar];rfl
   have bw:(((Ao (i+1)).map D).map V.int).length<=90000:=by rw[Ab,Ab,Aq];exact A9 (Nat.succ_le_of_lt (A0 hi lO)) Uk
   have ao:=F;rw[eL]at ao;refine(nmc Z (flc (I) (T.kL) (qp T.kW Uk) (rfl) ⟨.inl ⟨Z,_,SqL.of F⟩,(nmc Z (flc (I) (T.kL) (qp T.kW Uk) (rfl) (nmc Z (lxo (ao) (qd5 _ _) (nmc Z ⟨_,_,_,Z,I,Z,(nmc Z (nmc Z (txo (w2) Z (iic Z Z ⟨_,_,_,_,_,_,_,_,_,Z,I,⟨_,_,_,_,j.1,j.2.1,j.2.2.1,j.2.2.2,qfl _ _⟩,w2,r0,Ed (Bm r0 r1),λH9 B=>?_⟩))))⟩)))))⟩));refine(iic Z Z ⟨_,_,_,Z,Z,B _ _ F,qbe bw,?_⟩);have es:D i+shf (fdL p yr) r (r.2.1+1)=D (i+1):=by show _=((((ov rs).take (i+1)).map λr=>shf (fdL p yr) r (r.2.1+1)).sum);rw[qcv w3,Ar,List.sum_append];simp[D]
   dsimp only[];rw[es,<- eL (i+1)];refine⟨λb o n e=>by rw[qr (qae e ar)];exact B _ _ (O b o n e),by rw[qr Y.symm];exact B _ _ I,?_,by rw[qr c8];exact B _ _ q8,(t8.same B).upd (B _ _ F),qk,_,Z⟩;exact PatAt.upd (B _ _ j.1) (B _ _ j.2.1) (B _ _ j.2.2.1) (B _ _ j.2.2.2) (nz g1) (nz G) (nz L) (nz M)
  .rintro σ H8 ⟨O,I,j,q8,t8,F,v,rfl⟩;rw[bc]at F;refine k H8 ((SameBut.of s1).trans O) λH9 qb9=>⟨g,f,q,z,qb9 _ _ (.inr (.inl Z)) I,av H9 λb o hb ho=>?_,⟨R,qb9 _ _ (.inl bj) q8,qvd qb9 t8⟩,qb9 _ _ (.inl (s1.free ar)) F⟩;rcases hb with hb|rfl|⟨t,rfl⟩
   .have aj:=(s0.trans keep).free hb;exact qb9 _ _ (.inl aj) (O _ _ (λe=>by rw[e,hx]at aj;cases aj) ho)
   .exact qb9 _ _ (.inl (s0.free nx)) (O _ _ ae ho)
   .exact qb9 _ _ (.inr (.inr ⟨t,Z⟩)) (O _ _ (λe=>by rw[e,N]at ho;cases ho) ho)
theorem okLaw (T:Txt K mg a){cL Pt:Addr}(hcl:a.bP.code=.ref cL)(LF:Lam.LamF mg base cL Pt):FnOk P w K mg base CX0 25 a.xR a.pE ["_law_script"] (qo5 K Pt):=by
 refine T.yQ.fn.ok qev (λvs H Q E h=>?_) (λcdv A outer s H vs Q E f h=>?_)
 .obtain⟨_,_,rfl,_⟩:=h
  all_goals rfl
 .obtain⟨l,m,rfl,hS,hlen,mr,k⟩:=h;refine⟨_,(qf (qu (i:=1) qev.nd Z (Au Z) (zd qoi (by rfl) T.rW boot_sorted (qd (zc (qmq T) (f.mono Uk) Z T.gP.mgx T.gP.fn.kp T.gP.bd .nil qac (qd (zc (qez T) (f.mono Uk) Z T.kX.mgx T.kX.fn.kp T.kX.bd .nil qac (qd (pv 0) (qd qi qg ql) qe)) (qd qi qg ql) zl)) qg zl)))
   (qf (qu (i:=2) qev.nd Z (Au Z) (zc (qvt T) (f.mono Uk) Z T.dQ.mgx T.dQ.fn.kp T.dQ.bd .nil qac (qd (pv 0) (qd (pv 1) (qd (zc (qmq T) (f.mono Uk) Z T.gP.mgx T.gP.fn.kp T.gP.bd .nil qac (qd (zc (qez T) (f.mono Uk) Z T.kX.mgx T.kX.fn.kp T.kX.bd .nil qac (qd (pv 0) (qd qi qg ql) qe)) (qd qi qg ql) zl)) qg zl) qe) qe)))
   (qf (qla (i:=3) qev.nd Z Z (N:=["_law_k","_law_script"]) (js:=[none,some 0]) (XN:=["_law_script","_law_names","_law_rules","_law_week","_law_first","_law_acts_here","_law_due","_law_cut","_law_orders","_law_book_here","_law_table","_law_told","_law_some","_law_kept"]) (xs:=qaa qr1) Z Z Z Ez (qbp Z T.gB (qd (qv qau (zc (qb0 T) (f.mono Uk) Z T.kM.mgx T.kM.fn.kp T.kM.bd .nil qac (qd (pv 0) (qd qi qg ql) qe)) qi) qg zm)) (λ_ _ _ _ _ _=>(qag (i:=0) (show Cw (["_law_k","_law_script"]:List Str) from by decide +kernel) Z (Au Z) (DC Z))) (λ_ _ _ _ _ _=>qfj) (λ_ _ _ _ _ _=>(qv qah qi (qv qau (qv qah (qv qa1 (zc (qb0 T) (f.mono Uk) Z T.kM.mgx T.kM.fn.kp T.kM.bd .nil qac (qd (pv 1) (qd qi qg ql) qe)) qi) (pv 0)) qi))))
   (qf (qu (i:=4) qev.nd Z (Au Z) (qv qau (zc (qez T) (f.mono Uk) Z T.kX.mgx T.kX.fn.kp T.kX.bd .nil qac (qd (pv 0) (qd qi qg ql) qe)) (qv op_pow qi qi)))
   (qf (qu (i:=5) qev.nd Z (Au Z) (zc (qvv T) (f.mono Uk) Z T.dN.mgx T.dN.fn.kp T.dN.bd .nil qac (qd (pv 0) (qd (pv 2) (qd (pv 1) (qd (pv 4) (qd (zd (qna Z) (by rfl) T.sI qp5 (qd qi (qd (zd (qi8 Z) (by rfl) T.lG qls (qd qi (qd (qv qbq (zd qb1 (by rfl) T.gA qb5 (qd (pv 0) qg qe)) qi) qg zm) ql)) qg zl) ql)) qg zl) qe) qe) qe) qe)))
   (qf (qu (i:=6) qev.nd Z (Au Z) (zc (qrd T) (f.mono Uk) Z T.bS.mgx T.bS.fn.kp T.bS.bd .nil qac (qd (pv 5) qg qe)))
   (qf (qu (i:=7) qev.nd Z (Au Z) (qv qau (zc (qb0 T) (f.mono Uk) Z T.kM.mgx T.kM.fn.kp T.kM.bd .nil qac (qd (pv 0) (qd qi qg ql) qe)) (zd qb1 (by rfl) T.gA qb5 (qd (pv 5) qg qe))))
   (qf (qu (i:=8) qev.nd Z (Au Z) (zh (qd (pv 5) (qd (qww (pv 5) (qfi (qeq qcx qi))) (qd (qv qk5 (qgc qh9 (pv 5) (qfi (pv 7)) qh8) (qgc qh9 (pv 5) qh8 (qfi (pv 7)))) qg zm) zn) qe)))
   (qf (qu (i:=9) qev.nd Z (Au Z) (qdx T.rC (qmr T) (f.mono Uk) Z T.nC T.l7.bd .nil qac (qd (qb6 qce (by rfl) T.gC qbu (qd (pv 2) qg qe)) qg zl)))
   (qf (qu (i:=10) qev.nd Z (Au Z) (qdx T.zW (qre T) (f.mono Uk) Z T.yJ T.yM (dvs:=[.non,.non]) (.cons Z (.cons Z .nil)) qac (qd (qb6 qce (by rfl) T.gC qbu (qd (pv 3) qg qe)) qg zl)))
   (qf (qu (i:=11) qev.nd Z (Au Z) (zh qg))
   (qf (qa3 A8 Z (qa0 (pv 8)) (qag (i:=12) qev.nd Z (Au Z)) (qf (qu (i:=13) qev.nd Z (Au Z) (qb6 qce (by rfl) T.gC qbu (qd (pv 12) qg qe)))
   (qf (zb (PW.pt (qep (qt (qdg f.units) (zc (qjy T hcl LF) (f.mono Uk) Z T.gH.mgx T.gH.fn.kp T.gH.bd .nil qac (qd (pv 12) qg qe)) (pv 6) (qad _)) (qd2 (qt (qdg f.units) (pv 12) (pv 13) (qad _))))) (qj (qo qcg)) qaf)
   (qf (qz (qbr Ax A3 A4 qam (pv 11) (qd (zc (qjz T hcl LF) (f.mono Uk) Z T.gF.mgx T.gF.fn.kp T.gF.bd .nil qac (qd (pv 9) (qd (pv 10) (qd (pv 12) qg qe) qe) qe)) qg zl)))
   (qj (zb (PW.pt (qep (qt (qdg f.units) (pv 12) (pv 13) (qad _)) (qd2 (qd3 (zf (zd (quy Z) (by rfl) T.bQ qb4 (qd (zp zr (pv 11) (qeq qcx qi) (λ_ _=>rfl)) (qd (qh6 (v:=.ty "dict") Z T.yN qu6 Z) qg qe) zn))))))) (qj (qo qcg)) qaf))))))
   (qf (zb (PW.pt (qep (qt (qdg f.units) (qb6 (qfm Z) (by rfl) T.gC qbu (qd (zp zr (pv 11) qi (λ_ _=>rfl)) qg zn)) (zc (qpd T) (f.mono Uk) Z T.fC.mgx T.fC.fn.kp T.fC.bd .nil qac (qd (pv 2) qg qe)) (qad _)) (qep (qt (qdg f.units) (zp zr (pv 11) qi (λ_ _=>rfl)) (zp zr (pv 11) qi (λ_ _=>rfl)) (qad _)) (qd2 (qt (qdg f.units) (zp zr (pv 11) qi (λ_ _=>rfl)) (zp zr (pv 11) qi (λ_ _=>rfl)) (qad _)))))) (qj (qo qcg)) qaf)
   (qf (zb (qt (qdg f.units) (qb6 (qfm Z) (by rfl) T.gC qbu (qd (zp zr (pv 11) qi (λ_ _=>rfl)) qg zn)) (qb6 (qfm Z) (by rfl) T.gC qbu (qd (zp zr (pv 11) qi (λ_ _=>rfl)) qg zn)) (qad _)) (qj (qo qcg)) qaf)
   (qf (qz (zc (qsw T) (f.mono Uk) Z T.fE.mgx T.fE.fn.kp T.fE.bd .nil qac (qd (zp zr (pv 11) qi (λ_ _=>rfl)) qg zn)))
   (qf (zb (qt (qdg f.units) (zp zr (pv 11) qi (λ_ _=>rfl)) (zp zr (pv 11) qi (λ_ _=>rfl)) (qad _)) (qj (qo qcg)) qaf)
   (qf (zb (PW.pt (qep (qt (qdg f.units) (zc (qjz T hcl LF) (f.mono Uk) Z T.gF.mgx T.gF.fn.kp T.gF.bd .nil qac (qd (qdx T.rC (qmr T) (f.mono Uk) Z T.nC T.l7.bd .nil qac (qd (zh qg) qg qpr)) (qd (pv 10) (qd (pv 5) qg qe) qe) zl)) qdl (qad _)) (qd2 (qt (qdg f.units) (zc (qjy T hcl LF) (f.mono Uk) Z T.gH.mgx T.gH.fn.kp T.gH.bd .nil qac (qd (zh qg) qg qpr)) (zh qg) (qad _))))) (qj (qo qcg)) qaf)
   (qj (qo (qdw (op_eqDk f.units) (zc (qjz T hcl LF) (f.mono Uk) Z T.gF.mgx T.gF.fn.kp T.gF.bd .nil qac (qd (pv 9) (qd (pv 10) (qd (pv 5) qg qe) qe) qe)) (zp zr (pv 11) qi (λ_ _=>rfl)) (qad _))))))))))))))))))))),?_⟩
  refine(nmc Z ⟨_,_,_,Z,hS,Uk,_,26,Z,Uk,λqw H1 nw s1 e1=>?_⟩);refine⟨_,_,Z,SqL.of e1,(by rw[qkv];decide),λpn L me cw=>?_⟩;have ln:L.length=26:=cw.length_eq.trans (qkv _ _);have nd:L.Nodup:=cw.nodup_iff.mpr wds_nd;obtain⟨s2,e2⟩:=alc (o:=.lst (L.map V.str)) me;generalize upd H1 pn _=H2 at s2 e2 |-;have sA:=s1.trans s2;refine(nmc Z (nmc Z (nmc Z ⟨_,_,_,Z,sA.seq hS,Uk,_,11,Z,Uk,λpk H3 nk s3 e3=>?_⟩)));have sB:=sA.trans s3;have ja:=s3 _ _ e2;refine⟨l,pn,pk,m,L,_,Z,sB.seq hS,ja,ln,e3,(by rw[qkv];decide),λpr H4 us Ts rv nr s4 l1 l4 tok du mj=>?_⟩;dsimp only[qa8,AA,AB];have sC:=sB.trans s4;have mq:=s4 _ _ ja;have R4:RsL a H4 us (if rv=true then Ts.reverse else Ts) L:=mj.same (qt4 λb o _ e=>e);obtain⟨nW,hnW,nW6⟩:∃n:Nat,qem m 2 % 7=(n:Int)/\n<=6:=⟨(qem m 2 % 7).toNat,by lia,by lia⟩;refine(nmc Z ⟨l,m,2,Z,sC.seq hS,Uk,Uk,(icc Z Z (pos Uk) ⟨_,Z,by lia,by lia,?_⟩)⟩);let fW:V->V:=λv=>match v with
   |.int j=>.int (1+(qem m 2 / 7+j) % 7)
   |_=>.non
  refine qg2 fW (λσ'=>∃v,σ'=[v,some (.ref l)]) qet (qdd (by rw[Ab,Aq];lia)) ⟨none,Z⟩ (λv σ' H' RR hv sm s4 qq=>?_) qeu λal ke=>?_
  .obtain⟨v0,rfl⟩:=s4;obtain⟨j,hj,rfl⟩:=AU.mp hv;have qq:=qq [some (.int (0+(j:Int))),some (.ref l)] ⟨_,Z⟩;exact(nmc Z ⟨l,m,2,Z,(sC.trans sm).seq hS,Uk,Uk,(icc Z Z ⟨Uk,Uk⟩ (nmc Z (iic Z Z (icc Z Z (pos Uk) (iic Z Z qq)))))⟩)
  have eW:((Ao (qem m 2 % 7).toNat).map λ(j:Nat)=>V.int (0+(j:Int))).map fW=(wkF (qem m 2) nW).map V.int:=by unfold wkF;rw[hnW,B8,Ca,Ca];refine BL λj _=>?_;show V.int (1+(qem m 2 / 7+(0+(j:Int))) % 7)=V.int (1+(qem m 2 / 7+(j:Int)) % 7);rw[Cj]
  rw[eW];obtain⟨sW,eK⟩:=alc (o:=.lst ((wkF (qem m 2) nW).map V.int)) ke;generalize upd H4 al _=H5 at sW eK |-;have fz:=wk_ok (qem m 2) nW6;generalize hwk:wkF (qem m 2) nW=wk at eK fz |-;have sD:=sC.trans sW;dsimp only[qa8,AA,AB];refine(nmc Z ⟨_,_,_,Z,sD.seq hS,Uk,(icc Z Z ⟨Uk,Uk,Uk⟩ (icc Z Z (pos Uk) ?_))⟩);have f0:=Ce (cell m 0) (show (10:Int) ^ (60:Int).toNat≠0 by decide);dsimp only[qa8,AA,AB];generalize cell m 0 % _=first at f0 |-
  obtain⟨LL,eLL⟩:∃LL:List TD,LL=if rv=true then Ts.reverse else Ts:=⟨_,Z⟩;rw[<- eLL]at R4;have lx:LL.length=Ts.length:=by rw[eLL];split <;>simp
  have gp:∀t,t∈LL↔t∈Ts:=λt=>by rw[eLL];split <;>simp
  have ko:∀t∈LL,∃k,TdOk L t k:=λt ht=>by obtain⟨k,hk⟩:=Bv ((gp t).mp ht);exact⟨k,tok k t hk⟩
  obtain⟨M,em,m2,m12⟩:∃M:Nat,(if (if 2<((m.map V.int).length:Int)-6 then ((m.map V.int).length:Int)-6 else 2)<12 then (if 2<((m.map V.int).length:Int)-6 then ((m.map V.int).length:Int)-6 else 2) else 12)=(M:Int)/\2<=M/\M<=12:=⟨(if (if 2<((m.map V.int).length:Int)-6 then ((m.map V.int).length:Int)-6 else 2)<12 then (if 2<((m.map V.int).length:Int)-6 then ((m.map V.int).length:Int)-6 else 2) else 12).toNat,by split <;>split <;>lia,by split <;>split <;>lia,by split <;>split <;>lia⟩;refine(nmc Z (nmc Z (nmc Z (nmc Z (nmc Z ⟨_,_,Z,.inl ⟨_,sD.seq hS,Z⟩,(iic Z Z ⟨_,_,Z,_,_,Z,l,pr,pn,m,L,us,LL,first,M,(by rw[<- em];rfl),sD.seq hS,sW _ _ du,R4.same sW,by lia,by lia,?_,?_,sW _ _ mq,ln,nd,f0,by lia,λU H6 D F sA' na s6 ea ta la a1 a2 oj fa=>?_⟩)⟩)))))
  .intro t ht;obtain⟨k,hk⟩:=ko t ht;exact hk.ls
  .have e0:=Ae (show 0<Ts.length by lia);refine⟨_,(gp _).mpr (A2 e0),(tok 0 _ e0).op ?_⟩;cases eb:Ts[0].base with|none=>rfl|some b=>exact absurd ((tok 0 _ e0).ba b eb) (Bg _)
  rw[start14 (v:=V.ref l)]
  rotate_left
  .rfl
  dsimp only[qa8,AA,AB];have sE:=sD.trans s6;have cz:=qcp ta λb u e=>(qmd e).2;have o9:=nma_nd ln nd a1 a2 (by lia) oj;refine(nmc Z ⟨U,D,F,Z,ea,cz,by lia,λpd H7 uD ak nd7 s7 io mt hd td=>?_⟩);dsimp only[qa8,AA,AB];have sF:=sE.trans s7;have ar:=s7 _ _ ea;have bq:=cz.same s7;have mi:=cz.length;rw[Ab]at mi;obtain⟨ct,ect,hct⟩:∃c:Nat,qem m 3 % (D.length:Int)=(c:Int)/\c<D.length:=by have R:=Ce (qem m 3) (show (D.length:Int)≠0 by lia);have c2:=C9 (qem m 3) (show (0:Int)<(D.length:Int) by lia);exact⟨(qem m 3 % (D.length:Int)).toNat,by lia,by lia⟩
  refine(nmc Z ⟨l,m,3,Z,sF.seq hS,Uk,Uk,(nmc Z ⟨_,_,Z,.inl ⟨_,SqL.of ar,Z⟩,(iic Z Z ⟨(show (0:Int)<(D.length:Int) by lia),?_⟩)⟩)⟩);dsimp only[qa8,AA,AB];rw[ect];refine(nmc Z (nmc Z ⟨_,Z,_,Z,Z,U,_,Z,SqL.of ar,λpb I=>?_⟩));obtain⟨s8,eb⟩:=alc (o:=.lst D.reverse) I;generalize upd H7 pb _=H8 at s8 eb |-;have cl:qkc D (some (ct:Int)) none=D.drop ct:=by unfold qkc;rw[HT.sIx_nat,HT.sIx_none,Nat.min_eq_left (by lia),CP (by rw[BE];exact Al _)]
  have ch:qkc D none (some (ct:Int))=D.take ct:=by unfold qkc;rw[HT.sIx_nat,HT.sIx_none,List.drop_zero,Nat.sub_zero,Nat.min_eq_left (by lia)]
  refine(nmc Z (nmc Z ⟨_,Z,U,_,Z,SqL.of (s8 _ _ ar),λpc nc=>?_⟩));rw[cl];obtain⟨s9,ec⟩:=alc (o:=.lst (D.drop ct)) nc;generalize upd H8 pc _=H9 at s9 ec |-;refine(nmc Z (nmc Z ⟨_,Z,U,_,Z,SqL.of ((s8.trans s9) _ _ ar),λpe ne=>?_⟩));rw[ch];obtain⟨cg,ee⟩:=alc (o:=.lst (D.take ct)) ne;generalize upd H9 pe _=H10 at cg ee |-;refine⟨pc,pe,_,_,Z,Z,cg _ _ ec,ee,qdd (by rw[BE,Bj];lia),λpg ng=>?_⟩;obtain⟨gc,eg⟩:=alc (o:=.lst (D.drop ct++D.take ct)) ng;generalize upd H10 pg _=H11 at gc eg |-;refine⟨qjr _ _ _,λpo o1=>?_⟩;obtain⟨ca,eo⟩:=alc (o:=.lst [V.ref U,.ref pb,.ref pg]) o1;generalize upd H11 po _=H12 at ca eo |-;dsimp only[qa8,AA,AB];have sG:=s8.trans (s9.trans (cg.trans (gc.trans ca)));have jw:=sG _ _ ar;have km:=(s9.trans (cg.trans (gc.trans ca))) _ _ eb;have jt:=ca _ _ eg;have kl:Tups H12 D.reverse (F.reverse.map qdo):=qyr (bq.same sG);have jq:Tups H12 (D.drop ct++D.take ct) ((F.drop ct++F.take ct).map qdo):=by rw[Ar,Es,DJ];exact((bq.same sG).drop ct).app ((bq.same sG).take ct)
  obtain⟨n,en⟩:∃n,n=Ts.length:=⟨_,Z⟩;obtain⟨Tt,hTt⟩:∃Tt:Nat->TD,∀k<n,Ts[k]?=some (Tt k):=⟨λk=>Ts.getD k (Ts[0]'(by lia)),λk hk=>by dsimp only;rw[Ak,Ae (by lia)];rfl⟩;have S:∀k<n,TdOk L (Tt k) k:=λk hk=>tok k _ (hTt k hk);have mx:∀j<n,LL[j]?=some (Tt (fR rv n j)):=λj hj=>by
   rw[<- hTt _ (qc4 hj),eLL];unfold fR;split
   .rw[CV (by lia),en]
   .rfl
  have iy:us.length=n:=by rw[R4.1,lx,en]
  have n4:n<=4:=by lia
  have ai:Same H4 H12:=sW.trans (s6.trans (s7.trans sG));have fh:∀{J:Hp},Same H12 J->∀j<n,∃rl,us[j]?=some (.ref rl)/\RuleB a J rl (Tt (fR rv n j)) (bvN L (Tt (fR rv n j)).base):=λ{J} z j hj=>by obtain⟨rl,r1,r2⟩:=R4.2 j _ (mx j hj);exact⟨rl,r1,r2.same (ai.trans z)⟩
  have dv:=wd_F (rv:=rv) S n4 ln nd;obtain⟨lo,eO,gO,aO⟩:=qq2 dv _ (Al _);rw[qfz]at gO aO eO;have cr:lo.length=n:=by rw[(qyn gO.nd gO.lt aO).length_eq,Aq]
  refine(nmc Z ⟨pr,us,Z,.inl (SqL.of (ai _ _ du)),λi5 mh=>?_⟩);obtain⟨ah,gt⟩:=alc (o:=.lst us) mh;generalize upd H12 i5 _=H13 at ah gt |-;intro bk dh gn jb neb;have bw:Same H13 (upd (upd H13 dh (.own bk)) bk (.ins a.kN dh [])):=qg6 gn jb;refine⟨bk,dh,i5,us,nmF L rv n,bsF Tt rv n,rkF rv n,Z,qk,bw _ _ gt,RsL.rules iy (fh (ah.trans bw)) S,dv,λdw mk dr=>⟨Z,?_⟩⟩;have bz:Same H13 dw:=mk.made gn jb;have di:=dr dw λb o _ e=>e;rw[qfz,eO]at di;have gx:=book_F S n4 ln nd (fh (ah.trans bz)) gO cr di;obtain⟨T0,_⟩:=ts_F (rv:=rv) S n4 ln nd gO cr;dsimp only[qa8,AA,AB];have sH:=ai.trans (ah.trans bz);refine(nmc Z ⟨al,_,Z,.inl (SqL.of ((s6.trans (s7.trans (sG.trans (ah.trans bz)))) _ _ eK)),λib mw=>?_⟩);obtain⟨ga,j7⟩:=alc (o:=.lst (wk.map V.int)) mw;generalize upd dw ib _=H15 at ga j7 |-;intro tb dc jc ij net;have gm:Same H15 (upd (upd H15 dc (.own tb)) tb (.ins a.kI dc [])):=qg6 jc ij;refine⟨tb,dc,ib,.non,.non,wk,[],[],Z,qk,gm _ _ j7,.inl ⟨Z,Z⟩,.inl ⟨Z,Z⟩,fz,okY0,Uk,okR0,λB nv tab=>⟨Z,?_⟩⟩;have gw:Same H15 B:=nv.made jc ij;have i4:PartsOk wk [] []:=⟨fz,okY0,AQ _,okR0⟩;dsimp only[qa8,AA,AB];have g:Same H12 B:=ah.trans (bz.trans (ga.trans gw));have ad:B Pt=some (.tbl #[]):=(sF.trans (sG.trans g)) _ _ mr;have fu:=gx.same (ga.trans gw);have af:TabAt a.kK a.kI B tb (fdL wk []) (ov []):=tab B λb o _ e=>e;have ae:=i4.tab;have am:=ls_ex55 i4;have lw:=RsL.rules iy (fh g) S;have dl:=names_F (rv:=rv) S n4 ln nd gO cr;rw[<- eO]at dl;clear di gx dr;generalize tsF Tt rv n lo=ts at fu T0 dl;generalize fdL wk []=bs at af ae am;generalize (ov []:List Rw)=rs at af ae am;have bh:=g _ _ jw;have jl:=g _ _ km;have kr:=g _ _ jt;have dt:=g _ _ eo;have bc:=(bq.same sG).same g;have kh:=kl.same g;have kq:=jq.same g;have jz:=(sG.trans g) _ _ hd;have jy:=td.same (s7.trans (sG.trans g));have jv:=(ai.trans g) _ _ du;have bi:∀{O W:List Act},O.Perm F->W.Perm O->qhg W->W=ak:=λ{O W} p1 p2 so=>qq1 (p2.trans (p1.trans io.symm)) (((p2.trans p1).map (·.1)).nodup_iff.mpr o9) so mt;obtain⟨Zq,eZ⟩:∃Zq,Zq=qek bs rs ts n ak:=⟨_,Z⟩;have ldue:ak.length=M:=io.length_eq.trans la;have aw:∀{O:List Act},O.Perm F->∀t∈O,0<=t.2.2:=λ{O} p t ht=>Bm f0 (fa t (p.mem_iff.mp ht));have de:∀(i:Nat)(v:V),[V.ref U,.ref pb,.ref pg][i]?=some v->∃(px:Addr)(ux:List V)(O:List Act),v=.ref px/\B px=some (.lst ux)/\Tups B ux (O.map qdo)/\O.Perm F:=λi v e=>by
   match i,e with
   |0,e=>cases e;exact⟨_,_,_,Z,bh,bc,.refl _⟩
   |1,e=>cases e;exact⟨_,_,_,Z,jl,kh,List.reverse_perm _⟩
   |2,e=>cases e;exact⟨_,_,_,Z,kr,kq,DA.trans (by rw[BI])⟩
   |i+3,e=>cases e
  refine⟨qdy,λpT ir=>?_⟩;obtain⟨c7,jg⟩:=alc (o:=.lst []) ir;generalize upd B pT _=H17 at c7 jg |-;refine gn2 (σ':=[some (.ref l),some (.ref pn),some (.ref pr),some (.ref al),some (.int first),some (.ref U),some (.ref pd),some (.int (ct:Int)),some (.ref po),some (.ref bk),some (.ref tb),some (.ref pT),none,none]) rfl ?_;refine(nmc Z ⟨_,Z,⟨_,SqL.of (c7 _ _ dt)⟩,qa5 (K:=K) (a:=po) (xs:=[V.ref U,.ref pb,.ref pg]) (λi σ J=>SameBut Pt B J/\Lam.LamAt J Pt ioP ioQ/\(∃cs:List Tc,cs.length=i/\Td5 bs rs ts Zq n B J pT cs)/\(0<i->PZ n ts Zq (ak.getLastD dA).2.2 ak.length)/\∃fq df:Option V,σ=[some (.ref l),some (.ref pn),some (.ref pr),some (.ref al),some (.int first),some (.ref U),some (.ref pd),some (.int (ct:Int)),some (.ref po),some (.ref bk),some (.ref tb),some (.ref pT),fq,df]) ⟨λb o _ e=>c7 b o e,.inl (c7 _ _ ad),⟨[],Z,jg,(λc h=>by cases h),(λc h=>by cases h),(λc h=>by cases h),.nil⟩,(λh=>by cases h),none,none,Z⟩ (λi σ J _ h=>SqL.of ((KpT.of ad h.1).l dt)) ?_ ?_⟩)
  .rintro i v σ J hv ⟨sb,hL,⟨cs,lc,TD⟩,pz,fq,df,rfl⟩;obtain⟨px,ux,O,rfl,bf,ay,c8⟩:=de i v hv;have i3:i<3:=(Ac.mp hv).1;have kJ:=KpT.of ad sb;have hx:=kJ.l bf;have lax:O.length=M:=c8.length_eq.trans la;refine(nmc Z ⟨px,ux,Z,.inl (SqL.of hx),λpK dg=>?_⟩);have og:pK≠pT:=λz=>by rw[z,TD.hT]at dg;cases dg
   obtain⟨sK,hK⟩:=alc (o:=.lst ux) dg;generalize upd J pK _=J1 at sK hK |-;refine gn2 (σ':=[some (.ref l),some (.ref pn),some (.ref pr),some (.ref al),some (.int first),some (.ref U),some (.ref pd),some (.int (ct:Int)),some (.ref po),some (.ref bk),some (.ref tb),some (.ref pT),some (.ref px),some (.ref pK)]) rfl ?_;have aq:KpT B J1:=λb o n e=>sK _ _ (kJ b o n e);have j5:=hL.same sK;obtain⟨ps0,my⟩:=hL.tbl;obtain⟨ps1,ix⟩:=j5.tbl;have i9:=TD.kp my (λb o _ e=>sK b o e);refine(nmc Z ⟨px,ux,O,Z,sK _ _ hx,qgz aq ay,by lia,j5,λq2 J2 us2 acts2 nq2 fe im om oh o3 j6=>?_⟩);have e2:=bi c8 om oh;rw[e2]at j6;have kk:=KpT.of ix fe;have ag:KpT B J2:=λb o n e=>kk b o n (aq b o n e);have j4:SameBut Pt B J2:=λb o n e=>fe b o n (sK _ _ (sb b o n e));have G:=i9.kp ix fe;obtain⟨ps2,gf⟩:=im.tbl;have gz:=ag.l bf;have gh:=qgz ag ay;have iu:=kk.l hK;refine(nmc Z ⟨2,Uk,.inl (qha o3 (ag.l jz) j6 (qgz ag jy) qo6),_,Z,qbs (nmc Z (nmc Z ⟨2,Uk,.inl (qha gz iu gh gh qo6),_,Z,qbs ?_⟩))⟩);refine(nmc Z ⟨.inl ⟨Z,_,SqL.of G.hT⟩,(nmc Z (nmc Z (nmc Z ⟨bk,tb,px,ux,O,n,ts,bs,rs,Z,T0,qsm ag fu,qt5 ag af,ae,am,gz,gh,by lia,aw c8,im,λd J3 acts3 q y p4 p6 bj kx o0 nu ig i6 gu ii=>?_⟩)))⟩);have e3:=bi c8 o0 nu;rw[e3,<- eZ]at ig i6 gu ii;have Y:=G.snoc (c:=⟨d,q,y,p4,p6⟩) gf j4 bj ig ii i6;have i7:=(G.kp gf bj).hT;refine⟨_,_,_,Z,Z,i7,qbe (by rw[Ab,lc];lia),?_⟩;have kT:∀b o,b≠pT->J3 b=some o->upd J3 pT (.lst ((cs.map λc=>V.ref c.d)++[V.ref d])) b=some o:=λb o I e=>by rw[qr I];exact e
   have cp:=kx.keep λb o nl e=>kT b o (λz=>by rw[z,i7]at e;exact nl _ (AD e).symm) e;have ao:SameBut Pt B (upd J3 pT (.lst ((cs.map λc=>V.ref c.d)++[V.ref d]))):=λb o I e=>kT b o (λz=>by rw[z,ir]at e;cases e) (bj b o I (j4 b o I e));have jh:=kT _ _ og ((KpT.of gf bj).l iu);generalize upd J3 pT _=J4 at Y cp ao jh |-;have iz:=KpT.of ad ao;have nj:=iz.l bf;have ji:=qgz iz ay;have gy:=Y.hT;rw[Ar]at gy;refine(nmc Z (nmc Z ⟨2,Uk,.inl (qha nj jh ji ji qo6),_,Z,qbs (nmc Z ⟨_,Z,(lxo (gy) (qks _ _) ⟨_,_,_,_,Z,.dK (Y.td ⟨d,q,y,p4,p6⟩ (by simp)).1,qq4,_,Z,qbs ?_⟩)⟩)⟩));exact⟨ao,cp,⟨_,(by rw[Af,lc];rfl),Y⟩,λ_=>gu,_,_,Z⟩
  rintro σ J ⟨sb,hL,⟨cs,lc,TD⟩,pz,fq,df,rfl⟩;obtain⟨c0,R,c2,rfl⟩:∃c0 R c2,cs=[c0,R,c2]:=by
   match cs,lc with
   | [x,y,z],_=>exact⟨x,y,z,Z⟩
  have pz:=pz (Nat.succ_pos _);obtain⟨psJ,c9⟩:=hL.tbl;have kJ:=KpT.of ad sb;have t0:=TD.td c0 (by simp);refine(nmc Z (lxo (TD.hT) (qao (j:=0) Z) ⟨c0.d,_,Z,t0.1,λpl mz=>?_⟩));obtain⟨sl,el⟩:=alc (o:=.lst ((kvR n ts c0.q).map λkv=>kV kv.1)) mz;generalize upd J pl _=J1 at sl el |-;have i9:=TD.kp c9 (λb o _ e=>sl b o e);have aq:KpT B J1:=λb o n e=>sl _ _ (kJ b o n e);refine(nmc Z ⟨pr,us,_,_,_,Z,aq.l jv,rules_T aq lw,dv,λph J2 nph s2 eh=>?_⟩);rw[qfz,<- dl]at eh;rw[qq5]at el;have jj:=sl.trans s2;have G:=TD.kp c9 (λb o _ e=>jj b o e);have u0:=G.td c0 (by simp);have u1:=G.td R (by simp);have u2:=G.td c2 (by simp);refine⟨1,Uk,.inl (qt7 (s2 _ _ el) eh),_,Z,qbs (nmc Z (lxo (G.hT) (qao (j:=0) Z) (nmc Z (lxo (G.hT) (qao (j:=1) Z) ⟨4,Uk,.inr (qky T0.nn u0 u1),_,Z,qbs (nmc Z (lxo (G.hT) (qao (j:=0) Z) (nmc Z (lxo (G.hT) (qao (j:=2) Z) ⟨4,Uk,.inr (qky T0.nn u0 u2),_,Z,qbs ?_⟩))))⟩))))⟩;refine(nmc Z (lxo (G.hT) (qao (j:=1) Z) ⟨R.d,_,Z,u1.1,λp1 ld=>?_⟩));obtain⟨s3,e3⟩:=alc (o:=.lst ((kvR n ts R.q).map λkv=>kV kv.1)) ld;generalize upd J2 p1 _=J3 at s3 e3 |-;have gq:=jj.trans s3;have Y:=TD.kp c9 (λb o _ e=>gq b o e);refine(nmc Z (lxo (Y.hT) (qao (j:=0) Z) ⟨c0.d,_,Z,(Y.td c0 (by simp)).1,λp2 lm=>?_⟩));obtain⟨s4,e4⟩:=alc (o:=.lst ((kvR n ts c0.q).map λkv=>kV kv.1)) lm;generalize upd J3 p2 _=J4 at s4 e4 |-;rw[qq5]at e3 e4;have ft:=gq.trans s4;have bu:=TD.kp c9 (λb o _ e=>ft b o e);have cp:=hL.same ft;have ao:SameBut Pt B J4:=λb o I e=>ft _ _ (sb b o I e);refine⟨1,Uk,.inl (qt7 (s4 _ _ e3) e4),_,Z,qbs ?_⟩;refine(nmc Z (lxo (bu.hT) (qao (j:=1) Z) ⟨R.d,bs,rs,ts,Zq,n,R.q,R.y,R.p4,R.p6,Z,bu.td R (by simp),bu.sp R (by simp),T0,λi hi=>⟨by have:=(pz.rl i hi).1;lia,λst j8=>?_⟩,λJ5 ml=>?_⟩))
  .have q1:=(pz.rl i hi).2 st j8;have q2:=(pz.ok i hi st j8).pl;exact⟨by lia,by lia⟩
  obtain⟨w0,w2,j9,jf,aj⟩:=bu.spoilt cp ao ml;refine(nmc Z (lxo (aj) (qao (j:=0) Z) (nmc Z (lxo (aj) (qao (j:=2) Z) ⟨4,Uk,.inr (qky T0.nn w0 w2),_,Z,qbs ?_⟩))));refine⟨qdy,λgs kc=>?_⟩;obtain⟨s6,e6⟩:=alc (o:=.lst []) kc;generalize upd J5 gs _=J6 at s6 e6 |-;intro fg oe fc dk ne2;have kB:=qg6 (C:=a.kN) fc dk;refine⟨fg,oe,gs,[],[],[],λ_=>0,Z,qk,kB _ _ e6,⟨Z,λj y e=>by cases e⟩,⟨.nil,Z,Uk,(λk b e=>by cases e),λk=>by decide⟩,λJ7 b7 ol=>⟨Z,?_⟩⟩;have dm:Same J5 J7:=s6.trans (b7.made fc dk);have B7:BookT a J7 fg 0 ts:=⟨[],[],ol J7 λb o _ e=>e,λi hi=>absurd hi (Bg _)⟩;have i8:=jf.same dm;have lh:SameBut Pt B J7:=λb o I e=>dm _ _ (j9 b o I e);have k7:=KpT.of ad lh;obtain⟨ps7,hP7⟩:=i8.tbl;refine(nmc Z (nmc Z ⟨fg,tb,U,D,F,0,ts,bs,rs,Z,⟨AQ _,(λi h=>absurd h (Bg _)),(λi h=>absurd h (Bg _)),(λi h=>absurd h (Bg _))⟩,B7,qt5 k7 af,ae,am,k7.l bh,qgz k7 bc,by lia,aw (.refl _),i8,λd8 J8 a8 q8 y8 p48 p68 ku mo pm8 so8 ly hN8 hZ8 hS8=>?_⟩));intro p9 kz;obtain⟨bt,e9⟩:=alc (o:=.dK []) kz;have d9:=bt _ _ ly.1;generalize upd J8 p9 _=J9 at bt e9 d9 |-;have o8:=mo.same bt;refine⟨4,Uk,.inr ⟨d8,p9,[],[],Z,Z,.inl d9,.inl e9,Z,λk x h=>by cases h⟩,_,Z,qbs ?_⟩;refine⟨qdy,λic kg=>?_⟩;obtain⟨av,ie⟩:=alc (o:=.lst []) kg;generalize upd J9 ic _=J10 at av ie |-;have gb:=o8.same av;refine⟨ic,[],[],Z,ie,.nil,Uk,gb,λq11 ma us11 a11 nq11 ju kj jx so11 jp dz=>?_⟩;rw[jx.eq_nil]at dz;refine⟨qdy,λmn jk=>?_⟩;obtain⟨X,il⟩:=alc (o:=.lst []) jk;have iq:=dz.same X;have jd:=X _ _ jp;generalize upd ma mn _=J12 at X il iq jd |-;refine⟨2,Uk,.inl (qha jd il iq .nil (λr h=>by cases h)),_,Z,qbs ?_⟩;obtain⟨ps10,hP10⟩:=gb.tbl;have dj:=λ(b:Addr)(o:HO)(I:b≠Pt)(e:J5 b=some o)=>X _ _ (ju b o I (av _ _ (bt _ _ (ku b o I (dm _ _ e)))));have jr:SameBut Pt B J12:=λb o I e=>dj b o I (j9 b o I e);have cq:=KpT.of ad jr;have gj:=kj.same X;obtain⟨ps12,cx⟩:=gj.tbl;obtain⟨ps5,ip⟩:=jf.tbl;have iw:=qf0 w0 λb o hb e=>dj b o (qsp w0 ip hb e) e;have au:=dj _ _ (λz=>by rw[z,ip]at aj;cases aj) aj;refine(nmc Z (nmc Z (nmc Z ⟨bk,tb,U,D,F,n,ts,bs,rs,Z,T0,qsm cq fu,qt5 cq af,ae,am,cq.l bh,qgz cq bc,by lia,aw (.refl _),gj,λd13 J13 a13 q13 y13 p413 p613 fj hL13 ka jm fk hN13 hZ13 hS13=>?_⟩)));rw[bi (.refl _) ka jm,<- eZ]at fk;have o7:=qf0 iw λb o hb e=>fj b o (qsp iw cx hb e) e;have ki:=fj _ _ (λz=>by rw[z,cx]at au;cases au) au;exact(nmc Z (lxo (ki) (qao (j:=0) Z) ⟨4,Uk,.inr (qky T0.nn fk o7),k _⟩))
end
set_option maxHeartbeats 4000000 in
theorem all_mk {l:PySem.W.OpenLaw}{w:World}{K:Ah}{h:Heap}{mg:Str->Option Value}{fa:Addr}(X:K.In h)(G:h.Ns A6 mg)(hfa:mg "law"=some (.ref fa))
  {EB BB BT CC EC Cl D1 CT f0 f1 f2 f3 f4 f5 f6 f7 f8 f9 f10 f11 f12 f13 f14 f15 f16 f17 f18 f19 f20 f21 f22 f23 f24 f25 f26 f27 f28 f29 f30 f31:Addr}{GI GJ:Option Addr}{GK:Array (Option Value)}{GL GM GN GO GP:Value}{f32 f33 f34 f35 f36 f37 f38 f39 f40 f41 f42 f43 f44 f45 f46 f47 f48 f49 f50:Addr}{GQ Gv:Option Addr}{GR:Array (Option Value)}{GS Gw Gx Gy Gf Gz GA:Value}{f51 f52 f53 f54 f55 f56 f57 f58 f59 f60 f61 f62 f63 f64 f65 f66 f67 f68 f69:Addr}{GT GB:Option Addr}{GU:Array (Option Value)}{GV GC GD GE Gg GF GG:Value}{f70 f71 f72 f73 f74 f75 f76 f77 f78 f79:Addr}{GW Gh:Option Addr}{GX:Array (Option Value)}{GY Gi Gj Gk G5 Gm Gp:Value}{f80:Addr}{GZ Hc:Option Addr}{Hd:Array (Option Value)}{He Hf Hg Hh GH Hi:Value}{Fu FH Fs FU FV FW Fv Gu Ft:Tok}{FI:Addr}{Gq:Option Addr}{Gr:Nat}{Gc Ge:Tok}{Gs:Array (Option Value)}{cL PL:Addr}{ocL:Value}{odL:Option Addr}{vsL:Array Value}{slL:Array (Option Value)}
  (FJ:AJ K A6 "Book"=some (some (.ref EB)))(Fc:AJ K A6 "Counting"=some (some (.ref BB)))(F1:AJ K A6 "CourtDays"=some (some (.ref BT)))(Fn:AJ K A6 "Pattern"=some (some (.ref CC)))(FK:AJ K A6 "Rule"=some (some (.ref EC)))(FX:AJ K A6 "Run"=some (some (.ref Cl)))(Fw:AJ K A6 "Table"=some (some (.ref D1)))(Fx:AJ K A6 "Weeks"=some (some (.ref CT)))(p0:Pm K BB "__init__" "Counting.__init__" qe1 f0)(p1:Pd K "kind_of" qok f1)(p2:Pd K "is_whole" qli f2)(p3:Pd K "is_stretch_of" qfn f3)(p4:Pd K "place" qrz f4)(p5:Pd K "joined" qol f5)(p6:Pd K "laid_over" qjf f6)(p7:Pd K "overlay" qlj f7)(p8:Pm K BB "days_for" "Counting.days_for" qc9 f8)(p9:Pm K CT "days_for" "Weeks.days_for" qe2 f9)(p10:Pm K BB "reach" "Counting.reach" qeb f10)(p11:Pd K "long_before" qgh f11)(p12:Pm K CC "before_year" "Pattern.before_year" qcq f12)(p13:Pm K CC "year_with" "Pattern.year_with" qda f13)(p14:Pd K "first_week" qht f14)(p15:Pm K CC "nth" "Pattern.nth" qgi f15)(p16:Pd K "year_of" qom f16)(p17:Pd K "weekday" qlk f17)(p18:Pd K "date_of" qon f18)(p19:Pd K "day_of_year" qhu f19)(p20:Pm K CC "before" "Pattern.before" qec f20)(p21:Pm K D1 "shift" "Table.shift" qgj f21)(p22:Pm K D1 "before" "Table.before" qfo f22)(p23:Pm K D1 "nth" "Table.nth" qjg f23)(p24:Pm K BT "reach" "CourtDays.reach" qdq f24)(p25:Pm K BB "counted_in" "Counting.counted_in" qcr f25)(p26:Pm K BT "counted_in" "CourtDays.counted_in" qcj f26)(p27:Pd K "full_day" qll f27)(p28:Pm K D1 "next_open" "Table.next_open" qed f28)(p29:Pd K "first_due" qjh f29)(p30:Pd K "last_day" qlm f30)(a31:AJ K A6 "in_order"=some (some (.ref f31)))(l31:K.lookup f31=some ⟨GL,GI,.func (Bh "in_order" "in_order" (qa6 qdm) (qav qdm) (qaa qdm) .none GM GN GO GJ (.ref cL) GP),GK⟩)(c31:B3 K (.ref cL) "in_order"=true)(k31:Br K (.ref f31)=true)(p32:Pm K EB "hanging" "Book.hanging" qfp f32)(p33:Pm K EB "rule_of" "Book.rule_of" qgk f33)(p34:Pm K Cl "is_over" "Run.is_over" qhv f34)(p35:Pd K "is_running" qhw f35)(p36:Pm K EC "role_in_still" "Rule.role_in_still" qdb f36)(p37:Pm K EC "role" "Rule.role" qg3 f37)(p38:Pm K Cl "is_halted" "Run.is_halted" qfq f38)(p39:Pm K Cl "go_on" "Run.go_on" qln f39)(p40:Pm K Cl "finish" "Run.finish" qhx f40)(p41:Pm K Cl "lasts_to" "Run.lasts_to" qgl f41)(p42:Pm K Cl "starts_on" "Run.starts_on" qfr f42)(p43:Pm K Cl "is_under_way" "Run.is_under_way" qee f43)(p44:Pm K Cl "set_out" "Run.set_out" qhy f44)(p45:Pm K Cl "begin_anew" "Run.begin_anew" qe3 f45)(p46:Pm K Cl "lengthen" "Run.lengthen" qfs f46)(p47:Pm K Cl "halt" "Run.halt" qlo f47)(p48:Pm K Cl "works" "Run.works" qji f48)(p49:Pm K Cl "feel" "Run.feel" qlp f49)(a50:Be K (.ref Cl) "__init__"=some (some (.ref f50)))(t50:C7 K (.ref f50)=some (.type "function"))(l50:K.lookup f50=some ⟨GS,GQ,.func (Bh "__init__" "Run.__init__" (qa6 qcy) (qav qcy) (qaa qcy) GA Gw Gx Gy Gv Gf Gz),GR⟩)(c50:B3 K Gf "Run.__init__"=true)(k50:Br K (.ref f50)=true)(pk50:∀(u0 u1 u2 u3 u4 u5:Value)(S:Setting),DY K S (bindArgs (Bh "__init__" "Run.__init__" (qa6 qcy) (qav qcy) (qaa qcy) GA Gw Gx Gy Gv Gf Gz) ⟨[u0,u1,u2,u3,u4,u5],[]⟩)=some [(Aa "self",u0),(Aa "rule",u1),(Aa "table",u2),(Aa "name",u3),(Aa "day",u4),(Aa "base",u5)])(p51:Pd K "take" qwy f51)(p52:Pm K Cl "state_word" "Run.state_word" qe4 f52)(p53:Pm K Cl "account" "Run.account" qgm f53)(p54:Pd K "history" qig f54)(p55:Pd K "untaken" qlq f55)(p56:Pd K "hanging_order" qe5 f56)(p57:Pd K "is_free_within" qdh f57)(p58:Pd K "counted_up" qhz f58)(p59:Pd K "is_weekday" qh0 f59)(p60:Pd K "refuse_week" qgn f60)(p61:Pd K "is_yearly" qjj f61)(p62:Pd K "refuse_yearly" qe6 f62)(p63:Pd K "list_or_empty" qft f63)(p64:Pd K "is_row" qr0 f64)(p65:Pd K "refuse_rows" qgo f65)(p66:Pd K "_law_cell_at" qh1 f66)(p67:Pd K "_law_mixed" qjk f67)(p68:Pd K "_law_words" qjl f68)(a69:Be K (.ref EC) "__init__"=some (some (.ref f69)))(t69:C7 K (.ref f69)=some (.type "function"))(l69:K.lookup f69=some ⟨GV,GT,.func (Bh "__init__" "Rule.__init__" (qa6 qcf) (qav qcf) (qaa qcf) GG GC GD GE GB Gg GF),GU⟩)(c69:B3 K Gg "Rule.__init__"=true)(k69:Br K (.ref f69)=true)(pk69:∀(u0 u1 u2 u3 u4 u5 u6 u7 u8:Value)(S:Setting),DY K S (bindArgs (Bh "__init__" "Rule.__init__" (qa6 qcf) (qav qcf) (qaa qcf) GG GC GD GE GB Gg GF) ⟨[u0,u1,u2,u3,u4,u5,u6,u7,u8],[]⟩)=some [(Aa "self",u0),(Aa "name",u1),(Aa "who",u2),(Aa "owes",u3),(Aa "opens",u4),(Aa "base",u5),(Aa "many",u6),(Aa "unit",u7),(Aa "still",u8)])(p70:Pd K "_law_rule" qih f70)(p71:Pd K "_law_book" qlr f71)(p72:Pd K "_law_menu" qii f72)(p73:Pd K "_law_acts" qij f73)(p74:Pd K "_law_hanging" qgp f74)(p75:Pd K "_law_sorted" qh2 f75)(p76:Pd K "_law_spoil" qjm f76)(p77:Pm K EB "__init__" "Book.__init__" qjn f77)(p78:Pm K CC "__init__" "Pattern.__init__" qcz f78)(a79:Be K (.ref D1) "__init__"=some (some (.ref f79)))(t79:C7 K (.ref f79)=some (.type "function"))(l79:K.lookup f79=some ⟨GY,GW,.func (Bh "__init__" "Table.__init__" (qa6 qbc) (qav qbc) (qaa qbc) Gp Gi Gj Gk Gh G5 Gm),GX⟩)(c79:B3 K G5 "Table.__init__"=true)(k79:Br K (.ref f79)=true)(pk79:∀(u0 u1 u2 u3:Value)(S:Setting),DY K S (bindArgs (Bh "__init__" "Table.__init__" (qa6 qbc) (qav qbc) (qaa qbc) Gp Gi Gj Gk Gh G5 Gm) ⟨[u0,u1,u2,u3],[]⟩)=some [(Aa "self",u0),(Aa "week",u1),(Aa "yearly",u2),(Aa "rows",u3)])(EQ:∀(u0 u1:Value)(S:Setting),DY K S (bindArgs (Bh "__init__" "Table.__init__" (qa6 qbc) (qav qbc) (qaa qbc) Gp Gi Gj Gk Gh G5 Gm) ⟨[u0,u1],[]⟩)=some [(Aa "self",u0),(Aa "week",u1),(Aa "yearly",C6),(Aa "rows",C6)])(a80:AJ K A6 "law"=some (some (.ref f80)))(l80:K.lookup f80=some ⟨He,GZ,.func (Bh "law" "law" (qa6 qr1) (qav qr1) (qaa qr1) .none Hf Hg Hh Hc GH Hi),Hd⟩)(c80:B3 K GH "law"=true)(k80:Br K (.ref f80)=true)(G6:AJ K A6 "any"=some none)(FY:AJ K A6 "bool"=some none)(FZ:AJ K A6 "dict"=some none)(Fd:AJ K A6 "enumerate"=some none)(G7:AJ K A6 "int"=some none)(F3:AJ K A6 "isinstance"=some none)(G8:AJ K A6 "len"=some none)(G0:AJ K A6 "list"=some none)(G9:AJ K A6 "max"=some none)(Ga:AJ K A6 "min"=some none)(FL:AJ K A6 "range"=some none)(Fo:AJ K A6 "reversed"=some none)(Fy:AJ K A6 "sorted"=some none)(Gb:AJ K A6 "str"=some none)(FM:AJ K A6 "tuple"=some none)(EH:AJ K A6 "MOST_WEEKDAYS"=some (some (.int 6 Fu)))(EW:AJ K A6 "MOST_YEARLY"=some (some (.int 4 FH)))(E6:AJ K A6 "MOST_YEARLY_DAYS"=some (some (.int 30 Fs)))(F4:AJ K A6 "SHORT_YEAR"=some (some (.int 364 FU)))(Fe:AJ K A6 "LONG_YEAR"=some (some (.int 371 FV)))(Ff:AJ K A6 "MOST_ROWS"=some (some (.int 12 FW)))(EI:AJ K A6 "MOST_ROW_DAYS"=some (some (.int 40 Fv)))(G1:AJ K A6 "TURN"=some (some (.int 17 Gu)))(ED:AJ K A6 "DAYS_OF_A_WEEK"=some (some (.int 7 Ft)))(FN:AJ K A6 "WORDS"=some (some (.ref FI)))(Fz:K.lookup FI=some ⟨.type "tuple",Gq,.seq #[.str (Aa "free") Gc,.str (Aa "open") Ge] Gr,Gs⟩)(lcL:K.lookup cL=some ⟨ocL,odL,.fields vsL,slL⟩)(vL:vsL[11]?=some (.ref PL))(FO:qmt K EB=true)(FP:mkB K EB f77=true)(FQ:xNo K EB ["free_days","open_days","open_before","pattern","rows","shifts","table","name","who","owes","opens","base","many","unit","still","ends","anew","longer","yields","rule","counting","over","day","units","pauses","grants","order","by_name"]=true)(EJ:qaw K EB "hanging" f32=true)(ER:qaw K EB "rule_of" f33=true)(Fg:qmt K BB=true)(Fh:mkB K BB f0=true)(Fi:xNo K BB ["free_days","open_days","open_before","pattern","rows","shifts","table","name","who","owes","opens","base","many","unit","still","ends","anew","longer","yields","rule","counting","over","day","units","pauses","grants","order","by_name"]=true)(cti_Counting_counted_in:qaw K BB "counted_in" f25=true)(cti_Counting_days_for:qaw K BB "days_for" f8=true)(cti_Counting_reach:qaw K BB "reach" f10=true)(Fj:quz K BB=true)(ckd_Counting_Counting:(AR K (.ref BB) (.ref BB) == some true)=true)(ckd_Counting_Weeks:(AR K (.ref BB) (.ref CT) == some false)=true)(ckd_Counting_CourtDays:(AR K (.ref BB) (.ref BT) == some false)=true)(E3:qaw K BB "days_for" f8=true)(E8:qaw K BB "reach" f10=true)(Ds:qaw K BB "counted_in" f25=true)(F5:qmt K BT=true)(F6:mkB K BT f0=true)(F7:xNo K BT ["free_days","open_days","open_before","pattern","rows","shifts","table","name","who","owes","opens","base","many","unit","still","ends","anew","longer","yields","rule","counting","over","day","units","pauses","grants","order","by_name"]=true)(cti_CourtDays_counted_in:qaw K BT "counted_in" f26=true)(cti_CourtDays_days_for:qaw K BT "days_for" f8=true)(cti_CourtDays_reach:qaw K BT "reach" f24=true)(F8:quz K BT=true)(ckd_CourtDays_Counting:(AR K (.ref BT) (.ref BB) == some true)=true)(ckd_CourtDays_Weeks:(AR K (.ref BT) (.ref CT) == some false)=true)(ckd_CourtDays_CourtDays:(AR K (.ref BT) (.ref BT) == some true)=true)(E7:qaw K BT "reach" f24=true)(D2:qaw K BT "counted_in" f26=true)(Fp:qmt K CC=true)(Fq:mkB K CC f78=true)(Fr:xNo K CC ["free_days","open_days","open_before","pattern","rows","shifts","table","name","who","owes","opens","base","many","unit","still","ends","anew","longer","yields","rule","counting","over","day","units","pauses","grants","order","by_name"]=true)(E2:qaw K CC "before_year" f12=true)(E4:qaw K CC "year_with" f13=true)(ES:qaw K CC "nth" f15=true)(E9:qaw K CC "before" f20=true)(FR:qmt K EC=true)(FS:mkB K EC f69=true)(FT:xNo K EC ["free_days","open_days","open_before","pattern","rows","shifts","table","name","who","owes","opens","base","many","unit","still","ends","anew","longer","yields","rule","counting","over","day","units","pauses","grants","order","by_name"]=true)(E5:qaw K EC "role_in_still" f36=true)(F9:qaw K EC "role" f37=true)(G2:qmt K Cl=true)(G3:mkB K Cl f50=true)(G4:xNo K Cl ["free_days","open_days","open_before","pattern","rows","shifts","table","name","who","owes","opens","base","many","unit","still","ends","anew","longer","yields","rule","counting","over","day","units","pauses","grants","order","by_name"]=true)(EY:qaw K Cl "is_over" f34=true)(EK:qaw K Cl "is_halted" f38=true)(Fk:qaw K Cl "go_on" f39=true)(EZ:qaw K Cl "finish" f40=true)(ET:qaw K Cl "lasts_to" f41=true)(EM:qaw K Cl "starts_on" f42=true)(Ey:qaw K Cl "is_under_way" f43=true)(F0:qaw K Cl "set_out" f44=true)(EE:qaw K Cl "begin_anew" f45=true)(EN:qaw K Cl "lengthen" f46=true)(Fl:qaw K Cl "halt" f47=true)(Fa:qaw K Cl "works" f48=true)(Fm:qaw K Cl "feel" f49=true)(EF:qaw K Cl "state_word" f52=true)(EU:qaw K Cl "account" f53=true)(FA:qmt K D1=true)(FB:mkB K D1 f79=true)(FC:xNo K D1 ["free_days","open_days","open_before","pattern","rows","shifts","table","name","who","owes","opens","base","many","unit","still","ends","anew","longer","yields","rule","counting","over","day","units","pauses","grants","order","by_name"]=true)(EV:qaw K D1 "shift" f21=true)(EO:qaw K D1 "before" f22=true)(Fb:qaw K D1 "nth" f23=true)(EA:qaw K D1 "next_open" f28=true)(FD:qmt K CT=true)(FE:mkB K CT f0=true)(FF:xNo K CT ["free_days","open_days","open_before","pattern","rows","shifts","table","name","who","owes","opens","base","many","unit","still","ends","anew","longer","yields","rule","counting","over","day","units","pauses","grants","order","by_name"]=true)(cti_Weeks_counted_in:qaw K CT "counted_in" f25=true)(cti_Weeks_days_for:qaw K CT "days_for" f9=true)(cti_Weeks_reach:qaw K CT "reach" f10=true)(FG:quz K CT=true)(ckd_Weeks_Counting:(AR K (.ref CT) (.ref BB) == some true)=true)(ckd_Weeks_Weeks:(AR K (.ref CT) (.ref CT) == some true)=true)(ckd_Weeks_CourtDays:(AR K (.ref CT) (.ref BT) == some false)=true)(EG:qaw K CT "days_for" f9=true)(tnL:K.lookup PL=none)
  : ∃(fd:Aw)(c Pt:Addr),(∀(s:Ad)(v:Value),BindsTo s fd ⟨[v],[]⟩ [("_law_script",v)])/\PySem.W.tabIn K "in_order"=some (c,Pt)/\K.lookup Pt=none/\∀base:Heap,K.In base->base.Ns A6 mg->Lam.LamF mg base c Pt->FnOk l.prog w K mg base CX0 25 fa fd ["_law_script"] (qo5 K Pt):=by
 have e:=hfa.symm.trans (Bc X G a80);cases e;obtain⟨g0,d0⟩:=qa9 p0 (ps:=["self","table"]) λ_ _ _ _ _ _=>qdc λ_ _=>rfl;obtain⟨g1,d1⟩:=qa4 X G p1 (ps:=["unit","table"]) λ_ _ _ _ _ _=>qdc λ_ _=>rfl;obtain⟨g2,d2⟩:=qa4 X G p2 (ps:=["thing"]) λ_ _ _ _ _ _=>qcw λ_=>rfl;obtain⟨g3,d3⟩:=qa4 X G p3 (ps:=["first","last","most"]) λ_ _ _ _ _ _=>qik λ_ _ _=>rfl;obtain⟨g4,d4⟩:=qa4 X G p4 (ps:=["stretches","day"]) λ_ _ _ _ _ _=>qdc λ_ _=>rfl;obtain⟨g5,d5⟩:=qa4 X G p5 (ps:=["laid"]) λ_ _ _ _ _ _=>qcw λ_=>rfl;obtain⟨g6,d6⟩:=qa4 X G p6 (ps:=["laid","first","last","word"]) λ_ _ _ _ _ _=>qr2 λ_ _ _ _=>rfl;obtain⟨g7,d7⟩:=qa4 X G p7 (ps:=["rows"]) λ_ _ _ _ _ _=>qcw λ_=>rfl;obtain⟨g8,d8⟩:=qa9 p8 (ps:=["self","units"]) λ_ _ _ _ _ _=>qdc λ_ _=>rfl;obtain⟨g9,d9⟩:=qa9 p9 (ps:=["self","units"]) λ_ _ _ _ _ _=>qdc λ_ _=>rfl;obtain⟨g10,d10⟩:=qa9 p10 (ps:=["self","first","many"]) λ_ _ _ _ _ _=>qik λ_ _ _=>rfl;obtain⟨g11,d11⟩:=qa4 X G p11 (ps:=["year"]) λ_ _ _ _ _ _=>qcw λ_=>rfl;obtain⟨g12,d12⟩:=qa9 p12 (ps:=["self","year"]) λ_ _ _ _ _ _=>qdc λ_ _=>rfl;obtain⟨g13,d13⟩:=qa9 p13 (ps:=["self","many"]) λ_ _ _ _ _ _=>qdc λ_ _=>rfl;obtain⟨g14,d14⟩:=qa4 X G p14 (ps:=["year"]) λ_ _ _ _ _ _=>qcw λ_=>rfl;obtain⟨g15,d15⟩:=qa9 p15 (ps:=["self","many"]) λ_ _ _ _ _ _=>qdc λ_ _=>rfl;obtain⟨g16,d16⟩:=qa4 X G p16 (ps:=["week"]) λ_ _ _ _ _ _=>qcw λ_=>rfl;obtain⟨g17,d17⟩:=qa4 X G p17 (ps:=["day"]) λ_ _ _ _ _ _=>qcw λ_=>rfl;obtain⟨g18,d18⟩:=qa4 X G p18 (ps:=["day"]) λ_ _ _ _ _ _=>qcw λ_=>rfl;obtain⟨g19,d19⟩:=qa4 X G p19 (ps:=["day"]) λ_ _ _ _ _ _=>qcw λ_=>rfl;obtain⟨g20,d20⟩:=qa9 p20 (ps:=["self","day"]) λ_ _ _ _ _ _=>qdc λ_ _=>rfl;obtain⟨g21,d21⟩:=qa9 p21 (ps:=["self","row","end"]) λ_ _ _ _ _ _=>qik λ_ _ _=>rfl;obtain⟨g22,d22⟩:=qa9 p22 (ps:=["self","day"]) λ_ _ _ _ _ _=>qdc λ_ _=>rfl;obtain⟨g23,d23⟩:=qa9 p23 (ps:=["self","many"]) λ_ _ _ _ _ _=>qdc λ_ _=>rfl;obtain⟨g24,d24⟩:=qa9 p24 (ps:=["self","first","many"]) λ_ _ _ _ _ _=>qik λ_ _ _=>rfl;obtain⟨g25,d25⟩:=qa9 p25 (ps:=["self","first","last"]) λ_ _ _ _ _ _=>qik λ_ _ _=>rfl;obtain⟨g26,d26⟩:=qa9 p26 (ps:=["self","first","last"]) λ_ _ _ _ _ _=>qik λ_ _ _=>rfl;obtain⟨g27,d27⟩:=qa4 X G p27 (ps:=["kind","start","units","pauses"]) λ_ _ _ _ _ _=>qr2 λ_ _ _ _=>rfl;obtain⟨g28,d28⟩:=qa9 p28 (ps:=["self","day"]) λ_ _ _ _ _ _=>qdc λ_ _=>rfl;obtain⟨g29,d29⟩:=qa4 X G p29 (ps:=["table","day","pauses"]) λ_ _ _ _ _ _=>qik λ_ _ _=>rfl;obtain⟨g30,d30⟩:=qa4 X G p30 (ps:=["kind","start","units","pauses"]) λ_ _ _ _ _ _=>qr2 λ_ _ _ _=>rfl;obtain⟨g32,d32⟩:=qa9 p32 (ps:=["self"]) λ_ _ _ _ _ _=>qcw λ_=>rfl;obtain⟨g33,d33⟩:=qa9 p33 (ps:=["self","name"]) λ_ _ _ _ _ _=>qdc λ_ _=>rfl;obtain⟨g34,d34⟩:=qa9 p34 (ps:=["self"]) λ_ _ _ _ _ _=>qcw λ_=>rfl;obtain⟨g35,d35⟩:=qa4 X G p35 (ps:=["runs"]) λ_ _ _ _ _ _=>qcw λ_=>rfl;obtain⟨g36,d36⟩:=qa9 p36 (ps:=["self","kind"]) λ_ _ _ _ _ _=>qdc λ_ _=>rfl;obtain⟨g37,d37⟩:=qa9 p37 (ps:=["self","kind"]) λ_ _ _ _ _ _=>qdc λ_ _=>rfl;obtain⟨g38,d38⟩:=qa9 p38 (ps:=["self"]) λ_ _ _ _ _ _=>qcw λ_=>rfl;obtain⟨g39,d39⟩:=qa9 p39 (ps:=["self","day"]) λ_ _ _ _ _ _=>qdc λ_ _=>rfl;obtain⟨g40,d40⟩:=qa9 p40 (ps:=["self","day"]) λ_ _ _ _ _ _=>qdc λ_ _=>rfl;obtain⟨g41,d41⟩:=qa9 p41 (ps:=["self"]) λ_ _ _ _ _ _=>qcw λ_=>rfl;obtain⟨g42,d42⟩:=qa9 p42 (ps:=["self"]) λ_ _ _ _ _ _=>qcw λ_=>rfl;obtain⟨g43,d43⟩:=qa9 p43 (ps:=["self","day"]) λ_ _ _ _ _ _=>qdc λ_ _=>rfl;obtain⟨g44,d44⟩:=qa9 p44 (ps:=["self","day","base"]) λ_ _ _ _ _ _=>qik λ_ _ _=>rfl;obtain⟨g45,d45⟩:=qa9 p45 (ps:=["self","day"]) λ_ _ _ _ _ _=>qdc λ_ _=>rfl;obtain⟨g46,d46⟩:=qa9 p46 (ps:=["self","kind"]) λ_ _ _ _ _ _=>qdc λ_ _=>rfl;obtain⟨g47,d47⟩:=qa9 p47 (ps:=["self","day"]) λ_ _ _ _ _ _=>qdc λ_ _=>rfl;obtain⟨g48,d48⟩:=qa9 p48 (ps:=["self","word","day","kind"]) λ_ _ _ _ _ _=>qr2 λ_ _ _ _=>rfl;obtain⟨g49,d49⟩:=qa9 p49 (ps:=["self","name","day","kind"]) λ_ _ _ _ _ _=>qr2 λ_ _ _ _=>rfl;obtain⟨g51,d51⟩:=qa4 X G p51 (ps:=["book","table","runs","act"]) λ_ _ _ _ _ _=>qr2 λ_ _ _ _=>rfl;obtain⟨g52,d52⟩:=qa9 p52 (ps:=["self","last"]) λ_ _ _ _ _ _=>qdc λ_ _=>rfl;obtain⟨g53,d53⟩:=qa9 p53 (ps:=["self"]) λ_ _ _ _ _ _=>qcw λ_=>rfl;obtain⟨g54,d54⟩:=qa4 X G p54 (ps:=["book","table","acts"]) λ_ _ _ _ _ _=>qik λ_ _ _=>rfl;obtain⟨g55,d55⟩:=qa4 X G p55 (ps:=["name","bases","taken"]) λ_ _ _ _ _ _=>qik λ_ _ _=>rfl;obtain⟨g56,d56⟩:=qa4 X G p56 (ps:=["rules"]) λ_ _ _ _ _ _=>qcw λ_=>rfl;obtain⟨g57,d57⟩:=qa4 X G p57 (ps:=["within","week","yearly"]) λ_ _ _ _ _ _=>qik λ_ _ _=>rfl;obtain⟨g58,d58⟩:=qa4 X G p58 (ps:=["free_days"]) λ_ _ _ _ _ _=>qcw λ_=>rfl;obtain⟨g59,d59⟩:=qa4 X G p59 (ps:=["thing"]) λ_ _ _ _ _ _=>qcw λ_=>rfl;obtain⟨g60,d60⟩:=qa4 X G p60 (ps:=["week"]) λ_ _ _ _ _ _=>qcw λ_=>rfl;obtain⟨g61,d61⟩:=qa4 X G p61 (ps:=["thing"]) λ_ _ _ _ _ _=>qcw λ_=>rfl;obtain⟨g62,d62⟩:=qa4 X G p62 (ps:=["yearly"]) λ_ _ _ _ _ _=>qcw λ_=>rfl;obtain⟨g63,d63⟩:=qa4 X G p63 (ps:=["things"]) λ_ _ _ _ _ _=>qcw λ_=>rfl;obtain⟨g64,d64⟩:=qa4 X G p64 (ps:=["row"]) λ_ _ _ _ _ _=>qcw λ_=>rfl;obtain⟨g65,d65⟩:=qa4 X G p65 (ps:=["rows"]) λ_ _ _ _ _ _=>qcw λ_=>rfl;obtain⟨g66,d66⟩:=qa4 X G p66 (ps:=["_law_script","_law_k"]) λ_ _ _ _ _ _=>qdc λ_ _=>rfl;obtain⟨g67,d67⟩:=qa4 X G p67 (ps:=["_law_script","_law_k"]) λ_ _ _ _ _ _=>qdc λ_ _=>rfl;obtain⟨g68,d68⟩:=qa4 X G p68 (ps:=["_law_cell","_law_many"]) λ_ _ _ _ _ _=>qdc λ_ _=>rfl;obtain⟨g70,d70⟩:=qa4 X G p70 (ps:=["_law_script","_law_at","_law_k","_law_names","_law_kinds"]) λ_ _ _ _ _ _=>arg5 λ_ _ _ _ _=>rfl;obtain⟨g71,d71⟩:=qa4 X G p71 (ps:=["_law_script","_law_names","_law_kinds"]) λ_ _ _ _ _ _=>qik λ_ _ _=>rfl;obtain⟨g72,d72⟩:=qa4 X G p72 (ps:=["_law_rules"]) λ_ _ _ _ _ _=>qcw λ_=>rfl;obtain⟨g73,d73⟩:=qa4 X G p73 (ps:=["_law_script","_law_rules","_law_names","_law_first","_law_many"]) λ_ _ _ _ _ _=>arg5 λ_ _ _ _ _=>rfl;obtain⟨g74,d74⟩:=qa4 X G p74 (ps:=["_law_rules"]) λ_ _ _ _ _ _=>qcw λ_=>rfl;obtain⟨g75,d75⟩:=qa4 X G p75 (ps:=["_law_acts_here"]) λ_ _ _ _ _ _=>qcw λ_=>rfl;obtain⟨g76,d76⟩:=qa4 X G p76 (ps:=["_law_told"]) λ_ _ _ _ _ _=>qcw λ_=>rfl;obtain⟨g77,d77⟩:=qa9 p77 (ps:=["self","rules"]) λ_ _ _ _ _ _=>qdc λ_ _=>rfl;obtain⟨g78,d78⟩:=qa9 p78 (ps:=["self","week","yearly"]) λ_ _ _ _ _ _=>qik λ_ _ _=>rfl;have F31:=qob (st:=qdm) l31 c31 k31;have b31:=F31.binds (ps:=["acts"]) λ_ _ _ _ _ _ us hl=>match us,hl with | [_],_=>rfl
 have F50:=qog (st:=qcy) l50 c50 k50;have b50:Binds K _ ["self","rule","table","name","day","base"] []:=qoh (ds:=[]) λus hl S=>match us,hl with | [u0,u1,u2,u3,u4,u5],_=>pk50 u0 u1 u2 u3 u4 u5 S
 have F69:=qog (st:=qcf) l69 c69 k69;have b69:Binds K _ ["self","name","who","owes","opens","base","many","unit","still"] []:=qoh (ds:=[]) λus hl S=>match us,hl with | [u0,u1,u2,u3,u4,u5,u6,u7,u8],_=>pk69 u0 u1 u2 u3 u4 u5 u6 u7 u8 S
 have F79:=qog (st:=qbc) l79 c79 k79;have b79:Binds K _ ["self","week","yearly","rows"] []:=qoh (ds:=[]) λus hl S=>match us,hl with | [u0,u1,u2,u3],_=>pk79 u0 u1 u2 u3 S
 have F80:=qob (st:=qr1) l80 c80 k80;have b80:=F80.binds (ps:=["_law_script"]) λ_ _ _ _ _ _ us hl=>match us,hl with | [_],_=>rfl
 have he_TableInit_2:Binds K _ ["self","week","yearly","rows"] [.none,.none]:=qoh λus hl S=>match us,(show us.length=2 by rw[Af]at hl;exact Nat.add_right_cancel hl) with | [u0,u1],_=>EQ u0 u1 S
 have T:Txt K mg {bO:=f0,nQ:=g0,xK:=f1,tD:=g1,tS:=f2,pQ:=g2,mN:=f3,mF:=g3,nI:=f4,pD:=g4,tU:=f5,n9:=g5,mP:=f6,xM:=g6,mW:=f7,xU:=g7,gQ:=f8,dX:=g8,bK:=f9,l9:=g9,gW:=f10,bT:=g10,tT:=f11,nU:=g11,lK:=f12,pZ:=g12,hV:=f13,tZ:=g13,pV:=f14,nR:=g14,fV:=f15,mT:=g15,tY:=f16,sY:=g16,pI:=f17,rX:=g17,pM:=f18,xL:=g18,mL:=f19,nL:=g19,m5:=f20,sU:=g20,fL:=f21,sV:=g21,hJ:=f22,xP:=g22,lN:=f23,rJ:=g23,bG:=f24,lW:=g24,gS:=f25,bW:=g25,bH:=f26,fY:=g26,tE:=f27,mV:=g27,lI:=f28,xH:=g28,mH:=f29,sL:=g29,mM:=f30,mC:=g30,rT:=f31,bP:=_,lE:=f32,xO:=g32,mB:=f33,xB:=g33,hM:=f34,rP:=g34,xN:=f35,rN:=g35,m9:=f36,pY:=g36,lC:=f37,pR:=g37,fM:=f38,nF:=g38,fS:=f39,sQ:=g39,lL:=f40,mI:=g40,bA:=f41,bN:=g41,bC:=f42,bR:=g42,lR:=f43,rS:=g43,fN:=f44,nE:=g44,lD:=f45,tH:=g45,lB:=f46,nN:=g46,lQ:=f47,xF:=g47,fJ:=f48,tQ:=g48,fO:=f49,rV:=g49,hZ:=f50,pA:=_,nH:=f51,mE:=g51,hU:=f52,rM:=g52,hG:=f53,rL:=g53,xG:=f54,sM:=g54,pW:=f55,pO:=g55,r9:=f56,nG:=g56,tW:=f57,rH:=g57,mZ:=f58,t9:=g58,rB:=f59,rD:=g59,xT:=f60,tL:=g60,pH:=f61,nK:=g61,mK:=f62,sX:=g62,rA:=f63,tP:=g63,tR:=f64,xI:=g64,rO:=f65,mQ:=g65,rR:=f66,xC:=g66,xA:=f67,mO:=g67,nV:=f68,rE:=g68,lH:=f69,xQ:=_,nA:=f70,tO:=g70,mS:=f71,sZ:=g71,rK:=f72,nY:=g72,nM:=f73,tG:=g73,rG:=f74,pN:=g74,xD:=f75,nJ:=g75,nO:=f76,sP:=g76,fK:=f77,tX:=g77,fX:=f78,tK:=g78,fQ:=f79,lP:=_,xR:=fa,pE:=_,kN:=EB,kP:=BB,kO:=BT,kK:=CC,kE:=EC,kA:=Cl,kI:=D1,kR:=CT,m4:=FI}:={
  dU:=d0,
  dL:=d1,
  kY:=d2,
  gR:=d3,
  gI:=d4,
  dP:=d5,
  bY:=d6,
  fA:=d7,
  m8:=d8,
  pX:=d9,
  fT:=d10,
  gX:=d11,
  bI:=d12,
  xE:=d13,
  gM:=d14,
  lU:=d15,
  gU:=d16,
  bX:=d17,
  bV:=d18,
  dZ:=d19,
  dB:=d20,
  lA:=d21,
  gT:=d22,
  hX:=d23,
  rQ:=d24,
  m6:=d25,
  tV:=d26,
  dC:=d27,
  fP:=d28,
  bZ:=d29,
  kZ:=d30,
  gH:=⟨F31,Bc X G a31,b31⟩,
  xJ:=d32,
  nX:=d33,
  pG:=d34,
  dE:=d35,
  tI:=d36,
  nD:=d37,
  fZ:=d38,
  lV:=d39,
  tN:=d40,
  gJ:=d41,
  gE:=d42,
  r8:=d43,
  lZ:=d44,
  rF:=d45,
  sT:=d46,
  mD:=d47,
  pJ:=d48,
  pC:=d49,
  xS:=⟨F50,b50,t50⟩,
  dR:=d51,
  sS:=d52,
  mG:=d53,
  gF:=d54,
  fH:=d55,
  dW:=d56,
  fG:=d57,
  dJ:=d58,
  dD:=d59,
  dO:=d60,
  fF:=d61,
  dH:=d62,
  gG:=d63,
  dY:=d64,
  bU:=d65,
  kX:=d66,
  kM:=d67,
  gP:=d68,
  nZ:=⟨F69,b69,t69⟩,
  dS:=d70,
  dQ:=d71,
  dI:=d72,
  dN:=d73,
  fC:=d74,
  bS:=d75,
  fE:=d76,
  l7:=d77,
  tJ:=d78,
  yP:=⟨F79,b79,t79⟩,
  yQ:=⟨F80,Bc X G a80,b80⟩,
  nC:=Bc X G FJ,
  gL:=qgf FO,
  rC:=qj5 FP,
  bE:=FQ,
  yB:=qaj EJ,
  yK:=qaj ER,
  xX:=Bc X G Fc,
  bM:=qgf Fg,
  yT:=qj5 Fh,
  rZ:=Fi,
  zM:=qaj cti_Counting_counted_in,
  yO:=qaj cti_Counting_days_for,
  xY:=qaj cti_Counting_reach,
  KG:=Fj,
  KB:=beq_iff_eq.mp ckd_Counting_Counting,
  K8:=beq_iff_eq.mp ckd_Counting_Weeks,
  K3:=beq_iff_eq.mp ckd_Counting_CourtDays,
  KE:=qaj E3,
  K0:=qaj E8,
  KA:=qaj Ds,
  zI:=Bc X G F1,
  gK:=qgf F5,
  zE:=qj5 F6,
  bD:=F7,
  zH:=qaj cti_CourtDays_counted_in,
  zR:=qaj cti_CourtDays_days_for,
  yA:=qaj cti_CourtDays_reach,
  KD:=F8,
  KH:=beq_iff_eq.mp ckd_CourtDays_Counting,
  K4:=beq_iff_eq.mp ckd_CourtDays_Weeks,
  K5:=beq_iff_eq.mp ckd_CourtDays_CourtDays,
  KF:=qaj E7,
  KI:=qaj D2,
  yC:=Bc X G Fn,
  kQ:=qgf Fp,
  zG:=qj5 Fq,
  gD:=Fr,
  dG:=qaj E2,
  yU:=qaj E4,
  mR:=qaj ES,
  lJ:=qaj E9,
  zC:=Bc X G FK,
  kG:=qgf FR,
  zU:=qj5 FS,
  kH:=FT,
  yS:=qaj E5,
  xZ:=qaj F9,
  zA:=Bc X G FX,
  k8:=qgf G2,
  zP:=qj5 G3,
  kD:=G4,
  yD:=qaj EY,
  pP:=qaj EK,
  nT:=qaj Fk,
  z9:=qaj EZ,
  bL:=qaj ET,
  gY:=qaj EM,
  zL:=qaj Ey,
  mJ:=qaj F0,
  yY:=qaj EE,
  y9:=qaj EN,
  zY:=qaj Fl,
  yG:=qaj Fa,
  yW:=qaj Fm,
  yE:=qaj EF,
  zD:=qaj EU,
  yJ:=Bc X G Fw,
  kL:=qgf FA,
  zW:=qj5 FB,
  kW:=FC,
  pU:=qaj EV,
  gZ:=qaj EO,
  mY:=qaj Fb,
  sR:=qaj EA,
  zV:=Bc X G Fx,
  bJ:=qgf FD,
  yV:=qj5 FE,
  rY:=FF,
  zN:=qaj cti_Weeks_counted_in,
  zX:=qaj cti_Weeks_days_for,
  zF:=qaj cti_Weeks_reach,
  K9:=FG,
  KJ:=beq_iff_eq.mp ckd_Weeks_Counting,
  KC:=beq_iff_eq.mp ckd_Weeks_Weeks,
  K7:=beq_iff_eq.mp ckd_Weeks_CourtDays,
  K6:=qaj EG,
  yM:=he_TableInit_2,
  yF:=Bi X G G6,
  zK:=Bi X G FY,
  yN:=Bi X G FZ,
  fD:=Bi X G Fd,
  yI:=Bi X G G7,
  bQ:=Bi X G F3,
  gA:=Bi X G G8,
  gC:=Bi X G G0,
  lG:=Bi X G G9,
  sI:=Bi X G Ga,
  gB:=Bi X G FL,
  zO:=Bi X G Fo,
  rW:=Bi X G Fy,
  yX:=Bi X G Gb,
  yZ:=Bi X G FM,
  zT:=⟨_,Bc X G EH⟩,
  zQ:=⟨_,Bc X G EW⟩,
  zZ:=⟨_,Bc X G E6⟩,
  m3:=⟨_,Bc X G F4⟩,
  fU:=⟨_,Bc X G Fe⟩,
  yL:=⟨_,Bc X G Ff⟩,
  xV:=⟨_,Bc X G EI⟩,
  mU:=⟨_,Bc X G G1⟩,
  yR:=⟨_,Bc X G ED⟩,
  xW:=Bc X G FN,yH:=λH=>.inr ⟨_,_,_,Fz,rfl,rfl,by show 2<=A5;rw[Bq];decide,.cons ⟨_,rfl⟩ (.cons ⟨_,rfl⟩ (.nil))⟩}
 exact⟨_,cL,PL,λs v=>.of_eq rfl,Lam.tab_mk a31 l31 rfl lcL vL,tnL,λbase _ _ LF=>okLaw T rfl LF⟩
theorem walk {l:PySem.W.OpenLaw}{q:AK}{loose:List Str}{XP:(Str->Option Value)->Heap->Prop}{YP:World->Heap->Prop}{d d':DefRec}{K:Params->Ah}(hn:l.most=some 63)(hdf:d.params.defaults=[])(hrec:(PyProof.Rows.recsOf q).find? (λe=>e.name == ("in_order" : Str))=some d')
  (hY:∀(w:World)(h:Heap),YP w h->(K w.params).In h)
  (F:∀(w:World)(mg:Str->Option Value)(fa:Addr)(h:Heap),(K w.params).In h->h.Ns A6 mg->mg d.name=some (.ref fa) ->
   ∃(fd:Aw)(c Pt:Addr),(∀(s:Ad)(u:Value),BindsTo s fd ⟨[u],[]⟩ [("_law_script",u)])/\PySem.W.tabIn (K w.params) "in_order"=some (c,Pt)/\(K w.params).lookup Pt=none /\
    ∀base:Heap,(K w.params).In base->base.Ns A6 mg->Lam.LamF mg base c Pt->FnOk l.prog w (K w.params) mg base CX0 25 fa fd ["_law_script"] (qo5 (K w.params) Pt)) :
  PySem.W.WalkO q loose XP YP l.row.toRowW d [] (λf vs=>PySem.call f vs) :=
 Lam.walk_tab (n:=63) (k:=25) (x := "_law_script") (dn := "in_order") (CX:=λ_=>CX0) (sp:=λw Pt=>qo5 (K w.params) Pt) hn Uk hdf ⟨rfl,Uk,Uk⟩ hrec hY F (λ_ _ a Pt ns hl hP hS=>⟨a,ns,rfl,hS,hl,hP,λ_=>rfl⟩) λ_ _ _ _ _ z=>z
end K55
namespace PySem.W.Fast
def tw13085419382509939000:=()
def tw13040226516456004532:=()
def tw15711561036169095325:=()
def tw10045286933945248156:=()
def tw14565944373233820866:=()
def tw1652773471524139092:=()
def tw10660932326534819532:=()
def tw5642986021801855545:=()
def tw9483624008746477080:=()
def tw379162990366415032:=()
def tw16182505820164663001:=()
def tw17089061593825604638:=()
def tw11257522343606916762:=()
def tw13883802348923756665:=()
def tw16855599320284547883:=()
def tw1682812191869300475:=()
def tw11006476839558577735:=()
def tw11878734221103139466:=()
def tw6165956775424199543:=()
def tw17656574227583438419:=()
def tw3754168310179579063:=()
def tw10916124553087149149:=()
def tw6340389796294497514:=()
def tw2743710789663903958:=()
def tw2899994253486987435:=()
def tw451859698961047457:=()
def tw16441172312599040420:=()
def tw16808552538244787038:=()
def tw7637384379507249250:=()
def tw14253735797572415262:=()
def tw12229400082604598432:=()
def tw17711134952292160799:=()
def tw42744576838284678:=()
def tw10504353662330159277:=()
def tw3942403878994522504:=()
def tw12196433958992437373:=()
def tw4887601962559685742:=()
def tw15595819981316211638:=()
def tw16370495628669332891:=()
def tw2539403784680404471:=()
def tw16677012667805517615:=()
def tw8164490711041588779:=()
def tw3183821130933091029:=()
def tw5001175323796523165:=()
def tw15933116401979655142:=()
def tw11813682581799345675:=()
def tw5201851423666780310:=()
def tw6315369882327439734:=()
def tw13152392901391702659:=()
def tw2736877199801376847:=()
def tw11411782090332527700:=()
def tw14526854213506452303:=()
def tw38709923160148920:=()
def tw5593828362100331451:=()
def tw15059597673363511173:=()
def tw12727124260237495521:=()
def tw16761435017726033513:=()
def tw3819815164452251886:=()
def tw16776894650462069654:=()
def tw17803101523611846782:=()
def tw15897811016844954796:=()
def tw15797024985927647868:=()
def tw2130368820004337244:=()
def tw12123578397573010364:=()
def tw12484260588763470003:=()
def tw11369053879086198152:=()
def tw18091942479340362622:=()
def tw1409844130655707326:=()
def tw13616842577862628668:=()
def tw13138163357822291659:=()
def tw9761374830880429234:=()
def tw17922880896820800448:=()
def tw3854544388203204352:=()
def tw4301496687207468582:=()
def tw11680249748369751425:=()
def tw11158349940141640522:=()
def tw8052415027105941976:=()
def tw5311180415202883520:=()
def tw10872443132894833473:=()
def tw14650903742007015048:=()
def tw16529776107741562953:=()
def tw3231668807881679514:=()
def tw15004798081040187483:=()
def tw10266059604854270194:=()
def tw18071041389639886457:=()
def tw3647172036474989685:=()
def tw10327354176265790311:=()
def tw11089742178936688437:=()
def tw145231338738902560:=()
def tw11997036463296599112:=()
def tw4254949090976764657:=()
def tw10047384692042141465:=()
def tw9918165046024227449:=()
def tw9101477069040335297:=()
def tw14260004375856992685:=()
def tw15070286247569240082:=()
def tw11623144783388197764:=()
def tw16759176932479379082:=()
def tw17509252385434988208:=()
def tw11731705319422861047:=()
def tw4404307496964161558:=()
def tw362550058052492038:=()
def tw10963975943338444560:=()
def tw2907367483971766875:=()
def tw11953647899274392079:=()
def tw4528116844858288394:=()
def tw4495610500119525387:=()
def tw8267648966733465678:=()
def tw11692051991967883707:=()
def tw9994250196127854721:=()
def tw17673468802391221487:=()
def tw5060245578450631654:=()
def tw827239519774576415:=()
def tw15807800842035639677:=()
def tw12385130835572045040:=()
def tw12386449349840719960:=()
def tw1470302883766811492:=()
def tw9021295624213362600:=()
def tw15811931718661329947:=()
def tw18151003084566201030:=()
def tw14370405910773370746:=()
def tw542169972691084632:=()
def tw5816082616739548886:=()
def tw1744009545215295250:=()
def tw1261425565305470442:=()
def tw17131912813370892973:=()
def tw12595095681160318803:=()
def tw11700522047052030180:=()
def tw3495234884882742982:=()
def tw9349833511818222845:=()
def tw13225903028346894457:=()
def tw17114260090024549706:=()
def tw12840565074685475254:=()
def tw15790203394896739789:=()
def tw13391470662163162677:=()
def tw10410533790599403807:=()
def tw5122957362253041474:=()
def tw2704709999884707206:=()
def tw3299706348705429211:=()
def tw14541842030267634768:=()
def tw14659509288774776752:=()
def tw5455908044857243329:=()
def tw15248114699988660371:=()
def tw15922832808482907514:=()
def tw4760319577775570680:=()
def tw5451711689902570493:=()
def tw2107228284766776605:=()
def tw6657348838796408973:=()
def tw54367822185853634:=()
def tw12135909494602136090:=()
def tw16702560162469412863:=()
def tw5749365558138540210:=()
def tw10873924770102815238:=()
def tw2136344240930071374:=()
def tw18253255798861319568:=()
def tw4692967913215893039:=()
def tw12090596249615769864:=()
def tw3318427040961178047:=()
def tw17481466675762448976:=()
def tw15431053136552167515:=()
def tw12480224403482523098:=()
def tw4883250350895011973:=()
def tw17515411598851068273:=()
def tw1828229229126246476:=()
def tw5510905093050487048:=()
def tw9566419920924561201:=()
def tw6705101647723910799:=()
def tw677381347309943253:=()
def tw3823153647188253623:=()
def tw6985981389960946009:=()
def tw17932885455606046485:=()
def tw16244855245797344422:=()
def tw12952100193282024146:=()
def tw15393375722595229021:=()
def tw1290252934489252743:=()
def tw16097734799951819784:=()
def tw13947632723005207130:=()
def tw5696539677743974963:=()
def tw11887689520842008556:=()
def tw729153709727962311:=()
def tw7883738244159889510:=()
def tw3564715896543352288:=()
def tw2529786142594966482:=()
def tw7263052188350490396:=()
def tw4140927350225094068:=()
def tw5742479060753293783:=()
def tw15477024126568723752:=()
def tw7746696157056255076:=()
def tw10551662995067676383:=()
def tw10607491160284624991:=()
def tw16308504298537636081:=()
def tw14950137716839830397:=()
def tw2551706417514669638:=()
def tw8432349451784342825:=()
def tw16808183068569922310:=()
def tw10692708600835610600:=()
def tw4245244519917379259:=()
def tw5850272930838274491:=()
def tw17773944473658862:=()
def tw12266345348695233032:=()
def tw189742649145437868:=()
def tw3850980996727851214:=()
def tw8718155113565785614:=()
def tw15171185670639188165:=()
def tw16371927044631368687:=()
def tw11785607277071407865:=()
def tw1266733652863905853:=()
def tw17996973425054662431:=()
def tw17306217296044023753:=()
def tw15262029888289744156:=()
def tw17728784669185291420:=()
def tw14508008125588252410:=()
def tw12540719143338207907:=()
def tw4308348633493996798:=()
def tw16230454817330464296:=()
def tw13533039130764126557:=()
def tw11029465678114860416:=()
def tw12494934205816993687:=()
def tw13028180796624992048:=()
def tw16357104322857146224:=()
def tw490983793114575811:=()
def tw14521263834768910008:=()
def tw5498142732264485881:=()
def tw17748472463364041952:=()
def tw3883858022276387774:=()
def tw16816669813056001481:=()
def tw5288402188813682445:=()
def tw3317976758674357025:=()
def tw9600535555361770406:=()
def tw10408488009777464201:=()
def tw9526365681107781078:=()
def tw7640560319687573625:=()
def tw3341362256259001480:=()
def tw882611581092383415:=()
def tw5139605822482172652:=()
def tw185429404761946408:=()
def tw15748808254341462333:=()
def tw4395647678106544333:=()
def tw12607114511804720552:=()
def tw18424418795566096492:=()
def tw5627736124705711276:=()
def tw10821943996789672159:=()
def tw13601320524763216430:=()
def tw15488603035093061938:=()
def tw5525921037043101882:=()
def tw18190097602504525805:=()
def tw14845509086361406356:=()
def tw8350044665644833332:=()
def tw1418118578559391080:=()
def tw568565767154034696:=()
def tw15484636856898378490:=()
def tw3318396383374927412:=()
def tw4932643074340078366:=()
def tw8815251631330365598:=()
def tw12525965068980534982:=()
def tw8087546527395060849:=()
def tw5772545429573383450:=()
def tw432199525181372547:=()
def tw15557650287212738379:=()
def tw5041986615405983468:=()
def tw2147652858720048888:=()
def tw12573050178908812556:=()
def tw7721859058920011805:=()
def tw5693146388198946408:=()
def tw10922440105548938009:=()
def tw686519403016989743:=()
def tw10568321668321103309:=()
def tw3044985714455306352:=()
def tw2611007231838216970:=()
def tw5993562691181776165:=()
def tw16274918327142880311:=()
def tw18419951380093463575:=()
def tw14597787295848229741:=()
def tw15597199588079636770:=()
def tw16668921107124783176:=()
def tw917893229708464478:=()
def tw13315362662602818560:=()
def tw12847154598505342883:=()
def tw18143363507877683723:=()
def tw9880758966624749579:=()
def tw3896952600256255525:=()
def tw1708141404585835203:=()
def tw5436272896861869624:=()
def tw15161940019767257890:=()
def tw6187316173063314077:=()
def tw16072690632556402613:=()
def tw14069026624890437002:=()
def tw11497875687613630499:=()
def tw14307830463722275459:=()
def tw7887653820997918375:=()
def tw5022084736380920741:=()
def tw8767341090158314372:=()
def tw10237380498245207650:=()
def tw15670956675714807241:=()
def tw6134990097159446956:=()
def tw16970793437877573327:=()
def tw10951995151309493513:=()
def tw18161724745198865664:=()
def tw11957931019696016849:=()
def tw5223065428892880701:=()
def tw4426053774991675696:=()
def tw17715676852037235807:=()
def tw11548017497349453046:=()
def tw13862412571062916285:=()
def tw1385772493309115233:=()
def tw8350729534196425921:=()
def tw10880504133829224826:=()
def tw13891736947904062135:=()
def tw2162090861742210827:=()
def tw9699941722081784816:=()
def tw9548274649789810578:=()
def tw6116002703924179723:=()
def tw481783991160490234:=()
def tw5032357491735540920:=()
def tw14224836543812173321:=()
def tw2256603042212947003:=()
def tw10998299199360174672:=()
def tw5541658877130017330:=()
def tw8490217123585036742:=()
def tw603243915398566474:=()
def tw5311588122573261109:=()
def tw4007845442207714344:=()
def tw2979094435408146338:=()
def tw1418473842330477705:=()
def tw8382412184247639620:=()
def tw13491714002959361243:=()
def tw9888833202355188040:=()
def tw8919014097196251820:=()
def tw12630225779180177304:=()
def tw8558994352825021860:=()
def tw7980275155281809046:=()
def tw6549631321290017932:=()
def tw2318890178296447322:=()
def tw15688825012374374512:=()
def tw3986391859644745241:=()
def tw741026025800729632:=()
def tw3433905215058017544:=()
def tw7784697322031920075:=()
def tw2431777371910982345:=()
def tw11945919452815497345:=()
def tw17149886299985993671:=()
def tw4013396535732927143:=()
def tw14560015706950610065:=()
def tw15664586449967885619:=()
def tw17206855621610060305:=()
def tw10445032641702272934:=()
def tw3890675578583791792:=()
def tw589912247267607923:=()
def tw1987753581368549403:=()
def tw10201144999769468907:=()
def tw16308593465159892260:=()
def tw7635407680845024552:=()
def tw11283217032159706544:=()
def tw7472135841559376916:=()
def tw13376109639131634402:=()
def tw14415926053042521089:=()
def tw2430465753400901609:=()
def tw17556580407847062959:=()
def tw4742607418115883331:=()
def tw4004904160763136491:=()
def tw3948204663929848516:=()
def tw18159584203119881083:=()
def tw4589705989147296291:=()
def tw16706948900130131460:=()
def tw54212721513710564:=()
def tw16748672881167926719:=()
def tw10785040319426835639:=()
def tw7716155460884357479:=()
def tw233431085487078699:=()
def tw7124858293318027748:=()
def tw1267453546879542979:=()
def tw16211494500605129694:=()
def tw5539123501018540993:=()
def tw11710670290942729727:=()
def tw13833089647713726044:=()
def tw11332908741375017806:=()
def tw12875518672189886405:=()
def tw8440109383467271466:=()
def tw5107543321578813949:=()
def tw1426590755567694304:=()
def tw14375638361742991475:=()
def tw15631265562009570530:=()
def tw4099432295264861274:=()
def tw7588401279848755571:=()
def tw10074085001962195693:=()
def tw13978408686985240686:=()
def tw15010278271436380895:=()
def tw5851769201551155927:=()
def tw4174644279644859606:=()
def tw2158792269059820420:=()
def tw5591375218711265543:=()
def tw11823436227552262774:=()
def tw2687703111481044701:=()
def tw6671418308321068808:=()
def tw310003937994893628:=()
def tw10500255150681564637:=()
def tw9443963960169698571:=()
def tw4741764524358597115:=()
def tw2169598375780569921:=()
def tw9652723910598861497:=()
def tw7928216303658310996:=()
def tw10836132228905087134:=()
def tw15024569670852155206:=()
def tw16820555884810540749:=()
def tw7464225011836939374:=()
def tw9036216277970934735:=()
def tw13103599114253710877:=()
def tw11300317331874731101:=()
def tw1219568834561075234:=()
def tw11309062581890396305:=()
def tw15647522704523813677:=()
def tw15590490469036904102:=()
def tw11454276688144728303:=()
def tw10313881535006888557:=()
def tw10007050201253078703:=()
def tw1310913037319868412:=()
def tw6400327804036405296:=()
def tw9014095852050426615:=()
def tw14276625989512802970:=()
def tw14546921900471168390:=()
def tw13485008357673279819:=()
def tw7561594229411253978:=()
def tw5354828429584663079:=()
def tw12758797084516187749:=()
def tw11901587497241126046:=()
def tw3320203590725320934:=()
def tw9657292124749111738:=()
def tw13499779405308369961:=()
def tw10771250247956301380:=()
def tw17281941991801998803:=()
def tw14154186988519672027:=()
def tw1145604205175528325:=()
def tw1313315980869938219:=()
def tw14315407304479251898:=()
def tw15530436509941350797:=()
def tw13129481123820869488:=()
def tw11104908119956710570:=()
def tw14070493773185143639:=()
def tw10210226596361022335:=()
def tw7515796832059168498:=()
def tw17291817029928556796:=()
def tw1043721944606776931:=()
def tw17566221483501571207:=()
def tw14244525881524376026:=()
def tw2519438913098261102:=()
def tw16289046542113175757:=()
def tw11773373202012402920:=()
def tw3333120702221429882:=()
def tw10400072638147687720:=()
def tw13038303613193456210:=()
def tw8874748949684962601:=()
def tw9965154247540045202:=()
def tw4568652058633361558:=()
def tw11236074332672936313:=()
def tw14840482012027361745:=()
def tw13809227316424162487:=()
def tw17254281376519292284:=()
def tw3706455808818817169:=()
def tw16479993594415510472:=()
def tw14651785604647875494:=()
def tw7702074208095550917:=()
def tw3492922547684487332:=()
def tw13868931609066248061:=()
def tw9165603332388601900:=()
def tw1517089534543643845:=()
def tw4695009729296946101:=()
def tw8875755064914221308:=()
def tw8682776463224979926:=()
def tw14376460346136159387:=()
def tw14294272628729125705:=()
def tw10715214671229016920:=()
def tw12236860871431440238:=()
def tw857103468223856043:=()
def tw1317665292438446474:=()
def tw3547739753321769317:=()
def tw4523282912675825864:=()
def tw4620815103757198745:=()
def tw10712267524218737164:=()
def tw12835560469780632950:=()
def tw9125568205492830994:=()
def tw12706294021093033116:=()
def tw1218664471554801518:=()
def tw10278968540733674051:=()
def tw3024257279605434535:=()
def tw5867306398141315115:=()
def tw6382173409272737381:=()
def tw2291573215793843698:=()
def tw13721015760993951534:=()
def tw12267754716721534958:=()
def tw12500115520384059851:=()
def tw6340142684723291206:=()
def tw7336271692151551978:=()
def tw1510310441613222800:=()
def tw637676702658796619:=()
def tw2981159893352184876:=()
def tw9167011486165402191:=()
def tw12822758688554798870:=()
def tw566559913201883002:=()
def tw11367653111054674221:=()
def tw1222141865157204949:=()
def tw12571744473250465182:=()
def tw17621456417364129735:=()
def tw7987830861925535952:=()
def tw15617751043439063232:=()
def tw17629884858203580934:=()
def tw6879213418238499147:=()
def tw10008274058916260736:=()
def tw1143929589779360217:=()
def tw14487042305628212569:=()
def tw1285611466517957598:=()
def tw15727045183524939265:=()
def tw16881618540078918997:=()
def tw1663434127214366644:=()
def tw4216200128099853716:=()
def tw13913720652279989201:=()
def tw7984751085221122449:=()
def tw16299292637239371983:=()
def tw10883394887344946657:=()
def tw5741064136162345361:=()
def tw4758668843638030181:=()
def tw6414775058534506977:=()
def tw6921658124657634245:=()
def tw6497620209122755467:=()
def tw9611144192673781890:=()
def tw12202505790682223235:=()
def tw6238269651594930681:=()
def tw9136205734468019156:=()
def tw7205592932356501122:=()
def tw8991673659284171674:=()
def tw10516841524885612209:=()
def tw10038399166106271633:=()
def tw932286457816693313:=()
def tw14605548205722761710:=()
def tw11367183961357077444:=()
end PySem.W.Fast
open PySem PySem.W PyProof.Rows
set_option maxRecDepth 100000 in
set_option maxHeartbeats 0 in
theorem PySem.Challenge.cw_termcourt_k55_histories_in_any_order_holds : PySem.Challenge.rw_termcourt_k55_histories_in_any_order.Holds := by
 w_on; o_law; k_head; (case hw=>w_witness2)
 k_fill
 refine K55.walk (l:=PySem.Challenge.rw_termcourt_k55_histories_in_any_order) rfl rfl (by rfl) (λw h Y=>PySem.W.km_in_of Y) ?F
 case F =>
  intro w mg fa h KX G hmg
  refine' K55.all_mk KX G hmg ?FJ ?Fc ?F1 ?Fn ?FK ?FX ?Fw ?Fx ?p0 ?p1 ?p2 ?p3 ?p4 ?p5 ?p6 ?p7 ?p8 ?p9 ?p10 ?p11 ?p12 ?p13 ?p14 ?p15 ?p16 ?p17 ?p18 ?p19 ?p20 ?p21 ?p22 ?p23 ?p24 ?p25 ?p26 ?p27 ?p28 ?p29 ?p30 ?a31 ?l31 ?c31 ?k31 ?p32 ?p33 ?p34 ?p35 ?p36 ?p37 ?p38 ?p39 ?p40 ?p41 ?p42 ?p43 ?p44 ?p45 ?p46 ?p47 ?p48 ?p49 ?a50 ?t50 ?l50 ?c50 ?k50 ?pk50 ?p51 ?p52 ?p53 ?p54 ?p55 ?p56 ?p57 ?p58 ?p59 ?p60 ?p61 ?p62 ?p63 ?p64 ?p65 ?p66 ?p67 ?p68 ?a69 ?t69 ?l69 ?c69 ?k69 ?pk69 ?p70 ?p71 ?p72 ?p73 ?p74 ?p75 ?p76 ?p77 ?p78 ?a79 ?t79 ?l79 ?c79 ?k79 ?pk79 ?EQ ?a80 ?l80 ?c80 ?k80 ?G6 ?FY ?FZ ?Fd ?G7 ?F3 ?G8 ?G0 ?G9 ?Ga ?FL ?Fo ?Fy ?Gb ?FM ?EH ?EW ?E6 ?F4 ?Fe ?Ff ?EI ?G1 ?ED ?FN ?Fz ?lcL ?vL ?FO ?FP ?FQ ?EJ ?ER ?Fg ?Fh ?Fi ?cti_Counting_counted_in ?cti_Counting_days_for ?cti_Counting_reach ?Fj ?ckd_Counting_Counting ?ckd_Counting_Weeks ?ckd_Counting_CourtDays ?E3 ?E8 ?Ds ?F5 ?F6 ?F7 ?cti_CourtDays_counted_in ?cti_CourtDays_days_for ?cti_CourtDays_reach ?F8 ?ckd_CourtDays_Counting ?ckd_CourtDays_Weeks ?ckd_CourtDays_CourtDays ?E7 ?D2 ?Fp ?Fq ?Fr ?E2 ?E4 ?ES ?E9 ?FR ?FS ?FT ?E5 ?F9 ?G2 ?G3 ?G4 ?EY ?EK ?Fk ?EZ ?ET ?EM ?Ey ?F0 ?EE ?EN ?Fl ?Fa ?Fm ?EF ?EU ?FA ?FB ?FC ?EV ?EO ?Fb ?EA ?FD ?FE ?FF ?cti_Weeks_counted_in ?cti_Weeks_days_for ?cti_Weeks_reach ?FG ?ckd_Weeks_Counting ?ckd_Weeks_Weeks ?ckd_Weeks_CourtDays ?EG ?tnL
  (case FJ|Fc|F1|Fn|FK|FX|Fw|Fx=>k_is)
  (case p0=>refine' K55.pm_of ?pa ?pt ?pl ?pc ?pk; (case pa|pt|pl|pc|pk=>k_is))
  (case p1|p2|p3|p4|p5|p6|p7=>refine' K55.pd_of ?pa ?pl ?pc ?pk; (case pa|pl|pc|pk=>k_is))
  (case p8|p9|p10=>refine' K55.pm_of ?pa ?pt ?pl ?pc ?pk; (case pa|pt|pl|pc|pk=>k_is))
  (case p11=>refine' K55.pd_of ?pa ?pl ?pc ?pk; (case pa|pl|pc|pk=>k_is))
  (case p12|p13=>refine' K55.pm_of ?pa ?pt ?pl ?pc ?pk; (case pa|pt|pl|pc|pk=>k_is))
  (case p14=>refine' K55.pd_of ?pa ?pl ?pc ?pk; (case pa|pl|pc|pk=>k_is))
  (case p15=>refine' K55.pm_of ?pa ?pt ?pl ?pc ?pk; (case pa|pt|pl|pc|pk=>k_is))
  (case p16|p17|p18|p19=>refine' K55.pd_of ?pa ?pl ?pc ?pk; (case pa|pl|pc|pk=>k_is))
  (case p20|p21|p22|p23|p24|p25|p26=>refine' K55.pm_of ?pa ?pt ?pl ?pc ?pk; (case pa|pt|pl|pc|pk=>k_is))
  (case p27=>refine' K55.pd_of ?pa ?pl ?pc ?pk; (case pa|pl|pc|pk=>k_is))
  (case p28=>refine' K55.pm_of ?pa ?pt ?pl ?pc ?pk; (case pa|pt|pl|pc|pk=>k_is))
  (case p29|p30=>refine' K55.pd_of ?pa ?pl ?pc ?pk; (case pa|pl|pc|pk=>k_is))
  (case a31|l31|c31|k31=>k_is)
  (case p32|p33|p34=>refine' K55.pm_of ?pa ?pt ?pl ?pc ?pk; (case pa|pt|pl|pc|pk=>k_is))
  (case p35=>refine' K55.pd_of ?pa ?pl ?pc ?pk; (case pa|pl|pc|pk=>k_is))
  (case p36|p37|p38|p39|p40|p41|p42|p43|p44|p45|p46|p47|p48|p49=>refine' K55.pm_of ?pa ?pt ?pl ?pc ?pk; (case pa|pt|pl|pc|pk=>k_is))
  (case a50|t50|l50|c50|k50=>k_is)
  (case pk50=>intros; kernel_rfl)
  (case p51=>refine' K55.pd_of ?pa ?pl ?pc ?pk; (case pa|pl|pc|pk=>k_is))
  (case p52|p53=>refine' K55.pm_of ?pa ?pt ?pl ?pc ?pk; (case pa|pt|pl|pc|pk=>k_is))
  (case p54|p55|p56|p57|p58|p59|p60|p61|p62|p63|p64|p65|p66|p67|p68=>refine' K55.pd_of ?pa ?pl ?pc ?pk; (case pa|pl|pc|pk=>k_is))
  (case a69|t69|l69|c69|k69=>k_is)
  (case pk69=>intros; kernel_rfl)
  (case p70|p71|p72|p73|p74|p75|p76=>refine' K55.pd_of ?pa ?pl ?pc ?pk; (case pa|pl|pc|pk=>k_is))
  (case p77|p78=>refine' K55.pm_of ?pa ?pt ?pl ?pc ?pk; (case pa|pt|pl|pc|pk=>k_is))
  (case a79|t79|l79|c79|k79=>k_is)
  (case pk79|EQ=>intros; kernel_rfl)
  (case a80|l80|c80|k80|G6|FY|FZ|Fd|G7|F3|G8|G0|G9|Ga|FL|Fo|Fy|Gb|FM|EH|EW|E6|F4|Fe|Ff|EI|G1|ED|FN|Fz|lcL=>k_is)
  (case vL=>exact rfl)
  (case FO|FP|FQ|EJ|ER|Fg|Fh|Fi|cti_Counting_counted_in|cti_Counting_days_for|cti_Counting_reach|Fj|ckd_Counting_Counting|ckd_Counting_Weeks|ckd_Counting_CourtDays|E3|E8|Ds|F5|F6|F7|cti_CourtDays_counted_in|cti_CourtDays_days_for|cti_CourtDays_reach|F8|ckd_CourtDays_Counting|ckd_CourtDays_Weeks|ckd_CourtDays_CourtDays|E7|D2|Fp|Fq|Fr|E2|E4|ES|E9|FR|FS|FT|E5|F9|G2|G3|G4|EY|EK|Fk|EZ|ET|EM|Ey|F0|EE|EN|Fl|Fa|Fm|EF|EU|FA|FB|FC|EV|EO|Fb|EA|FD|FE|FF|cti_Weeks_counted_in|cti_Weeks_days_for|cti_Weeks_reach|FG|ckd_Weeks_Counting|ckd_Weeks_Weeks|ckd_Weeks_CourtDays|EG|tnL=>kernel_rfl)
