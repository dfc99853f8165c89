import PyProof.Rows.All
import Wide.All
import OpenK.AllK
import Wide.FinOn
import Lean
import PyProof.EqAt
import PyProof.EqKinds
import PyProof.TupleCall
import PySem.Challenge.RW_termcourt_k56_what_did_nothing
set_option Elab.async false
set_option linter.all false
set_option maxRecDepth 100000
/-! THE HAND LAYER,for ints,bools,texts,own classes,LISTS and tuples (index,slices,in,append,pop ..),calls,loops. Paste it whole ahead of your own text; what your proof does not reach may be deleted. -/
local macro_rules|`(Ez)=>`(by decide +kernel)|`(Uk)=>`(by decide)
open PySem.Str renaming ofString->Aa,empty->A8
open List renaming length_map->Ab,getElem?_eq_some_iff->Ac,getElem?_eq_getElem->Ad,length_append->Af,mem_singleton->Ah,getElem?_map->Ai,getD_eq_getElem?_getD->Aj,size_toArray->Ak,mem_cons_self->Al,mem_cons->Aq,range->Ar,mem_append->Av,length_range->Aw,map_append->Ax,mem_cons_of_mem->Az,mem_of_getElem?->A0,mem_append_right->A1,length_cons->AD,not_mem_nil->AG,getElem?_append_left->AH,getElem?_eq_none->AI,set_cons_succ->AM,set_cons_zero->AN,mem_map->AS,mem_range->AT,getElem?_append_right->AV,length_singleton->AW,pairwise_iff_getElem->AZ,map_cons->Ba,getElem?_range->Bb,getElem?_of_mem->Bc,getElem_mem->Bj,mem_filter->Bk,mem_append_left->Bl,contains_iff_mem->Bo,take_length->Bq,append_nil->Br,length_take->Bv,filter_cons_of_neg->Bw,filter_cons_of_pos->Bx,range_succ->By,take_add_one->B1,pairwise_append->B6,Nodup->BD,filterMap_cons_some->BG,length_pos_iff->BH,map_congr_left->BI,eq_nil_or_concat->BJ,concat_eq_append->BK,pairwise_cons->BO,lookup_cons->BS,length_reverse->BU,length_filter_le->BY,mem_filterMap->Cb,filter_append->Cc,all_eq_true->Cf,pairwise_map->Cj,ext_getElem?->Ck,map_map->Cr,foldl_append->Ct,nodup_cons->Cz,find?_cons->C0,getElem_of_mem->C1,length_drop->C6,getElem_range->CD,take_append_drop->CF,drop_eq_getElem_cons->CH,length_dropLast->CI,filterMap_cons_none->CO,any_eq_true->CQ,pairwise_singleton->CS,lookup->CU,getElem?_reverse->CZ,reverse_cons->Dc,take_zero->De,nodup_range->Di,getLast?_eq_getElem?->Dj,getElem?_eq_none_iff->Dk,length->Do,getElem?_cons_succ->Dq,getElem?_set_self->Dr,filterMap->Dw,append_eq_nil_iff->Dz,filter_cons->D6,any_cons->D8,getElem?_set_ne->DB,mem_of_mem_take->DF,getLast?_append->DG,length_take_le'->DH,eq_nil_of_length_eq_zero->DI,length_nil->DK,filterMap_cons->DM,getElem_take->Ed,getElem?_inj->Ee,not_lt->Ew
open PySem renaming Shared->Ae,Spec->An,wpAny_bind->As,FuncData->Ay,mainGlobals->A4,sizeLine->A6,Program->AK,wpAny_pure->AO,Around->AQ,PassesOwn->AY,NameKind->B0,sizeLine_eq->B3,wpAny_truthy_bool->BA,wpAny_passesOwn->BE,Builtin->BL,wpAny_Call_Name_kw->BN,wpAny_mono->Ca,mem_of_lookup->Cm,wpAny_holding->Co,tupleKind_room_in1->CB,wpAny_execs_nil->Dl,Paired->Dm,codeAny_mono->Du,call_meetsIn->DQ,call_meets->DT,wpAny_standAt->Ef,GenState->Eh,Within->Em,Keyword->Eo,Operator->Ev,Arguments->Ex
open PySem.W renaming Frag->Ag,nsIn->AJ,kitOne->AX,mg_of->Be,findIn->Bf,fnOf->Bg,mg_none_of->Bi,keepIn->Bu,codeIn->B9,kia_one->BP,emptyDict->BV,instObj->Cv,typeIn->C9,peek->CK,plainGet->Df,callWith_K->Dn,hasDictIn->Dt,methodCall_KW->D3,kla_obj->DA,plainGet_of->DN,isFn->DP,lookIn->DS,methodObj->DZ,plainOver->Ea,kas_rev->Er
open Nat renaming le_refl->Am,lt_of_lt_of_le->A2,le_trans->A5,ne_of_lt->AA,zero_le->AU,not_lt_zero->B2,le_of_lt->BC,lt_succ_self->Ce,lt_irrefl->Cg,ne_of_gt->Ch,le_of_eq->Ci,le_succ->Cn,le_succ_of_le->Cu,succ_le_succ->C7,lt_succ_of_lt->CL,lt_of_le_of_lt->CW,sub_self->Dx,not_lt->D7,add_le_add_right->DE,min_le_left->DL,mul_le_mul_left->DO,add_sub_cancel->DX
open PySem.Heap renaming get?_push_of_some->Ao,lt_size->A9,get?_push_size->AR,SameBut->BR,size_push->Dd,get?_update_other->Dv
open Or renaming inl->Au,inr->CG
open PySem.F renaming plainAttrs_list->A3,slot_list_append->AB,type_list_append->AC,slot_dict_get->BX,entry_dict_get->C3,args_dict_get_2->Dp,slot_list_iadd->Ei
open PySem.PassesOwn renaming never->A7
open Option.some renaming inj->AE
open Bool renaming false_ne_true->AF,and_eq_true->BF,and_false->Cs,eq_iff_iff->Cy,false_and->CP,false_or->D9,false_eq_true->DU,or_false->Eg,or_true->Et
open PySem.SeqAt renaming EqAt->Bd,RcNeAt->DR
open Int renaming lt_of_lt_of_le->Bh,le_refl->Bp,le_trans->Bt,not_lt->B8,emod_nonneg->BQ,toNat_natCast->BW,emod_lt_of_pos->Cd,zero_add->Cq,toNat_of_nonneg->C2,add_zero->C5,lt_trans->CJ,le_of_lt->Dg,ofNat_le->Dh,ofNat_lt->Dy,le_of_lt_add_one->DD,lt_of_le_of_lt->DV,le_add_one->DW,natCast_nonneg->DY,natCast_zero->Ej,not_le->Ep,zero_mul->Es,le_of_eq->Eu
open PySem.Value renaming ref->Bm,none->C8,type->CM,int->D4,str->D5,bool->El
open PySem.NameKind renaming free->Bs
open Array renaming length_toList->Bz,getD_eq_getD_getElem?->C4
open Ne renaming symm->B4
open PySem.Obj renaming mapSeq->B7
open PyProof.Rows renaming callWith_type1->BM,AllBare->En
open Option renaming isSome_iff_exists->BZ,map_some->DJ,isSome_map->Ec
open False renaming elim->Cw
open PySem.Calls renaming spliced_cons->CA,callWith_builtin->CV,spliced_nil->Db,evalArgs_plain->DC
open True renaming intro->CN
open ForInStep renaming yield->CY
open Sum renaming inr->Da,inl->Ek
open List.Pairwise renaming nil->Eb
noncomputable section
theorem Z.{u}{α:Sort u}{a:α}:a=a:=rfl
namespace L2
open PySem PySem.Spec PyProof.Rows
noncomputable abbrev Key:=Sum Int Str
def qj0:Key->Value->Bool
 |.inl k,v=>Value.isInt k v
 |.inr x,v=>Value.isStrOf x v
def keyH (w:World):Key->Int
 |.inl k=>hashInt k
 |.inr x=>hashStr w x
theorem qaq:∀{k:Key}{v:Value},qj0 k v=true->(∃i t,k=Ek i/\v=D4 i t)\/(∃x t,k=Da x/\v=D5 x t)
 |.inl i,v,h=>by obtain⟨t,e⟩:=Value.isInt_shape (k:=i) (v:=v) h;exact .inl ⟨i,t,Z,e⟩
 |.inr x,v,h=>by obtain⟨t,e⟩:=Value.isStrOf_shape (x:=x) (v:=v) h;exact .inr ⟨x,t,Z,e⟩
theorem qug (i:Int)(t:Tok):qj0 (.inl i) (.int i t)=true:=by simp[qj0,Value.isInt]
theorem quh (x:Str)(t:Tok):qj0 (.inr x) (.str x t)=true:=by simp[qj0,Value.isStrOf]
theorem key_ll (a b:Int):decide ((Ek a:Key)=Ek b)=(a == b):=by
 by_cases e:a=b
 .subst e;simp
 .have h:¬(Ek a:Key)=Ek b:=λq=>e (Ek.inj q);rw[decide_eq_false h];exact(beq_eq_false_iff_ne.mpr e).symm
theorem key_rr (a b:Str):decide ((Da a:Key)=Da b)=decide (a=b):=by
 by_cases e:a=b
 .subst e;simp
 .have h:¬(Da a:Key)=Da b:=λq=>e (Da.inj q);rw[decide_eq_false h,decide_eq_false e]
theorem key_lr (a:Int)(b:Str):decide ((Ek a:Key)=Da b)=false:=decide_eq_false (λq=>nomatch q)
theorem key_rl (a:Str)(b:Int):decide ((Da a:Key)=Ek b)=false:=decide_eq_false (λq=>nomatch q)
def qat (prog:AK)(w:World):PySem.KeyKind prog w Key where
 is:=qj0
 hash:=keyH w
 inj:=λv a b ha hb=>by
  rcases qaq ha with ⟨i,t,rfl,rfl⟩|⟨x,t,rfl,rfl⟩
  .rcases qaq hb with ⟨j,u,rfl,e⟩|⟨y,u,rfl,e⟩
   .injection e with e1 _;rw[e1]
   .exact nomatch e
  .rcases qaq hb with ⟨j,u,rfl,e⟩|⟨y,u,rfl,e⟩
   .exact nomatch e
   .injection e with e1 _;rw[e1]
 byValue:=λk v h=>by rcases qaq h with ⟨i,t,rfl,rfl⟩|⟨x,t,rfl,rfl⟩ <;>rfl
 pyHash:=λhv h=>by
  rcases qaq hv with ⟨i,t,rfl,rfl⟩|⟨x,t,rfl,rfl⟩
  .exact wpAny_pyHash_int h
  .exact wpAny_pyHash_str h
 eqBool:=λhu hv h=>by
  rcases qaq hu with ⟨i,t,rfl,rfl⟩|⟨x,t,rfl,rfl⟩
  .rcases qaq hv with ⟨j,u,rfl,rfl⟩|⟨y,u,rfl,rfl⟩
   .rw[key_ll]at h;exact wpAny_eqBool_int h
   .rw[key_lr]at h;exact Bd.int_str i t y u _ _ _ _ h
  .rcases qaq hv with ⟨j,u,rfl,rfl⟩|⟨y,u,rfl,rfl⟩
   .rw[key_rl]at h;exact Bd.str_int x t j u _ _ _ _ h
   .rw[key_rr]at h;exact wpAny_eqBool_str h
 «strs» := λk x t v h=>by
  rcases qaq h with ⟨i,u,rfl,e⟩|⟨y,u,rfl,e⟩
  .exact nomatch e
  .injection e with e1 _;subst e1;cases v <;>rfl
theorem qpt (prog:AK)(w:World)(i:Int)(t:Tok):(qat prog w).is (.inl i) (.int i t)=true:=qug i t
theorem qpu (prog:AK)(w:World)(x:Str)(t:Tok):(qat prog w).is (.inr x) (.str x t)=true:=quh x t
end L2
namespace L2
open PySem PySem.Spec PyProof.Rows
inductive V where
 |non|bl (b:Bool)|int (i:Int)|str (x:Str)|byt (b:Array UInt8)|flt (b:UInt64)|ref (a:Addr)|ty (n:String)
 deriving DecidableEq
def RelV:V->Value->Prop
 |.non,u=>u=C8
 |.bl b,u=>u=El b
 |.int i,u=>∃t,u=D4 i t
 |.str x,u=>∃t,u=D5 x t
 |.byt b,u=>∃t,u=Value.bytes b t
 |.flt b,u=>∃t,u=Value.float b t
 |.ref a,u=>u=Bm a
 |.ty n,u=>u=CM n
abbrev Vals:List V->List Value->Prop:=Dm RelV
theorem Vals.length {xs:List V}{us:List Value}(r:Vals xs us):xs.length=us.length:=Dm.length r
theorem Vals.get:∀{xs:List V}{us:List Value}{i:Nat}{x:V},Vals xs us->xs[i]?=some x->∃u,us[i]?=some u/\RelV x u
 |_,_,_,_,.nil,e=>by simp at e
 |_,_,0,_,.cons r _,e=>by simp at e;subst e;exact⟨_,Z,r⟩
 |_,_,i+1,x,.cons _ t,e=>by obtain⟨u,a,b⟩:=Vals.get (i:=i) (x:=x) t (by simpa using e);exact⟨u,by simpa using a,b⟩
theorem Vals.set {x:V}{u:Value}(r:RelV x u):∀{xs:List V}{us:List Value}(i:Nat),Vals xs us->Vals (xs.set i x) (us.set i u)
 |_,_,_,.nil=>.nil
 |_,_,0,.cons _ t=>.cons r t
 |_,_,i+1,.cons q t=>.cons q (Vals.set r i t)
theorem Vals.append:∀{xs ys:List V}{us a:List Value},Vals xs us->Vals ys a->Vals (xs++ys) (us++a)
 |_,_,_,_,.nil,s=>s
 |_,_,_,_,.cons r t,s=>.cons r (Vals.append t s)
theorem Vals.take:∀{xs:List V}{us:List Value}(n:Nat),Vals xs us->Vals (xs.take n) (us.take n)
 |_,_,0,_=>.nil
 |_,_,_+1,.nil=>.nil
 |_,_,n+1,.cons r t=>.cons r (Vals.take n t)
theorem Vals.drop:∀{xs:List V}{us:List Value}(n:Nat),Vals xs us->Vals (xs.drop n) (us.drop n)
 |_,_,0,r=>r
 |_,_,_+1,.nil=>.nil
 |_,_,n+1,.cons _ t=>Vals.drop n t
def RelO:Option V->Option Value->Prop
 |some v,some u=>RelV v u
 |none,none=>True
 |_,_=>False
def KV {κ:Type}:List (κ×V)->List (κ×Value)->Prop:=Dm λ(p:κ×V)(q:κ×Value)=>p.1=q.1/\RelV p.2 q.2
def kV:Key->V
 |.inl i=>.int i
 |.inr x=>.str x
inductive HO where
 /-- a list -/
 |lst (xs:List V)
 /-- a tuple (never changes) -/
 |tup (xs:List V)
 /-- a dict whose keys are ints and texts;one whose keys are tuples of ints and texts (the empty one is both) -/
 |dK (kvs:List (Key×V))|dT (kvs:List (List Key×V))
 /-- a set of ints: its members,its size -/
 |set (S:Int->Bool) (n:Nat)
 /-- an instance of the class at C,its dict at dx,its attributes -/
 |ins (C dx:Addr) (fs:List (Str×V))
 /-- the dict of the instance at x -/
 |own (x:Addr)
 /-- the dict of an exception -/
 |xd (fs:List (Str×V))
 /-- a bound method,f of x -/
 |met (f x:Addr)
 /-- a range object lo,lo+1,.. below hi -/
 |rng (lo hi:Int)
 /-- a thing that is known to the object (the script;a dict while a loop walks it): read,never written while it is so -/
 |frz (o:Obj) (u:HO)
 /-- a code object's table -/
 |tbl (ps:Array Value)
 /-- any other thing,by what is true of its one object (a def of one's own: SetO a S n:=HO.ext λh=>..) -/
 |ext (φ:Heap->Prop)
noncomputable abbrev Hp:=Addr->Option HO
noncomputable def upd (H:Hp)(a:Addr)(o:HO):Hp:=λb=>if b=a then some o else H b
theorem qk {H:Hp}{a:Addr}{o:HO}:upd H a o a=some o:=by unfold upd;rw[if_pos Z]
theorem qr {H:Hp}{a b:Addr}{o:HO}(h:b≠a):upd H a o b=H b:=by unfold upd;rw[if_neg h]
theorem qs3 {H:Hp}{a:Addr}{o u:HO}:upd (upd H a o) a u=upd H a u:=by funext b;unfold upd;split <;>rfl
theorem ne_of {H:Hp}{a b:Addr}{o u:HO}(h:H a=some o)(h':H b=some u)(d:o≠u):a≠b:=by intro e;subst e;rw[h]at h';exact d (AE h')
theorem qae {H:Hp}{a b:Addr}{o:HO}(h:H a=some o)(h':H b=none):a≠b:=by intro e;subst e;rw[h]at h';cases h'
section
variable (P:AK)(w:World)
def ObjOk (H:Hp)(h:Heap)(a:Addr):HO->Prop
 |.lst xs=>xs.length<=A6/\∃(its:List Value)(n:Nat),Vals xs its/\h.get? a=some {cls:=.type "list",data:=.seq its.toArray n}
 |.tup xs=>xs.length<=A6/\∃its:List Value,Vals xs its/\IsTup h a its.toArray
 |.dK kvs=>kvs.length<=A6/\(a == sysModules)=false/\∃vs,KV kvs vs/\h.DictOf (qat P w) a vs
 |.dT kvs=>kvs.length<=A6/\(a == sysModules)=false/\∃xs:List (List Key×Addr×Value),
   Dm (λ(p:List Key×V)(q:List Key×Addr×Value)=>p.1=q.1/\H q.2.1=some (.tup (p.1.map kV))/\RelV p.2 q.2.2) kvs xs /\
   ∃o es ep,h.get? a=some o/\o.ExactDict/\o.data=.dict es ep/\es.toList=xs.map (entryOfKey (tupleKind (qat P w)))/\(xs.map (·.1)).Nodup
 |.set S n=>h.SetOf (intKind P w) a S n
 |.ins C dx fs=>H dx=some (.own a)/\fs.length<=1000/\dx≠a/\h.get? a=some (Cv C dx) /\
   ∃mA,h.Ns1 dx mA/\(∀f,RelO (fs.lookup f) (mA f))/\Em mA (fs.map (·.1))
 |.own _=>∃o,h.get? a=some o
 |.xd fs=>∃mA,h.Ns1 a mA/\∀f,RelO (fs.lookup f) (mA f)
 |.rng lo hi=>∃t u v,h.get? a=some {cls:=.type "range",data:=.fields #[.int lo t,.int hi u,.int 1 v]}
 |.frz o u=>h.get? a=some o/\ObjOk H h a u
 |.tbl ps=>h.get? a=some {cls:=.none,data:=.fields ps}
 |.met f x=>h.get? a=some (DZ (.ref f) (.ref x))
 |.ext φ=>φ h/\(∃o,h.get? a=some o)/\∀h1 h2:Heap,φ h1->(∀o,h1.get? a=some o->h2.get? a=some o)->φ h2
def HOk (H:Hp)(h:Heap):Prop:=∀a o,H a=some o->ObjOk P w H h a o
end
section
variable {P:AK}{w:World}{H H':Hp}{h h':Heap}{a:Addr}{o:HO}
theorem ObjOk.lt (x:ObjOk P w H h a o):a<h.objs.size:=by
 cases o with
 |lst xs=>obtain⟨_,_,_,_,e⟩:=x;exact A9 e
 |tup xs=>obtain⟨_,_,_,p⟩:=x;exact p.lt
 |dK kvs=>obtain⟨_,_,_,_,o,_,_,e,_⟩:=x;exact A9 e
 |dT kvs=>obtain⟨_,_,_,_,o,_,_,e,_⟩:=x;exact A9 e
 |set S n=>obtain⟨o,_,_,_,e,_⟩:=x;exact A9 e
 |ins C dx fs=>obtain⟨_,_,_,e,_⟩:=x;exact A9 e
 |own y=>obtain⟨_,e⟩:=x;exact A9 e
 |xd fs=>obtain⟨_,⟨_,_,_,e,_⟩,_⟩:=x;exact A9 e
 |rng lo hi=>obtain⟨_,_,_,e⟩:=x;exact A9 e
 |frz ob u=>obtain⟨e,_⟩:=x;exact A9 e
 |tbl ps=>exact A9 (show h.get? a=some _ from x)
 |met f y=>exact A9 (show h.get? a=some _ from x)
 |ext φ=>obtain⟨_,⟨_,e⟩,_⟩:=x;exact A9 e
theorem Dm.mapP {α β:Type}{F G:α->β->Prop}:∀{d:List α}{c:List β},Dm F d c->(∀a b,F a b->G a b)->Dm G d c
 |_,_,.nil,_=>.nil
 |_,_,.cons r t,f=>.cons (f _ _ r) (Dm.mapP t f)
theorem ObjOk.stay (x:ObjOk P w H h a o)(k:∀b u,(b=a\/H b=some (.own a))->h.get? b=some u->h'.get? b=some u)
  (l:∀b,H b=some (.own a)->H' b=some (.own a))(m:∀b xs,H b=some (.tup xs)->H' b=some (.tup xs)):ObjOk P w H' h' a o:=by
 induction o with
 |lst xs=>obtain⟨z,its,n,r,e⟩:=x;exact⟨z,its,n,r,k _ _ (.inl Z) e⟩
 |tup xs=>obtain⟨z,its,r,g,e,c⟩:=x;exact⟨z,its,r,g,k _ _ (.inl Z) e,c⟩
 |dK kvs=>obtain⟨z,y,vs,r,g,es,ep,e,c⟩:=x;exact⟨z,y,vs,r,g,es,ep,k _ _ (.inl Z) e,c⟩
 |dT kvs =>obtain⟨z,y,xs,r,g,es,ep,e,c⟩:=x;exact⟨z,y,xs,Dm.mapP r λp q z=>⟨z.1,m _ _ z.2.1,z.2.2⟩,g,es,ep,k _ _ (.inl Z) e,c⟩
 |set S n=>obtain⟨g,es,ep,t,e,c⟩:=x;exact⟨g,es,ep,t,k _ _ (.inl Z) e,c⟩
 |ins C dx fs =>obtain⟨d,z,s,e,i,⟨j,es,ep,A,c⟩,r⟩:=x;exact⟨l _ d,z,s,k _ _ (.inl Z) e,i,⟨j,es,ep,k _ _ (.inr d) A,c⟩,r⟩
 |own y=>obtain⟨g,e⟩:=x;exact⟨g,k _ _ (.inl Z) e⟩
 |xd fs=>obtain⟨i,⟨j,es,ep,e,c⟩,r⟩:=x;exact⟨i,⟨j,es,ep,k _ _ (.inl Z) e,c⟩,r⟩
 |rng lo hi=>obtain⟨t,u,v,e⟩:=x;exact⟨t,u,v,k _ _ (.inl Z) e⟩
 |frz g u ih=>obtain⟨e,q⟩:=x;exact⟨k _ _ (.inl Z) e,ih q⟩
 |tbl ps =>have e:h.get? a=some {cls:=.none,data:=.fields ps}:=x;show h'.get? a=some {cls:=.none,data:=.fields ps};exact k a _ (.inl Z) e
 |met f y =>have e:h.get? a=some (DZ (.ref f) (.ref y)):=x;show h'.get? a=some (DZ (.ref f) (.ref y));exact k a _ (.inl Z) e
 |ext φ=>obtain⟨p,⟨o,e⟩,st⟩:=x;exact⟨st _ _ p λo q=>k _ _ (.inl Z) q,⟨o,k _ _ (.inl Z) e⟩,st⟩
theorem HOk.lt (x:HOk P w H h)(e:H a=some o):a<h.objs.size:=(x a o e).lt
theorem HOk.fresh (x:HOk P w H h)(e:h.objs.size<=a):H a=none:=by
 cases q:H a with|none=>rfl|some u=>exact absurd (A2 (x.lt q) e) (Cg _)
theorem HOk.kept (x:HOk P w H h)(k:∀b u,h.get? b=some u->h'.get? b=some u):HOk P w H h':=λa o e =>
 (x a o e).stay (λb u _ q=>k b u q) (λ_ q=>q) λ_ _ q=>q
theorem HOk.laid (x:HOk P w H h)(k:∀b u,h.get? b=some u->h'.get? b=some u)(i:h.objs.size<=a)(f:ObjOk P w (upd H a o) h' a o):HOk P w (upd H a o) h':=λb u e=>by
 have d:=x.fresh i;by_cases g:b=a
 .subst g;rw[qk]at e;cases e;exact f
 .rw[qr g]at e;exact(x b u e).stay (λc v _ q=>k c v q) (λc q=>by rw[qr (qae q d)];exact q) λc xs q=>by rw[qr (qae q d)];exact q
end
def Rd (H:Hp)(a:Addr)(u:HO):Prop:=H a=some u \/ ∃o,H a=some (.frz o u)
theorem Rd.ok {P:AK}{w:World}{H:Hp}{h:Heap}{a:Addr}{u:HO}(r:Rd H a u)(x:HOk P w H h):ObjOk P w H h a u:=by
 rcases r with r|⟨o,r⟩
 .exact x a u r
 .obtain⟨_,q⟩:=x a _ r;exact q
def Mut:Option HO->Prop
 |some (.lst _)=>True
 |some (.dK _)=>True
 |some (.dT _)=>True
 |some (.set _ _)=>True
 |some (.ins _ _ _)=>True
 |some (.ext _)=>True
 |_=>False
section
variable {P:AK}{w:World}{H:Hp}{h h':Heap}{x e:Addr}{o':HO}
theorem HOk.write (ok:HOk P w H h)(g:Mut (H x))(l:e=x\/H e=some (.own x))(k:∀b u,b≠e->h.get? b=some u->h'.get? b=some u)(o:∃u,h'.get? e=some u)
  (m:ObjOk P w (upd H x o') h' x o'):HOk P w (upd H x o') h':=λb u q=>by
 have d:∀c y,H c=some (.own y)->c≠x:=λc y r z=>by subst z;rw[r]at g;exact g
 have j:∀c xs,H c=some (.tup xs)->c≠x:=λc xs r z=>by subst z;rw[r]at g;exact g
 by_cases f:b=x
 .subst f;rw[qk]at q;cases q;exact m
 .rw[qr f]at q;by_cases a:b=e
  .have n:H b=some (.own x):=by
    rcases l with z|z
    .exact absurd (a.trans z) f
    .rw[a];exact z
   rw[q]at n;cases n
   obtain⟨v,p⟩:=o
   exact⟨v,by rw[a];exact p⟩
  .refine(ok b u q).stay (λc v i r=>k c v ?_ r) (λc r=>by rw[qr (d c b r)];exact r) λc xs r=>by rw[qr (j c xs r)];exact r
   rcases i with rfl|i
   .exact a
   .rintro rfl;rcases l with z|z
    .exact d c b i z
    .rw[i]at z;cases z;exact f rfl
end
structure Un (fs ex:List Addr)(H H':Hp)(h h':Heap):Prop where
 keep:∀b o,h.get? b=some o->H b=none->b∉fs->b∉ex->h'.get? b=some o
 slot:∀b o,h.get? b=some o->H b=none->b∈fs->b∉ex->∃sl,h'.get? b=some {o with slots:=sl}
 free:∀b o,h.get? b=some o->H b=none->b∉ex->H' b=none
 there:∀b o,h.get? b=some o->b∉ex->∃o',h'.get? b=some o'
 tups:∀b xs,H b=some (.tup xs)->H' b=some (.tup xs)
 frzs:∀b o u,H b=some (.frz o u)->H' b=some (.frz o u)
 tbls:∀b ps,H b=some (.tbl ps)->∃more,H' b=some (.tbl (ps++more))
section
variable {fs fs' ex ex':List Addr}{H H1 H2:Hp}{h h1 h2 h':Heap}{a x e:Addr}{o:HO}
theorem Un.any (u:Un fs ex H H1 h h1){b:Addr}{a:Obj}(q:h.get? b=some a)(n:H b=none)(d:b∉ex):∃sl,h1.get? b=some {a with slots:=sl}:=by
 by_cases c:b∈fs
 .exact u.slot b a q n c d
 .exact⟨a.slots,u.keep b a q n c d⟩
theorem Un.kept (k:∀b u,h.get? b=some u->h'.get? b=some u):Un fs ex H H h h' :=
 ⟨λb a q _ _ _=>k b a q,λb a q _ _ _=>⟨a.slots,k b a q⟩,λ_ _ _ n _=>n,λb a q _=>⟨a,k b a q⟩,λ_ _ q=>q,λ_ _ _ q=>q,λ_ ps q=>⟨#[],by rw[q];simp⟩⟩
theorem Un.refl:Un fs ex H H h h:=Un.kept λ_ _ q=>q
theorem Un.laid (k:∀b u,h.get? b=some u->h'.get? b=some u)(d:h.objs.size<=a)(c:H a=none):Un fs ex H (upd H a o) h h' where
 keep:=λb u q _ _ _=>k b u q
 slot:=λb u q _ _ _=>⟨u.slots,k b u q⟩
 free:=λb u q n _=>by rw[qr (AA (A2 (A9 q) d))];exact n
 there:=λb u q _=>⟨u,k b u q⟩
 tups:=λb xs q=>by rw[qr (qae q c)];exact q
 frzs:=λb u xs q=>by rw[qr (qae q c)];exact q
 tbls:=λb ps q=>⟨#[],by rw[qr (qae q c),q];simp⟩
theorem Un.write (a:Mut (H x))(j:e=x\/H e=some (.own x))(k:∀b u,b≠e->h.get? b=some u->h'.get? b=some u)(f:∃u,h'.get? e=some u):Un fs ex H (upd H x o) h h':=by
 have i:∀b,H b=none->b≠x:=λb n z=>by subst z;rw[n]at a;exact a
 have g:∀b,H b=none->b≠e:=λb n z=>by
  subst z;rcases j with r|r
  .exact i b n r
  .rw[n]at r;cases r
 have d:∀b u,H b=some u->¬Mut (some u)->b≠x:=λb u q nm z=>by subst z;rw[q]at a;exact nm a
 refine⟨λb u q n _ _=>k b u (g b n) q,λb u q n _ _=>⟨u.slots,k b u (g b n) q⟩,λb u q n _=>by rw[qr (i b n)];exact n,λb u q _=>?_,
  λb xs q=>by rw[qr (d b _ q λz=>z)];exact q,λb u xs q=>by rw[qr (d b _ q λz=>z)];exact q,λb ps q=>⟨#[],by rw[qr (d b _ q λz=>z),q];simp⟩⟩
 by_cases c:b=e
 .subst c;exact f
 .exact⟨u,k b u c q⟩
end
noncomputable def trk (h:Heap)(H:Hp):List Addr:=(Ar h.objs.size).filter λa=>(H a).isSome
def qoe (h:Heap)(H:Hp):Heap:=PySem.W.hideAll h (trk h H)
theorem qui (h:Heap)(H:Hp):(qoe h H).objs.size=h.objs.size:=PySem.W.hideAll_size _ _
theorem qh2 {h:Heap}{H:Hp}{b:Addr}{o:Obj}(e:h.get? b=some o)(n:H b=none):(qoe h H).get? b=some o :=
 PySem.W.hideAll_get _ e λa=>by have q:(H b).isSome=true:=(Bk.mp a).2;rw[n]at q;simp at q
theorem of_hidT {h:Heap}{H:Hp}{b:Addr}{o:Obj}(e:(qoe h H).get? b=some o):h.get? b=some o/\H b=none:=by
 have a:h.get? b=some o:=PySem.W.of_hideAll (trk h H) e;refine⟨a,?_⟩;cases q:H b with|none=>rfl|some x =>have c:b∈trk h H:=Bk.mpr ⟨AT.mpr (A9 a),by simp[q]⟩;have z:(qoe h H).get? b=none:=PySem.W.hideAll_none (trk h H) c;rw[z]at e;cases e
noncomputable def allNews (g h:Heap)(L:Addr):List (Addr×Obj):=(Ar h.objs.size).filterMap λa=>if a=L\/(g.get? a).isSome=true then none else (h.get? a).map λo=>(a,o)
def qcd (g h:Heap)(L d:Addr):List (Addr×Obj):=(allNews g h L).filter λp=>decide (p.1≠d)
end L2
namespace L2
open PySem PySem.Spec PyProof.Rows
structure Mod (K:Ag)(mg:Str->Option Value)(base:Heap):Prop where
 kin:K.In base
 glob:base.Ns A4 mg
 blt:∃mb,base.Ns builtinsNs mb/\∀x:Str,x ≠ "__name__" -> mb x=bootBuiltins x
 nolimit:base.NoLimit
structure Cx where
 prog:AK
 w:World
 K:Ag
 mg:Str->Option Value
 base:Heap
 A:AQ
 N:List Str
 s₀:Ae
 H₀:Hp
 env:Env
 outer:List Env
 stack:List Env
 ex:List Addr
 fn:Str->Bool
 calm:Bool
 pn:List (Addr×Obj)
 xe:Value->Ae->Prop
noncomputable def frs (l:List Env):List Addr:=l.filterMap (·.frame)
abbrev Cx.fs (X:Cx):List Addr:=frs X.outer
def Vis (sc:Scope)(x:Str):Prop:=sc.names.lookup x=some .local\/sc.names.lookup x=some .cell\/sc.names.lookup x=some .free
def Loc (sc:Scope)(x:Str):Prop:=sc.names.lookup x=some .local\/sc.names.lookup x=some .cell
def Look (env:Env)(h:Heap)(m:Str->Option Value)(x:Str)(u:Value):Prop :=
 (env.kindOf x=some .local/\m x=some u)\/((env.kindOf x=some .cell\/env.kindOf x=some .free)/\∃c,env.cells.lookup x=some c/\h.IsCell c (some u))
structure Cx.Ok (X:Cx):Prop where
 mod:Mod X.K X.mg X.base
 kind:X.env.scope.kind=.function
 glob:X.env.globals=A4
 blt:X.env.builtins=builtinsNs
 above:X.s₀.heap.objs.size<=X.env.locals
 inj:∀x y c,X.env.cells.lookup x=some c->X.env.cells.lookup y=some c->x=y
 has:∀x,(X.env.kindOf x=some .cell\/X.env.kindOf x=some .free)->∃c,X.env.cells.lookup x=some c
 cab:∀x c,X.fn x=true->X.env.cells.lookup x=some c->X.s₀.heap.objs.size<=c
 hd:X.calm=true->X.A.handled=none
 frames:X.A.frames=some X.stack
 stk:X.stack=X.outer\/(X.stack=X.env::X.outer/\X.env.frame=some X.env.locals)
 exf:∀b∈X.ex,b≠X.env.locals/\∀x c,X.env.cells.lookup x=some c->c≠b
 bs:∀b o,X.base.get? b=some o->X.s₀.heap.get? b=some o/\X.H₀ b=none
 bsz:X.base.objs.size<=X.s₀.heap.objs.size
 noex:∀b o,X.base.get? b=some o->b∉X.ex
 exfs:∀b∈X.ex,b∉X.fs
 funs:X.s₀.heap.FunFrames X.base X.outer
 frf:∀b∈X.fs,X.H₀ b=none
structure Inv (X:Cx)(pins:List (Addr×Obj))(σ:List (Option V))(H:Hp)(s:Ae):Prop where
 ok:X.Ok
 os:s.os=X.s₀.os
 bare:En s.gens
 base:Un X.fs X.ex X.H₀ H X.s₀.heap s.heap
 loc:∃m,s.heap.Ns X.env.locals m/\∀(i:Nat)(x:Str)(v:V),X.N[i]?=some x->σ[i]?=some (some v)->Vis X.env.scope x->∃u,RelV v u/\Look X.env s.heap m x u
 cell:∀x c,X.env.cells.lookup x=some c->∃v,s.heap.IsCell c v
 free:H X.env.locals=none
 freeC:∀x c,X.env.cells.lookup x=some c->H c=none
 pin:∀p∈X.pn++pins,s.heap.get? p.1=some p.2/\H p.1=none/\p.1≠X.env.locals/\p.1∉X.fs/\∀v,p.2.data ≠ .cell v
 hok:HOk X.prog X.w H s.heap
 len:σ.length=X.N.length
section
variable {X:Cx}{pins:List (Addr×Obj)}{σ:List (Option V)}{H H':Hp}{s:Ae}{h':Heap}
theorem Cx.Ok.nofr (ok:X.Ok){b:Addr}{o:Obj}(e:X.base.get? b=some o):b∉X.fs:=λa=>by have:=(ok.funs.mem a).1;rw[e]at this;cases this
theorem Inv.bs (I:Inv X pins σ H s):∀b o,X.base.get? b=some o->s.heap.get? b=some o/\H b=none:=λb o e =>
 ⟨I.base.keep b o (I.ok.bs b o e).1 (I.ok.bs b o e).2 (I.ok.nofr e) (I.ok.noex b o e),I.base.free b o (I.ok.bs b o e).1 (I.ok.bs b o e).2 (I.ok.noex b o e)⟩
theorem Inv.bk (I:Inv X pins σ H s):∀b o,X.base.get? b=some o->s.heap.get? b=some o:=λb o e=>(I.bs b o e).1
theorem Inv.mod (I:Inv X pins σ H s):Mod X.K X.mg X.base:=I.ok.mod
theorem Inv.kIn (I:Inv X pins σ H s):X.K.In s.heap:=I.ok.mod.kin.keeps I.bk
theorem Inv.nolimit (I:Inv X pins σ H s):s.heap.NoLimit:=I.ok.mod.nolimit.keeps I.bk
theorem Inv.lt (I:Inv X pins σ H s):X.env.locals<s.heap.objs.size:=let ⟨_,hn,_⟩:=I.loc;hn.lt
theorem Inv.sz (I:Inv X pins σ H s):X.s₀.heap.objs.size<=s.heap.objs.size:=A5 I.ok.above (BC I.lt)
theorem Inv.nofs (I:Inv X pins σ H s){a:Addr}(h:s.heap.objs.size<=a):a∉X.fs:=λc=>by obtain⟨_,o,b,_⟩:=I.ok.funs.mem c;exact absurd (A2 (A9 b) (A5 I.sz h)) (Cg _)
theorem Inv.cne (I:Inv X pins σ H s):∀x c,X.env.cells.lookup x=some c->c≠X.env.locals:=λx c e z=>by obtain⟨v,o,a,f⟩:=I.cell x c e;obtain⟨m,⟨o',es,ep,b,d,_⟩,_⟩:=I.loc;rw[z,b]at a;cases a;rw[d]at f;cases f
theorem Inv.funs (I:Inv X pins σ H s):s.heap.FunFrames X.base X.outer:=by
 have all:∀(l:List Env),(∀b∈frs l,b∈X.fs)->X.s₀.heap.FunFrames X.base l->s.heap.FunFrames X.base l:=by
  intro l
  induction l with
  |nil=>intro _ _;trivial
  |cons env r ih =>intro f m;obtain⟨g,⟨L,o,d,h,k,j⟩,i⟩:=m;have c:L∈X.fs:=f L (by unfold frs;rw[DM,d];exact Al);obtain⟨sl,e⟩:=I.base.slot L o k (I.ok.frf L c) c λz=>I.ok.exfs L z c;exact⟨g,⟨L,_,d,h,e,j⟩,ih (λb a=>f b (by unfold frs;rw[DM,d];exact Az _ a)) i⟩
 exact all X.outer (λ_ a=>a) I.ok.funs
theorem Inv.stack (I:Inv X pins σ H s):s.heap.FunFrames X.base X.stack:=by
 rcases I.ok.stk with e|⟨e,b⟩
 .rw[e];exact I.funs
 .rw[e];obtain⟨m,a,_⟩:=I.loc;refine .cons (by rw[I.ok.kind];decide) b a ?_ I.funs;exact Heap.get?_none_of_le (A5 I.ok.bsz I.ok.above)
theorem Inv.stkSub (I:Inv X pins σ H s):∀b∈frs X.stack,b∈X.env.locals::X.fs:=λb a=>by
 rcases I.ok.stk with e|⟨e,c⟩
 .rw[e]at a;exact Az _ a
 .rw[e]at a;unfold frs at a;rw[DM,c]at a;exact a
theorem Inv.stkFree (I:Inv X pins σ H s):∀b∈frs X.stack,H b=none:=λb a=>by
 rcases Aq.mp (I.stkSub b a) with e|a
 .rw[e];exact I.free
 .obtain⟨_,o,c,_⟩:=I.ok.funs.mem a;exact I.base.free b o c (I.ok.frf b a) λz=>I.ok.exfs b z a
theorem Inv.step {g':Array Eh}{t':Nat}{d':Drawn}{ch:List Addr}(I:Inv X pins σ H s)
  (h:∀b∈ch,(b∈X.ex\/X.s₀.heap.objs.size<=b)/\b≠X.env.locals/\(∀x c,X.env.cells.lookup x=some c->c≠b)/\∀p∈X.pn++pins,p.1≠b)
  (keep:∀b o,b≠X.env.locals->b∉X.fs->b∉ch->s.heap.get? b=some o->H b=none->h'.get? b=some o)
  (slot:∀b o,b≠X.env.locals->b∈X.fs->b∉ch->s.heap.get? b=some o->H b=none->∃E,h'.get? b=some {o with slots:=E})(free:∀b o,b∉ch->s.heap.get? b=some o->H b=none->H' b=none)
  (there:∀b o,b∉ch->s.heap.get? b=some o->∃o',h'.get? b=some o')
  (tups:∀b xs,H b=some (.tup xs)->H' b=some (.tup xs))(frzs:∀b o u,H b=some (.frz o u)->H' b=some (.frz o u))(tbls:∀b ps,H b=some (.tbl ps)->∃more,H' b=some (.tbl (ps++more)))
  (ns:∀m,s.heap.Ns X.env.locals m->h'.Ns X.env.locals m)(hok:HOk X.prog X.w H' h')(hg:En g') :
  Inv X pins σ H' {s with heap:=h',gens:=g',drawn:=d',toks:=t'}:=by
 have C:∀b o,X.s₀.heap.get? b=some o->b≠X.env.locals:=λb o e=>AA (A2 (A9 e) I.ok.above);have y:∀b o,X.s₀.heap.get? b=some o->b∉X.ex->b∉ch:=λb o e a j=>by
  rcases (h b j).1 with z|z
  .exact a z
  .exact absurd (A2 (A9 e) z) (Cg _)
 have t:∀x c,X.env.cells.lookup x=some c->∀v,s.heap.IsCell c v->h'.IsCell c v:=λx c e v ⟨o,A,D⟩=>by
  have g:c∉ch:=λz=>(h c z).2.2.1 x c e rfl;by_cases K:c∈X.fs
  .obtain⟨E,q⟩:=slot c o (I.cne x c e) K g A (I.freeC x c e);exact⟨_,q,D⟩
  .exact⟨o,keep c o (I.cne x c e) K g A (I.freeC x c e),D⟩
 refine⟨I.ok,I.os,hg,⟨λb o e n j a=>?_,λb o e n j a=>?_,λb o e n a=>?_,λb o e a=>?_,λb xs e=>tups b xs (I.base.tups b xs e),λb o xs e=>frzs b o xs (I.base.frzs b o xs e),λb ps e=>?_⟩,?_,λx c e=>?_,?_,λx c e=>?_,λp L=>?_,hok,I.len⟩
 .exact keep b o (C b o e) j (y b o e a) (I.base.keep b o e n j a) (I.base.free b o e n a)
 .obtain⟨E,f⟩:=I.base.slot b o e n j a;obtain⟨G,B⟩:=slot b _ (C b o e) j (y b o e a) f (I.base.free b o e n a);exact⟨G,B⟩
 .obtain⟨o',f⟩:=I.base.there b o e a;exact free b o' (y b o e a) f (I.base.free b o e n a)
 .obtain⟨o',f⟩:=I.base.there b o e a;exact there b o' (y b o e a) f
 .obtain⟨O,f⟩:=I.base.tbls b ps e;obtain⟨Q,B⟩:=tbls b _ f;exact⟨O++Q,by rw[B,Array.append_assoc]⟩
 .obtain⟨m,M,P⟩:=I.loc;refine⟨m,ns m M,λi x v f B N=>?_⟩;obtain⟨u,r,l⟩:=P i x v f B N;refine⟨u,r,?_⟩;rcases l with l|⟨k,c,e,z⟩
  .exact .inl l
  .exact .inr ⟨k,c,e,t x c e _ z⟩
 .obtain⟨v,z⟩:=I.cell x c e;exact⟨v,t x c e v z⟩
 .obtain⟨m,⟨o,_,_,A,_⟩,_⟩:=I.loc;exact free _ o (λz=>(h _ z).2.1 Z) A I.free
 .obtain⟨v,o,A,D⟩:=I.cell x c e;exact free c o (λz=>(h c z).2.2.1 x c e Z) A (I.freeC x c e)
 .obtain⟨e,n,J,F,d⟩:=I.pin p L;have g:p.1∉ch:=λz=>(h p.1 z).2.2.2 p L rfl;exact⟨keep p.1 p.2 J F g e n,free p.1 p.2 g e n,J,F,d⟩
theorem Inv.un {t':Nat}(I:Inv X pins σ H s)(u:Un X.fs [] H H' s.heap h')(g:HOk X.prog X.w H' h'):Inv X pins σ H' {s with heap:=h',toks:=t'}:=by obtain⟨m,⟨o,es,ep,f,r⟩,_⟩:=id I.loc;obtain⟨sl,j⟩:=u.any f I.free (by simp);exact I.step (g':=s.gens) (d':=s.drawn) (ch:=[]) (λ_ z=>nomatch z) (λb o _ c _ e n=>u.keep b o e n c (by simp)) (λb o _ c _ e n=>u.slot b o e n c (by simp)) (λb o _ e n=>u.free b o e n (by simp)) (λb o _ e=>u.there b o e (by simp)) u.tups u.frzs u.tbls (λm' i=>by obtain⟨o',es',d,a,h⟩:=i;rw[f]at a;cases a;exact⟨_,es',d,j,h⟩) g I.bare
theorem Inv.call {g':Array Eh}{t':Nat}{d':Drawn}{ch:List Addr}(I:Inv X pins σ H s)(u:Un (frs X.stack) ch H H' s.heap h')(j:HOk X.prog X.w H' h')(t:En g')
  (d:∀b∈ch,(b∈X.ex\/X.s₀.heap.objs.size<=b)/\b≠X.env.locals/\(∀x c,X.env.cells.lookup x=some c->c≠b)/\∀p∈X.pn++pins,p.1≠b) :
  Inv X pins σ H' {s with heap:=h',gens:=g',drawn:=d',toks:=t'}:=by
 obtain⟨m,⟨o,es,ep,i,r⟩,_⟩:=id I.loc;obtain⟨sl,g⟩:=u.any i I.free λz=>(d _ z).2.1 rfl;exact I.step (ch:=ch) d (λb o g k a e n=>u.keep b o e n (λz=>(Aq.mp (I.stkSub b z)).elim g k) a) (λb o _ _ a e n=>u.any e n a) (λb o a e n=>u.free b o e n a) (λb o a e=>u.there b o e a) u.tups u.frzs u.tbls (λm' q=>by obtain⟨o',es',h,f,l⟩:=q;rw[i]at f;cases f;exact⟨_,es',h,g,l⟩) j t
theorem Inv.turned {t':Nat}{it:Addr}(I:Inv X pins σ H s)(k:∀b o,b≠it->s.heap.get? b=some o->h'.get? b=some o)(i:H it=none)(f:it≠X.env.locals)
  (g:it∈X.ex\/X.s₀.heap.objs.size<=it)(w:∀x c,X.env.cells.lookup x=some c->c≠it)(t:∀p∈X.pn++pins,p.1≠it):Inv X pins σ H {s with heap:=h',toks:=t'}:=by
 have d:∀b u,H b=some u->b≠it:=λb u e z=>by rw[z,i]at e;cases e
 refine I.step (g':=s.gens) (d':=s.drawn) (ch:=[it]) (λb h=>?_) (λb o _ _ a e _=>k b o (λz=>a (by simp[z])) e) (λb o _ _ a e _=>⟨o.slots,k b o (λz=>a (by simp[z])) e⟩) (λ_ _ _ _ n=>n)
  (λb o a e=>⟨o,k b o (λz=>a (by simp[z])) e⟩) (λ_ _ e=>e) (λ_ _ _ e=>e) (λb ps e=>⟨#[],by rw[e];simp⟩) (λm l=>?_) (λb u e=>?_) I.bare
 .have e:b=it:=by simpa using h
  subst e;exact⟨g,f,w,t⟩
 .obtain⟨o,es,ep,j,r⟩:=l;exact⟨o,es,ep,k _ o (B4 f) j,r⟩
 .refine(I.hok b u e).stay (λc v a q=>k c v ?_ q) (λ_ q=>q) λ_ _ q=>q;rcases a with z|z
  .rw[z];exact d b u e
  .exact d c _ z
theorem Inv.tok (I:Inv X pins σ H s)(t:Nat):Inv X pins σ H {s with toks:=t}:=I.un (h':=s.heap) (t':=t) Un.refl I.hok
theorem Inv.kept {t':Nat}(I:Inv X pins σ H s)(k:∀b u,s.heap.get? b=some u->h'.get? b=some u):Inv X pins σ H {s with heap:=h',toks:=t'}:=I.un (Un.kept k) (I.hok.kept k)
theorem Inv.laid {a:Addr}{o:HO}{t':Nat}(I:Inv X pins σ H s)(k:∀b u,s.heap.get? b=some u->h'.get? b=some u)(c:s.heap.objs.size<=a)(d:ObjOk X.prog X.w (upd H a o) h' a o) :
  Inv X pins σ (upd H a o) {s with heap:=h',toks:=t'}:=I.un (Un.laid k c (I.hok.fresh c)) (I.hok.laid k c d)
theorem Inv.write {x e:Addr}{o:HO}{t':Nat}(I:Inv X pins σ H s)(c:Mut (H x))(d:e=x\/H e=some (.own x))(k:∀b u,b≠e->s.heap.get? b=some u->h'.get? b=some u)(a:∃u,h'.get? e=some u)
  (f:ObjOk X.prog X.w (upd H x o) h' x o):Inv X pins σ (upd H x o) {s with heap:=h',toks:=t'}:=I.un (Un.write c d k a) (I.hok.write c d k a f)
theorem Inv.pins_of {a:List (Addr×Obj)}(I:Inv X pins σ H s)(h:∀p∈a,s.heap.get? p.1=some p.2/\H p.1=none/\p.1≠X.env.locals/\p.1∉X.fs/\∀v,p.2.data ≠ .cell v):Inv X a σ H s :=
 ⟨I.ok,I.os,I.bare,I.base,I.loc,I.cell,I.free,I.freeC,λp b=>(Av.mp b).elim (λz=>I.pin p (Bl _ z)) (h p),I.hok,I.len⟩
theorem qpv {N:List Str}(d:N.Nodup){i j:Nat}{x:Str}(a:N[i]?=some x)(b:N[j]?=some x):i=j:=by obtain⟨h1,c⟩:=Ac.mp a;obtain⟨h2,e⟩:=Ac.mp b;exact(List.getElem_inj d).mp (c.trans e.symm)
theorem quj {M:Model}{A:AQ}{E:Value->Ae->Prop}{i:Nat}{x:Str}{v:V}{u:Value}{Q:Unit->Ae->Prop}(I:Inv X pins σ H s)(hN:X.N.Nodup)(K:X.N[i]?=some x)(t:Loc X.env.scope x)(r:RelV v u)
  (h:∀s',Inv X pins (σ.set i (some v)) H s'->(∃a,BR a s.heap s'.heap/\(a=X.env.locals\/X.env.cells.lookup x=some a))->Q () s')(hf:X.fn x=true\/X.env.scope.names.lookup x=some .local:=by first|exact .inl rfl|exact .inr rfl|assumption):wpAny M A (storeName X.env x u) Q E s:=by
 obtain⟨m,hn,hl⟩:=id I.loc;have ae:(X.env.scope.kind == .class || (X.env.scope.kind == .module && X.env.locals != X.env.globals))=false:=by rw[I.ok.kind];rfl
 have T:i<σ.length:=by rw[I.len];exact(Ac.mp K).1
 have cne:=I.cne;have B:∀{a:Addr}{h':Heap},(∃o,s.heap.get? a=some o/\H a=none)->BR a s.heap h'->HOk X.prog X.w H h':=λ{a h'} ha f b ob e=>by
  obtain⟨_,_,J⟩:=ha;refine(I.hok b ob e).stay (λc R l q=>(f.2 c ?_).trans q) (λ_ q=>q) λ_ _ q=>q;rintro rfl;rcases l with rfl|l
  .rw[J]at e;cases e
  .rw[J]at l;cases l
 rcases t with D|D
 .refine wpAny_storeName_local D hn (λh' af f=>?_) ae;obtain⟨oL,_,_,ag,_⟩:=id hn;refine h _ ⟨I.ok,I.os,I.bare,⟨λb o e n F t=>?_,λb o e n F t=>?_,I.base.free,λb o e t=>?_,I.base.tups,I.base.frzs,I.base.tbls⟩,⟨_,af,λj y Y g C e3=>?_⟩,λy c e=>?_,I.free,I.freeC,λp hp=>?_,B ⟨oL,ag,I.free⟩ f,by simpa using I.len⟩ ⟨_,f,.inl Z⟩
  .exact(f.2 b (AA (A2 (A9 e) I.ok.above))).trans (I.base.keep b o e n F t)
  .obtain⟨sl,g⟩:=I.base.slot b o e n F t;exact⟨sl,(f.2 b (AA (A2 (A9 e) I.ok.above))).trans g⟩
  .obtain⟨o',g⟩:=I.base.there b o e t;exact⟨o',(f.2 b (AA (A2 (A9 e) I.ok.above))).trans g⟩
  .by_cases G:j=i
   .subst G;rw[K]at g;cases g;rw[Dr T]at C;cases C;exact⟨u,r,.inl ⟨D,by simp⟩⟩
   .rw[DB (B4 G)]at C;obtain⟨u',r',q⟩:=hl j y Y g C e3;refine⟨u',r',?_⟩;rcases q with ⟨k,e⟩|⟨k,c,e,z⟩
    .refine .inl ⟨k,?_⟩;have:y≠x:=λe=>G (qpv hN g (e ▸ K));simp[this,e]
    .exact .inr ⟨k,c,e,z.sameBut f (cne y c e)⟩
  .obtain⟨R,z⟩:=I.cell y c e;exact⟨R,z.sameBut f (cne y c e)⟩
  .obtain⟨e,n,O,nf,d⟩:=I.pin p hp;exact⟨(f.2 p.1 O).trans e,n,O,nf,d⟩
 .have L:X.fn x=true:=by
   rcases hf with z|z
   .exact z
   .rw[z]at D;cases D
  obtain⟨c,l⟩:=I.ok.has x (.inl D)
  obtain⟨R,z⟩:=I.cell x c l
  refine wpAny_storeName_cell I.ok.kind D l z (λh' W f=>?_)
  obtain⟨oc,U,ad⟩:=id z
  refine h {s with heap:=h'} ⟨I.ok,I.os,I.bare,⟨λb o e n F t=>?_,λb o e n F t=>?_,I.base.free,λb o e t=>?_,I.base.tups,I.base.frzs,I.base.tbls⟩,⟨m,hn.sameBut f (B4 (cne x c l)),λj y Y g C e3=>?_⟩,λy P e=>?_,I.free,I.freeC,λp hp=>?_,B ⟨oc,U,I.freeC x c l⟩ f,by simpa using I.len⟩ ⟨c,f,.inr l⟩
  .exact(f.2 b (AA (A2 (A9 e) (I.ok.cab x c L l)))).trans (I.base.keep b o e n F t)
  .obtain⟨sl,g⟩:=I.base.slot b o e n F t;exact⟨sl,(f.2 b (AA (A2 (A9 e) (I.ok.cab x c L l)))).trans g⟩
  .obtain⟨o',g⟩:=I.base.there b o e t;exact⟨o',(f.2 b (AA (A2 (A9 e) (I.ok.cab x c L l)))).trans g⟩
  .by_cases G:j=i
   .subst G;rw[K]at g;cases g;rw[Dr T]at C;cases C;exact⟨u,r,.inr ⟨.inl D,c,l,W⟩⟩
   .rw[DB (B4 G)]at C;obtain⟨u',r',q⟩:=hl j y Y g C e3;refine⟨u',r',?_⟩;rcases q with q|⟨k,P,e,z'⟩
    .exact .inl q
    .refine .inr ⟨k,P,e,z'.sameBut f ?_⟩;rintro rfl;exact G (qpv hN g (I.ok.inj _ _ _ e l ▸ K))
  .by_cases S:P=c
   .subst S;exact⟨_,W⟩
   .obtain⟨w2,z2⟩:=I.cell y P e;exact⟨w2,z2.sameBut f S⟩
  .obtain⟨e,n,O,nf,d⟩:=I.pin p hp;refine⟨(f.2 p.1 ?_).trans e,n,O,nf,d⟩;intro q;rw[q,U]at e;have q':oc=p.2:=AE e;exact d R (by rw[<- q'];exact ad)
theorem qk0 {M:Model}{A:AQ}{E:Value->Ae->Prop}{i:Nat}{x:Str}{v:V}{u:Value}{Q:Unit->Ae->Prop}(I:Inv X pins σ H s)(d:X.N.Nodup)(b:X.N[i]?=some x)(f:Loc X.env.scope x)(r:RelV v u)
  (h:∀a,Inv X pins (σ.set i (some v)) H a->Q () a)(e:X.fn x=true\/X.env.scope.names.lookup x=some .local:=by first|exact .inl rfl|exact .inr rfl|assumption):wpAny M A (storeName X.env x u) Q E s :=
 quj I d b f r (λa c _=>h a c) e
theorem Inv.call' {a:Ae}{ch:List Addr}(I:Inv X pins σ H s)(g:a.os=s.os)(u:Un (frs X.stack) ch H H' s.heap a.heap)(d:HOk X.prog X.w H' a.heap)(h:En a.gens)
  (f:∀b∈ch,(b∈X.ex\/X.s₀.heap.objs.size<=b)/\b≠X.env.locals/\(∀x c,X.env.cells.lookup x=some c->c≠b)/\∀p∈X.pn++pins,p.1≠b):Inv X pins σ H' a:=by
 obtain⟨h',g',d',t',o'⟩:=a;have e:o'=s.os:=g;subst e;exact I.call (g':=g') (t':=t') (d':=d') u d h f
end
abbrev XK:=Value->Option Addr->Hp->Prop
noncomputable abbrev St:=List (Option V)
abbrev VK:=V->Hp->Prop
abbrev TE:=St->Hp->VK->Prop
abbrev TT:=St->Hp->(Bool->Hp->Prop)->Prop
abbrev TA:=St->Hp->(List V->Hp->Prop)->Prop
structure Ends where
 nx:St->Hp->Prop
 rt:VK
 bk:St->Hp->Prop:=λ_ _=>False
 ct:St->Hp->Prop:=λ_ _=>False
abbrev TS:=Ends->St->Hp->Prop
def EP (X:Cx)(pins:List (Addr×Obj))(σ:St)(Q:VK)(u:Value)(s':Ae):Prop:=∃v H',Inv X pins σ H' s'/\RelV v u/\Q v H'
def TP (X:Cx)(pins:List (Addr×Obj))(σ:St)(Q:Bool->Hp->Prop)(b:Bool)(s':Ae):Prop:=∃H',Inv X pins σ H' s'/\Q b H'
def AP (X:Cx)(pins:List (Addr×Obj))(σ:St)(Q:List V->Hp->Prop)(us:List Value)(s':Ae):Prop:=∃vs H',Inv X pins σ H' s'/\Vals vs us/\Q vs H'
def SP (X:Cx)(pins:List (Addr×Obj))(D:Ends)(f:Flow)(s':Ae):Prop :=
 match f with
 |.next=>∃σ' H',Inv X pins σ' H' s'/\D.nx σ' H'
 |.brk=>∃σ' H',Inv X pins σ' H' s'/\D.bk σ' H'
 |.cont=>∃σ' H',Inv X pins σ' H' s'/\D.ct σ' H'
 |.ret u=>∃v σ' H',Inv X pins σ' H' s'/\RelV v u/\D.rt v H'
def PE (X:Cx)(e:Expr)(t:TE):Prop :=
 ∀(pins:List (Addr×Obj))(s:Ae)(σ:St)(H:Hp)(Q:VK),Inv X pins σ H s->t σ H Q->wpAny (model X.prog X.w) X.A (eval e X.env) (EP X pins σ Q) X.xe s
def PT (X:Cx)(e:Expr)(t:TT):Prop :=
 ∀(pins:List (Addr×Obj))(s:Ae)(σ:St)(H:Hp)(Q:Bool->Hp->Prop),Inv X pins σ H s->t σ H Q->wpAny (model X.prog X.w) X.A (isTrue e X.env (eval e X.env)) (TP X pins σ Q) X.xe s
def PW (X:Cx)(e:Expr)(t:TT):Prop :=
 ∀(whole:Sem Value)(pins:List (Addr×Obj))(s:Ae)(σ:St)(H:Hp)(Q:Bool->Hp->Prop),Inv X pins σ H s->t σ H Q->wpAny (model X.prog X.w) X.A (isTrue e X.env whole) (TP X pins σ Q) X.xe s
theorem PW.pt {X:Cx}{e:Expr}{t:TT}(h:PW X e t):PT X e t:=h _
def PA (X:Cx)(es:List Expr)(t:TA):Prop :=
 ∀(pos:Pos)(pins:List (Addr×Obj))(s:Ae)(σ:St)(H:Hp)(Q:List V->Hp->Prop),Inv X pins σ H s->t σ H Q->wpAny (model X.prog X.w) X.A (spliced (backTo pos (starEach es X.env))) (AP X pins σ Q) X.xe s
def PS (X:Cx)(st:Stmt)(t:TS):Prop :=
 ∀(pins:List (Addr×Obj))(s:Ae)(σ:St)(H:Hp)(D:Ends),Inv X pins σ H s->t D σ H->wpAny (model X.prog X.w) X.A (exec st X.env) (SP X pins D) X.xe s
def PSs (X:Cx)(st:List Stmt)(t:TS):Prop :=
 ∀(pins:List (Addr×Obj))(s:Ae)(σ:St)(H:Hp)(D:Ends),Inv X pins σ H s->t D σ H->wpAny (model X.prog X.w) X.A (execs st X.env) (SP X pins D) X.xe s
theorem thn {α:Type}{t:Sem α}{Q b:α->Ae->Prop}{M:Model}{A:AQ}{E:Value->Ae->Prop}{s:Ae}(h:wpAny M A t Q E s)(c:∀a s,Q a s->b a s):wpAny M A t b E s:=Ca h c λ_ _ x=>x
end L2
namespace L2
open PySem PySem.Spec PyProof.Rows
section
variable {X:Cx}
def tVar (i:Nat):TE:=λσ H Q=>∃v,σ[i]?=some (some v)/\Q v H
def tC (v:V):TE:=λ_ H Q=>Q v H
theorem pe_var {i:Nat}{x:Str}{pos:Pos}(n:X.N[i]?=some x)(q:Vis X.env.scope x)(f:(x == ("__debug__" : Str))=false:=by decide)(hcd:(x == ("__classdict__" : Str))=false:=by decide):PE X (.Name x pos) (tVar i):=by
 intro g s σ H Q I h;obtain⟨v,e,h⟩:=h;obtain⟨m,k,o⟩:=I.loc;obtain⟨u,r,l⟩:=o i x v n e q;have d:EP X g σ Q u s:=⟨v,H,I,r,h⟩;rcases l with ⟨a,p⟩|⟨a,c,j,b⟩
 .exact wpAny_Name (wpAny_loadName_local I.ok.kind a k p d) f
 .rcases a with a|a
  .exact wpAny_Name (wpAny_loadName_cell I.ok.kind a j b d) f
  .exact wpAny_Name (wpAny_loadName_free I.ok.kind a j b d hcd) f
theorem qi {i j pos}:PE X (.Constant (.int i) j pos) (tC (.int i)):=λ_ _ _ H _ I h=>wpAny_Constant_int ⟨.int i,H,I.tok _,⟨_,Z⟩,h⟩
theorem qck {b j pos}:PE X (.Constant (.bool b) j pos) (tC (.bl b)):=λ_ _ _ H _ I h=>Constant_bool ⟨.bl b,H,I,Z,h⟩
theorem qau {j pos}:PE X (.Constant .none j pos) (tC .non):=λ_ _ _ H _ I h=>Constant_none ⟨.non,H,I,Z,h⟩
theorem zf {x j pos}:PE X (.Constant (.str x) j pos) (tC (.str x)):=λ_ _ _ H _ I h=>Calls.Constant_str ⟨.str x,H,I.tok _,⟨_,Z⟩,h⟩
def Gl (X:Cx)(x:Str):Prop:=X.env.kindOf x=some .globalImplicit
theorem qof {E:Value->Ae->Prop}{a:List (Addr×Obj)}{s:Ae}{σ:St}{H:Hp}{x:Str}{u:Value}{pos:Pos}{Q:Value->Ae->Prop}(I:Inv X a σ H s)(c:Gl X x)(b:X.mg x=some u)(h:Q u s)
  (d:(x == ("__debug__" : Str))=false:=by decide):wpAny (model X.prog X.w) X.A (eval (.Name x pos) X.env) Q E s :=
 Calls.Name_function_global I.ok.kind c (Calls.loadGlobal_global (by rw[I.ok.glob];exact I.mod.glob.keeps I.bk) b h) d
theorem qep {E:Value->Ae->Prop}{a:List (Addr×Obj)}{s:Ae}{σ:St}{H:Hp}{x:Str}{u:Value}{pos:Pos}{Q:Value->Ae->Prop}(I:Inv X a σ H s)(f:Gl X x)(e:X.mg x=none)(c:bootBuiltins x=some u)(h:Q u s)
  (d:x ≠ "__name__" := by decide)(hd:(x == ("__debug__" : Str))=false:=by decide):wpAny (model X.prog X.w) X.A (eval (.Name x pos) X.env) Q E s:=by
 obtain⟨mb,b,g⟩:=I.mod.blt;exact Calls.Name_function_global I.ok.kind f (Calls.loadGlobal_builtin (by rw[I.ok.glob];exact I.mod.glob.keeps I.bk) e (by rw[I.ok.blt];exact b.keeps I.bk) ((g x d).trans c) h) hd
theorem qby {x:Str}{v:V}{u:Value}{pos:Pos}(b:Gl X x)(a:X.mg x=some u)(r:RelV v u)(c:(x == ("__debug__" : Str))=false:=by decide):PE X (.Name x pos) (tC v) :=
 λ_ _ _ H _ I h=>qof I b a ⟨v,H,I,r,h⟩ c
theorem qkm {x:Str}{v:V}{u:Value}{pos:Pos}(d:Gl X x)(c:X.mg x=none)(a:bootBuiltins x=some u)(r:RelV v u)(b:x ≠ "__name__" := by decide)(hd:(x == ("__debug__" : Str))=false:=by decide):PE X (.Name x pos) (tC v) :=
 λ_ _ _ H _ I h=>qep I d c a ⟨v,H,I,r,h⟩ b hd
variable {a b:Expr}{ta tb:TE}{pos:Pos}
def PC (X:Cx)(op:CmpOp)(a b:Expr)(t:TE):Prop :=
 ∀(pins:List (Addr×Obj))(s:Ae)(σ:St)(H:Hp)(Q:VK),Inv X pins σ H s->t σ H Q ->
  wpAny (model X.prog X.w) X.A (eval a X.env) (λv s₁=>wpAny (model X.prog X.w) X.A (eval b X.env) (λu s₂=>wpAny (model X.prog X.w) X.A (compareOp op v u) (EP X pins σ Q) X.xe s₂) X.xe s₁) X.xe s
def tB (t:TE):TT:=λσ H Q=>t σ H λx H1=>∃c,x=.bl c/\Q c H1
theorem qv8 {f:CmpOp}{t:TE}(h:PC X f a b t)(e:behindInMarks f b=false:=by first|exact nobehind _ Uk Uk|rfl):PT X (.Compare a [f] [b] pos) (tB t):=by intro g s σ H Q I o;refine wpAny_isTrue_Compare1 (thn (h g s σ H _ I o) λv s1 e=>thn e λu s2 m=>thn m λc s3 i=>?_) e;obtain⟨x,n,j,l,k⟩:=i;obtain⟨d,rfl,q⟩:=k;cases l;exact BA ⟨n,j,q⟩
theorem zd {e:Expr}{t:TE}(h:PE X e t)(c:∀whole,isTrue e X.env whole=(do let v <- whole;standAt e.pos;holding [v] (truthy v)):=by intro _;rfl):PT X e (tB t):=by intro a s σ H Q I k;refine isTrue_plain (thn (h a s σ H _ I k) λv s1 b=>?_) (c _);obtain⟨x,j,f,i,g⟩:=b;obtain⟨d,rfl,q⟩:=g;cases i;exact BA ⟨j,f,q⟩
variable {tA tB':TT}{qcd:List Expr}
def tAnd (t u:TT):TT:=λσ H Q=>t σ H λc H1=>if c=true then u σ H1 Q else Q false H1
def tOr (t u:TT):TT:=λσ H Q=>t σ H λc H1=>if c=true then Q true H1 else u σ H1 Q
def tNot (t:TT):TT:=λσ H Q=>t σ H λc H1=>Q (!c) H1
theorem qdf (d:PT X a tA):PW X (.BoolOp .And [a] pos) tA:=by
 intro wh b s σ H Q I h;refine isTrue_and (thn (d b s σ H Q I h) λc s1 e=>?_);cases c with|true=>exact isTrue_and_nil e|false=>exact e
theorem qhe (d:PT X a tA):PW X (.BoolOp .Or [a] pos) tA:=by
 intro wh b s σ H Q I h;refine isTrue_or (thn (d b s σ H Q I h) λc s1 e=>?_);cases c with|false=>exact isTrue_or_nil e|true=>exact e
theorem qdy (j:PT X a tA)(k:PW X (.BoolOp .And (b::qcd) pos) tB'):PW X (.BoolOp .And (a::b::qcd) pos) (tAnd tA tB'):=by
 intro m d s σ H Q I h;refine isTrue_and (thn (j d s σ H _ I h) λc l i=>?_);obtain⟨g,f,e⟩:=i;cases c with|true=>exact k m d l σ g Q f e|false=>exact⟨g,f,e⟩
theorem qh3 (j:PT X a tA)(k:PW X (.BoolOp .Or (b::qcd) pos) tB'):PW X (.BoolOp .Or (a::b::qcd) pos) (tOr tA tB'):=by
 intro m d s σ H Q I h;refine isTrue_or (thn (j d s σ H _ I h) λc l i=>?_);obtain⟨g,f,e⟩:=i;cases c with|true=>exact⟨g,f,e⟩|false=>exact k m d l σ g Q f e
theorem qdz (d:PT X a tA):PT X (.UnaryOp .Not a pos) (tNot tA):=by intro b s σ H Q I h;exact isTrue_not (d b s σ H (λc e=>Q (!c) e) I h)
def tAndV (ta tb:TE):TE:=λσ H Q=>ta σ H λx H1=>∃c,x=.bl c/\if c=true then tb σ H1 Q else Q (.bl false) H1
def tOrV (ta tb:TE):TE:=λσ H Q=>ta σ H λx H1=>∃c,x=.bl c/\if c=true then Q (.bl true) H1 else tb σ H1 Q
def tNotV (ta:TE):TE:=λσ H Q=>ta σ H λx H1=>∃c,x=.bl c/\Q (.bl (!c)) H1
theorem qf2 {op}{t:TE}(h:PE X a t):PE X (.BoolOp op [a] pos) t:=λb s σ H Q I c=>BoolOp_one (h b s σ H Q I c)
theorem qhf (k:PE X a ta)(j:PE X (.BoolOp .And (b::qcd) pos) tb):PE X (.BoolOp .And (a::b::qcd) pos) (tAndV ta tb):=by
 intro d s σ H Q I h;refine BoolOp_and (thn (k d s σ H _ I h) λv l g=>?_);obtain⟨x,i,f,m,e⟩:=g;obtain⟨c,rfl,e⟩:=e;cases m;refine BA ?_;cases c with|true=>exact j d l σ i Q f e|false=>exact⟨.bl false,i,f,Z,e⟩
theorem pe_or (k:PE X a ta)(j:PE X (.BoolOp .Or (b::qcd) pos) tb):PE X (.BoolOp .Or (a::b::qcd) pos) (tOrV ta tb):=by
 intro d s σ H Q I h;refine BoolOp_or (thn (k d s σ H _ I h) λv l g=>?_);obtain⟨x,i,f,m,e⟩:=g;obtain⟨c,rfl,e⟩:=e;cases m;refine BA ?_;cases c with|false=>exact j d l σ i Q f e|true=>exact⟨.bl true,i,f,Z,e⟩
theorem qv9 (f:PE X a ta):PE X (.UnaryOp .Not a pos) (tNotV ta):=by intro b s σ H Q I h;refine UnaryOp_ (thn (f b s σ H _ I h) λv s1 e=>?_);obtain⟨x,i,g,j,d⟩:=e;obtain⟨c,rfl,d⟩:=d;cases j;exact not_of (BA ⟨.bl (!c),i,g,Z,d⟩)
def tIf (t:TT)(ta tb:TE):TE:=λσ H Q=>t σ H λc H1=>if c=true then ta σ H1 Q else tb σ H1 Q
theorem qcl {c:Expr}(m:PT X c tA)(l:PE X a ta)(n:PE X b tb):PE X (.IfExp c a b pos) (tIf tA ta tb):=by
 intro e s σ H Q I h;refine wpAny_IfExp (thn (m e s σ H _ I h) λd j k=>?_);obtain⟨i,g,f⟩:=k;cases d with|true=>exact l e j σ i Q g f|false=>exact n e j σ i Q g f
end
end L2
namespace L2
open PySem PySem.Spec PyProof.Rows
def SqL (K:Ag)(H:Hp)(a:Addr)(xs:List V):Prop :=
 Rd H a (.lst xs) \/
  ∃(o:Obj)(its:Array Value)(n:Nat),K.lookup a=some o/\o.cls=.type "list" /\ o.dict=none/\o.data=.seq its n/\its.size<=A6/\Vals xs its.toList
def SqT (K:Ag)(H:Hp)(a:Addr)(xs:List V):Prop :=
 Rd H a (.tup xs) \/
  ∃(o:Obj)(its:Array Value)(n:Nat),K.lookup a=some o/\o.cls=.type "tuple" /\ o.data=.seq its n/\its.size<=A6/\Vals xs its.toList
noncomputable def absV:Value->Option V
 |.none=>some .non
 |.bool b=>some (.bl b)
 |.int i _=>some (.int i)
 |.str x _=>some (.str x)
 |.bytes b _=>some (.byt b)
 |.float b _=>some (.flt b)
 |.ref a=>some (.ref a)
 |.type n=>some (.ty n)
 |_=>none
theorem RelV.abs {x:V}{u:Value}(r:RelV x u):absV u=some x:=by
 cases x with
 |non=>cases r;rfl
 |bl _=>cases r;rfl
 |int _=>obtain⟨t,rfl⟩:=r;rfl
 |str _=>obtain⟨t,rfl⟩:=r;rfl
 |byt _=>obtain⟨t,rfl⟩:=r;rfl
 |flt _=>obtain⟨t,rfl⟩:=r;rfl
 |ref _=>cases r;rfl
 |ty _=>cases r;rfl
theorem RelV.inj {x y:V}{u:Value}(r:RelV x u)(q:RelV y u):x=y:=AE (r.abs.symm.trans q.abs)
theorem Vals.inj:∀{xs ys:List V}{us:List Value},Vals xs us->Vals ys us->xs=ys
 |_,_,_,.nil,.nil=>rfl
 |_,_,_,.cons r t,.cons r' t'=>by rw[r.inj r',Vals.inj t t']
section
variable {X:Cx}{pins:List (Addr×Obj)}{σ:St}{H:Hp}{s:Ae}{a:Addr}{xs ys:List V}
theorem SqL.of {K:Ag}(h:H a=some (.lst xs)):SqL K H a xs:=.inl (.inl h)
theorem SqT.of {K:Ag}(h:H a=some (.tup xs)):SqT K H a xs:=.inl (.inl h)
theorem Inv.list (I:Inv X pins σ H s)(h:SqL X.K H a xs):∃its:List Value,Vals xs its/\PlainL s.heap a its.toArray/\xs.length<=A6:=by
 rcases h with h|⟨o,its,n,c,d,f,b,hz,r⟩
 .obtain⟨z,its,n,r,e⟩:=h.ok I.hok;exact⟨its,r,⟨_,n,e,Z,Z,Z⟩,z⟩
 .refine⟨its.toList,r,⟨o,n,I.kIn a o c,d,f,by simpa using b⟩,?_⟩;have e:=r.length;simp only[Bz]at e;lia
theorem Inv.tuple (I:Inv X pins σ H s)(h:SqT X.K H a xs):∃its:List Value,Vals xs its/\IsTup s.heap a its.toArray/\xs.length<=A6:=by
 rcases h with h|⟨o,its,n,c,d,b,hz,r⟩
 .obtain⟨z,its,r,p⟩:=h.ok I.hok;exact⟨its,r,p,z⟩
 .refine⟨its.toList,r,⟨o,I.kIn a o c,d,n,by simpa using b⟩,?_⟩;have e:=r.length;simp only[Bz]at e;lia
theorem Inv.list_inj (I:Inv X pins σ H s)(h:SqL X.K H a xs)(h':SqL X.K H a ys):xs=ys:=by
 obtain⟨its,r,⟨o,n,e,_,_,d⟩,_⟩:=I.list h;obtain⟨its',c,⟨o',n',b,_,_,d'⟩,_⟩:=I.list h';rw[e]at b;cases b;rw[d]at d';injection d' with d1 _;have:its=its':=by simpa using congrArg Array.toList d1
 subst this;exact r.inj c
end
noncomputable abbrev Cx.wish (X:Cx)(E:Value->Ae->Prop):Cx:={X with xe:=E}
abbrev Cx.nox (X:Cx):Cx:=X.wish λ_ _=>False
theorem Cx.Ok.wish {X:Cx}(ok:X.Ok)(E:Value->Ae->Prop):(X.wish E).Ok :=
 ⟨ok.mod,ok.kind,ok.glob,ok.blt,ok.above,ok.inj,ok.has,ok.cab,ok.hd,ok.frames,ok.stk,ok.exf,ok.bs,ok.bsz,ok.noex,ok.exfs,ok.funs,ok.frf⟩
theorem Cx.Ok.unwish {X:Cx}{E:Value->Ae->Prop}(ok:(X.wish E).Ok):X.Ok :=
 ⟨ok.mod,ok.kind,ok.glob,ok.blt,ok.above,ok.inj,ok.has,ok.cab,ok.hd,ok.frames,ok.stk,ok.exf,ok.bs,ok.bsz,ok.noex,ok.exfs,ok.funs,ok.frf⟩
section
variable {X:Cx}{pins:List (Addr×Obj)}{σ:St}{H:Hp}{s:Ae}{E:Value->Ae->Prop}
theorem Inv.wish (I:Inv X pins σ H s)(E:Value->Ae->Prop):Inv (X.wish E) pins σ H s:=⟨I.ok.wish E,I.os,I.bare,I.base,I.loc,I.cell,I.free,I.freeC,I.pin,I.hok,I.len⟩
theorem Inv.unwish (I:Inv (X.wish E) pins σ H s):Inv X pins σ H s:=⟨I.ok.unwish,I.os,I.bare,I.base,I.loc,I.cell,I.free,I.freeC,I.pin,I.hok,I.len⟩
theorem SP.unwish {D:Ends}{f:Flow}{a:Ae}(h:SP (X.wish E) pins D f a):SP X pins D f a:=by
 cases f with
 |next=>obtain⟨σ',H',I,q⟩:=h;exact⟨σ',H',I.unwish,q⟩
 |brk=>obtain⟨σ',H',I,q⟩:=h;exact⟨σ',H',I.unwish,q⟩
 |cont=>obtain⟨σ',H',I,q⟩:=h;exact⟨σ',H',I.unwish,q⟩
 |ret u=>obtain⟨v,σ',H',I,r,q⟩:=h;exact⟨v,σ',H',I.unwish,r,q⟩
theorem PSs.nox {st:List Stmt}{t:TS}(h:PSs X.nox st t):PSs X st t:=λa s σ H D I b =>
 Ca (h a s σ H D (I.wish _) b) (λ_ _ q=>q.unwish) λ_ _ z=>Cw z
end
section
variable {X:Cx}{st:Stmt}{qcd:List Stmt}{t u:TS}{e:Expr}{te:TE}{pos:Pos}
def tNext:TS:=λD σ H=>D.nx σ H
def tSeq (t u:TS):TS:=λD σ H=>t {D with nx:=u D} σ H
theorem qag:PSs X [] tNext:=λ_ _ σ H _ I h=>Dl ⟨σ,H,I,h⟩
theorem qf (b:PS X st t)(e:PSs X qcd u):PSs X (st::qcd) (tSeq t u):=by
 intro a s σ H D I h;refine wpAny_execs_cons (thn (b a s σ H {D with nx:=u D} I h) λf d q=>?_);cases f with
 |next =>obtain⟨σ',H',c,q⟩:=q;exact e a d σ' H' D c q
 |ret v=>exact q
 |brk=>exact q
 |cont=>exact q
theorem qj (b:PS X st t):PSs X [st] t:=by
 intro a s σ H D I h;refine wpAny_execs_cons (thn (b a s σ H D I h) λf s1 q=>?_);cases f with|next=>exact Dl q|ret v=>exact q|brk=>exact q|cont=>exact q
def tBreak:TS:=λD σ H=>D.bk σ H
theorem qpw:PS X (.Break pos) tBreak:=λ_ _ σ H _ I h=>wpAny_Break ⟨σ,H,I,h⟩
theorem Inv.quiet {a:List (Addr×Obj)}{σ:St}{H:Hp}{s:Ae}(I:Inv X a σ H s):interactive X.env=false:=by simp[interactive,I.ok.kind]
def tDrop (te:TE):TS:=λD σ H=>te σ H λ_ H1=>D.nx σ H1
theorem qy (f:PE X e te)(b:swapsWith e none pos.line X.env=pure false:=by rfl):PS X (.Expr e pos) (tDrop te):=by intro a s σ H D I h;exact wpAny_Expr_any (thn (f a s σ H _ I h) λv s1 ⟨x,g,d,r1,c⟩=>⟨σ,g,d,c⟩) I.quiet b
def tRet (te:TE):TS:=λD σ H=>te σ H D.rt
theorem qo (d:PE X e te):PS X (.Return (some e) pos) (tRet te):=by intro a s σ H D I h;exact wpAny_Return_some (thn (d a s σ H _ I h) λv s1 ⟨x,f,c,g,b⟩=>⟨x,σ,f,c,g,b⟩)
def tIfS (c:TT)(t u:TS):TS:=λD σ H=>c σ H λb H1=>if b=true then t D σ H1 else u D σ H1
theorem qz {c:Expr}{a b:List Stmt}{j:TT}(o:PT X c j)(n:PSs X a t)(m:PSs X b u):PS X (.If c a b pos) (tIfS j t u):=by
 intro e s σ H D I h;refine wpAny_If (thn (o e s σ H _ I h) λd g k=>?_);obtain⟨l,f,i⟩:=k;cases d with|true=>exact n e g σ l D f i|false=>exact m e g σ l D f i
def tNever:TS:=λ_ _ _=>False
theorem qe0:PS X st tNever:=λ_ _ _ _ _ _ h=>h.elim
end
abbrev TG:=V->St->Hp->(St->Hp->Prop)->Prop
abbrev TGs:=List V->St->Hp->(St->Hp->Prop)->Prop
def PG (X:Cx)(target:Expr)(t:TG):Prop :=
 ∀(pins:List (Addr×Obj))(s:Ae)(σ:St)(H:Hp)(v:V)(u:Value)(Q:St->Hp->Prop),Inv X pins σ H s->RelV v u->t v σ H Q ->
  wpAny (model X.prog X.w) X.A (assign target X.env u) (λ_ s'=>∃σ' H',Inv X pins σ' H' s'/\Q σ' H') X.xe s
def PGs (X:Cx)(ts:List Expr)(t:TGs):Prop :=
 ∀(pins:List (Addr×Obj))(s:Ae)(σ:St)(H:Hp)(vs:List V)(us:List Value)(Q:St->Hp->Prop),Inv X pins σ H s->Vals vs us->t vs σ H Q ->
  wpAny (model X.prog X.w) X.A (assignInOrder ((assignEach ts X.env).map (·.2)) us) (λ_ s'=>∃σ' H',Inv X pins σ' H' s'/\Q σ' H') X.xe s
abbrev TSet:=V->V->V->Hp->(Hp->Prop)->Prop
def PSet (X:Cx)(t:TSet):Prop :=
 ∀(pins:List (Addr×Obj))(s:Ae)(σ:St)(H:Hp)(o i v:V)(ov iv u:Value)(Q:Hp->Prop),Inv X pins σ H s->RelV o ov->RelV i iv->RelV v u->t o i v H Q ->
  wpAny (model X.prog X.w) X.A (setItem ov iv u) (λ_ s'=>∃H',Inv X pins σ H' s'/\Q H') X.xe s
abbrev TIp:=V->V->Hp->VK->Prop
def PIp (X:Cx)(op:Ev)(t:TIp):Prop :=
 ∀(pins:List (Addr×Obj))(s:Ae)(σ:St)(H:Hp)(x y:V)(v u:Value)(Q:VK),Inv X pins σ H s->RelV x v->RelV y u->t x y H Q ->
  wpAny (model X.prog X.w) X.A (inplaceOp op v u) (EP X pins σ Q) X.xe s
section
variable {X:Cx}{pos:Pos}
def qbk (i:Nat):TG:=λv σ H Q=>Q (σ.set i (some v)) H
theorem qad {i:Nat}{x:Str}(d:X.N.Nodup)(a:X.N[i]?=some x)(c:Loc X.env.scope x)(e:X.fn x=true\/X.env.scope.names.lookup x=some .local:=by first|exact .inl rfl|exact .inr rfl|assumption):PG X (.Name x pos) (qbk i):=by intro pins s σ H v u Q I r h;exact wpAny_assign_Name (qk0 I d a c r (λs' b=>⟨_,H,b,h⟩) e)
def gNil:TGs:=λvs σ H Q=>vs=[]/\Q σ H
def gCons (t:TG)(u:TGs):TGs:=λvs σ H Q=>∃v r,vs=v::r/\t v σ H λσ' H'=>u r σ' H' Q
theorem qdg:PGs X [] gNil:=by intro pins s σ H vs us Q I r h;obtain⟨e,h⟩:=h;subst e;cases r;exact assignInOrder_nil ⟨σ,H,I,h⟩
theorem qar {e:Expr}{es:List Expr}{t:TG}{u:TGs}(c:PG X e t)(k:PGs X es u)
  (i:(assignEach (e::es) X.env).map (·.2)=assign e X.env::(assignEach es X.env).map (·.2):=by rfl):PGs X (e::es) (gCons t u):=by
 intro a s σ H vs us Q I r h;obtain⟨v,vr,d,h⟩:=h;subst d;cases r with
 |cons r rr =>rw[i];refine assignInOrder_cons (thn (c a s σ H _ _ _ I r h) λ_ g b=>?_);obtain⟨σ1,l,f,j⟩:=b;exact k a g σ1 l _ _ Q f rr j
def gTup (K:Ag)(n:Nat)(t:TGs):TG:=λv σ H Q=>∃a xs,v=.ref a/\SqT K H a xs/\xs.length=n/\t xs σ H Q
theorem qeq {es:List Expr}{k:Nat}{t:TGs}{n:Nat}(q:X.calm=true)(h:PGs X es t)
  (i:(assignEach es X.env).length=n:=by rfl)(hst:(assignEach es X.env).findIdx? (·.1)=none:=by rfl):PG X (.Tuple es k pos) (gTup X.K n t):=by
 intro c s σ H v u Q I r d;obtain⟨a,xs,f,l,p,d⟩:=d;subst f;cases r;obtain⟨its,rv,m,hz⟩:=I.tuple l;refine assign_Tuple_tuple (I.ok.hd q) m (by simp[i,<- p,rv.length]) hst λh' j=>?_;have g:Inv X c σ H {s with heap:=h'}:=I.kept (t':=s.toks) λb o e=>j b o (AA (A9 e)) e;exact h c _ σ H xs _ Q g (by simpa using rv) d
def gSub (to ti:TE)(t:TSet):TG:=λv σ H Q=>to σ H λo H1=>ti σ H1 λi H2=>t o i v H2 λH3=>Q σ H3
theorem pg_sub {o i:Expr}{d e:TE}{t:TSet}(q:PE X o d)(k:PE X i e)(z:PSet X t)
  (j:∀v,assign (.Subscript o i pos) X.env v=(do
   let ov <- holding [v] (eval o X.env)
   let c <- holding [v,ov] (eval i X.env)
   standAt pos
   holding [v,ov,c] (setItem ov c v)
   release [v,ov,c] []):=by intro _;rfl):PG X (.Subscript o i pos) (gSub d e t):=by
 intro b s σ H v u Q I r h
 rw[j]
 refine As (Co (thn (q b s σ H _ I h) λov p a=>?_))
 obtain⟨x,C,l,B,A⟩:=a
 refine As (Co (thn (k b p σ C _ l A) λc m a=>?_))
 obtain⟨y,n,g,F,f⟩:=a
 refine As (Ef (As (Co (thn (z b m σ n x y v ov c u _ g B F r f) λ_ s3 a=>?_))))
 obtain⟨w,E,D⟩:=a
 exact wpAny_release ⟨σ,w,E,D⟩
def tAsg (te:TE)(g:TG):TS:=λD σ H=>te σ H λx H1=>g x σ H1 D.nx
theorem ps_asg {a e:Expr}{d:TE}{g:TG}(f:PE X e d)(o:PG X a g)(k:swapsWithSole [a] e pos.line X.env=pure false:=by rfl)(hw:swappedStores [a] e X.env=pure none:=by rfl)
  (h1:(assignEach [a] X.env).map (·.2)=[assign a X.env]:=by rfl):PS X (.Assign [a] e pos) (tAsg d g):=by
 intro b s σ H D I h;refine wpAny_Assign_stores (thn (f b s σ H _ I h) λv j c=>?_) k hw;obtain⟨x,n,i,m,l⟩:=c;rw[h1];exact thn (o b j σ n x v _ i m l) λ_ s2 q=>q
theorem qu {i:Nat}{x:Str}{e:Expr}{d:TE}{a:Pos}(l:X.N.Nodup)(j:X.N[i]?=some x)(m:Loc X.env.scope x)(f:PE X e d)(n:swapsWith e (some (.Name x a)) pos.line X.env=pure false:=by rfl)(hf:X.fn x=true\/X.env.scope.names.lookup x=some .local:=by first|exact .inl rfl|exact .inr rfl|assumption) :
  PS X (.Assign [.Name x a] e pos) (tAsg d (qbk i)):=by
 intro b s σ H D I h;refine wpAny_Assign_Name (thn (f b s σ H _ I h) λv s1 c=>?_) n;obtain⟨y,q,k,p,o⟩:=c;exact qk0 k l j m p (λs2 g=>⟨_,q,g,o⟩) hf
def tAug (i:Nat)(te:TE)(ti:TIp):TS:=λD σ H=>∃x,σ[i]?=some (some x)/\te σ H λy H1=>ti x y H1 λz H2=>D.nx (σ.set i (some z)) H2
theorem qk1 {i:Nat}{x:Str}{e:Expr}{B:TE}{g:Ev}{p:TIp}{n:Pos}(P:X.N.Nodup)(o:X.N[i]?=some x)(j:Loc X.env.scope x)(E:PE X e B)(R:PIp X g p)(hf:X.fn x=true\/X.env.scope.names.lookup x=some .local:=by first|exact .inl rfl|exact .inr rfl|assumption) :
  PS X (.AugAssign (.Name x n) g e pos) (tAug i B p):=by
 intro b s σ H D I h;obtain⟨v,F,h⟩:=h;obtain⟨m,O,T⟩:=I.loc;have q:Vis X.env.scope x:=by rcases j with k|k;exact .inl k;exact .inr (.inl k)
 obtain⟨u,r,l⟩:=T i x v o F q;refine wpAny_AugAssign_Name ?_;have t:wpAny (model X.prog X.w) X.A (eval e X.env) (λw K=>wpAny (model X.prog X.w) X.A (inplaceOp g u w) (λr G=>wpAny (model X.prog X.w) X.A (storeName X.env x r) (λ_=>SP X b D .next) X.xe G) X.xe K) X.xe s:=by refine thn (E b s σ H _ I h) λw Q d=>?_;obtain⟨y,Y,L,U,S⟩:=d;refine thn (R b Q σ Y v y u w _ L r U S) λz s2 d=>?_;obtain⟨zv,M,J,r2,C⟩:=d;exact qk0 J P o j r2 (λs3 I3=>⟨_,M,I3,C⟩) hf
 rcases l with ⟨a,V⟩|⟨a,c,W,f⟩
 .exact wpAny_loadName_local I.ok.kind a O V t
 .rcases a with a|a
  .exact wpAny_loadName_cell I.ok.kind a W f t
  .rcases j with k|k
   .have:X.env.scope.names.lookup x=some .free:=a;rw[k]at this;cases this
   .have:X.env.scope.names.lookup x=some .free:=a;rw[k]at this;cases this
noncomputable def ipI (f:Int->Int->Int):TIp:=λx y H Q=>∃i j,x=.int i/\y=.int j/\Q (.int (f i j)) H
theorem qrr:PIp X .Add (ipI λi j=>i+j):=by intro pins s σ H x y v u Q I b c h;obtain⟨i,j,a,d,q⟩:=h;subst a;subst d;obtain⟨t,rfl⟩:=b;obtain⟨t',rfl⟩:=c;exact iadd_int ⟨.int _,H,I.tok _,⟨_,Z⟩,q⟩
theorem ip_sub:PIp X .Sub (ipI λi j=>i-j):=by intro pins s σ H x y v u Q I b c h;obtain⟨i,j,a,d,q⟩:=h;subst a;subst d;obtain⟨t,rfl⟩:=b;obtain⟨t',rfl⟩:=c;exact isub_int ⟨.int _,H,I.tok _,⟨_,Z⟩,q⟩
end
section
variable {X:Cx}{pos:Pos}
def tWhile (c:TT)(tb:TS):TS:=λD σ H=>∃W:Nat->St->Hp->Prop,(∃m,W m σ H)/\∀m σ H,W m σ H ->
 c σ H λb H1=>if b=true then ∃N:St->Hp->Prop,(∀σ' H',N σ' H'->∃m',m'<m/\W m' σ' H')/\tb {D with nx:=N,ct:=N,bk:=D.nx} σ H1 else D.nx σ H1
theorem qh4 {c:Expr}{e:List Stmt}{u:TT}{tb:TS}(y:AY (model X.prog X.w) X.A X.env X.xe)(K:PT X c u)(C:PSs X e tb):PS X (.While c e [] pos) (tWhile u tb):=by
 intro a s σ H D I h;obtain⟨W,⟨J,L⟩,o⟩:=h;refine wpAny_While (codeAny_whileLoop (λn B=>∃σ' H',Inv X a σ' H' B/\W n σ' H') ?_ J ⟨σ,H,I,L⟩);rintro n G ⟨σ1,z,E,M⟩;refine BE y (thn (K a G σ1 z _ E (o n σ1 z M)) λb F x=>?_);obtain⟨r,q,g⟩:=x;cases b with
 |true =>
  obtain⟨N,t,g⟩:=g;rw[if_pos Z];refine BE y (thn (C a F σ1 r _ q g) λf s3 i=>?_);cases f with
  |next =>obtain⟨σ3,d,p,l⟩:=i;obtain⟨m,k,j⟩:=t σ3 d l;exact⟨m,k,σ3,d,p,j⟩
  |cont =>obtain⟨σ3,d,p,l⟩:=i;obtain⟨m,k,j⟩:=t σ3 d l;exact⟨m,k,σ3,d,p,j⟩
  |brk=>exact i
  |ret v=>exact i
 |false =>rw[if_neg AF];exact Dl ⟨σ1,r,q,g⟩
end
structure It where
 go:Nat->Hp->Prop
 yld:Nat->Hp->V->Hp->Prop
 stop:Nat->Hp->Prop
def qi3 (X:Cx)(pins:List (Addr×Obj))(H:Hp)(b:Addr):Prop :=
 H b=none/\b≠X.env.locals/\b∉X.fs/\(b∈X.ex\/X.s₀.heap.objs.size<=b)/\(∀x c,X.env.cells.lookup x=some c->c≠b)/\∀p∈X.pn++pins,p.1≠b
theorem Inv.fpOk {X:Cx}{a:List (Addr×Obj)}{σ:St}{H H':Hp}{s:Ae}{b:Addr}(I:Inv X a σ H s)(d:s.heap.objs.size<=b)(g:H' b=none):qi3 X a H' b:=by
 refine⟨g,Ch (A2 I.lt d),I.nofs d,.inr (A5 I.sz d),λx c e z=>?_,λp f z=>?_⟩
 .obtain⟨v,q⟩:=I.cell x c e;exact absurd (A2 q.lt (by rw[z];exact d)) (Cg _)
 .exact absurd (A2 (A9 (I.pin p f).1) (by rw[z];exact d)) (Cg _)
structure Turn (P:AK)(w:World)(K:Ag)(tg:Expr)(J:It)(fp:List Addr)(it:Addr)(tn:Nat->Heap->Prop):Prop where
 mem:it∈fp
 obj:∀i h,tn i h->∀b∈fp,∃o,h.get? b=some o/\∀v,o.data ≠ .cell v
 keep:∀i h h',tn i h->(∀b∈fp,∀o,h.get? b=some o->h'.get? b=some o)->tn i h'
 item:∀(X:Cx),X.prog=P->X.w=w->X.K=K->X.calm=true->∀(i:Nat)(pins:List (Addr×Obj))(s:Ae)(σ:St)(H:Hp)(E:Value->Ae->Prop),Inv X pins σ H s->(∀b∈fp,qi3 X pins H b)->tn i s.heap->J.go i H ->
  wpAny (model P w) X.A (pyNext (.ref it)) (λr s1=>∃u,r=some u /\
   wpAny (model P w) X.A (letOwnedTupleGo tg (.ref it) u) (λ_ s2=>∃x H',Inv X pins σ H' s2/\RelV x u/\J.yld i H x H'/\tn (i+1) s2.heap/\∀b∈fp,H' b=none) E s1) E s
 done:∀(X:Cx),X.prog=P->X.w=w->X.K=K->X.calm=true->∀(i:Nat)(pins:List (Addr×Obj))(s:Ae)(σ:St)(H:Hp)(E:Value->Ae->Prop),Inv X pins σ H s->(∀b∈fp,qi3 X pins H b)->tn i s.heap->J.stop i H ->
  wpAny (model P w) X.A (pyNext (.ref it)) (λr s1=>r=none/\Inv X pins σ H s1) E s
 self:∀(A:AQ)(i:Nat)(s:Ae)(Q:Value->Ae->Prop)(E:Value->Ae->Prop),tn i s.heap->Q (.ref it) s->wpAny (model P w) A (pyIter (.ref it)) Q E s
abbrev TI:=St->Hp->(It->Hp->Prop)->Prop
def PIE (X:Cx)(pins:List (Addr×Obj))(σ:St)(tg:Expr)(R:It->Hp->Prop)(itv:Value)(s2:Ae):Prop :=
 ∃(it:Addr)(fp:List Addr)(tn:Nat->Heap->Prop)(J:It)(H':Hp),itv=.ref it/\Inv X pins σ H' s2/\Turn X.prog X.w X.K tg J fp it tn/\tn 0 s2.heap/\(∀b∈fp,qi3 X pins H' b)/\R J H'
def PI (X:Cx)(tg iter:Expr)(wi:TI):Prop :=
 ∀(pins:List (Addr×Obj))(s:Ae)(σ:St)(H:Hp)(R:It->Hp->Prop),Inv X pins σ H s->wi σ H R ->
  wpAny (model X.prog X.w) X.A (eval iter X.env) (λv s1=>wpAny (model X.prog X.w) X.A (pyIter v) (PIE X pins σ tg R) X.xe s1) X.xe s
theorem go_of {M:Model}{A:AQ}{E:Value->Ae->Prop}{s:Ae}{b:Expr}{it:Addr}{u:Value}{o:Obj}{n:String}{vs:Array Value}{Q:Unit->Ae->Prop}(c:s.heap.get? it=some o)(e:o.cls=.type n)(f:o.data=.fields vs)
  (d:["enumerate","zip","dict_itemiterator","dict_reverseitemiterator","odict_iterator","itertools.zip_longest","itertools.pairwise"].contains n=false)(a:Q () s):wpAny M A (letOwnedTupleGo b (.ref it) u) Q E s:=by
 unfold letOwnedTupleGo;cases b <;>first
  |exact AO a
  | (cases u <;>first
    |exact AO a
    | (refine As (wpAny_load c ?_)
       rw[e,f]
       show wpAny M A (if (["enumerate","zip","dict_itemiterator","dict_reverseitemiterator","odict_iterator","itertools.zip_longest","itertools.pairwise"].contains n && vs[0]? == some (rawInt _))=true then _ else _) Q E s
       rw[if_neg (by intro h;rw[d,CP]at h;cases h)]
       exact AO a))
noncomputable def Itl (K:Ag)(a:Addr):It :=
 ⟨λi H=>∃xs x,SqL K H a xs/\xs[i]?=some x,λi H x H'=>H'=H/\∀xs,SqL K H a xs->xs[i]?=some x,λi H=>∃xs,SqL K H a xs/\xs.length<=i⟩
noncomputable def Itr (lo:Int)(n:Nat):It:=⟨λi _=>i<n,λi H x H'=>H'=H/\x=.int (lo+i),λi _=>n<=i⟩
theorem quk {P:AK}{w:World}{K:Ag}{R:Expr}(a it:Addr):Turn P w K R (Itl K a) [it] it (λi h=>h.IsListIter it a i) where
 mem:=by simp
 obj:=λi h st b f=>by
  have e:b=it:=by simpa using f
  subst e;obtain⟨o,e,c,d⟩:=st;exact⟨o,e,λv z=>by rw[d]at z;cases z⟩
 keep:=λi h h' st k=>st.at λo e=>k it (by simp) o e
 item:=by intro X q F r G i g s σ H E I l st B;subst q F r;obtain⟨xs,x,j,A⟩:=B;obtain⟨its,rv,p,hz⟩:=I.list j;obtain⟨u,O,L⟩:=rv.get A;obtain⟨y,t,M,D,C,n⟩:=l it (by simp);refine wpAny_pyNext_list_item st p.isList (x:=u) (by simpa using O) λh' m J=>?_;have N:Inv X g σ H {s with heap:=h'}:=I.turned (t':=s.toks) (λb o f e=>(J.2 b f).trans e) y t D C n;obtain⟨o,e,c,d⟩:=id m;exact⟨u,Z,go_of (s:={s with heap:=h'}) e c d Uk ⟨x,H,N,L,⟨Z,λys Q=>by rw[I.list_inj Q j];exact A⟩,m,λb f=>(l b f).1⟩⟩
 done:=by intro X q F r G i g s σ H E I l st B;subst q F r;obtain⟨xs,j,A⟩:=B;obtain⟨its,rv,p,hz⟩:=I.list j;obtain⟨y,t,M,D,C,n⟩:=l it (by simp);have hl:=rv.length;exact wpAny_pyNext_list_end (I.ok.hd G) st p.isList (by simp;lia) λh' S=>⟨Z,I.turned (t':=s.toks) (λb o f e=>S b o f e) y t D C n⟩
 self:=λ_ _ _ _ _ st h=>wpAny_pyIter_listiter st h
theorem qrs {P:AK}{w:World}{K:Ag}{F:Expr}(it:Addr)(lo:Int)(n:Nat):Turn P w K F (Itr lo n) [it] it (λi h=>IsRangeIter h it (lo+(i:Nat)*1) ((n:Int)-(i:Nat)) 1) where
 mem:=by simp
 obj:=λi h st b a=>by
  have e:b=it:=by simpa using a
  subst e;exact⟨_,st,λv z=>by have C:Data.fields _=Data.cell v:=z;cases C⟩
 keep:=λi h h' st k=>k it (by simp) _ st
 item:=by intro X j y l u i c s σ H E I d st q;subst j y l;obtain⟨p,m,A,x,r,g⟩:=d it (by simp);have W:=Walks.range (prog:=X.prog) (w:=X.w) (I.ok.hd u) it lo 1 n;refine W.item i s _ _ q st λv h' tk J f B=>?_;obtain⟨t,rfl⟩:=J;have D:Inv X c σ H {s with heap:=h',toks:=tk}:=I.turned (λb o a e=>B b o (by simpa using a) e) p m x r g;refine⟨_,Z,go_of (s:={s with heap:=h',toks:=tk}) (n := "range_iterator") f Z Z Uk ⟨.int (lo+i),H,D,⟨t,?_⟩,⟨Z,Z⟩,f,λb a=>(d b a).1⟩⟩;rw[Int.mul_one]
 done:=by intro X j y l u i c s σ H E I d st q;subst j y l;obtain⟨p,m,A,x,r,g⟩:=d it (by simp);exact wpAny_pyNext_range_end (I.ok.hd u) st (by have:n<=i:=q;lia) λh' G=>⟨Z,I.turned (t':=s.toks) (λb o a e=>G b o a e) p m x r g⟩
 self:=λ_ _ _ _ _ st h=>wpAny_pyIter_rangeiter st h
end L2
namespace L2
open PySem PySem.Spec PyProof.Rows
section
variable {X:Cx}{tg:Expr}
def iList (K:Ag)(tl:TE):TI:=λσ H R=>tl σ H λx H1=>∃a,x=.ref a/\(∃xs,SqL K H1 a xs)/\R (Itl K a) H1
theorem qap {l:Expr}{g:TE}(n:PE X l g):PI X tg l (iList X.K g):=by
 intro f s σ H R I h;refine thn (n f s σ H _ I h) λv d i=>?_;obtain⟨x,t,c,r,m⟩:=i;obtain⟨a,e,⟨xs,k⟩,q⟩:=m;subst e;cases r;obtain⟨its,rv,p,hz⟩:=c.list k;refine wpAny_pyIter_list p.isList ?_;refine⟨d.heap.objs.size,[d.heap.objs.size],_,_,t,Z,c.kept (t':=d.toks) λb o e=>Ao _ e,quk a _,⟨_,AR _ Z,Z,Z⟩,λb j=>?_,q⟩;have e:b=d.heap.objs.size:=by simpa using j
 subst e;exact c.fpOk (Am _) (c.hok.fresh (Am _))
theorem qwa {c:List (Addr×Obj)}{σ:St}{H:Hp}{s:Ae}{R:It->Hp->Prop}{E:Value->Ae->Prop}{lo a:Int}{t u v:Tok}{tk:Nat}(I:Inv X c σ H s)(f : -(2 ^ 62)<=lo)(k:lo<2 ^ 62)(j : -(2 ^ 62)<=a)(i:a<2 ^ 62)
  (q:R (Itr lo (a-lo).toNat) H):wpAny (model X.prog X.w) X.A (pyIter (.ref s.heap.objs.size)) (PIE X c σ tg R) E {s with heap:=s.heap.push {cls:=.type "range",data:=.fields #[.int lo t,.int a u,.int 1 v]},toks:=tk}:=by
 refine wpAny_pyIter_range (IsRange.new ..) (small_one f k j i) ?_;have d:Inv X c σ H {s with heap:=s.heap.push {cls:=.type "range",data:=.fields #[.int lo t,.int a u,.int 1 v]},toks:=tk}:=I.kept λb o e=>Ao _ e;refine⟨(s.heap.push {cls:=.type "range",data:=.fields #[.int lo t,.int a u,.int 1 v]}).objs.size,[(s.heap.push {cls:=.type "range",data:=.fields #[.int lo t,.int a u,.int 1 v]}).objs.size],_,_,H,Z,
  d.kept (t':=tk) λb o e=>Ao _ e,qrs _ lo (a-lo).toNat,?_,λb h=>?_,q⟩
 .have g:lo+((0:Nat):Int)*1=lo:=by simp
  have l:(((a-lo).toNat:Nat):Int)-((0:Nat):Int)=BL.Range.rangeSize lo a 1:=by rw[rangeSize_one];split <;>lia
  show IsRangeIter _ _ (lo+((0:Nat):Int)*1) ((((a-lo).toNat:Nat):Int)-((0:Nat):Int)) 1;rw[g,l];exact AR _ rfl
 .have e:b=(s.heap.push {cls:=.type "range",data:=.fields #[.int lo t,.int a u,.int 1 v]}).objs.size:=by simpa using h
  subst e;exact d.fpOk (Am _) (d.hok.fresh (Am _))
def iRng1 (ta:TA):TI:=λσ H R=>ta σ H λvs H1=>∃j:Int,vs=[.int j] /\ -(2 ^ 62)<=j/\j<2 ^ 62/\R (Itr 0 j.toNat) H1
theorem qbq {a:Expr}{d:TA}{p pos:Pos}(o:Gl X "range")(n:X.mg "range"=none)(i:PA X [a] d)(l:starEach [a] X.env=[(false,eval a X.env)]:=by rfl):PI X tg (.Call (.Name "range" p) [a] [] pos) (iRng1 d):=by
 intro c s σ H R I h;refine Call_ (qep I o n boot_range (BM (thn (i pos c s σ H _ I h) λus s1 f=>?_) l Z));obtain⟨vs,H1,k,m,b⟩:=f;obtain⟨j,e,b,g,q⟩:=b;subst e;cases m with
 |cons r rr =>cases rr;obtain⟨t,rfl⟩:=r;exact call_range_1 (qwa k (by lia) (by lia) b g (by simpa using q))
def tFor (wi:TI)(g:TG)(tb:TS):TS:=λD σ H=>wi σ H λJ H1=>∃W:Nat->Nat->St->Hp->Prop,(∃m,W 0 m σ H1)/\∀i m σ H,W i m σ H ->
 (J.stop i H/\D.nx σ H)\/(J.go i H/\∃N:St->Hp->Prop,(∀σ' H',N σ' H'->∃m',m'<m/\W (i+1) m' σ' H')/\∀x H',J.yld i H x H'->g x σ H' λσ2 H2=>tb {D with nx:=N,ct:=N,bk:=D.nx} σ2 H2)
noncomputable def qi4 (fp:List Addr)(h:Heap):List (Addr×Obj):=fp.filterMap λb=>(h.get? b).map λo=>(b,o)
theorem qd0 {fp:List Addr}{h:Heap}{b:Addr}{o:Obj}(a:b∈fp)(e:h.get? b=some o):(b,o)∈qi4 fp h:=Cb.mpr ⟨b,a,by rw[e];rfl⟩
theorem qul {fp:List Addr}{h:Heap}{p:Addr×Obj}(a:p∈qi4 fp h):p.1∈fp/\h.get? p.1=some p.2:=by
 obtain⟨b,d,e⟩:=Cb.mp a;cases q:h.get? b with|none=>rw[q]at e;cases e|some o =>rw[q]at e;have c:(b,o)=p:=AE e;subst c;exact⟨d,q⟩
theorem Inv.pinned {a:List (Addr×Obj)}{σ:St}{H:Hp}{s:Ae}{fp:List Addr}(I:Inv X a σ H s)(l:∀b∈fp,qi3 X a H b)(j:∀b∈fp,∃o,s.heap.get? b=some o/\∀v,o.data ≠ .cell v):Inv X (a++qi4 fp s.heap) σ H s :=
 I.pins_of λp k=>(Av.mp k).elim (λz=>I.pin p (A1 _ z)) λz=>by obtain⟨c,e⟩:=qul z;obtain⟨i,h,g,_⟩:=l p.1 c;obtain⟨o,f,d⟩:=j p.1 c;rw[e]at f;cases f;exact⟨e,i,h,g,d⟩
theorem Inv.unpinned {a pl:List (Addr×Obj)}{σ:St}{H:Hp}{s:Ae}(I:Inv X (a++pl) σ H s):Inv X a σ H s:=I.pins_of λp b=>I.pin p (A1 _ (Bl _ b))
theorem qa2 {q:Expr}{B:List Stmt}{S:TI}{g:TG}{tb:TS}{pos:Pos}(E:AY (model X.prog X.w) X.A X.env X.xe)(R:X.calm=true)(hi:PI X tg q S)(hg:PG X tg g)(j:PSs X B tb)
  (hs:∀x,foldedSetIterable q X.env x=pure x:=by intro _;rfl):PS X (.For tg q B [] pos) (tFor S g tb):=by
 intro a s σ H D I h;refine wpAny_For (thn (hi a s σ H _ I h) λv s1 h1=>thn h1 λitv s2 h2=>?_) hs;obtain⟨it,fp,V,J,H2,e,I2,T,ad,f2,W,⟨m0,w0⟩,M⟩:=h2;subst e
 -- what stays true of the iterator's objects through the loop
 have t:∀{H':Hp},(∀b∈fp,H' b=none)->∀b∈fp,qi3 X a H' b:=λhn b j=>⟨hn b j,(f2 b j).2⟩;refine codeAny_forLoop_any (λn Q=>∃i σ' H',Inv X a σ' H' Q/\V i Q.heap/\(∀b∈fp,H' b=none)/\W i n σ' H') ?_ m0 ⟨0,σ,H2,I2,ad,λb j=>(f2 b j).1,w0⟩;rintro n s3 ⟨i,σ3,F,U,G,K,w3⟩;rcases M i n σ3 F w3 with ⟨stop,qn⟩|⟨go,N,hN,step⟩
 .refine BE E (thn (T.done X Z Z Z R i a s3 σ3 F X.xe U (t K) G stop) λr s4 k=>?_);obtain⟨O,I4⟩:=k;subst O;exact Dl ⟨σ3,F,I4,qn⟩
 .refine BE E (thn (T.item X Z Z Z R i a s3 σ3 F X.xe U (t K) G go) λr s4 k=>?_);obtain⟨u,O,h4⟩:=k;subst O;refine BE E (thn h4 λ_ s5 k=>?_);obtain⟨x,Y,I5,r5,y5,C,P⟩:=k;have ae:=I5.pinned (t P) (T.obj _ _ C);refine BE E (thn (hg _ s5 σ3 Y x u _ ae r5 (step x Y y5)) λ_ s6 k=>?_);obtain⟨σ6,H6,I6,q6⟩:=k;refine BE E (thn (j _ s6 σ6 H6 _ I6 q6) λf L p=>?_);have y:∀{σ7:St}{l:Hp},Inv X (a++qi4 fp s5.heap) σ7 l L->N σ7 l->∃m,m<n/\∃i σ' H',Inv X a σ' H' L/\V i L.heap/\(∀b∈fp,H' b=none)/\W i m σ' H':=λ{σ7 l} c z=>by obtain⟨m',hm,w7⟩:=hN σ7 l z;refine⟨m',hm,i+1,σ7,l,c.unpinned,T.keep _ _ _ C λb j o e=>(c.pin (b,o) (A1 _ (A1 _ (qd0 j e)))).1,λb j=>?_,w7⟩;obtain⟨o,e,d⟩:=T.obj _ _ C b j;exact(c.pin (b,o) (A1 _ (A1 _ (qd0 j e)))).2.1
  cases f with
  |next=>obtain⟨σ7,l,c,z⟩:=p;exact y c z
  |cont=>obtain⟨σ7,l,c,z⟩:=p;exact y c z
  |brk=>obtain⟨σ7,l,c,p⟩:=p;exact⟨σ7,l,c.unpinned,p⟩
  |ret v=>obtain⟨x7,σ7,l,c,r7,p⟩:=p;exact⟨x7,σ7,l,c.unpinned,r7,p⟩
end
theorem qa5 {K:Ag}{a:Addr}{xs:List V}{g:TG}{tb:TS}{D:Ends}{σ:St}{H:Hp}(b:Nat->St->Hp->Prop)(f:b 0 σ H)(k:∀i σ H,i<=xs.length->b i σ H->SqL K H a xs)
  (j:∀i x σ H,xs[i]?=some x->b i σ H->g x σ H λσ2 d=>tb {D with nx:=b (i+1),ct:=b (i+1),bk:=D.nx} σ2 d)(hd:∀σ H,b xs.length σ H->D.nx σ H) :
  ∃W:Nat->Nat->St->Hp->Prop,(∃m,W 0 m σ H)/\∀i m σ H,W i m σ H ->
   ((Itl K a).stop i H/\D.nx σ H)\/((Itl K a).go i H/\∃N:St->Hp->Prop,(∀σ' H',N σ' H'->∃m',m'<m/\W (i+1) m' σ' H')/\∀x H',(Itl K a).yld i H x H'->g x σ H' λσ2 d=>tb {D with nx:=N,ct:=N,bk:=D.nx} σ2 d):=by
 refine⟨λi m σ H=>m=xs.length-i/\i<=xs.length/\b i σ H,⟨xs.length,by simp,AU _,f⟩,?_⟩
 rintro i m σ H ⟨rfl,h,p⟩
 have q:=k i σ H h p
 by_cases c:i<xs.length
 .refine .inr ⟨⟨xs,xs[i],q,by simp[c]⟩,b (i+1),λσ' H' l=>⟨xs.length-(i+1),by lia,Z,c,l⟩,λx H' y=>?_⟩;obtain⟨e,y⟩:=y;subst e;exact j i x σ _ (y xs q) p
 .have e:i=xs.length:=by lia
  subst e;exact .inl ⟨⟨xs,q,Am _⟩,hd σ H p⟩
theorem qc9 {lo:Int}{n:Nat}{g:TG}{tb:TS}{D:Ends}{σ:St}{H:Hp}(a:Nat->St->Hp->Prop)(d:a 0 σ H)
  (f:∀i σ H,i<n->a i σ H->g (.int (lo+i)) σ H λσ2 c=>tb {D with nx:=a (i+1),ct:=a (i+1),bk:=D.nx} σ2 c)(hd:∀σ H,a n σ H->D.nx σ H) :
  ∃W:Nat->Nat->St->Hp->Prop,(∃m,W 0 m σ H)/\∀i m σ H,W i m σ H ->
   ((Itr lo n).stop i H/\D.nx σ H)\/((Itr lo n).go i H/\∃N:St->Hp->Prop,(∀σ' H',N σ' H'->∃m',m'<m/\W (i+1) m' σ' H')/\∀x H',(Itr lo n).yld i H x H'->g x σ H' λσ2 c=>tb {D with nx:=N,ct:=N,bk:=D.nx} σ2 c):=by
 refine⟨λi m σ H=>m=n-i/\i<=n/\a i σ H,⟨n,by simp,AU _,d⟩,?_⟩
 rintro i m σ H ⟨rfl,hi,p⟩
 by_cases b:i<n
 .refine .inr ⟨b,a (i+1),λσ' H' h=>⟨n-(i+1),by lia,Z,b,h⟩,λx H' y=>?_⟩;obtain⟨e,y⟩:=y;subst e y;exact f i σ _ b p
 .have e:i=n:=by lia
  subst e;exact .inl ⟨Am _,hd σ H p⟩
end L2
namespace L2
open PySem PySem.Spec PyProof.Rows
abbrev R2:=V->V->Hp->VK->Prop
def OpR (X:Cx)(f:Value->Value->Sem Value)(r:R2):Prop :=
 ∀(pins:List (Addr×Obj))(s:Ae)(σ:St)(H:Hp)(x y:V)(v u:Value)(Q:VK),Inv X pins σ H s->RelV x v->RelV y u->r x y H Q ->
  wpAny (model X.prog X.w) X.A (f v u) (EP X pins σ Q) X.xe s
def UnR (X:Cx)(f:Value->Sem Value)(r:V->Hp->VK->Prop):Prop :=
 ∀(pins:List (Addr×Obj))(s:Ae)(σ:St)(H:Hp)(x:V)(v:Value)(Q:VK),Inv X pins σ H s->RelV x v->r x H Q ->
  wpAny (model X.prog X.w) X.A (f v) (EP X pins σ Q) X.xe s
def qh5 (X:Cx)(f:Value)(r:List V->Hp->VK->Prop):Prop :=
 ∀(pins:List (Addr×Obj))(s:Ae)(σ:St)(H:Hp)(xs:List V)(us:List Value)(Q:VK),Inv X pins σ H s->Vals xs us->r xs H Q ->
  wpAny (model X.prog X.w) X.A (call f us) (EP X pins σ Q) X.xe s
def TruR (X:Cx)(r:V->Hp->(Bool->Hp->Prop)->Prop):Prop :=
 ∀(pins:List (Addr×Obj))(s:Ae)(σ:St)(H:Hp)(x:V)(v:Value)(Q:Bool->Hp->Prop),Inv X pins σ H s->RelV x v->r x H Q ->
  wpAny (model X.prog X.w) X.A (truthy v) (TP X pins σ Q) X.xe s
def tOp (r:R2)(ta tb:TE):TE:=λσ H Q=>ta σ H λx H1=>tb σ H1 λy H2=>r x y H2 Q
def tUn (r:V->Hp->VK->Prop)(ta:TE):TE:=λσ H Q=>ta σ H λx H1=>r x H1 Q
def rI (C:Int->Int->Prop)(g:Int->Int->V):R2:=λx y H Q=>∃i j,x=.int i/\y=.int j/\C i j/\Q (g i j) H
def rI0 (g:Int->Int->V):R2:=λx y H Q=>∃i j,x=.int i/\y=.int j/\Q (g i j) H
def rU (g:Int->V):V->Hp->VK->Prop:=λx H Q=>∃i,x=.int i/\Q (g i) H
section
variable {X:Cx}{a b c:Expr}{ta tb tc:TE}{pos:Pos}
theorem binT (o:PE X a ta)(l:PE X b tb){c:List (Addr×Obj)}{s:Ae}{σ:St}{H:Hp}{R:V->V->Hp->Prop}(I:Inv X c σ H s)
  (h:ta σ H λx i=>tb σ i λy d=>R x y d){Q:Value->Ae->Prop}{f:Value->Value->Sem Value}
  (z:∀v u g x y d,Inv X c σ d g->RelV x v->RelV y u->R x y d->wpAny (model X.prog X.w) X.A (f v u) Q X.xe g) :
  wpAny (model X.prog X.w) X.A (eval a X.env) (λv k=>wpAny (model X.prog X.w) X.A (eval b X.env) (λu n=>wpAny (model X.prog X.w) X.A (f v u) Q X.xe n) X.xe k) X.xe s:=by
 refine thn (o c s σ H _ I h) λv q e=>?_;obtain⟨x,i,p,t,r⟩:=e;refine thn (l c q σ i _ p r) λu g e=>?_;obtain⟨y,d,m,B,j⟩:=e;exact z v u g x y d m t B j
theorem qv {d:Ev}{r:R2}(l:OpR X (binaryOp d) r)(g:PE X a ta)(e:PE X b tb):PE X (.BinOp a d b pos) (tOp r ta tb):=by intro c s σ H Q I h;exact wpAny_BinOp (binT g e I h λv u i x y j f k m q=>l c i σ j x y v u Q f k m q)
theorem qf3 {c:UnaryOp}{r:V->Hp->VK->Prop}(d:UnR X (unaryOp c) r)(e:PE X a ta):PE X (.UnaryOp c a pos) (tUn r ta):=by intro b s σ H Q I h;exact UnaryOp_ (thn (e b s σ H _ I h) λv k ⟨x,i,g,j,f⟩=>d b k σ i x v Q g j f)
theorem opI {f:Value->Value->Sem Value}{C:Int->Int->Prop}{g:Int->Int->Int}
  (rule:∀(i j:Int)(t u:Tok)(s:Ae)(Q:Value->Ae->Prop)(E:Value->Ae->Prop),C i j->Q (.int (g i j) s.toks) {s with toks:=s.toks+1}->wpAny (model X.prog X.w) X.A (f (.int i t) (.int j u)) Q E s) :
  OpR X f (rI C λi j=>.int (g i j)):=by
 intro pins s σ H x y v u Q I a c h;obtain⟨i,j,rfl,rfl,b,q⟩:=h;obtain⟨t,rfl⟩:=a;obtain⟨t',rfl⟩:=c;exact rule i j t t' s _ _ b ⟨.int (g i j),H,I.tok _,⟨_,Z⟩,q⟩
theorem opI0 {f:Value->Value->Sem Value}{g:Int->Int->Int}
  (rule:∀(i j:Int)(t u:Tok)(s:Ae)(Q:Value->Ae->Prop)(E:Value->Ae->Prop),Q (.int (g i j) s.toks) {s with toks:=s.toks+1}->wpAny (model X.prog X.w) X.A (f (.int i t) (.int j u)) Q E s) :
  OpR X f (rI0 λi j=>.int (g i j)):=by
 intro pins s σ H x y v u Q I a b h;obtain⟨i,j,rfl,rfl,q⟩:=h;obtain⟨t,rfl⟩:=a;obtain⟨t',rfl⟩:=b;exact rule i j t t' s _ _ ⟨.int (g i j),H,I.tok _,⟨_,Z⟩,q⟩
theorem opB0 {f:Value->Value->Sem Value}{g:Int->Int->Bool}
  (rule:∀(i j:Int)(t u:Tok)(s:Ae)(Q:Value->Ae->Prop)(E:Value->Ae->Prop),Q (.bool (g i j)) s->wpAny (model X.prog X.w) X.A (f (.int i t) (.int j u)) Q E s) :
  OpR X f (rI0 λi j=>.bl (g i j)):=by
 intro pins s σ H x y v u Q I a b h;obtain⟨i,j,rfl,rfl,q⟩:=h;obtain⟨t,rfl⟩:=a;obtain⟨t',rfl⟩:=b;exact rule i j t t' s _ _ ⟨.bl (g i j),H,I,Z,q⟩
def CDiv (i j:Int):Prop:=0<j/\j<1073741824
def CPow (i j:Int):Prop:=0<=j/\j<=1000000/\i.natAbs<2 ^ 64
def CMul (i j:Int):Prop:=(-(2 ^ 64)<i/\i<2 ^ 64)\/(-(2 ^ 64)<j/\j<2 ^ 64)
theorem CMul.ok {i j:Int}(h:CMul i j):IntMulOk i j:=by
 rcases h with ⟨a,b⟩|⟨a,b⟩
 .exact .of_left (intBits_le_64 a b)
 .exact .of_right (intBits_le_64 a b)
theorem qah:OpR X (binaryOp .Add) (rI0 λi j=>.int (i+j)):=opI0 λ_ _ _ _ _ _ _ q=>add_int q
theorem qbr:OpR X (binaryOp .Sub) (rI0 λi j=>.int (i-j)):=opI0 λ_ _ _ _ _ _ _ q=>sub_int q
theorem qbl:OpR X (binaryOp .Mult) (rI CMul λi j=>.int (i*j)):=opI λ_ _ _ _ _ _ _ a q=>mul_int q a.ok
theorem qav:OpR X (binaryOp .FloorDiv) (rI CDiv λi j=>.int (i / j)):=opI λi j _ _ _ _ _ a q=>by have h1:(0:Int)<j:=a.1;have h2:j<1073741824:=a.2;exact floordiv_int (by lia) (by rw[Int.fdiv_eq_ediv_of_nonneg i (by lia)];exact q) (.inl (PyProof.noPylong_small (by lia)))
theorem qas:OpR X (binaryOp .Mod) (rI (λ_ j=>0<j) λi j=>.int (i % j)):=opI λi j _ _ _ _ _ a q=>by have h1:(0:Int)<j:=a;exact mod_int' (by lia) (by rw[Int.fmod_eq_emod_of_nonneg i (by lia)];exact q)
theorem op_pow:OpR X (binaryOp .Pow) (rI CPow λi j=>.int (i ^ j.toNat)):=opI λ_ _ _ _ _ _ _ a q=>pow_int_small a.1 a.2.1 a.2.2 q
theorem unI {f:Value->Sem Value}{g:Int->Int}
  (rule:∀(i:Int)(t:Tok)(s:Ae)(Q:Value->Ae->Prop)(E:Value->Ae->Prop),Q (.int (g i) s.toks) {s with toks:=s.toks+1}->wpAny (model X.prog X.w) X.A (f (.int i t)) Q E s) :
  UnR X f (rU λi=>.int (g i)):=by
 intro pins s σ H x v Q I a h;obtain⟨i,rfl,q⟩:=h;obtain⟨t,rfl⟩:=a;exact rule i t s _ _ ⟨.int (g i),H,I.tok _,⟨_,Z⟩,q⟩
theorem qd1:UnR X (unaryOp .USub) (rU λi=>.int (-i)):=unI λ_ _ _ _ _ q=>neg_int q
end
noncomputable def scal:V->V->Bool
 |.non,.non=>true | .non,.int _=>true | .int _,.non=>true | .non,.bl _=>true | .bl _,.non=>true | .non,.str _=>true | .str _,.non=>true
 |.int _,.int _=>true | .bl _,.bl _=>true | .str _,.str _=>true | .byt _,.byt _=>true
 |.int _,.str _=>true | .str _,.int _=>true | .bl _,.str _=>true | .str _,.bl _=>true
 |_,_=>false
def rEq:R2:=λx y H Q=>scal x y=true/\Q (.bl (decide (x=y))) H
def rNe:R2:=λx y H Q=>scal x y=true/\Q (.bl (!decide (x=y))) H
theorem qs4 {i j:Int}:decide (V.int i=V.int j)=(i == j):=by rw[Cy];simp
theorem qwb {i j:Bool}:decide (V.bl i=V.bl j)=(i == j):=by rw[Cy];simp
theorem qs5 {i j:Str}:decide (V.str i=V.str j)=(i == j):=by rw[Cy];simp
theorem qs6 {i j:Array UInt8}:decide (V.byt i=V.byt j)=(i.toList == j.toList):=by rw[Cy];cases i;cases j;simp
section
variable {X:Cx}{a b c:Expr}{ta tb tc:TE}{pos:Pos}
theorem qay {a:List (Addr×Obj)}{σ:St}{H:Hp}{s:Ae}{Q:VK}{k b:Bool}(I:Inv X a σ H s)(q:Q (.bl k) H)(e:k=b):EP X a σ Q (.bool b) s:=by subst e;exact⟨.bl k,H,I,Z,q⟩
theorem qcm:OpR X (compareOp .Eq) rEq:=by
 intro pins s σ H x y v u Q I c a h;obtain⟨b,q⟩:=h;cases x with
 |non =>
  cases c;cases y with
  |non=>cases a;exact PySem.EqNone.eq_none_none (qay I q (by simp))
  |bl j=>cases a;exact PySem.EqNone.eq_none_bool (qay I q (by simp))
  |int j=>obtain⟨t',rfl⟩:=a;exact PySem.EqNone.eq_none_int (qay I q (by simp))
  |str j=>obtain⟨t',rfl⟩:=a;exact PySem.EqNone.eq_none_str (qay I q (by simp))
  |_=>exact absurd (show false=true from b) AF
 |bl i =>
  cases c;cases y with
  |non=>cases a;exact PySem.EqNone.eq_bool_none (qay I q (by simp))
  |bl j=>cases a;exact eq_bool (qay I q qwb)
  |str j=>obtain⟨t',rfl⟩:=a;exact PySem.EqMixed.eq_bool_str (qay I q (by simp))
  |_=>exact absurd (show false=true from b) AF
 |int i =>
  obtain⟨t,rfl⟩:=c;cases y with
  |non=>cases a;exact PySem.EqNone.eq_int_none (qay I q (by simp))
  |int j=>obtain⟨t',rfl⟩:=a;exact eq_int (qay I q qs4)
  |str j=>obtain⟨t',rfl⟩:=a;exact PySem.EqMixed.eq_int_str (qay I q (by simp))
  |_=>exact absurd (show false=true from b) AF
 |str i =>
  obtain⟨t,rfl⟩:=c;cases y with
  |non=>cases a;exact PySem.EqNone.eq_str_none (qay I q (by simp))
  |bl j=>cases a;exact PySem.EqMixed.eq_str_bool (qay I q (by simp))
  |int j=>obtain⟨t',rfl⟩:=a;exact PySem.EqMixed.eq_str_int (qay I q (by simp))
  |str j=>obtain⟨t',rfl⟩:=a;exact eq_str (qay I q qs5)
  |_=>exact absurd (show false=true from b) AF
 |byt i =>
  obtain⟨t,rfl⟩:=c;cases y with
  |byt j=>obtain⟨t',rfl⟩:=a;exact PySem.W.eq_bytes (qay I q qs6)
  |_=>exact absurd (show false=true from b) AF
 |_=>cases y <;>exact absurd (show false=true from b) AF
theorem op_ne:OpR X (compareOp .NotEq) rNe:=by
 intro pins s σ H x y v u Q I c a h;obtain⟨b,q⟩:=h;cases x with
 |non =>
  cases c;cases y with
  |non=>cases a;exact PySem.EqNone.ne_none_none (qay I q (by simp))
  |bl j=>cases a;exact PySem.EqNone.ne_none_bool (qay I q (by simp))
  |int j=>obtain⟨t',rfl⟩:=a;exact PySem.EqNone.ne_none_int (qay I q (by simp))
  |str j=>obtain⟨t',rfl⟩:=a;exact PySem.EqNone.ne_none_str (qay I q (by simp))
  |_=>exact absurd (show false=true from b) AF
 |bl i =>
  cases c;cases y with
  |non=>cases a;exact PySem.EqNone.ne_bool_none (qay I q (by simp))
  |bl j=>cases a;exact ne_bool (qay I q (congrArg not qwb))
  |str j=>obtain⟨t',rfl⟩:=a;exact PySem.EqMixed.ne_bool_str (qay I q (by simp))
  |_=>exact absurd (show false=true from b) AF
 |int i =>
  obtain⟨t,rfl⟩:=c;cases y with
  |non=>cases a;exact PySem.EqNone.ne_int_none (qay I q (by simp))
  |int j=>obtain⟨t',rfl⟩:=a;exact ne_int (qay I q (congrArg not qs4))
  |str j=>obtain⟨t',rfl⟩:=a;exact PySem.EqMixed.ne_int_str (qay I q (by simp))
  |_=>exact absurd (show false=true from b) AF
 |str i =>
  obtain⟨t,rfl⟩:=c;cases y with
  |non=>cases a;exact PySem.EqNone.ne_str_none (qay I q (by simp))
  |bl j=>cases a;exact PySem.EqMixed.ne_str_bool (qay I q (by simp))
  |int j=>obtain⟨t',rfl⟩:=a;exact PySem.EqMixed.ne_str_int (qay I q (by simp))
  |str j=>obtain⟨t',rfl⟩:=a;exact ne_str (qay I q (congrArg not qs5))
  |_=>exact absurd (show false=true from b) AF
 |byt i =>
  obtain⟨t,rfl⟩:=c;cases y with
  |byt j=>obtain⟨t',rfl⟩:=a;exact PySem.W.ne_bytes (qay I q (congrArg not qs6))
  |_=>exact absurd (show false=true from b) AF
 |_=>cases y <;>exact absurd (show false=true from b) AF
theorem qdl:OpR X (compareOp .Lt) (rI0 λi j=>.bl (decide (i<j))):=opB0 λ_ _ _ _ _ _ _ q=>lt_int q
theorem qf4:OpR X (compareOp .LtE) (rI0 λi j=>.bl (decide (i<=j))):=opB0 λ_ _ _ _ _ _ _ q=>le_int q
theorem qpx:OpR X (compareOp .Gt) (rI0 λi j=>.bl (decide (j<i))):=opB0 λ_ _ _ _ _ _ _ q=>gt_int q
theorem op_ge:OpR X (compareOp .GtE) (rI0 λi j=>.bl (decide (j<=i))):=opB0 λ_ _ _ _ _ _ _ q=>ge_int q
theorem qb9:OpR X (compareOp .Is) (λx y H Q=>y=.non/\Q (.bl (decide (x=.non))) H):=by
 intro pins s σ H x y v u Q I a b h;obtain⟨rfl,q⟩:=h;cases b;refine is_none_gen (qay I q ?_);cases x <;>first
  | (cases a;rfl)
  | (obtain⟨t,rfl⟩:=a;rfl)
theorem qh6:OpR X (compareOp .IsNot) (λx y H Q=>y=.non/\Q (.bl (!decide (x=.non))) H):=by
 intro pins s σ H x y v u Q I a b h;obtain⟨rfl,q⟩:=h;cases b;refine isnot_none_gen (qay I q ?_);cases x <;>first
  | (cases a;rfl)
  | (obtain⟨t,rfl⟩:=a;rfl)
theorem qaf (b:Expr){a:CmpOp}(h:a ≠ .In:=by decide)(h2:a ≠ .NotIn:=by decide):behindInMarks a b=false:=by
 have c:(a == CmpOp.In)=false:=by cases a <;>first|rfl|exact absurd rfl h
 have d:(a == CmpOp.NotIn)=false:=by cases a <;>first|rfl|exact absurd rfl h2
 cases b <;>simp[behindInMarks,c,d]
theorem qej {c:CmpOp}{r:R2}(l:OpR X (compareOp c) r)(g:PE X a ta)(e:PE X b tb)(m:behindInMarks c b=false):PE X (.Compare a [c] [b] pos) (tOp r ta tb):=by intro d s σ H Q I h;exact wpAny_Compare1 (binT g e I h λv u i x y j f k n q=>l d i σ j x y v u Q f k n q) m
def tTest (t:TE):TT:=λσ H Q=>t σ H λx H'=>∃k,x=.bl k/\Q k H'
theorem qt {f:CmpOp}{r:R2}(t:OpR X (compareOp f) r)(l:PE X a ta)(i:PE X b tb)(C:behindInMarks f b=false):PT X (.Compare a [f] [b] pos) (tTest (tOp r ta tb)):=by
 intro d s σ H Q I h;refine wpAny_isTrue_Compare1 (thn (l d s σ H _ I h) λv q ⟨x,D,n,B,A⟩=>thn (i d q σ D _ n A) λu o ⟨y,p,j,F,g⟩ =>
  thn (t d o σ p x y v u _ j B F g) λc s3 ⟨z,w,G,m,k,e,E⟩=>?_) C
 subst e;cases m;exact BA ⟨w,G,E⟩
def tChain (r r':R2)(ta tb tc:TE):TE:=λσ H Q=>ta σ H λx H1=>tb σ H1 λy H2=>r x y H2 λz H3=>∃k,z=.bl k /\
 (if k=true then tc σ H3 λw' H4=>r' y w' H4 Q else Q (.bl false) H3)
theorem qpy {i g:CmpOp}{r l:R2}(N:OpR X (compareOp i) r)(m:OpR X (compareOp g) l)(D:PE X a ta)(t:PE X b tb)(T:PE X c tc)
  (R:lastMarks [i,g] [b,c]=false:=by with_unfolding_all rfl):PE X (.Compare a [i,g] [b,c] pos) (tChain r l ta tb tc):=by
 intro f s σ H Q I h;refine Compare_chain (thn (D f s σ H _ I h) λv M ⟨x,U,F,P,O⟩=>chain_link (thn (t f M σ U _ F O) λu K ⟨y,L,A,o,q⟩ =>
  thn (N f K σ L x y v u _ A P o q) λd J ⟨z,j,p,E,k,e,n⟩=>?_)) R
 subst e;cases E;refine BA ?_;cases k with|false=>exact ite_ff ⟨.bl false,j,p,Z,n⟩|true=>exact ite_tt (chain_last (thn (T f J σ j _ p n) λW V ⟨B,w,G,S,C⟩=>m f V σ w y B u W Q G o S C))
def TruV (K:Ag)(x:V)(H:Hp)(k:Bool):Prop :=
 match x with
 |.non=>k=false
 |.bl b=>k=b
 |.int i=>k=(i != 0)
 |.str y=>y.length<=A6/\k=((y.length:Int) != 0)
 |.byt y=>y.size<=A6/\k=((y.size:Int) != 0)
 |.ref p=>(∃xs,SqL K H p xs/\k = !xs.isEmpty)\/(∃xs,SqT K H p xs/\k = !xs.isEmpty) \/ ∃kvs,H p=some (.dK kvs)/\k = !kvs.isEmpty
 |_=>False
theorem qrt {κ:Type}{kvs:List (κ×V)}{vs:List (κ×Value)}(r:KV kvs vs):(!vs.isEmpty) = !kvs.isEmpty:=by cases r <;>rfl
theorem qk2 {xs:List V}{its:List Value}(r:Vals xs its):(!its.toArray.isEmpty) = !xs.isEmpty:=by cases r <;>simp
theorem qi5:(A6:Nat)<2 ^ 63:=by rw[B3];decide
theorem tru_ok:TruR X (λx H Q=>∃k,TruV X.K x H k/\Q k H):=by
 intro pins s σ H x v Q I c h;obtain⟨k,e,q⟩:=h;have hl:=qi5;have hs:A6=16777216:=B3;cases x with
 |non =>cases c;have a:k=false:=e;subst a;exact truthy_none ⟨H,I,q⟩
 |bl b =>cases c;have a:k=b:=e;subst a;exact BA ⟨H,I,q⟩
 |int i =>obtain⟨t,rfl⟩:=c;have a:k=(i != 0):=e;subst a;exact PySem.P.truthy_int ⟨H,I,q⟩
 |str y =>obtain⟨t,rfl⟩:=c;obtain⟨hy,a⟩:y.length<=A6/\k=((y.length:Int) != 0):=e;subst a;exact PySem.P.truthy_str (by lia) ⟨H,I.tok _,q⟩
 |byt y =>obtain⟨t,rfl⟩:=c;obtain⟨hy,a⟩:y.size<=A6/\k=((y.size:Int) != 0):=e;subst a;exact PySem.W.truthy_bytes (by lia) ⟨H,I.tok _,q⟩
 |ref p =>
  cases c;have a:(∃xs,SqL X.K H p xs/\k = !xs.isEmpty)\/(∃xs,SqT X.K H p xs/\k = !xs.isEmpty) \/ ∃kvs,H p=some (.dK kvs)/\k = !kvs.isEmpty:=e;rcases a with ⟨xs,d,a⟩|⟨xs,d,a⟩|⟨kvs,d,a⟩
  .subst a;obtain⟨its,r,pl,hz⟩:=I.list d;have f:=r.length;exact wpAny_truthy_list pl.isList (by simp only[Ak];lia) ⟨H,I.tok _,by rw[qk2 r];exact q⟩
  .subst a;obtain⟨its,r,pl,hz⟩:=I.tuple d;have f:=r.length;exact truthy_tuple pl (by simp only[Ak];lia) ⟨H,I.tok _,by rw[qk2 r];exact q⟩
  .subst a;obtain⟨hz,hS,vs,r,m⟩:kvs.length<=A6/\(p == sysModules)=false/\∃vs,KV kvs vs/\s.heap.DictOf (qat X.prog X.w) p vs:=I.hok p _ d;have f:kvs.length=vs.length:=Dm.length r;exact wpAny_truthy_dict hS m (by lia) ⟨H,I.tok _,by rw[qrt r];exact q⟩
 |_=>exact(show False from e).elim
theorem qwc (c:PE X a ta)(f:∀whole,isTrue a X.env whole=(do let v <- whole;standAt a.pos;holding [v] (truthy v))) :
  PT X a (λσ H Q=>ta σ H λx H'=>∃k,TruV X.K x H' k/\Q k H'):=by
 intro b s σ H Q I h;exact isTrue_plain (thn (c b s σ H _ I h) λv j ⟨x,g,e,i,d⟩=>tru_ok b j σ g x v Q e i d) (f _)
theorem qru:OpR X (binaryOp .Add) (λx y H Q=>∃i j,x=.str i/\y=.str j/\i.length+j.length<=A6/\Q (.str (i++j)) H):=by intro pins s σ H x y v u Q I a b h;obtain⟨i,j,rfl,rfl,hz,q⟩:=h;obtain⟨t,rfl⟩:=a;obtain⟨t',rfl⟩:=b;exact add_str (λt' tk=>⟨.str (i++j),H,I.tok _,⟨_,Z⟩,q⟩) hz
theorem qne {x:V}{us:List Value}(r:Vals [x] us):∃u,us=[u]/\RelV x u:=by
 cases r with|cons r1 r2=>cases r2;exact⟨_,Z,r1⟩
theorem vals2 {x y:V}{us:List Value}(r:Vals [x,y] us):∃u w',us=[u,w']/\RelV x u/\RelV y w':=by
 cases r with
 |cons r1 r2 =>
  cases r2 with|cons r3 r4=>cases r4;exact⟨_,_,Z,r1,r3⟩
theorem qi6 (b:X.calm=true):qh5 X (.builtin "max") (λxs H Q=>∃i j,xs=[.int i,.int j]/\Q (.int (if j > i then j else i)) H):=by
 intro pins s σ H xs us Q I r h;obtain⟨i,j,rfl,q⟩:=h;obtain⟨u,w',rfl,⟨t,rfl⟩,⟨t',rfl⟩⟩:=vals2 r;refine max_two_ints (I.ok.hd b) λh' tk k=>⟨_,H,I.kept k,?_,q⟩;by_cases a:j > i
 .rw[if_pos a,if_pos a];exact⟨_,Z⟩
 .rw[if_neg a,if_neg a];exact⟨_,Z⟩
theorem qnf (b:X.calm=true):qh5 X (.builtin "min") (λxs H Q=>∃i j,xs=[.int i,.int j]/\Q (.int (if j<i then j else i)) H):=by
 intro pins s σ H xs us Q I r h;obtain⟨i,j,rfl,q⟩:=h;obtain⟨u,w',rfl,⟨t,rfl⟩,⟨t',rfl⟩⟩:=vals2 r;refine min_two_ints (I.ok.hd b) λh' tk k=>⟨_,H,I.kept k,?_,q⟩;by_cases a:j<i
 .rw[if_pos a,if_pos a];exact⟨_,Z⟩
 .rw[if_neg a,if_neg a];exact⟨_,Z⟩
def LenV (K:Ag)(x:V)(H:Hp)(n:Nat):Prop :=
 match x with
 |.str y=>y.length<=A6/\n=y.length
 |.byt y=>y.size<=A6/\n=y.size
 |.ref p=>(∃xs,SqL K H p xs/\n=xs.length) \/ ∃xs,SqT K H p xs/\n=xs.length
 |_=>False
theorem qbs:qh5 X (.builtin "len") (λxs H Q=>∃x n,xs=[x]/\LenV X.K x H n/\Q (.int n) H):=by
 intro pins s σ H xs us Q I r h;obtain⟨x,n,rfl,e,q⟩:=h;obtain⟨u,rfl,c⟩:=qne r;have hl:=qi5;have hs:A6=16777216:=B3;cases x with
 |str y =>obtain⟨t,rfl⟩:=c;obtain⟨hy,a⟩:y.length<=A6/\n=y.length:=e;subst a;exact len_str (by lia) ⟨.int _,H,I.tok _,⟨_,Z⟩,q⟩
 |byt y =>obtain⟨t,rfl⟩:=c;obtain⟨hy,a⟩:y.size<=A6/\n=y.size:=e;subst a;exact PySem.W.len_bytes (by lia) ⟨.int _,H,I.tok _,⟨_,Z⟩,q⟩
 |ref p =>
  cases c;have a:(∃xs,SqL X.K H p xs/\n=xs.length) \/ ∃xs,SqT X.K H p xs/\n=xs.length:=e;rcases a with ⟨xs,d,a⟩|⟨xs,d,a⟩
  .subst a;obtain⟨its,f,pl,hz⟩:=I.list d;have b:=f.length;exact Calls.call_len_list pl.isList (by simp only[Ak];lia) ⟨.int xs.length,H,I.tok _,⟨_,by simp only[Ak];rw[b]⟩,q⟩
  .subst a;obtain⟨its,f,pl,hz⟩:=I.tuple d;have b:=f.length;exact len_tuple pl (by simp only[Ak];lia) ⟨.int xs.length,H,I.tok _,⟨_,by simp only[Ak];rw[b]⟩,q⟩
 |_=>exact(show False from e).elim
end
end L2
namespace L2
open PySem PySem.Spec PyProof.Rows
structure ObjM (h:Heap)(x dx C:Addr)(mA:Str->Option Value):Prop where
 obj:h.get? x=some (Cv C dx)
 ns:h.Ns1 dx mA
 ne:dx≠x
theorem qum {h:Heap}{f:Addr}{d:Str->Option Value}(n:h.Ns1 f d):∃od,h.get? f=some od/\∀b,DS b od=some (d b):=by
 obtain⟨o,es,ep,j,k,i,_,l⟩:=n;refine⟨o,j,λb=>?_⟩;have e:=l b;unfold nsFind findBy at e;rw[<- Array.find?_toList]at e;unfold DS;rw[k];dsimp only;split
 .rename_i y q;rw[q]at e;exact congrArg some e
 .rename_i q;rw[q]at e;have a:es.toList.any (·.refKey)=false:=by rw[List.any_eq_false];intro y m;obtain⟨z,t,c⟩:=i y (Array.mem_toList_iff.mp m);simp[DictEntry.refKey,c]
  have g:¬es.toList.any (·.refKey)=true:=by rw[a];exact AF
  rw[if_neg g];exact congrArg some e
theorem ObjM.look {h:Heap}{x b C:Addr}{a:Str->Option Value}(I:ObjM h x b C a):∃od,PySem.W.InstAt h x (Cv C b) C (some od)/\∀name,DS name od=some (a name) :=
 let ⟨od,ho,hl⟩:=qum I.ns
 ⟨od,⟨I.obj,Z,Z,ho⟩,hl⟩
section
variable {prog:AK}{w:World}{A:AQ}{E:Value->Ae->Prop}{s:Ae}{K:Ag}{x dx C f:Addr}{mA:Str->Option Value}{name:Str}{v:Value}
theorem get_map {a:Bool}{Q:Value->Ae->Prop}(X:K.In s.heap)(I:ObjM s.heap x dx C mA)(g:Df K C name=true)(e:Dt K C=true)
  (c:Bf K (.ref C) name=some none)(f:mA name=some v)(b:PySem.W.handedIn v=true)(h:Q v {s with toks:=s.toks+1}) :
  wpAny (model prog w) A (getAttr (.ref x) name a) Q E s:=by
 obtain⟨od,J,d⟩:=I.look;exact PySem.W.get_value X J (DN g).1 (PySem.W.findObj_own e c Z (by rw[d,f])) b h
theorem qwd {pl:Sem Bool}{Q:Value×List Value->Ae->Prop}(X:K.In s.heap)(I:ObjM s.heap x dx C mA)(a:Df K C name=true)
  (e:Bf K (.ref C) name=some (some (.ref f)))(b:DP K (.ref f)=true)(g:mA name=none)(h:Q (.ref f,[.ref x]) s) :
  wpAny (model prog w) A (getMethod (.ref x) name pl) Q E s:=by
 obtain⟨d,J,c⟩:=I.look;exact PySem.W.method_fn X J (DN a).1 (DN a).2 e (beq_iff_eq.mp b) (by show (DS name d).map (·.isSome)=some false;rw[c,g];rfl) h
theorem set_map {ns:List Str}{Q:Unit->Ae->Prop}(X:K.In s.heap)(I:ObjM s.heap x dx C mA)
  (l:Bf K (.ref C) "__setattr__"=some (some (.builtin "object.__setattr__")))(o:Ea K C=true)(m:PySem.W.takerIn K C name=some none)(j:Dt K C=true)
  (p:Em mA ns)(hsz:ns.length<=A6)
  (h:∀h',ObjM h' x dx C (λy=>if y=name then some v else mA y)->BR dx s.heap h'->Q () {s with heap:=h',toks:=s.toks+2}) :
  wpAny (model prog w) A (setAttr (.ref x) name v) Q E s:=by
 obtain⟨od,J,hl⟩:=I.look;refine PySem.W.set_plain X J l (PySem.W.osa_open (s:={s with toks:=s.toks+1}) (r:=none) X J o m λb=>?_);obtain⟨cd,n,e⟩:=PySem.W.any_some j;have k:s.heap.get? x=some ⟨.ref C,some dx,.plain,#[]⟩:=I.obj;refine As (AO (As (As (wpAny_loadPart k (As (PySem.W.Looks.here (s:={s with toks:=s.toks+1}) (PySem.W.looks_clsIn X n) ?_))))));rw[e];refine AO (a:=some dx) (As (AO (As ?_)));refine wpAny_nsSet1 (s:={s with toks:=s.toks+1}) I.ns λh' d c=>?_;obtain⟨oD,esD,epD,g,i,f⟩:=d.count (Em.cons name v p);refine As (wpAny_lookBehind g (by rw[i];exact pastItsLine_dict (A5 f (by rw[AD];lia))) ?_);exact AO (h _ ⟨(c.2 _ (B4 I.ne)).trans I.obj,d,I.ne⟩ c)
theorem qwe {R:Result->Ae->Prop}{vs:List Value}{kw:List (Str×Value)}(X:K.In s.heap)(e:PySem.W.makesIn K C=true)
  (b:Bf K (.ref C) "__init__"=some (some (.ref f)))(c:C9 K (.ref f)=some (.type "function"))
  (h:codeAny (model prog w) (A.under (.builtin "type.__call__" ⟨.ref C::vs,kw⟩)) (.call (.ref f) ⟨.ref (s.heap.objs.size+1)::vs,kw⟩) (PySem.W.InitBack (s.heap.objs.size+1) R)
   {s with heap:=(s.heap.push BV).push (Cv C s.heap.objs.size)}) :
  codeAny (model prog w) A (.call (.ref C) ⟨vs,kw⟩) R s:=by
 obtain⟨hh,g,d,t,os⟩:=s;exact PySem.W.make_core (PySem.W.makes_of X e) (PySem.W.looks_findIn X b) (λa=>PySem.W.bind_fn X a c) (.inl Z) h
end
noncomputable def qbc (f:Str)(v:V):List (Str×V)->List (Str×V)
 | []=>[(f,v)]
 | (g,x)::r=>if g=f then (g,v)::r else (g,x)::qbc f v r
theorem qj1 (f g:Str)(v:V):∀fs:List (Str×V),(qbc f v fs).lookup g=if g=f then some v else fs.lookup g
 | []=>by
  show CU g [(f,v)]=_;by_cases h:g=f
  .have a:(g == f)=true:=beq_iff_eq.mpr h;simp only[CU,a,if_pos h]
  .have a:(g == f)=false:=beq_eq_false_iff_ne.mpr h;simp only[CU,a,if_neg h]
 | (k,x)::r=>by
  have c:=qj1 f g v r;rw[show qbc f v ((k,x)::r)=(if k=f then (k,v)::r else (k,x)::qbc f v r) from Z];by_cases b:k=f
  .rw[if_pos b];by_cases h:g=k
   .have a:(g == k)=true:=beq_iff_eq.mpr h;simp only[CU,a,if_pos (h.trans b)]
   .have a:(g == k)=false:=beq_eq_false_iff_ne.mpr h;simp only[CU,a,if_neg (λe:g=f=>h (e.trans b.symm))]
  .rw[if_neg b];by_cases h:g=k
   .have a:(g == k)=true:=beq_iff_eq.mpr h;simp only[CU,a,if_neg (λe:g=f=>b (h.symm.trans e))]
   .have a:(g == k)=false:=beq_eq_false_iff_ne.mpr h;simp only[CU,a];exact c
theorem qi7 (f:Str)(v:V):∀fs:List (Str×V),f∈(qbc f v fs).map (·.1)/\∀g,g∈fs.map (·.1)->g∈(qbc f v fs).map (·.1)
 | []=>⟨by simp[qbc],λg h=>by simp at h⟩
 | (k,x)::r=>by
  obtain⟨c,b⟩:=qi7 f v r;rw[show qbc f v ((k,x)::r)=(if k=f then (k,v)::r else (k,x)::qbc f v r) from Z];by_cases a:k=f
  .rw[if_pos a];subst a;exact⟨by simp,λg h=>by simpa using h⟩
  .rw[if_neg a];refine⟨?_,λg h=>?_⟩
   .rw[Ba];exact Az _ c
   .rw[Ba]at h |-;rcases Aq.mp h with e|e
    .exact Aq.mpr (.inl e)
    .exact Az _ (b g e)
theorem qj2 (f:Str)(v:V):∀fs:List (Str×V),(qbc f v fs).length<=fs.length+1
 | []=>by simp[qbc]
 | (k,x)::r=>by
  have ih:=qj2 f v r;rw[show qbc f v ((k,x)::r)=(if k=f then (k,v)::r else (k,x)::qbc f v r) from Z];by_cases a:k=f
  .rw[if_pos a,AD,AD];lia
  .rw[if_neg a,AD,AD];lia
theorem RelO.some_of {v:V}{o:Option Value}(r:RelO (some v) o):∃u,o=some u/\RelV v u:=by
 cases o with|none=>exact(show False from r).elim|some u=>exact⟨u,Z,r⟩
theorem RelO.none_of {o:Option Value}(r:RelO none o):o=none:=by
 cases o with|none=>rfl|some u=>exact(show False from r).elim
theorem qun {v:V}{u:Value}(r:RelV v u):PySem.W.handedIn u=true:=by
 cases v with
 |non=>cases (show u=C8 from r);rfl
 |bl b=>cases (show u=El b from r);rfl
 |int i=>obtain⟨t,e⟩:=(show ∃t,u=D4 i t from r);cases e;rfl
 |str x=>obtain⟨t,e⟩:=(show ∃t,u=D5 x t from r);cases e;rfl
 |byt b=>obtain⟨t,e⟩:=(show ∃t,u=Value.bytes b t from r);cases e;rfl
 |flt b=>obtain⟨t,e⟩:=(show ∃t,u=Value.float b t from r);cases e;rfl
 |ref a=>cases (show u=Bm a from r);rfl
 |ty n=>cases (show u=CM n from r);rfl
section
variable {P:AK}{w:World}{H H':Hp}{h h':Heap}{a C dx:Addr}{fs fs':List (Str×V)}
theorem qkn (c:HOk P w H h)(e:H a=some (.ins C dx fs)):∃b,ObjM h a dx C b/\(∀f,RelO (fs.lookup f) (b f))/\Em b (fs.map (·.1))/\fs.length<=1000/\H dx=some (.own a):=by obtain⟨d,z,i,g,b,n,r,q⟩:=(show ObjOk P w H h a (.ins C dx fs) from c a _ e);exact⟨b,⟨g,n,i⟩,r,q,z,d⟩
end
structure Cls (K:Ag)(C:Addr):Prop where
 pg:Df K C A8=true
 hd:Dt K C=true
 po:Ea K C=true
 sa:Bf K (.ref C) "__setattr__"=some (some (.builtin "object.__setattr__"))
theorem Cls.get {K:Ag}{C:Addr}(c:Cls K C)(f:Str):Df K C f=true:=c.pg
def NoAttr (K:Ag)(C:Addr)(f:Str):Prop:=Bf K (.ref C) f=some none
theorem NoAttr.taker {K:Ag}{C:Addr}{f:Str}(n:NoAttr K C f):PySem.W.takerIn K C f=some none:=by unfold PySem.W.takerIn;rw[show Bf K (.ref C) f=some none from n];rfl
structure Meth (K:Ag)(C:Addr)(m:Str)(f:Addr):Prop where
 at_:Bf K (.ref C) m=some (some (.ref f))
 fn:DP K (.ref f)=true
 kp:Bu K (.ref f)=true
section
variable {X:Cx}{pins:List (Addr×Obj)}{σ:St}{H:Hp}{s:Ae}{a C dx:Addr}{fs:List (Str×V)}{f:Str}{v:V}{A:AQ}{E:Value->Ae->Prop}
theorem qk3 {b:Bool}{Q:Value->Ae->Prop}(I:Inv X pins σ H s)(e:H a=some (.ins C dx fs))(c:Cls X.K C)(n:NoAttr X.K C f)(l:fs.lookup f=some v)
  (h:∀u s',Inv X pins σ H s'->RelV v u->Q u s'):wpAny (model X.prog X.w) A (getAttr (.ref a) f b) Q E s:=by
 obtain⟨g,O,r,_,_,_⟩:=qkn I.hok e;obtain⟨u,i,d⟩:=RelO.some_of (v:=v) (o:=g f) (by rw[<- l];exact r f);exact get_map I.kIn O (c.get f) c.hd n i (qun d) (h u _ (I.tok _) d)
theorem qhg {m:Str}{g:Addr}{pl:Sem Bool}{Q:Value×List Value->Ae->Prop}(I:Inv X pins σ H s)(e:H a=some (.ins C dx fs))(c:Cls X.K C)(k:Meth X.K C m g)(l:fs.lookup m=none)
  (h:Q (.ref g,[.ref a]) s):wpAny (model X.prog X.w) A (getMethod (.ref a) m pl) Q E s:=by
 obtain⟨b,O,r,_,_,_⟩:=qkn I.hok e;have d:b m=none:=RelO.none_of (by rw[<- l];exact r m);exact qwd I.kIn O (c.get m) k.at_ k.fn d h
theorem qk4 {y:V}{u:Value}{Q:Unit->Ae->Prop}(I:Inv X pins σ H s)(e:H a=some (.ins C dx fs))(c:Cls X.K C)(n:NoAttr X.K C f)(hl:fs.length<1000)(p:RelV y u)
  (h:∀s',Inv X pins σ (upd H a (.ins C dx (qbc f y fs))) s'->Q () s'):wpAny (model X.prog X.w) A (setAttr (.ref a) f u) Q E s:=by
 obtain⟨i,O,r,k,_,j⟩:=qkn I.hok e;have hz:(fs.map (·.1)).length<=A6:=by rw[Ab,B3];lia
 refine set_map I.kIn O c.sa c.po n.taker c.hd k hz λh' d l=>h _ ?_;have hd:∃o,h'.get? dx=some o:=let ⟨o,_,_,e',_⟩:=d.ns;⟨o,e'⟩;refine I.write (x:=a) (e:=dx) (by rw[e];exact CN) (.inr j) (λb q m z=>(l.2 b m).trans z) hd ?_;refine⟨by rw[qr O.ne];exact j,?_,O.ne,d.obj,_,d.ns,λg=>?_,λg t=>?_⟩
 .have:=qj2 f y fs;lia
 .show RelO ((qbc f y fs).lookup g) (if g=f then some u else i g);rw[qj1];by_cases q:g=f
  .rw[if_pos q,if_pos q];exact p
  .rw[if_neg q,if_neg q];exact r g
 .by_cases q:g=f
  .rw[q];exact(qi7 f y fs).1
  .refine(qi7 f y fs).2 g (k g λz=>t ?_);show (if g=f then some u else i g)=none;rw[if_neg q];exact z
theorem Inv.made (I:Inv X pins σ H s):Inv X pins σ (upd (upd H s.heap.objs.size (.own (s.heap.objs.size+1))) (s.heap.objs.size+1) (.ins C s.heap.objs.size []))
  {s with heap:=(s.heap.push BV).push (Cv C s.heap.objs.size)}:=by
 have d:(s.heap.push BV).get? s.heap.objs.size=some BV:=AR s.heap rfl;have j:((s.heap.push BV).push (Cv C s.heap.objs.size)).get? (s.heap.objs.size+1)=some (Cv C s.heap.objs.size):=by
  have:=AR (s.heap.push BV) (o:=Cv C s.heap.objs.size) rfl
  rwa [Dd]at this
 have i:(s.heap.push BV).Ns s.heap.objs.size (λ_=>none):=⟨BV,#[],_,d,Z,(λe h=>absurd h (by simp)),λ_=>rfl⟩;have g:=I.laid (a:=s.heap.objs.size) (o:=.own (s.heap.objs.size+1)) (h':=s.heap.push BV) (t':=s.toks) (λb u q=>Ao _ q) (Am _) ⟨_,d⟩;refine g.laid (a:=s.heap.objs.size+1) (o:=.ins C s.heap.objs.size []) (t':=s.toks) (λb u q=>Ao _ q) (Ci (Dd _ _)) ?_;have c:s.heap.objs.size≠s.heap.objs.size+1:=AA (Ce _);refine⟨by rw[qr c,qk],AU _,c,j,λ_=>none,(Heap.Ns1.of_empty i).at λo q=>Ao _ q,λ_=>CN,λy f=>absurd Z f⟩
theorem attr_of {prog:AK}{w:World}{env:Env}{e:Expr}{f:Str}{pos:Pos}{s:Ae}{Q:Value->Ae->Prop}(b:attributeBase e f env (eval e env)=eval e env)
  (h:wpAny (model prog w) A (eval e env) (λo a=>wpAny (model prog w) A (getAttr o f true) Q E a) E s):wpAny (model prog w) A (eval (.Attribute e f pos) env) Q E s :=
 Attribute_any_ h (by rw[arm_eval_Attribute,b])
end
def tFld (K:Ag)(ta:TE)(f:Str):TE:=λσ H Q=>ta σ H λx H1=>∃a C dx fs v,x=.ref a/\H1 a=some (.ins C dx fs)/\Cls K C/\NoAttr K C f/\fs.lookup f=some v/\Q v H1
def sFld (K:Ag)(ta tv:TE)(f:Str):TS:=λD σ H=>tv σ H λy H1=>ta σ H1 λx H2=>∃a C dx fs,x=.ref a/\H2 a=some (.ins C dx fs)/\Cls K C/\NoAttr K C f/\fs.length<1000 /\
 D.nx σ (upd H2 a (.ins C dx (qbc f y fs)))
def InOp (X:Cx)(op:Ev)(rd:V->V->Hp->VK->Prop):Prop :=
 ∀(pins:List (Addr×Obj))(s:Ae)(σ:St)(H:Hp)(x y:V)(u v:Value)(Q:VK),Inv X pins σ H s->RelV x u->RelV y v->rd x y H Q->wpAny (model X.prog X.w) X.A (inplaceOp op u v) (EP X pins σ Q) X.xe s
def sFldAug (K:Ag)(ta tv:TE)(rd:V->V->Hp->VK->Prop)(f:Str):TS:=λD σ H=>ta σ H λx H1=>∃a C dx fs v,x=.ref a/\H1 a=some (.ins C dx fs)/\Cls K C/\NoAttr K C f/\fs.lookup f=some v /\
 tv σ H1 λy H2=>rd v y H2 λz H3=>∃dx' fs',H3 a=some (.ins C dx' fs')/\fs'.length<1000/\D.nx σ (upd H3 a (.ins C dx' (qbc f z fs')))
section
variable {X:Cx}{o e value:Expr}{f:Str}{pos pos' tpos:Pos}{ta tv:TE}
theorem qab (g:PE X e ta)(i:attributeBase e f X.env (eval e X.env)=eval e X.env):PE X (.Attribute e f pos) (tFld X.K ta f):=by intro b s σ H Q I h;refine attr_of i (thn (g b s σ H _ I h) λu s1 d=>?_);obtain⟨x,r,m,p,a,C,dx,fs,v,ex,o,c,n,l,q⟩:=d;subst ex;obtain rfl:u=Bm a:=p;exact qk3 m o c n l λu' s2 k j=>⟨v,r,k,j,q⟩
theorem qaz (i:PE X o ta)(z:PE X value tv)(r:swapsWith value (some (.Attribute o f pos')) pos.line X.env=pure false):PS X (.Assign [.Attribute o f pos'] value pos) (sFld X.K ta tv f):=by intro b s σ H D I h;refine plainObj_wpAny_Assign_Attribute (thn (z b s σ H _ I h) λu p ⟨y,t,j,v,q⟩=>thn (i b p σ t _ j q) λov s2 d=>?_) r;obtain⟨x,H2,g,m,a,C,dx,fs,ex,k,c,n,l,e⟩:=d;subst ex;obtain rfl:ov=Bm a:=m;exact qk4 g k c n l v λs3 w=>⟨σ,_,w,e⟩
theorem quo {e:Ev}{rd:V->V->Hp->VK->Prop}(r:PE X o ta)(R:PE X value tv)(i:InOp X e rd):PS X (.AugAssign (.Attribute o f tpos) e value pos) (sFldAug X.K ta tv rd f):=by intro b s σ H D I h;refine wpAny_AugAssign_AttributeAny (thn (r b s σ H _ I h) λov s1 d=>?_);obtain⟨x,N,t,F,a,C,dx,fs,v,ex,A,c,n,l,q⟩:=d;subst ex;obtain rfl:ov=Bm a:=F;refine qk3 t A c n l λu B m k=>thn (R b B σ N _ m q) λG E ⟨y,J,Q,O,P⟩=>thn (i b E σ J v y u G _ Q k O P) λw4 s4 d=>?_;obtain⟨z,H3,w,M,dx',fs',g,j,p⟩:=d;exact qk4 w g c n j M λs5 L=>⟨σ,_,L,p⟩
def rAdd:V->V->Hp->VK->Prop:=λx y H Q=>∃i j,x=.int i/\y=.int j/\Q (.int (i+j)) H
theorem in_add:InOp X .Add rAdd:=by rintro pins s σ H x y u v Q I a b ⟨i,j,rfl,rfl,q⟩;obtain⟨t,rfl⟩:=(show ∃t,u=D4 i t from a);obtain⟨t',rfl⟩:=(show ∃t',v=D4 j t' from b);exact PyProof.Rows.iadd_int ⟨.int (i+j),H,I.tok _,⟨_,Z⟩,q⟩
end
section
variable {X:Cx}{pins:List (Addr×Obj)}{σ:St}{H:Hp}{s:Ae}{A:AQ}{E Q:Value->Ae->Prop}{c:Value}{b:Bool}
inductive TyOf (K:Ag) (H:Hp):V->Value->Prop where
 |non:TyOf K H .non (.type "NoneType")
 |bl (x:Bool):TyOf K H (.bl x) (.type "bool")
 |int (i:Int):TyOf K H (.int i) (.type "int")
 |str (x:Str):TyOf K H (.str x) (.type "str")
 |flt (x:UInt64):TyOf K H (.flt x) (.type "float")
 |lst {a:Addr} {xs:List V} (e:H a=some (.lst xs)):TyOf K H (.ref a) (.type "list")
 |frz {a:Addr} {o:Obj} {xs:List V} (e:H a=some (.frz o (.lst xs))):TyOf K H (.ref a) (.type "list")
 |tup {a:Addr} {xs:List V} (e:H a=some (.tup xs)):TyOf K H (.ref a) (.type "tuple")
 |dK {a:Addr} {kvs:List (Key×V)} (e:H a=some (.dK kvs)):TyOf K H (.ref a) (.type "dict")
 |dT {a:Addr} {kvs:List (List Key×V)} (e:H a=some (.dT kvs)):TyOf K H (.ref a) (.type "dict")
 |ins {a C dx:Addr} {fs:List (Str×V)} (e:H a=some (.ins C dx fs)) (cl:Cls K C) (ha:Bf K (.ref C) "__class__"=some (some (.builtin "object.__class__")))
   (hn:PySem.W.specialIn K (.builtin "object.__class__") "__get__"=some (some (.builtin "getset_descriptor.__get__"))) (htk:PySem.W.takesIn K (.builtin "object.__class__")=some true)
   (hm:PySem.W.mroIn K C (.type "object")=some true):TyOf K H (.ref a) (.ref C)
theorem qup {x:V}{u t:Value}(I:Inv X pins σ H s)(d:RelV x u)(ty:TyOf X.K H x t)(e:AX X.K t c=some b)(h:∀tk,Q (.bool b) {s with toks:=tk}) :
  wpAny (model X.prog X.w) A (call (.builtin "isinstance") [u,c]) Q E s:=by
 cases ty with
 |non=>cases (show u=C8 from d);exact BP PySem.W.kitx_none I.kIn CN e (λz=>nomatch z) h
 |bl y=>cases (show u=El y from d);exact BP PySem.W.kitx_bool I.kIn CN e (λz=>nomatch z) h
 |int i=>obtain⟨t,q⟩:=(show ∃t,u=D4 i t from d);cases q;exact BP PySem.W.kitx_int I.kIn CN e (λz=>nomatch z) h
 |str y=>obtain⟨t,q⟩:=(show ∃t,u=D5 y t from d);cases q;exact BP PySem.W.kitx_str I.kIn CN e (λz=>nomatch z) h
 |flt y=>obtain⟨t,q⟩:=(show ∃t,u=Value.float y t from d);cases q;exact BP PySem.W.kitx_float I.kIn CN e (λz=>nomatch z) h
 | @lst a xs ea =>cases (show u=Bm a from d);obtain⟨_,_,n,_,f⟩:=(show ObjOk X.prog X.w H s.heap a (.lst xs) from I.hok a _ ea);exact BP PySem.W.kitx_list I.kIn ⟨_,f,Z⟩ e (λz=>nomatch z) h
 | @frz a ob xs ea =>cases (show u=Bm a from d);obtain⟨_,_,_,n,_,f⟩:=(show ObjOk X.prog X.w H s.heap a (.frz ob (.lst xs)) from I.hok a _ ea);exact BP PySem.W.kitx_list I.kIn ⟨_,f,Z⟩ e (λz=>nomatch z) h
 | @tup a xs ea =>cases (show u=Bm a from d);obtain⟨_,_,_,p⟩:=(show ObjOk X.prog X.w H s.heap a (.tup xs) from I.hok a _ ea);obtain⟨o,f,g,_⟩:=p;exact BP PySem.W.kitx_tuple I.kIn ⟨o,f,g⟩ e (λz=>nomatch z) h
 | @dK a kvs ea =>cases (show u=Bm a from d);obtain⟨_,_,vs,_,p⟩:=(show ObjOk X.prog X.w H s.heap a (.dK kvs) from I.hok a _ ea);obtain⟨o,es,ep,f,g,_⟩:=p;exact BP PySem.W.kitx_dict I.kIn ⟨o,f,g.1⟩ e (λz=>nomatch z) h
 | @dT a kvs ea =>cases (show u=Bm a from d);obtain⟨_,_,xs,_,o,es,ep,f,g,_⟩:=(show ObjOk X.prog X.w H s.heap a (.dT kvs) from I.hok a _ ea);exact BP PySem.W.kitx_dict I.kIn ⟨o,f,g.1⟩ e (λz=>nomatch z) h
 | @ins a C dx fs ea cl ha hn htk hm =>cases (show u=Bm a from d);obtain⟨mA,O,_⟩:=qkn I.hok ea;obtain⟨od,J,_⟩:=O.look;exact BP (PySem.W.kitx_own (cl.get _) cl.hd ha hn htk hm) I.kIn J e (λz=>nomatch z) h
end
end L2
namespace L2
open PySem PySem.Spec PyProof.Rows
structure Room (k:Nat)(A:AQ):Prop where
 hd:A.handled=none
 dp:A.depth+3*k+5<recursionLimit
 un:A.units+16*k+200<cLine
theorem Room.mono {j k:Nat}{A:AQ}(r:Room k A)(h:j<=k):Room j A:=⟨r.hd,by have:=r.dp;lia,by have:=r.un;lia⟩
theorem Room.deeper {k:Nat}{A:AQ}(r:Room (k+1) A)(env:Env):Room k (A.deeper env) :=
 ⟨r.hd,by have:=r.dp;show A.depth+1+3*k+5<_;lia,by have:=r.un;show A.units+3+16*k+200<_;lia⟩
theorem Room.in1 {k:Nat}{A:AQ}(r:Room (k+1) A):Room k A.in1 :=
 ⟨r.hd,by have:=r.dp;show A.depth+3*k+5<_;lia,by have:=r.un;show A.units+1+16*k+200<_;lia⟩
theorem qrv {A:AQ}{C:Addr}{us:List Value}{kw:List (Str×Value)}:(A.under (.builtin "type.__call__" ⟨.ref C::us,kw⟩)).depth=A.depth+1:=by
 first|rfl|simp[AQ.under,Code.weight,Code.isCreation,Code.isGuard,Code.isCaller,Code.frames,Code.isFrame,guardIds]
theorem qrw {A:AQ}{C:Addr}{us:List Value}{kw:List (Str×Value)}:(A.under (.builtin "type.__call__" ⟨.ref C::us,kw⟩)).units=A.units+1:=by
 first|rfl|simp[AQ.under,Code.cUnits,Code.frames,Code.isFrame]
theorem Room.make {k:Nat}{A:AQ}(r:Room (k+1) A)(C:Addr)(us:List Value)(kw:List (Str×Value)):Room k (A.under (.builtin "type.__call__" ⟨.ref C::us,kw⟩)) :=
 ⟨r.hd,by have:=r.dp;rw[qrv];lia,by have:=r.un;rw[qrw];lia⟩
theorem Room.depth {k:Nat}{A:AQ}(r:Room k A):A.depth<recursionLimit:=by have:=r.dp;lia
theorem Room.units {k:Nat}{A:AQ}(r:Room k A):A.units+64<cLine:=by have:=r.un;lia
theorem Room.units0 {k:Nat}{A:AQ}(r:Room k A):A.units<cLine:=by have:=r.un;lia
def tNil:TA:=λ_ H Q=>Q [] H
def tCons (ta:TE)(tr:TA):TA:=λσ H Q=>ta σ H λx H1=>tr σ H1 λxs H2=>Q (x::xs) H2
section
variable {X:Cx}{e:Expr}{es:List Expr}{te:TE}{t:TA}{pos:Pos}
theorem qg:PA X [] tNil:=λ_ _ _ _ H Q I h=>Db ⟨[],H,I,.nil,h⟩
theorem qd (f:PE X e te)(j:PA X es t)(l:starEach (e::es) X.env=(false,eval e X.env)::starEach es X.env:=by rfl):PA X (e::es) (tCons te t):=by intro pos a s σ H Q I h;rw[l];show wpAny _ _ (spliced ((false,eval e X.env)::backTo pos (starEach es X.env))) _ _ s;refine CA (thn (f a s σ H _ I h) λu k b=>?_);obtain⟨x,o,g,n,m⟩:=b;exact thn (j pos a k σ o _ g m) λus s2 ⟨xs,i,d,p,c⟩=>⟨x::xs,i,d,.cons n p,c⟩
def tTup (t:TA):TE:=λσ H Q=>t σ H λxs H1=>xs.length<=A6/\∀p,H1 p=none->Q (.ref p) (upd H1 p (.tup xs))
def tLst (t:TA):TE:=λσ H Q=>t σ H λxs H1=>xs.length<=A6/\∀p,H1 p=none->Q (.ref p) (upd H1 p (.lst xs))
theorem zh {x1}(h:PA X es t):PE X (.Tuple es x1 pos) (tTup t):=by intro c s σ H Q I g;refine wpAny_Tuple_spliced (thn (h pos c s σ H _ I g) λus a ⟨xs,f,d,r,z,q⟩=>⟨by rw[<- r.length];exact z,?_⟩);have i:f a.heap.objs.size=none:=d.hok.fresh (Am _);refine⟨.ref a.heap.objs.size,upd f a.heap.objs.size (.tup xs),d.laid (t':=a.toks) (λb u e=>Ao _ e) (Am _) ?_,Z,q _ i⟩;exact⟨z,us,r,⟨_,AR _ Z,Z,_,Z⟩⟩
theorem zg (h:PA X es t):PE X (.List es pos) (tLst t):=by intro c s σ H Q I g;refine wpAny_List_spliced (thn (h pos c s σ H _ I g) λus a ⟨xs,f,d,r,z,q⟩=>⟨by rw[<- r.length];exact z,?_⟩);have i:f a.heap.objs.size=none:=d.hok.fresh (Am _);refine⟨.ref a.heap.objs.size,upd f a.heap.objs.size (.lst xs),d.laid (t':=a.toks) (λb u e=>Ao _ e) (Am _) ?_,Z,q _ i⟩;exact⟨z,us,0,r,AR _ Z⟩
end
abbrev Sp:=List V->Hp->VK->XK->Prop
abbrev CXT:=List Env->Hp->Ae->XK->Value->Ae->Prop
structure Env0 (P:AK)(w:World)(K:Ag)(mg:Str->Option Value)(base:Heap)(A:AQ)(outer:List Env)(s:Ae)(H:Hp):Prop where
 frames:A.frames=some outer
 mod:Mod K mg base
 bs:∀b o,base.get? b=some o->s.heap.get? b=some o/\H b=none
 bsz:base.objs.size<=s.heap.objs.size
 funs:s.heap.FunFrames base outer
 frf:∀b∈frs outer,H b=none
 hok:HOk P w H s.heap
 bare:En s.gens
def CE (outer:List Env)(P:AK)(w:World)(H:Hp)(s:Ae)(Q:VK)(u:Value)(s':Ae):Prop :=
 ∃v H',s'.os=s.os/\En s'.gens/\Un (frs outer) [] H H' s.heap s'.heap/\HOk P w H' s'.heap/\RelV v u/\Q v H'
def CR (CX:CXT)(outer:List Env)(P:AK)(w:World)(H:Hp)(s:Ae)(Q:VK)(E:XK)(r:Result)(s':Ae):Prop :=
 match r with
 |.ok (.ret u)=>CE outer P w H s Q u s'
 |.ok _=>False
 |.error e=>CX outer H s E e s'
structure FnOk (P:AK)(w:World)(K:Ag)(mg:Str->Option Value)(base:Heap)(CX:CXT)(k:Nat)(f:Addr)(fd:Ay)(ps:List Str)(sp:Sp):Prop where
 len:∀vs H Q E,sp vs H Q E->vs.length=ps.length
 run:∀(A:AQ)(outer:List Env)(s:Ae)(H:Hp)(args:Args)(us:List Value)(vs:List V)(Q:VK)(E:XK),Room k A->Env0 P w K mg base A outer s H->BindsTo s fd args (ps.zip us)->Vals vs us->sp vs H Q E ->
  codeAny (model P w) A (.call (.ref f) args) (CR CX outer P w H s Q E) s
theorem Env0.make {P:AK}{w:World}{K:Ag}{mg:Str->Option Value}{base:Heap}{A:AQ}{outer:List Env}{s:Ae}{H:Hp}(e:Env0 P w K mg base A outer s H)(C:Addr)(us:List Value)(kw:List (Str×Value)) :
  Env0 P w K mg base (A.under (.builtin "type.__call__" ⟨.ref C::us,kw⟩)) outer s H:=⟨by first|exact e.frames | (simpa [AQ.under,Code.envs,Code.isFrame,pushEnvs] using e.frames),e.mod,e.bs,e.bsz,e.funs,e.frf,e.hok,e.bare⟩
section
variable {X:Cx}{pins:List (Addr×Obj)}{σ:St}{H:Hp}{s s':Ae}
theorem Inv.env0 (I:Inv X pins σ H s):Env0 X.prog X.w X.K X.mg X.base X.A X.stack s H :=
 ⟨I.ok.frames,I.ok.mod,I.bs,A5 I.ok.bsz I.sz,I.stack,I.stkFree,I.hok,I.bare⟩
theorem Inv.after {Q:VK}{u:Value}(I:Inv X pins σ H s)(h:CE X.stack X.prog X.w H s Q u s'):EP X pins σ Q u s':=by obtain⟨v,H',os,a,un,e,r,q⟩:=h;obtain⟨f,g,d,t,c⟩:=s';obtain rfl:c=s.os:=os;exact⟨v,H',I.call (h':=f) (g':=g) (d':=d) (t':=t) (ch:=[]) un e a (λb z=>absurd z (by simp)),r,q⟩
end
def tCall (sp:Sp)(dvs:List V)(E:XK)(t:TA):TE:=λσ H Q=>t σ H λvs H1=>sp (vs++dvs) H1 Q E
def tMeth (C:Addr)(m:Str)(sp:Sp)(dvs:List V)(E:XK)(ta:TE)(t:TA):TE:=λσ H Q=>ta σ H λx H1=>∃a dx fs,x=.ref a/\H1 a=some (.ins C dx fs)/\fs.lookup m=none /\
 t σ H1 λvs H2=>sp (x::(vs++dvs)) H2 Q E
def tMake (C:Addr)(sp:Sp)(dvs:List V)(E:XK)(t:TA):TE:=λσ H Q=>t σ H λvs H1=>∀x dx,H1 x=none->H1 dx=none->dx≠x ->
 sp (.ref x::(vs++dvs)) (upd (upd H1 dx (.own x)) x (.ins C dx [])) (λv H2=>v=.non/\Q (.ref x) H2) E
def Binds (K:Ag)(fd:Ay)(ps:List Str)(ds:List Value):Prop :=
 ∀(s:Ae)(us:List Value),K.In s.heap->(us++ds).length=ps.length->BindsTo s fd ⟨us,[]⟩ (ps.zip (us++ds))
theorem Binds.all {K:Ag}{fd:Ay}{ps:List Str}(h:∀us:List Value,us.length=ps.length->bindArgs fd ⟨us,[]⟩=pure (ps.zip us)):Binds K fd ps []:=λs us _ a=>by rw[Br]at a |-;exact .of_eq (h us a)
def qf5 (CX:CXT)(X:Cx)(E:XK):Prop:=∀(pins:List (Addr×Obj))(σ:St)(H:Hp)(s:Ae)(e:Value)(s':Ae),Inv X pins σ H s->CX X.stack H s E e s'->X.xe e s'
section
variable {X:Cx}{CX:CXT}{k:Nat}{f C:Addr}{fd:Ay}{ps:List Str}{sp:Sp}{dvs:List V}{ds:List Value}{E:XK}{x m:Str}{p pos apos:Pos}{e o:Expr}{es:List Expr}{ta:TE}{t:TA}
theorem qog {a:List (Addr×Obj)}{σ:St}{H:Hp}{s:Ae}{Q:VK}{us:List Value}{vs:List V}(F:FnOk X.prog X.w X.K X.mg X.base CX k f fd ps sp)(l:Room k X.A)(m:Binds X.K fd ps ds)(d:Vals dvs ds)(i:qf5 CX X E)
  (I:Inv X a σ H s)(r:Vals vs us)(h:sp (vs++dvs) H Q E):wpAny (model X.prog X.w) X.A (call (.ref f) us) (EP X a σ Q) X.xe s:=by
 have c:Vals (vs++dvs) (us++ds):=r.append d;have g:(us++ds).length=ps.length:=by rw[<- c.length];exact F.len _ _ _ _ h
 refine wpAny_call (Du (F.run X.A X.stack s H ⟨us,[]⟩ (us++ds) (vs++dvs) Q E l I.env0 (m s us I.kIn g) c h) λr j b=>?_);cases r with
 |error e=>exact i a σ H s e j I b
 |ok fl =>
  cases fl with|ret u=>exact I.after b|next=>exact Cw b|brk=>exact Cw b|cont=>exact Cw b
theorem zb (F:FnOk X.prog X.w X.K X.mg X.base CX k f fd ps sp)(j:Room k X.A)(o:Gl X x)(n:X.mg x=some (.ref f))(d:Bu X.K (.ref f)=true)(g:Binds X.K fd ps ds)(m:Vals dvs ds)(l:qf5 CX X E)
  (i:PA X (e::es) t)(b:(x == ("__debug__" : Str))=false:=by decide)(he:starEach (e::es) X.env=(false,eval e X.env)::starEach es X.env:=by rfl)(hpl:(backTo pos (starEach es X.env)).any (·.1)=false:=by rfl) :
  PE X (.Call (.Name x p) (e::es) [] pos) (tCall sp dvs E t):=by
 intro a s σ H Q I h;refine BN (qof I o n ?_ b);refine Dn (h₀:=X.base) I.ok.mod.kin d (thn (i pos a s σ H _ I h) λus s1 ⟨vs,H1,c,r,q⟩=>⟨c.kIn,?_⟩) he hpl;exact qog F j g m l c r q
theorem qal {pl:Sem Bool}(v:PE X o ta)(c:Cls X.K C)(i:Meth X.K C m f)(F:FnOk X.prog X.w X.K X.mg X.base CX k f fd ps sp)(G:Room k X.A)(y:Binds X.K fd ps ds)(M:Vals dvs ds)(L:qf5 CX X E)(z:PA X (e::es) t)
  (n:starEach (e::es) X.env=(false,eval e X.env)::starEach es X.env:=by rfl)(hpl:(backTo pos (starEach es X.env)).any (·.1)=false:=by rfl)
  (ht:eval (.Call (.Attribute o m apos) (e::es) [] pos) X.env=(do
   let ov <- eval o X.env
   standAt apos.atName
   let (f,first) <- holding [ov] (getMethod ov m pl)
   callWith pos f first (backTo pos (starEach (e::es) X.env)) (backToKw pos (keywordEach [] X.env))):=by rfl) :
  PE X (.Call (.Attribute o m apos) (e::es) [] pos) (tMeth C m sp dvs E ta t):=by
 intro b s σ H Q I h;refine D3 (pl:=pl) (thn (v b s σ H _ I h) λu J j=>?_) ht;obtain⟨x,N,g,D,a,dx,fs,ex,B,l,q⟩:=j;subst ex;obtain rfl:u=Bm a:=D;refine qhg g B c i l ?_;refine Dn (first:=[.ref a]) (h₀:=X.base) I.ok.mod.kin i.kp (thn (z pos b J σ N _ g q) λus s2 ⟨vs,H2,d,r,p⟩=>⟨d.kIn,?_⟩) n hpl;exact qog (us:=.ref a::us) (vs:=.ref a::vs) F G y M L d (.cons Z r) p
theorem qbd {pl:Sem Bool}(i:PE X o ta)(c:Cls X.K C)(e:Meth X.K C m f)(F:FnOk X.prog X.w X.K X.mg X.base CX k f fd ps sp)(r:Room k X.A)(j:Binds X.K fd ps ds)(v:Vals dvs ds)(t:qf5 CX X E)
  (y:eval (.Call (.Attribute o m apos) [] [] pos) X.env=(do
   let ov <- eval o X.env
   standAt apos.atName
   let (f,first) <- holding [ov] (getMethod ov m pl)
   callWith pos f first (backTo pos (starEach [] X.env)) (backToKw pos (keywordEach [] X.env))):=by rfl) :
  PE X (.Call (.Attribute o m apos) [] [] pos) (tMeth C m sp dvs E ta tNil):=by
 intro d s σ H Q I h;refine D3 (pl:=pl) (thn (i d s σ H _ I h) λu s1 g=>?_) y;obtain⟨x,H1,b,p,a,dx,fs,ex,n,l,q⟩:=g;subst ex;obtain rfl:u=Bm a:=p;refine qhg b n c e l ?_;exact PySem.W.callWith_K0 (first:=[.ref a]) b.kIn e.kp (qog (us:=[.ref a]) (vs:=[.ref a]) F r j v t b (.cons Z .nil) q)
structure Mk (K:Ag)(C f:Addr):Prop where
 makes:PySem.W.makesIn K C=true
 init:Bf K (.ref C) "__init__"=some (some (.ref f))
 fn:DP K (.ref f)=true
 kp:Bu K (.ref C)=true
theorem qwf {b:List (Addr×Obj)}{σ:St}{H:Hp}{s:Ae}{Q:VK}{us:List Value}{vs:List V}(M:Mk X.K C f)(F:FnOk X.prog X.w X.K X.mg X.base CX k f fd ps sp)(n:Room (k+1) X.A)(l:Binds X.K fd ps ds)(p:Vals dvs ds)
  (o:qf5 CX X E)(I:Inv X b σ H s)(r:Vals vs us)
  (h:∀x dx,H x=none->H dx=none->dx≠x->sp (.ref x::(vs++dvs)) (upd (upd H dx (.own x)) x (.ins C dx [])) (λv m=>v=.non/\Q (.ref x) m) E) :
  wpAny (model X.prog X.w) X.A (call (.ref C) us) (EP X b σ Q) X.xe s:=by
 have d:=h (s.heap.objs.size+1) s.heap.objs.size (I.hok.fresh (Cn _)) (I.hok.fresh (Am _)) (AA (Ce _));have c:=Inv.made (C:=C) I;have g:Vals (V.ref (s.heap.objs.size+1)::(vs++dvs)) (Bm (s.heap.objs.size+1)::(us++ds)):=.cons rfl (r.append p);have q:(Bm (s.heap.objs.size+1)::us++ds).length=ps.length:=by have e:=g.length;rw[F.len _ _ _ _ d]at e;exact e.symm
 refine wpAny_call (qwe (f:=f) I.kIn M.makes M.init (beq_iff_eq.mp M.fn) (Du (F.run _ X.stack _ _ ⟨Bm (s.heap.objs.size+1)::us,[]⟩ (Bm (s.heap.objs.size+1)::(us++ds)) _ _ E (n.make C us [])
  (c.env0.make C us []) (l _ (Bm (s.heap.objs.size+1)::us) c.kIn q) g d) λr j a=>?_))
 cases r with
 |error e=>exact o b σ _ _ e j c a
 |ok fl =>
  cases fl with
  |ret u =>obtain⟨v,H',y,rv,i,t⟩:=c.after a;subst i;exact⟨rv,⟨V.ref (s.heap.objs.size+1),H',y,Z,t⟩⟩
  |next=>exact Cw a
  |brk=>exact Cw a
  |cont=>exact Cw a
theorem qek (M:Mk X.K C f)(F:FnOk X.prog X.w X.K X.mg X.base CX k f fd ps sp)(i:Room (k+1) X.A)(n:Gl X x)(m:X.mg x=some (.ref C))(d:Binds X.K fd ps ds)(l:Vals dvs ds)(j:qf5 CX X E)
  (g:PA X (e::es) t)(b:(x == ("__debug__" : Str))=false:=by decide)(he:starEach (e::es) X.env=(false,eval e X.env)::starEach es X.env:=by rfl)(hpl:(backTo pos (starEach es X.env)).any (·.1)=false:=by rfl) :
  PE X (.Call (.Name x p) (e::es) [] pos) (tMake C sp dvs E t):=by
 intro a s σ H Q I h;refine BN (qof I n m ?_ b);refine Dn (h₀:=X.base) I.ok.mod.kin M.kp (thn (g pos a s σ H _ I h) λus s1 ⟨vs,H1,c,r,q⟩=>⟨c.kIn,?_⟩) he hpl;exact qwf M F i d l j c r q
end
section
variable {X:Cx}{CX:CXT}{k:Nat}{f C:Addr}{fd:Ay}{ps ks:List Str}{sp:Sp}{E:XK}{x m:Str}{p pos apos kpos:Pos}{e o:Expr}{es:List Expr}{kws:List Eo}{te ta:TE}{t tk:TA}{nm:Option Str}
variable {g:List Value->List Value->List Value}{gV:List V->List V->List V}
end
structure FnScope (N P:List Str)(sc:Scope):Prop where
 kind:sc.kind=.function
 co:sc.isCoroutine=false
 gen:sc.isGenerator=false
 nd:N.Nodup
 pre:N.take P.length=P
 par:∀x∈P,sc.names.lookup x=some .local\/sc.names.lookup x=some .cell
 nofree:∀y∈sc.names,y.2 ≠ .free
theorem qng {a:Str->Option B0}{x:Str}:∀{binds:List (Str×Value)}{m:Str->Option Value},(∀v,(x,v)∉binds)->bindL a binds m x=m x
 | [],_,_=>rfl
 | (n,v)::r,m,h=>by
  unfold bindL;rw[qng λw b=>h w (Az _ b)];split
  .have:x≠n:=by rintro rfl;exact h v Al
   simp[this]
  .rfl
theorem qnh {a:Str->Option B0}{x:Str}:∀{binds:List (Str×Value)}{m:Str->Option Value},(∀v,(x,v)∉binds)->bindC a binds m x=m x
 | [],_,_=>rfl
 | (n,v)::r,m,h=>by
  unfold bindC;rw[qnh λw b=>h w (Az _ b)];split
  .rfl
  .have:x≠n:=by rintro rfl;exact h v Al
   simp[this]
theorem qni {a:Str->Option B0}{x:Str}{v:Value}:∀{P:List Str}{vs:List Value}{i:Nat}{m:Str->Option Value},P.Nodup->P[i]?=some x->vs[i]?=some v->a x=some .local ->
  bindL a (P.zip vs) m x=some v
 | [],_,_,_,_,h,_,_=>by simp at h
 |_::_,[],_,_,_,_,h,_=>by simp at h
 |p::P,w::vs,0,m,nd,h1,h2,hk=>by simp at h1 h2;subst h1;subst h2;show bindL a ((p,w)::P.zip vs) m p=_;unfold bindL;rw[qng λv b=>(Cz.mp nd).1 (List.of_mem_zip b).1,if_pos hk];simp
 |p::P,w::vs,i+1,m,nd,h1,h2,hk=>by show bindL a ((p,w)::P.zip vs) m x=_;unfold bindL;exact qni (i:=i) (Cz.mp nd).2 (by simpa using h1) (by simpa using h2) hk
theorem qnj {a:Str->Option B0}{x:Str}{v:Value}:∀{P:List Str}{vs:List Value}{i:Nat}{m:Str->Option Value},P.Nodup->P[i]?=some x->vs[i]?=some v->a x≠some .local ->
  bindC a (P.zip vs) m x=some v
 | [],_,_,_,_,h,_,_=>by simp at h
 |_::_,[],_,_,_,_,h,_=>by simp at h
 |p::P,w::vs,0,m,nd,h1,h2,hk=>by simp at h1 h2;subst h1;subst h2;show bindC a ((p,w)::P.zip vs) m p=_;unfold bindC;rw[qnh λv b=>(Cz.mp nd).1 (List.of_mem_zip b).1,if_neg hk];simp
 |p::P,w::vs,i+1,m,nd,h1,h2,hk=>by show bindC a ((p,w)::P.zip vs) m x=_;unfold bindC;exact qnj (i:=i) (Cz.mp nd).2 (by simpa using h1) (by simpa using h2) hk
noncomputable def start (N:List Str)(vs:List V):St:=vs.map some++List.replicate (N.length-vs.length) none
noncomputable def qpz (CX:CXT)(P:AK)(w:World)(K:Ag)(mg:Str->Option Value)(base:Heap)(N:List Str)(qual:Str)(scope:Scope)(f:Addr)(cd:Value)(A:AQ)(outer:List Env)(s:Ae)(H:Hp)(E:XK):Cx where
 prog:=P
 w:=w
 K:=K
 mg:=mg
 base:=base
 A:=A.deeper (envOfC qual scope s.heap.objs.size f cd)
 N:=N
 s₀:=s
 H₀:=H
 env:=envOfC qual scope s.heap.objs.size f cd
 outer:=outer
 stack:=envOfC qual scope s.heap.objs.size f cd::outer
 ex:=[]
 calm:=true
 fn:=λ_=>true
 pn:=[]
 xe:=λe s'=>wpAny (model P w) (A.deeper (envOfC qual scope s.heap.objs.size f cd)) (leaving (envOfC qual scope s.heap.objs.size f cd) e) (λ_ s''=>CX outer H s E e s'') (λe' s''=>CX outer H s E e' s'') s'
theorem qp0 {a:Scope}{n:Nat}{x:Str}(h:a.names.lookup x=some .cell):∃c,(cellsFrom n a.names []).lookup x=some c:=by have q:=PySem.W.cellsFrom_some a.names n [] (.inl h);exact BZ.mp q
theorem quq {CX:CXT}{P:AK}{w:World}{K:Ag}{mg:Str->Option Value}{base:Heap}{N ps:List Str}{j:Str}{scope:Scope}{f:Addr}{C:Value}{A:AQ}{outer:List Env}{s I:Ae}{H:Hp}{E:XK}{us:List Value}{vs:List V}
  (S:FnScope N ps scope)(L:A.handled=none)(g:Env0 P w K mg base A outer s H)(hl:vs.length=ps.length)(r:Vals vs us)
  (x:InCallC s s.heap.objs.size (bindL (envOfC j scope s.heap.objs.size f C).kindOf (ps.zip us) λ_=>none) (cellsFrom (s.heap.objs.size+1) scope.names []) (bindC (envOfC j scope s.heap.objs.size f C).kindOf (ps.zip us) λ_=>none) I) :
  Inv (qpz CX P w K mg base N j scope f C A outer s H E) [] (start N vs) H I:=by
 have hpl:ps.length<=N.length:=by have:=congrArg Do S.pre;rw[Bv]at this;lia
 obtain⟨t,tk,rfl,F⟩:=x.done;have o:∀b:Addr,b∉(qpz CX P w K mg base N j scope f C A outer s H E).ex:=λb z=>absurd (show b∈([]:List Addr) from z) (by simp);refine⟨⟨g.mod,S.kind,Z,Z,Am _,λy z c t d=>?_,λy l=>?_,λy c _ h=>?_,λ_=>L,AQ.frames_deeper g.frames,.inr ⟨Z,Z⟩,λb z=>absurd z (o b),g.bs,g.bsz,λb _ _=>o b,λb z=>absurd z (o b),g.funs,g.frf⟩,
  rfl,g.bare,Un.kept F,⟨_,x.toInCall.ns,λi y v t d h3=>?_⟩,λy c h=>⟨_,x.cell y c h⟩,g.hok.fresh (Am _),λy c h=>?_,λp m=>absurd (show p∈([]:List (Addr×Obj)) from m) (by simp),g.hok.kept F,?_⟩
 .exact name_of_addr x.apart (Cm t) (Cm d)
 .have l:scope.names.lookup y=some .cell\/scope.names.lookup y=some .free:=l;rcases l with l|l
  .exact qp0 l
  .exact absurd rfl (S.nofree _ (Cm l))
 .exact BC (x.above y c (Cm h))
 .have B:i<vs.length:=by
   unfold start at d
   by_cases B:i<vs.length
   .exact B
   .rw[AV (by simpa using B)]at d;rw[List.getElem?_replicate]at d;split at d <;>cases d
  have J:vs[i]?=some v:=by
   unfold start at d;rw[AH (by simpa using B),Ai]at d;cases e:vs[i]? with|none=>rw[e]at d;cases d|some a=>rw[e]at d;cases d;rfl
  obtain⟨u,G,rv⟩:=r.get J
  have m:ps[i]?=some y:=by rw[<- S.pre,List.getElem?_take_of_lt (by lia)];exact t
  have D:ps.Nodup:=by rw[<- S.pre];exact S.nd.sublist (List.take_sublist _ _)
  refine⟨u,rv,?_⟩
  rcases S.par y (A0 m) with k|k
  .exact .inl ⟨k,qni D m G k⟩
  .obtain⟨c,e⟩:=qp0 (n:=s.heap.objs.size+1) k;refine .inr ⟨.inl k,c,e,?_⟩;have q:=x.cell y c e;rw[qnj D m G (by show scope.names.lookup y≠_;rw[k];decide)]at q;exact q
 .exact g.hok.fresh (BC (x.above y c (Cm h)))
 .unfold start;show _=N.length;rw[Af,Ab,List.length_replicate];lia
theorem qwg {CX:CXT}{P:AK}{w:World}{K:Ag}{mg:Str->Option Value}{base:Heap}{k:Nat}{f:Addr}{i a:Str}{d:Ex}{g:List Stmt}{scope:Scope}{F kV B T c ct oc:Value}{L od:Option Addr}
  {R:Array (Option Value)}{N ps:List Str}{sp:Sp}(Y:K.lookup f=some ⟨oc,od,.func (Bg i a d g scope F kV B T L c ct),R⟩)(U:B9 K c a=true)(S:FnScope N ps scope)
  (len:∀vs H Q E,sp vs H Q E->vs.length=ps.length)
  (l:∀(A:AQ)(outer:List Env)(s:Ae)(H:Hp)(vs:List V)(Q:VK)(E:XK),Room k (A.deeper (envOfC a scope s.heap.objs.size f c))->sp vs H Q E ->
   ∃t,PSs (qpz CX P w K mg base N a scope f c A outer s H E) g t/\t {nx:=λ_ H'=>Q .non H',rt:=Q} (start N vs) H) :
  FnOk P w K mg base CX (k+1) f (Bg i a d g scope F kV B T L c ct) ps sp:=by
 refine⟨len,λA outer s H args us vs Q E D j hb r z=>?_⟩;have hl:=len _ _ _ _ z;have G:K.In s.heap:=j.mod.kin.keeps λb o e=>(j.bs b o e).1;have M:s.heap.NoLimit:=j.mod.nolimit.keeps λb o e=>(j.bs b o e).1;have m:∀y∈ps.zip us,scope.names.lookup y.1=some .local\/(scope.names.lookup y.1=some .cell/\((cellsFrom (s.heap.objs.size+1) scope.names []).lookup y.1).isSome=true):=λ⟨n,v⟩ hy=>by
  rcases S.par n (List.of_mem_zip hy).1 with q|q
  .exact .inl q
  .exact .inr ⟨q,PySem.W.cellsFrom_some _ _ _ (.inl q)⟩
 refine codeAny_call_function D.depth (G _ _ Y) rfl S.co S.gen rfl (PySem.W.codeRec_of G U) (hb _ _ _ _ ?_);refine wpAny_newFunctionEnv_cells S.kind m λenv X O x=>?_;subst X;refine⟨M.keeps x.toInCall.keep,codeAny_func ?_⟩;obtain⟨t,ht,hq⟩:=l A outer s H vs Q E (D.deeper _) z;have I:Inv (qpz CX P w K mg base N a scope f c A outer s H E) [] (start N vs) H O:=quq S D.hd j hl r x;refine Ca (ht [] O (start N vs) H _ I hq) (λfl C h=>?_) λe C h=>h;have p:∀{σ':St}{H':Hp}{v:V}{u:Value},Inv (qpz CX P w K mg base N a scope f c A outer s H E) [] σ' H' C->RelV v u->Q v H'->CE outer P w H s Q u C :=
  λ{σ' H' v u} J rv q=>⟨v,H',J.os,J.bare,J.base,J.hok,rv,q⟩
 cases fl with
 |ret u =>obtain⟨v,σ',H',J,rv,q⟩:=h;exact p J rv q
 |next =>obtain⟨σ',H',J,q⟩:=h;exact p (v:=V.non) (u:=C8) J rfl q
 |brk =>obtain⟨_,_,_,q⟩:=h;exact Cw q
 |cont =>obtain⟨_,_,_,q⟩:=h;exact Cw q
end L2
namespace L2
open PySem PySem.Spec PyProof.Rows
section
variable {X:Cx}{x:Str}{p pos:Pos}{e:Expr}{es:List Expr}{t:TA}{id T:String}{r:List V->Hp->VK->Prop}
def tCB (r:List V->Hp->VK->Prop)(t:TA):TE:=λσ H Q=>t σ H λvs H1=>r vs H1 Q
theorem zc (k:qh5 X (.builtin id) r)(n:Gl X x)(j:X.mg x=none)(m:bootBuiltins x=some (.builtin id))(b:PA X (e::es) t)(d:x ≠ "__name__" := by decide)(hdb:(x == ("__debug__" : Str))=false:=by decide)
  (he:starEach (e::es) X.env=(false,eval e X.env)::starEach es X.env:=by rfl)(hpl:(backTo pos (starEach es X.env)).any (·.1)=false:=by rfl):PE X (.Call (.Name x p) (e::es) [] pos) (tCB r t):=by
 intro a s σ H Q I h;refine BN (qep I n j m ?_ d hdb);exact PyProof.Rows.callWith_builtin1 (thn (b pos a s σ H _ I h) λus f ⟨vs,l,c,i,g⟩=>k a f σ l vs us Q c i g) he hpl
theorem qi8 (k:qh5 X (.type T) r)(n:Gl X x)(j:X.mg x=none)(m:bootBuiltins x=some (.type T))(b:PA X (e::es) t)(d:x ≠ "__name__" := by decide)(hdb:(x == ("__debug__" : Str))=false:=by decide)
  (he:starEach (e::es) X.env=(false,eval e X.env)::starEach es X.env:=by rfl)(hpl:(backTo pos (starEach es X.env)).any (·.1)=false:=by rfl):PE X (.Call (.Name x p) (e::es) [] pos) (tCB r t):=by
 intro a s σ H Q I h;refine BN (qep I n j m ?_ d hdb);exact BM (thn (b pos a s σ H _ I h) λus f ⟨vs,l,c,i,g⟩=>k a f σ l vs us Q c i g) he hpl
end
end L2
namespace HT
open PySem PyProof.Rows
section
open PySem.SeqAt
open PySem.AutoSeq1 (wpAny_loadPart')
open PySem.MeetsSeq PySem.MeetsSeq2 PySem.MeetsSeq3
end
section
variable {prog:AK}{w:World}{A:AQ}{E:Value->Ae->Prop}{s:Ae}
noncomputable def sIx (n d:Nat):Option Int->Nat
 |none=>d
 |some v=>if v<0 then (v+(n:Int)).toNat else min v.toNat n
end
end HT
namespace L2
open PySem PySem.Spec PyProof.Rows
abbrev TO:=St->Hp->(Option Int->Hp->Prop)->Prop
def PO (X:Cx)(e:Option Expr)(t:TO):Prop :=
 ∀(pins:List (Addr×Obj))(s:Ae)(σ:St)(H:Hp)(Q:Option Int->Hp->Prop),Inv X pins σ H s->t σ H Q ->
  wpAny (model X.prog X.w) X.A (evalPart e X.env) (λu s'=>∃o H',Inv X pins σ H' s'/\IsPart u o/\Q o H') X.xe s
def tNoPart:TO:=λ_ H Q=>Q none H
def tPart (t:TE):TO:=λσ H Q=>t σ H λx H1=>∃i,x=.int i/\Q (some i) H1
section
variable {X:Cx}{e:Expr}{te:TE}{lo hi:Option Expr}{tl th:TO}{pos p2:Pos}
theorem qoh:PO X none tNoPart:=by intro pins s σ H Q I h;rw[evalPart_none];exact AO ⟨none,H,I,.none,h⟩
theorem qoi (h:PE X e te):PO X (some e) (tPart te):=by intro a s σ H Q I j;rw[evalPart_some];refine thn (h a s σ H _ I j) λu s1 b=>?_;obtain⟨x,g,c,f,d⟩:=b;obtain⟨i,rfl,q⟩:=d;obtain⟨t,rfl⟩:=f;exact⟨some i,g,c,.int i t,q⟩
def SlR (X:Cx)(r:V->Option Int->Option Int->Hp->VK->Prop):Prop :=
 ∀(pins:List (Addr×Obj))(s:Ae)(σ:St)(H:Hp)(x:V)(v vl vu:Value)(lo hi:Option Int)(sl:Addr)(Q:VK),Inv X pins σ H s->RelV x v->s.heap.IsSliceOf sl vl vu .none->IsPart vl lo->IsPart vu hi->r x lo hi H Q ->
  ∃T id,typeLookup (.type T) "__getitem__"=pure (some (.builtin id))/\s.TypeIs v T/\wpAny (model X.prog X.w) X.A (getItem v (.ref sl)) (EP X pins σ Q) X.xe s
def tSl (r:V->Option Int->Option Int->Hp->VK->Prop)(te:TE)(tl th:TO):TE:=λσ H Q=>te σ H λx H1=>tl σ H1 λl H2=>th σ H2 λu H3=>r x l u H3 Q
theorem qk5 {r:V->Option Int->Option Int->Hp->VK->Prop}(z:SlR X r)(k:PE X e te)(F:PO X lo tl)(B:PO X hi th):PE X (.Subscript e (.Slice lo hi none p2) pos) (tSl r te tl th):=by intro a s σ H Q I h;refine Subscript_ (thn (k a s σ H _ I h) λv C d=>?_);obtain⟨x,K,n,G,D⟩:=d;refine wpAny_Slice (thn (F a C σ K _ n D) λg p ⟨l,t,m,pl,j⟩=>thn (B a p σ t _ m j) λf c d=>?_);obtain⟨u,i,M,J,L⟩:=d;rw[evalPart_none];refine AO ?_;have o:Inv X a σ i {c with heap:=c.heap.push {cls:=.type "slice",data:=.fields #[g,f,.none]} }:=M.kept (t':=c.toks) λb ob q=>Ao _ q;obtain⟨T,id,y,E,N⟩:=z a {c with heap:=c.heap.push {cls:=.type "slice",data:=.fields #[g,f,.none]} } σ i x v g f l u c.heap.objs.size Q o G (Heap.IsSliceOf.new ..) pl J L;show wpAny (model X.prog X.w) X.A (subscriptTail e (.Slice lo hi none p2) v (.ref c.heap.objs.size)) (EP X a σ Q) X.xe {c with heap:=c.heap.push {cls:=.type "slice",data:=.fields #[g,f,.none]} };exact tail_any (ops:=[.ref c.heap.objs.size,v]) E y N (by with_unfolding_all rfl)
def qp1 (xs:List V)(lo hi:Option Int):List V:=(xs.drop (HT.sIx xs.length 0 lo)).take (HT.sIx xs.length xs.length hi-HT.sIx xs.length 0 lo)
theorem qp2 (xs:List V)(lo a:Option Int):(qp1 xs lo a).length<=xs.length:=by unfold qp1;rw[Bv,C6];lia
end
end L2
namespace L2
open PySem PySem.Spec PyProof.Rows
noncomputable def ixN (n:Nat)(i:Int):Option Nat:=if 0<=i then (if i<n then some i.toNat else none) else if -(n:Int)<=i then some (i+n).toNat else none
def atI {α:Type}(xs:List α)(i:Int):Option α:=(ixN xs.length i).bind λj=>xs[j]?
theorem qs7 {n:Nat}{i:Int}{j:Nat}(h:ixN n i=some j):seqIndex? i n=some j/\j<n /\ -(n:Int)<=i/\i<n:=by
 unfold ixN at h;by_cases b:0<=i
 .rw[if_pos b]at h;by_cases a:i<n
  .rw[if_pos a]at h;have e:i.toNat=j:=AE h;exact⟨by rw[seqIndex_of b a,e],by lia,by lia,a⟩
  .rw[if_neg a]at h;cases h
 .rw[if_neg b]at h;by_cases a : -(n:Int)<=i
  .rw[if_pos a]at h;have e:(i+n).toNat=j:=AE h;exact⟨by rw[seqIndex_neg (by lia) a,e],by lia,a,by lia⟩
  .rw[if_neg a]at h;cases h
theorem qoj {α:Type}{xs:List α}{i:Int}{v:α}(h:atI xs i=some v):∃j,seqIndex? i xs.length=some j/\xs[j]?=some v/\j<xs.length /\ -(xs.length:Int)<=i/\i<xs.length:=by
 unfold atI at h;cases e:ixN xs.length i with
 |none=>rw[e]at h;cases h
 |some j =>rw[e]at h;obtain⟨a,d,b,c⟩:=qs7 e;exact⟨j,a,h,d,b,c⟩
theorem qbj {α:Type}{xs:List α}{j:Nat}{v:α}(h:xs[j]?=some v):atI xs (j:Int)=some v:=by
 have hj:j<xs.length:=(Ac.mp h).1;have e:ixN xs.length (j:Int)=some j:=by unfold ixN;rw[if_pos (by lia),if_pos (by lia)];simp
 unfold atI;rw[e];exact h
theorem qd2 {α:Type}(xs:List α)(v:α):atI (xs++[v]) (-1)=some v:=by
 have a:(xs++[v]).length=xs.length+1:=by simp
 have e:ixN (xs++[v]).length (-1)=some xs.length:=by
  unfold ixN;rw[a,if_neg Uk,if_pos (by lia)]
  congr 1
  lia
 unfold atI;rw[e];show (xs++[v])[xs.length]?=some v;simp
def PlainIx (b:Expr):Prop:=∀o i,subscripted b false o i=operate [o,i] (getItem o i)
def IxR (X:Cx)(r:R2):Prop :=
 ∀(value slice:Expr)(pins:List (Addr×Obj))(s:Ae)(σ:St)(H:Hp)(x y:V)(v u:Value)(Q:VK),Inv X pins σ H s->RelV x v->RelV y u->r x y H Q ->
  subscripted slice false v u=operate [v,u] (getItem v u)->wpAny (model X.prog X.w) X.A (subscriptTail value slice v u) (EP X pins σ Q) X.xe s
def MtR (X:Cx)(id:String)(r:V->List V->Hp->VK->Prop):Prop :=
 ∀(pins:List (Addr×Obj))(s:Ae)(σ:St)(H:Hp)(x:V)(xs:List V)(v:Value)(us:List Value)(Q:VK),Inv X pins σ H s->RelV x v->Vals xs us->r x xs H Q ->
  wpAny (model X.prog X.w) X.A (call (.builtin id) (v::us)) (EP X pins σ Q) X.xe s
section
variable {X:Cx}{a b:Expr}{ta tb:TE}{pos:Pos}
theorem zo {r:R2}(k:IxR X r)(f:PE X a ta)(d:PE X b tb)(l:PlainIx b):PE X (.Subscript a b pos) (tOp r ta tb):=by intro c s σ H Q I h;exact Subscript_ (binT f d I h λv u g x y i e j m q=>k a b c g σ i x y v u Q e j m q (l _ _))
def rIxL (K:Ag):R2:=λx y H Q=>∃p xs i v,x=.ref p/\y=.int i/\SqL K H p xs/\atI xs i=some v/\Q v H
def rIxT (K:Ag):R2:=λx y H Q=>∃p xs i v,x=.ref p/\y=.int i/\SqT K H p xs/\atI xs i=some v/\Q v H
def rIxS:R2:=λx y H Q=>∃z i c,x=.str z/\y=.int i/\z.length<=A6/\atI z.cps.toList i=some c/\Q (.str ⟨#[c]⟩) H
theorem zq:IxR X (rIxL X.K):=by
 intro value slice a s σ H x y v u Q I o E h e;obtain⟨p,xs,i,z,rfl,rfl,A,m,q⟩:=h;cases o;obtain⟨t,rfl⟩:=E;obtain⟨its,r,pl,hz⟩:=I.list A;obtain⟨j,b,D,h3,B,l⟩:=qoj m;obtain⟨w,f,g⟩:=r.get D;have C:=r.length;have hn:=qi5;have c:EP X a σ Q w s:=⟨z,H,I,g,q⟩;by_cases k:0<=i
 .have d:i.toNat=j:=by
   rw[seqIndex_of k l]at b
   exact AE b
  exact item_listR pl.isList k (by lia) (by rw[d];simpa using f) c e
 .have d:(i+(its.toArray.size:Int)).toNat=j:=by
   rw[seqIndex_neg (by lia) B]at b
   rw[Ak,<- C]
   exact AE b
  exact subscriptTail_builtinR (x:=w) pl.isList.typeIs slot_list_getitem.lookup
   (wpAny_getItem_list_neg (Q:=λr n=>r=w/\EP X a σ Q r n) pl.isList (by lia) (by rw[Ak] <;>lia) (by lia) (by rw[d];simpa using f) ⟨Z,c⟩) e
theorem zp:IxR X (rIxT X.K):=by
 intro value slice a s σ H x y v u Q I g A h l;obtain⟨p,xs,i,z,rfl,rfl,k,e,q⟩:=h;cases g;obtain⟨t,rfl⟩:=A;obtain⟨its,r,pl,hz⟩:=I.tuple k;obtain⟨j,d,n,h3,h4,h5⟩:=qoj e;obtain⟨w,o,c⟩:=r.get n;have m:=r.length;have hn:=qi5;have b:EP X a σ Q w s:=⟨z,H,I,c,q⟩;exact subscriptTail_builtinR (x:=w) pl.typeIs slot_tuple_getitem.lookup
  (getItem_tuple (j:=j) (Q:=λr f=>r=w/\EP X a σ Q r f) pl (by lia) (by lia) (by rw[Ak,<- m];exact d) (by simpa using o) ⟨Z,b⟩) l
theorem ix_str:IxR X rIxS:=by
 intro value slice pins s σ H x y v u Q I f n h k;obtain⟨z,i,c,rfl,rfl,hz,d,q⟩:=h;obtain⟨t,rfl⟩:=f;obtain⟨t',rfl⟩:=n;obtain⟨j,a,m,h3,g,b⟩:=qoj d;have l:z.cps.toList.length=z.length:=by simp[Str.length]
 rw[l]at a g b;have hn:=qi5;exact tail_any (typeIs_str s z t) slot_str_getitem.lookup (getItem_str (c:=c) (by have e:decide (i < -(2 ^ 63:Int))=false:=decide_eq_false (by lia);have o:decide (i ≥ 2 ^ 63)=false:=decide_eq_false (by lia);rw[e,o,Eg]) (by rw[a];simpa using m) ⟨.str ⟨#[c]⟩,H,I.tok _,⟨_,Z⟩,q⟩) k
theorem qrx (its:List Value)(n j:Nat)(u:Value):B7 (·.setIfInBounds j u) {cls:=.type "list",data:=.seq its.toArray n}={cls:=.type "list",data:=.seq (its.set j u).toArray n}:=by simp[B7]
theorem Inv.lst {a:List (Addr×Obj)}{σ:St}{H:Hp}{s:Ae}{p:Addr}{xs:List V}(I:Inv X a σ H s)(h:H p=some (.lst xs)) :
  ∃(its:List Value)(n:Nat),Vals xs its/\s.heap.get? p=some {cls:=.type "list",data:=.seq its.toArray n}/\xs.length<=A6:=by
 obtain⟨z,its,n,r,e⟩:=I.hok p _ h;exact⟨its,n,r,e,z⟩
theorem Inv.lstUpd {a:List (Addr×Obj)}{σ:St}{H:Hp}{s:Ae}{p:Addr}{xs ys:List V}{its its':List Value}{n c:Nat}{f:Obj->Obj}(I:Inv X a σ H s)(h:H p=some (.lst xs))
  (g:s.heap.get? p=some {cls:=.type "list",data:=.seq its.toArray n})(hf:f {cls:=.type "list",data:=.seq its.toArray n}={cls:=.type "list",data:=.seq its'.toArray c})(r:Vals ys its')(hz:ys.length<=A6)(t:Nat) :
  Inv X a σ (upd H p (.lst ys)) {s with heap:=s.heap.update p f,toks:=t}:=by
 have e:(s.heap.update p f).get? p=some {cls:=.type "list",data:=.seq its'.toArray c}:=by rw[Heap.get?_update_self f g (by rw[hf] <;>rfl),hf]
 refine I.write (x:=p) (e:=p) (by rw[h];trivial) (.inl Z) (λb u d q=>(Dv _ _ (B4 d)).trans q) ⟨_,e⟩ ?_;exact⟨hz,its',c,r,e⟩
def rSetL:V->V->V->Hp->(Hp->Prop)->Prop:=λo i v H Q=>∃p xs k j,o=.ref p/\i=.int k/\H p=some (.lst xs)/\ixN xs.length k=some j/\Q (upd H p (.lst (xs.set j v)))
theorem qwh:PSet X rSetL:=by
 intro e s σ H o i v ov iv u Q I x z rv h;obtain⟨p,xs,k,j,rfl,rfl,w,y,q⟩:=h;cases x;obtain⟨t,rfl⟩:=z;obtain⟨its,n,r,c,hz⟩:=I.lst w;obtain⟨a,h2,m,l⟩:=qs7 y;have d:=r.length;have hn:=qi5;have g:Inv X e σ (upd H p (.lst (xs.set j v))) {s with heap:=s.heap.update p (B7 (·.setIfInBounds j u))} :=
  I.lstUpd w c (qrx its n j u) (r.set rv j) (by rw[List.length_set];exact hz) s.toks
 by_cases f:0<=k
 .have b:k.toNat=j:=by
   rw[seqIndex_of f l]at a
   exact AE a
  exact PySem.W.ki_setAt c f (by lia) (by rw[Ak,<- d];exact l) (by rw[b];exact⟨_,g,q⟩)
 .have b:(k+(its.toArray.size:Int)).toNat=j:=by
   rw[seqIndex_neg (by lia) m]at a
   rw[Ak,<- d]
   exact AE a
  exact PySem.W.ki_setBack c (by lia) (by rw[Ak,<- d];exact m) (by lia) (by rw[b];exact⟨_,g,q⟩)
theorem qok (lo a:Option Int)(n:Nat):(sliceBounds lo a none n).1=((HT.sIx n 0 lo:Nat):Int)/\(sliceBounds lo a none n).2.1=((HT.sIx n n a:Nat):Int)/\(sliceBounds lo a none n).2.2=1:=by
 refine⟨?_,?_,Z⟩
 .cases lo with
  |none=>simp[sliceBounds,HT.sIx]
  |some i =>
   simp only[sliceBounds,HT.sIx,Option.getD_none,show (1:Int) > 0 by decide,if_true];by_cases h:i<0
   .simp only[h,if_true] <;>lia
   .simp only[h,if_false] <;>lia
 .cases a with
  |none=>simp[sliceBounds,HT.sIx]
  |some i =>
   simp only[sliceBounds,HT.sIx,Option.getD_none,show (1:Int) > 0 by decide,if_true];by_cases h:i<0
   .simp only[h,if_true] <;>lia
   .simp only[h,if_false] <;>lia
theorem qmt (its:List Value)(lo a:Option Int):slicePick its.toArray lo a none=((its.drop (HT.sIx its.length 0 lo)).take (HT.sIx its.length its.length a-HT.sIx its.length 0 lo)).toArray:=by obtain⟨b,d,c⟩:=qok lo a its.toArray.size;unfold slicePick;rw[b,d,c];simp only[sliceRange_one,pick_run,Ak] <;>rfl
def rSlL (K:Ag):V->Option Int->Option Int->Hp->VK->Prop:=λx lo hi H Q=>∃a xs,x=.ref a/\SqL K H a xs/\∀p,H p=none->Q (.ref p) (upd H p (.lst (qp1 xs lo hi)))
theorem qol:SlR X (rSlL X.K):=by intro pins s σ H x v vl vu lo c sl Q I f i pl j h;obtain⟨a,xs,rfl,g,q⟩:=h;cases f;obtain⟨its,r,e,hz⟩:=I.list g;have d:=r.length;refine⟨"list",_,slot_list_getitem.lookup,e.isList.typeIs,?_⟩;refine wpAny_getItem_list_slice e.isList i pl j .none (by simp) ?_ (by rw[Ak] <;>lia);rw[qmt,<- d];refine⟨.ref s.heap.objs.size,_,I.laid (t':=s.toks) (o:=.lst (qp1 xs lo c)) (λb ob q=>Ao _ q) (Am _) ?_,Z,q _ (I.hok.fresh (Am _))⟩;exact⟨A5 (qp2 xs lo c) hz,_,0,(r.drop (HT.sIx xs.length 0 lo)).take (HT.sIx xs.length xs.length c-HT.sIx xs.length 0 lo),AR _ Z⟩
noncomputable def qbt:V->Bool
 |.non=>true
 |.bl _=>true
 |.int _=>true
 |.str _=>true
 |_=>false
noncomputable def eqV:V->V->Bool
 |.non,.non=>true
 |.bl a,.bl b=>a == b
 |.bl a,.int b=>(if a then 1 else 0) == b
 |.int a,.bl b=>a == (if b then 1 else 0)
 |.int a,.int b=>a == b
 |.str a,.str b=>a == b
 |_,_=>false
theorem qom {A:AQ}{s:Ae}{y x:V}{u v:Value}(e:RelV y u)(c:RelV x v)(fy:qbt y=true)(d:qbt x=true):Bd A s u v (eqV y x):=by
 cases y with
 |non =>
  cases e;cases x with
  |non=>cases c;exact Bd.same _
  |bl b=>cases c;exact Bd.none_bool b
  |int b=>obtain⟨t,rfl⟩:=c;exact Bd.none_int b t
  |str b=>obtain⟨t,rfl⟩:=c;exact Bd.none_str b t
  |_=>exact absurd (show false=true from d) AF
 |bl a =>
  cases e;cases x with
  |non=>cases c;exact Bd.bool_none a
  |bl b=>cases c;exact Bd.bool_bool a b
  |int b=>obtain⟨t,rfl⟩:=c;exact Bd.bool_int a b t
  |str b=>obtain⟨t,rfl⟩:=c;exact Bd.bool_str a b t
  |_=>exact absurd (show false=true from d) AF
 |int a =>
  obtain⟨t',rfl⟩:=e;cases x with
  |non=>cases c;exact Bd.int_none a t'
  |bl b=>cases c;exact Bd.int_bool a t' b
  |int b=>obtain⟨t,rfl⟩:=c;exact Bd.int_int a t' b t
  |str b=>obtain⟨t,rfl⟩:=c;exact Bd.int_str a t' b t
  |_=>exact absurd (show false=true from d) AF
 |str a =>
  obtain⟨t',rfl⟩:=e;cases x with
  |non=>cases c;exact Bd.str_none a t'
  |bl b=>cases c;exact Bd.str_bool a t' b
  |int b=>obtain⟨t,rfl⟩:=c;exact Bd.str_int a t' b t
  |str b=>obtain⟨t,rfl⟩:=c;exact Bd.str_str a t' b t
  |_=>exact absurd (show false=true from d) AF
 |_=>exact absurd (show false=true from fy) AF
def eqU (x:V)(u:Value):Bool:=match u with
 |.none=>eqV .non x
 |.bool b=>eqV (.bl b) x
 |.int i _=>eqV (.int i) x
 |.str z _=>eqV (.str z) x
 |_=>false
theorem qwi {x y:V}{u:Value}(r:RelV y u)(f:qbt y=true):eqU x u=eqV y x:=by
 cases y with
 |non=>cases r;rfl
 |bl b=>cases r;rfl
 |int i=>obtain⟨t,rfl⟩:=r;rfl
 |str z=>obtain⟨t,rfl⟩:=r;rfl
 |_=>exact absurd (show false=true from f) AF
theorem qh7 {x:V}:∀{xs:List V}{us:List Value},Vals xs us->xs.all qbt=true->us.any (eqU x)=xs.any λy=>eqV y x
 |_,_,.nil,_=>rfl
 |y::xs,u::us,.cons r t,f=>by rw[List.all_cons,BF]at f;rw[D8,D8,qwi r f.1,qh7 t f.2]
theorem qf6 {A:AQ}{s:Ae}{x:V}{v:Value}(c:RelV x v)(b:qbt x=true):∀{xs:List V}{us:List Value},Vals xs us->xs.all qbt=true->∀u∈us,Bd A s u v (eqU x u)
 |_,_,.nil,_=>λu a=>by cases a
 |y::xs,u::us,.cons r t,f=>λu' a=>by
  rw[List.all_cons,BF]at f;rcases Aq.mp a with rfl|a
  .rw[qwi r f.1];exact qom r c f.1 b
  .exact qf6 c b t f.2 u' a
def inV (x:V)(xs:List V):Bool:=xs.any λy=>eqV y x
def rIn (K:Ag)(neg:Bool):R2:=λx y H Q=>∃p xs,y=.ref p/\(SqL K H p xs\/SqT K H p xs)/\qbt x=true/\xs.all qbt=true/\Q (.bl (if neg then !inV x xs else inV x xs)) H
theorem qct:OpR X (compareOp .In) (rIn X.K false):=by
 intro pins s σ H x y v u Q I c e h;obtain⟨p,xs,rfl,a,d,fs,q⟩:=h;cases e;rcases a with a|a
 .obtain⟨its,r,pl,hz⟩:=I.list a;refine SeqAt.in_listAt (eqU x) pl.isList (λw b=>qf6 c d r fs w (by simpa using b)) ⟨.bl _,H,I,Z,?_⟩;rw[show its.toArray.any (eqU x)=its.any (eqU x) by simp,qh7 r fs];exact q
 .obtain⟨its,r,pl,hz⟩:=I.tuple a;refine SeqAt.in_tupleAt (eqU x) pl (λw b=>qf6 c d r fs w (by simpa using b)) ⟨.bl _,H,I,Z,?_⟩;rw[show its.toArray.any (eqU x)=its.any (eqU x) by simp,qh7 r fs];exact q
theorem qh8:OpR X (compareOp .NotIn) (rIn X.K true):=by
 intro pins s σ H x y v u Q I c e h;obtain⟨p,xs,rfl,a,d,fs,q⟩:=h;cases e;rcases a with a|a
 .obtain⟨its,r,pl,hz⟩:=I.list a;refine SeqAt.notIn_listAt (eqU x) pl.isList (λw b=>qf6 c d r fs w (by simpa using b)) ⟨.bl _,H,I,Z,?_⟩;rw[show its.toArray.any (eqU x)=its.any (eqU x) by simp,qh7 r fs];exact q
 .obtain⟨its,r,pl,hz⟩:=I.tuple a;refine SeqAt.notIn_tupleAt (eqU x) pl (λw b=>qf6 c d r fs w (by simpa using b)) ⟨.bl _,H,I,Z,?_⟩;rw[show its.toArray.any (eqU x)=its.any (eqU x) by simp,qh7 r fs];exact q
theorem qe7:qh5 X (.type "list") (λxs H Q=>∃p ys,xs=[.ref p]/\(SqL X.K H p ys\/SqT X.K H p ys)/\∀l,H l=none->Q (.ref l) (upd H l (.lst ys))):=by
 intro m s σ H xs us Q I r h;obtain⟨p,ys,rfl,d,q⟩:=h;obtain⟨u,rfl,t⟩:=qne r;cases t;have f:∀(its:List Value),Vals ys its->ys.length<=A6->∀(h':Heap)(c:Nat),(∀b o',s.heap.get? b=some o'->h'.get? b=some o') ->
   h'.get? s.heap.objs.size=some {cls:=.type "list",dict:=none,data:=.seq its.toArray c,slots:=#[]}->EP X m σ Q (.ref s.heap.objs.size) {s with heap:=h'}:=λits a hz h' c kp e =>
  ⟨.ref s.heap.objs.size,_,I.laid (t':=s.toks) kp (Am _) (show ObjOk X.prog X.w _ h' _ (.lst ys) from ⟨hz,its,c,a,e⟩),Z,q _ (I.hok.fresh (Am _))⟩
 rcases d with d|d
 .obtain⟨its,a,pl,hz⟩:=I.list d;have j:=a.length;obtain⟨o,i,k,n,g⟩:=pl.isList;exact call_list_seq p (.inl Z) i k g (λh' c kp e=>f its a hz h' c kp e) (by simp only[Ak] <;>lia)
 .obtain⟨its,a,pl,hz⟩:=I.tuple d;have j:=a.length;obtain⟨o,i,k,n,g⟩:=pl;exact call_list_seq p (.inr Z) i k g (λh' c kp e=>f its a hz h' c kp e) (by simp only[Ak] <;>lia)
def tyV (K:Ag)(T:String)(x:V)(H:Hp):Prop:=match x with
 |.str _=>T = "str"
 |.int _=>T = "int"
 |.ref p=>(T = "list" /\ ∃xs,SqL K H p xs)\/(T = "tuple" /\ ∃o,K.lookup p=some o/\o.cls=.type "tuple" /\ o.dict=none) \/
   (T = "dict" /\ ((∃kvs,H p=some (.dK kvs)) \/ ∃kvs,H p=some (.dT kvs)))\/(T = "set" /\ ∃S n,H p=some (.set S n))
 |_=>False
theorem qwj {f:List (Addr×Obj)}{σ:St}{H:Hp}{s:Ae}{T:String}{x:V}{v:Value}(I:Inv X f σ H s)(r:RelV x v)(ty:tyV X.K T x H) :
  s.TypeIs v T/\∀a,v=.ref a->∃ob,s.heap.get? a=some ob/\ob.dict=none:=by
 cases x with
 |str z =>obtain⟨t,rfl⟩:=r;cases (show T = "str" from ty);exact⟨typeIs_str s z t,λ_ e=>nomatch e⟩
 |int i =>obtain⟨t,rfl⟩:=r;cases (show T = "int" from ty);exact⟨typeIs_int s i t,λ_ e=>nomatch e⟩
 |ref p =>
  cases r;rcases ty with ⟨rfl,xs,h⟩|⟨rfl,o,b,j,d⟩|⟨rfl,b⟩|⟨rfl,S,n,b⟩
  .obtain⟨its,_,pl,_⟩:=I.list h;refine⟨pl.isList.typeIs,λa e=>?_⟩;cases e;obtain⟨o,n,e,c,d,_⟩:=pl;exact⟨o,e,d⟩
  .refine⟨⟨o,I.kIn p o b,j⟩,λa e=>?_⟩;cases e;exact⟨o,I.kIn _ o b,d⟩
  .have z:∃o,s.heap.get? p=some o/\o.ExactDict:=by
    rcases b with ⟨kvs,b⟩|⟨kvs,b⟩
    .obtain⟨_,_,_,_,o,_,_,e,ex,_⟩:=I.hok p _ b;exact⟨o,e,ex⟩
    .obtain⟨_,_,_,_,o,_,_,e,ex,_⟩:=I.hok p _ b;exact⟨o,e,ex⟩
   obtain⟨o,e,ex⟩:=z
   refine⟨⟨o,e,ex.1⟩,λa g=>?_⟩
   cases g
   exact⟨o,e,ex.2.1⟩
  .obtain⟨o,_,_,_,e,ex,_⟩:=I.hok p _ b;refine⟨⟨o,e,ex.1⟩,λa g=>?_⟩;cases g;exact⟨o,e,ex.2.1⟩
 |_=>exact Cw ty
def tBM0 (K:Ag)(T:String)(r:V->List V->Hp->VK->Prop)(to:TE):TE:=λσ H Q=>to σ H λx H1=>tyV K T x H1/\r x [] H1 Q
def tBM (K:Ag)(T:String)(r:V->List V->Hp->VK->Prop)(to:TE)(t:TA):TE:=λσ H Q=>to σ H λx H1=>tyV K T x H1/\t σ H1 λxs H2=>r x xs H2 Q
variable {o e:Expr}{es:List Expr}{to:TE}{t:TA}{name:Str}{apos cpos:Pos}{T id:String}{r:V->List V->Hp->VK->Prop}
theorem qwk (m:PlainAttrs T)(c:Slot T name id)(e:typeOf (.builtin id)=pure (.type "method_descriptor"))(n:MtR X id r)(k:PE X o to)
  (b:attributeBase o name X.env (eval o X.env)=eval o X.env:=by rfl)(hline:(apos.endLine == cpos.line)=true:=by rfl):PE X (.Call (.Attribute o name apos) [] [] cpos) (tBM0 X.K T r to):=by
 intro a s σ H Q I h;refine wpAny_Call_method0_late b hline (thn (k a s σ H _ I h) λv j g=>?_);obtain⟨x,q,d,f,ty,l⟩:=g;obtain⟨i,p⟩:=qwj d f ty;exact⟨T,id,m,c,e,i,p,CV Z (PySem.evalArgs_none (n a j σ q x [] v [] Q d f .nil l))⟩
theorem qca (B:PlainAttrs T)(d:Slot T name id)(i:typeOf (.builtin id)=pure (.type "method_descriptor"))(C:MtR X id r)(z:PE X o to)(q:PA X (e::es) t)
  (c:attributeBase o name X.env (eval o X.env)=eval o X.env:=by rfl)
  (hfew:((backTo cpos (starEach (e::es) X.env)).all (λx=>!x.1) && (backToKw cpos (keywordEach [] X.env)).all (λx=>x.1.isSome)
   && decide ((e::es).length+([]:List Eo).length+(if ([]:List Eo).isEmpty then 0 else 1)<30))=true:=by rfl)
  (hline:(apos.endLine == cpos.line)=true:=by rfl)(hs:starEach (e::es) X.env=(false,eval e X.env)::starEach es X.env:=by rfl)(hplain:(backTo cpos (starEach es X.env)).any (·.1)=false:=by rfl) :
  PE X (.Call (.Attribute o name apos) (e::es) [] cpos) (tBM X.K T r to t):=by
 intro b s σ H Q I h;refine wpAny_Call_method_late c hfew hline rfl (thn (z b s σ H _ I h) λv y k=>?_);obtain⟨x,E,f,j,ty,A⟩:=k;obtain⟨l,D⟩:=qwj f j ty;refine⟨T,id,B,d,i,l,D,?_⟩;have g:=q cpos b y σ E _ f A;rw[hs]at g |-;refine CV (by show (false || (backTo cpos (starEach es X.env)).any (·.1))=false;rw[hplain] <;>rfl) (DC ?_);exact thn g λus u ⟨vs,w,p,F,n⟩=>C b u σ w x vs v us Q p j F n
/- xs.append(e),list.index on a module's tuple .. are MtR facts of 06m -/
end
end L2
namespace L2
open PySem PySem.Spec PyProof.Rows
def MtM (X:Cx)(id:String)(r:V->List V->Hp->VK->Prop):Prop :=
 ∀(pins:List (Addr×Obj))(s:Ae)(σ:St)(H:Hp)(x:V)(xs:List V)(v:Value)(us:List Value)(Q:VK),Inv X pins σ H s->RelV x v->Vals xs us->r x xs H Q ->
  wpAny (model X.prog X.w) X.A (call (.builtin id) (v::us)) (EP X pins σ Q) X.xe s
theorem Vals.one {x:V}{us:List Value}(h:Vals [x] us):∃u,us=[u]/\RelV x u:=by cases h with|cons r t=>cases t;exact⟨_,Z,r⟩
theorem Vals.two {x y:V}{us:List Value}(h:Vals [x,y] us):∃u v,us=[u,v]/\RelV x u/\RelV y v:=by cases h with|cons r t=>cases t with|cons q t=>cases t;exact⟨_,_,Z,r,q⟩
theorem Vals.zero:∀{us:List Value},Vals [] us->us=[]
 |_,.nil=>rfl
theorem Vals.dropLast {xs:List V}{us:List Value}(h:Vals xs us):Vals xs.dropLast us.dropLast:=by
 induction h with
 |nil=>exact .nil
 |cons r t ih =>
  cases t with|nil=>exact .nil|cons q t'=>exact .cons r ih
theorem Vals.reverse {xs:List V}{us:List Value}(h:Vals xs us):Vals xs.reverse us.reverse:=by
 induction h with
 |nil=>exact .nil
 |cons r t ih=>rw[Dc,Dc];exact Vals.append ih (.cons r .nil)
theorem qry {α:Type}(l:List α):l.eraseIdx (l.length-1)=l.dropLast:=by
 induction l with
 |nil=>rfl
 |cons a r ih =>
  cases r with
  |nil=>rfl
  |cons b r =>
   have e:(a::b::r).length-1=((b::r).length-1)+1:=by have h1:(a::b::r).length=r.length+2:=rfl;have h2:(b::r).length=r.length+1:=rfl;lia
   rw[e,List.eraseIdx_cons_succ,ih];all_goals rfl
section
variable {X:Cx}{pins:List (Addr×Obj)}{σ:St}{H:Hp}{s:Ae}{l b:Addr}{xs ys zs:List V}
theorem Inv.lset {its its':List Value}{n:Nat}{f:Array Value->Array Value}{t':Nat}(I:Inv X pins σ H s)(a:H l=some (.lst xs))
  (e:s.heap.get? l=some {cls:=.type "list",data:=.seq its.toArray n})(hf:f its.toArray=its'.toArray)(hv:Vals ys its')(hz:ys.length<=A6) :
  Inv X pins σ (upd H l (.lst ys)) {s with heap:=s.heap.update l (B7 f),toks:=t'}:=by
 have q:=PySem.IsL.update e f;rw[hf]at q;refine I.write (x:=l) (e:=l) (by rw[a];exact trivial) (.inl Z) (λb' u c b=>(Dv s.heap (B7 f) (B4 c)).trans b) ⟨_,q⟩ ?_;exact⟨hz,its',_,hv,q⟩
theorem Inv.lnew {its:List Value}{t':Nat}(I:Inv X pins σ H s)(a:Vals ys its)(hz:ys.length<=A6) :
  Inv X pins σ (upd H s.heap.objs.size (.lst ys)) {s with heap:=s.heap.push {cls:=.type "list",data:=.seq its.toArray},toks:=t'} :=
 I.laid (λ_ _ q=>Ao _ q) (Am _) ⟨hz,its,0,a,AR _ Z⟩
theorem Inv.fresh (I:Inv X pins σ H s):H s.heap.objs.size=none:=I.hok.fresh (Am _)
theorem Inv.lstM (I:Inv X pins σ H s)(a:H l=some (.lst xs)):xs.length<=A6/\∃(its:List Value)(n:Nat),Vals xs its/\xs.length=its.length/\s.heap.get? l=some {cls:=.type "list",data:=.seq its.toArray n}:=by obtain⟨z,its,n,r,e⟩:=I.hok l _ a;exact⟨z,its,n,r,r.length,e⟩
theorem qk6 {n:Nat}(h:n<=A6):BL.List.listTooLong n=false:=by unfold BL.List.listTooLong;exact decide_eq_false (by lia)
end
section
variable {X:Cx}
def rAppend:V->List V->Hp->VK->Prop:=λx vs H Q=>∃l xs y,x=.ref l/\vs=[y]/\H l=some (.lst xs)/\xs.length<A6/\Q .non (upd H l (.lst (xs++[y])))
theorem qao:MtM X "list.append" rAppend:=by intro pins s σ H x vs v us Q I c rv h;obtain⟨l,xs,y,rfl,rfl,a,hz,q⟩:=h;cases c;obtain⟨u,rfl,b⟩:=rv.one;obtain⟨z,its,n,r,hl,e⟩:=I.lstM a;refine DT F.slot_list_append ⟨_,e,Z⟩ F.entry_list_append (F.args_list_append_2 _ _) (PySem.list_append l its.toArray n u (by rw[Ak];lia)) ⟨e,?_⟩;refine⟨.non,_,I.lset (its':=its++[u]) a e (by simp) (r.append (.cons b .nil)) ?_,Z,q⟩;rw[Af,AW];lia
def rExtend:V->List V->Hp->VK->Prop:=λx vs H Q=>∃l b xs zs,x=.ref l/\vs=[.ref b]/\H l=some (.lst xs)/\H b=some (.lst zs)/\xs.length+zs.length<=A6/\Q .non (upd H l (.lst (xs++zs)))
theorem qnk:MtM X "list.extend" rExtend:=by
 intro pins s σ H x vs v us Q I i rv h;obtain⟨l,b,xs,zs,rfl,rfl,d,g,hz,q⟩:=h;cases i;obtain⟨u,rfl,f⟩:=rv.one;cases f;obtain⟨z,its,n,r,hl,e⟩:=I.lstM d;obtain⟨z2,a,j,k,hl2,m⟩:=I.lstM g;have hsz:its.toArray.size+a.toArray.size<=A6:=by rw[Ak,Ak];lia
 have c:¬(!its.toArray.isEmpty && BL.List.listTooLong (its.toArray.size+a.toArray.size))=true:=by rw[qk6 hsz,Cs];exact AF
 refine DT F.slot_list_extend ⟨_,e,Z⟩ F.entry_list_extend (F.args_list_extend_2 _ _)
  (AutoSeq1.list_extend_list_list_0 l its.toArray n b a.toArray j c (by rw[Ak];lia) (by lia)) ⟨e,m,?_⟩
 refine⟨.non,_,I.lset (its':=its++a) d e (by simp) (r.append k) ?_,Z,q⟩;rw[Af];lia
def rPop:V->List V->Hp->VK->Prop:=λx vs H Q=>∃l xs y,x=.ref l/\vs=[]/\H l=some (.lst xs)/\xs[xs.length-1]?=some y/\Q y (upd H l (.lst xs.dropLast))
theorem mt_pop:MtM X "list.pop" rPop:=by
 intro pins s σ H x vs v us Q I f rv h;obtain⟨l,xs,y,rfl,rfl,a,j,q⟩:=h;cases f;have b:=rv.zero;subst b;obtain⟨z,its,n,r,i,e⟩:=I.lstM a;obtain⟨u,g,d⟩:=r.get j;have c:its.toArray[its.toArray.size-1]?=some u:=by show its.toArray[its.length-1]?=some u;rw[<- Array.getElem?_toList,<- i];exact g
 refine DT F.slot_list_pop ⟨_,e,Z⟩ F.entry_list_pop (F.args_list_pop_1 _) (MeetsSeq.list_pop_last l its.toArray n u c (by rw[Ak];lia)) ⟨e,?_⟩;refine⟨y,_,I.lset (its':=its.dropLast) a e ?_ r.dropLast ?_,d,q⟩
 .show its.toArray.eraseIdxIfInBounds (its.toArray.size-1)=its.dropLast.toArray;rw[Ak,List.eraseIdxIfInBounds_toArray,qry]
 .rw[CI];lia
def qwl:V->List V->Hp->VK->Prop:=λx vs H Q=>∃l xs,x=.ref l/\vs=[]/\H l=some (.lst xs)/\Q .non (upd H l (.lst xs.reverse))
theorem qrz:MtM X "list.reverse" qwl:=by intro pins s σ H x vs v us Q I c rv h;obtain⟨l,xs,rfl,rfl,a,q⟩:=h;cases c;have b:=rv.zero;subst b;obtain⟨z,its,n,r,hl,e⟩:=I.lstM a;refine DT F.slot_list_reverse ⟨_,e,Z⟩ F.entry_list_reverse (F.args_list_reverse_1 _) (AutoSeq1.list_reverse_list_0 l its.toArray n (by rw[Ak];lia)) ⟨e,?_⟩;refine⟨.non,_,I.lset (its':=its.reverse) a e (by simp) r.reverse ?_,Z,q⟩;rw[BU];lia
def rCat:R2:=λx y H Q=>∃l b xs zs,x=.ref l/\y=.ref b/\H l=some (.lst xs)/\H b=some (.lst zs)/\xs.length+zs.length<=A6/\∀p,H p=none->Q (.ref p) (upd H p (.lst (xs++zs)))
theorem qk7:OpR X (binaryOp .Add) rCat:=by
 intro pins s σ H x y v u Q I g i h;obtain⟨l,b,xs,zs,rfl,rfl,c,d,hz,q⟩:=h;cases g;cases i;obtain⟨z,its,n,r,hl,e⟩:=I.lstM c;obtain⟨z2,a,n2,j,hl2,k⟩:=I.lstM d;refine PySem.P.add_list e k ?_ (by rw[Ak,Ak];lia);have f:its.toArray++a.toArray=(its++a).toArray:=by simp
 rw[f];exact⟨.ref _,_,I.lnew (t':=s.toks) (r.append j) (by rw[Af];lia),Z,q _ I.fresh⟩
end
section
variable {prog:AK}{w:World}{A:AQ}{E:Value->Ae->Prop}{s:Ae}
end
section
variable {X:Cx}
end
end L2
namespace Att
open PySem PySem.W PySem.Calls PyProof.Rows
theorem qkd {P:Params}{h:Heap}:∀(c:List Int)(vs:List Value),WellAll P h vs (c.map WData.int)->IntsAre vs c:=by
 intro c
 induction c with
 |nil =>intro vs w;rw[List.map_nil]at w;cases w;exact .nil
 |cons n c ih =>
  intro vs w;rw[Ba]at w;cases w with|cons a b =>cases a;exact .cons _ _ (ih _ b)
theorem qur {l:OpenLaw}{n:Nat}(p:l.most=some n){P:Params}{h:Heap}{args:List WData}{e:List Value}
  (c:l.row.toRowW.claim.pre args=true)(j:WellAll P h e args) :
  ∃a vs b,e=[Bm a]/\args=[WData.list (b.map WData.int)]/\h.get? a=some {cls:=.type "list",data:=.seq vs.toArray}/\IntsAre vs b/\b.length<=n:=by
 have k:WShape.hasAll [] args [.list .int]=true:=(pre_splitW c).1;have m:l.pre.holds [] {args:=args}=true:=(pre_splitW c).2;obtain⟨d,r,rfl,o,u⟩:=hasAllW_cons k;obtain rfl:=hasAllW_nil u;obtain⟨xs,rfl,t⟩:=hasW_list o;obtain⟨b,rfl⟩:=items_int t;have i:b.length<=n:=by
  unfold OpenLaw.pre at m;have g:(WTm.not (.lt (.lit (.int (n:Int))) (.len (.arg 0)))).holds [] {args:=[.list (b.map .int)]}=true:=by have g:=(holds_andW m).1;rw[p]at g;exact g
  have f:=condW_of g (w_not (w_lt w_lit (w_len_list (w_arg Z))));rw[Ab]at f;refine Nat.le_of_not_lt λq=>?_;have s:(n:Int)<((b.length:Nat):Int):=by lia
  first
   | (rw[decide_eq_true s]at f;exact absurd f Uk)
   | (simp at f;lia)
 cases j with
 |cons w1 w2 =>
  cases w2;cases w1 with|list ho hall=>exact⟨_,_,b,Z,Z,ho,qkd b _ hall,i⟩
theorem qus (l:OpenLaw)(args:List WData):l.row.toRowW.claim.post args (.bool true) args=true :=
 postW_of (r:=l.row.toRowW) (X:=(true == true))
  (show WShape.has [] (.bool true) .bool=true by first|rfl|decide|simp[WShape.has,WShape.arms,WShape.armsAll])
  (show (WTm.eq .res (.lit (.bool true))).value [] {args:=args,res:=some (.bool true),after:=args}=some (.bool (true == true)) from w_eq_bool (w_res Z) w_lit) rfl
theorem attach_call {l:OpenLaw}{n:Nat}{q:AK}{c:List Str}{B:(Str->Option Value)->Heap->Prop}{y:World->Heap->Prop}{d:DefRec}
  (F:l.most=some n)(A:d.params.defaults=[])
  (call:∀(w:World)(v b:Ae)(mg t:Str->Option Value)(e:Addr)(o:Obj)(p k g:Value)(a:Addr)(vs:List Value)(j:List Int),
   Ground q c [] B w v mg t b.heap->y w b.heap ->
   b.heap.get? e=some o->o.data=.func (docDef d.name d.params d.body d.scope p k g)->b.heap.CodeRec k d.name->mg d.name=some (.ref e) ->
   b.heap.get? a=some {cls:=.type "list",data:=.seq vs.toArray}->IntsAre vs j->j.length<=n->b.gens=#[] ->
   codeAny (model l.prog w) callerA (.call (.ref e) ⟨[.ref a],[]⟩) (λr h=>r=.ok (.ret (.bool true))/\OldK b.heap h.heap/\h.os=b.os/\En h.gens) b) :
  WalkO q c B y l.row.toRowW d [] (λf vs=>PySem.call f vs):=by
 intro w v b mg t G Y e o p k g E kV J I D z C O args vals as m hlay hrd x hlo;obtain rfl:E=.none:=Dflts.none z A;obtain rfl:kV=.none:=Dflts.noKw z;obtain⟨a,vs,j,rfl,rfl,u,i,s⟩:=qur F m x;refine enter_call (Du (call w v b mg t e o p k g a vs j G Y J (fd_plain I) D C u i s O) λr h H=>?_);obtain⟨rfl,N,L,K⟩:=H;exact⟨.inl ⟨.bool true,.bool true,[],Z,λ_=>rfl,.bool true,qus l _,λ_=>⟨Eb,λ_ M=>(nomatch M)⟩⟩,N,L,K⟩
section
variable {prog:AK}{w:World}{A:AQ}{E:Value->Ae->Prop}{s:Ae}{K:Frag}
noncomputable def ledger (h:Heap)(L d:Addr):List (Addr×Obj):=(Ar h.objs.size).filterMap λa=>if a=L\/a=d then none else (h.get? a).map λo=>(a,o)
end
end Att
namespace L2
open PySem PySem.Spec PyProof.Rows
theorem qnl:∀{vs:List Value}{a:List Int},IntsAre vs a->Vals (a.map V.int) vs
 |_,_,.nil=>.nil
 |_,_,.cons n t h=>.cons ⟨t,Z⟩ (qnl h)
end L2
namespace L2
open PySem PySem.Spec PyProof.Rows
abbrev KOf {K:Ag}{h:Heap}(_:K.In h):Ag:=K
end L2
/- THE LAST THEOREM (shape;LID,My.* are yours):
   My.Adr: a structure of the addresses that your layer names (classes,functions);My.Txt K t: a structure (Prop) of the equations over K;
   My.txt_mk:{K} {implicit addresses ..} (e1:nsIn K A4 "law"=some (some (.ref f))) (e2:K.lookup f=some ⟨oc,od,.func (fnOf "law" "law" params body scope dV kV doc pm an cdv ct),sl⟩) (e3:codeIn K cdv "law"=true) .. : ∃t,My.Txt K t
set_option maxRecDepth 100000 in
set_option maxHeartbeats 0 in
theorem PySem.Challenge.cw_LID_holds : PySem.Challenge.rw_LID.Holds:=by
 w_on;o_law;k_head;(case hw=>w_witness2)
 k_fill
 refine L2.walk_of (l:=PySem.Challenge.rw_LID) (n:=63) (k:=40) (x := "script") (CX:=λw=>..) (sp:=λ_=>My.sp_law) rfl Uk rfl ⟨Z,Uk,Uk⟩ (λw h Y=>PySem.W.kIn_of Y) ?F ?S ?C
 case F =>
  intro w mg f h d G e;have T:∃t,My.Txt (L2.KOf d) t:=by
   dsimp only[L2.KOf]                          -- K must stand as «<heap const> w.params» for k_is;refine' My.txt_mk ?e1 ?e2 ?e3 ..
   (case e1=>PySem.W.k_is)                    -- in the order: a name->its address->its object->its parts
   (case e2=>PySem.W.k_is)
   ..
  obtain⟨t,T⟩:=T;have g:=e.symm.trans (Be d G T.law);cases g                                       -- f is the law's own address;exact⟨_,λs u=>.of_eq Z,λbase kb c=>My.law_fn T kb c⟩     -- if «.of_eq rfl» comes too early: refine' ⟨_,?b,λbase kb c=>My.law_fn T kb c⟩;exact λs u=>.of_eq rfl
 case S=>exact λw H a ns hl hO hS=>..
 case C=>exact ..
(the tactic k_is has no namespace: write k_is) -/
namespace L2
open PySem PySem.Spec PyProof.Rows
noncomputable def qaj (s:Stmt)(j:Nat):Stmt:=match s with
 |.ClassDef _ _ _ body _ _ _ _ _ _ _=>body.getD j (.Pass ⟨0,0,0,0⟩)
 |_=>.Pass ⟨0,0,0,0⟩
noncomputable def qa4 (s:Stmt):Ex:=match s with
 |.FunctionDef _ a _ _ _ _ _ _ _ _=>a
 |_=>{posonlyargs:=[],args:=[],vararg:=none,kwonlyargs:=[],kw_defaults:=[],kwarg:=none,defaults:=[]}
noncomputable def qaw (s:Stmt):List Stmt:=match s with
 |.FunctionDef _ _ b _ _ _ _ _ _ _=>b
 |_=>[]
noncomputable def qaa (s:Stmt):Scope:=match s with
 |.FunctionDef _ _ _ _ _ _ sc _ _ _=>sc
 |_=>{kind:=.function,names:=[],isGenerator:=false,isCoroutine:=false}
abbrev CX0:CXT:=λ_ _ _ _ _ _=>False
abbrev E0:XK:=λ_ _ _=>False
theorem qac {X:Cx}:qf5 CX0 X E0:=λ_ _ _ _ _ _ _ h=>h.elim
structure Fun (K:Ag)(x qual:Str)(st:Stmt)(f:Addr)(fd:Ay):Prop where
 ex:∃(oc:Value)(od:Option Addr)(kV doc pm:Value)(an:Option Addr)(cdv ct:Value)(osl:Array (Option Value)),
  fd=Bg x qual (qa4 st) (qaw st) (qaa st) .none kV doc pm an cdv ct/\K.lookup f=some ⟨oc,od,.func fd,osl⟩/\B9 K cdv qual=true
 kp:Bu K (.ref f)=true
section
variable {P:AK}{w:World}{K:Ag}{mg:Str->Option Value}{base:Heap}
theorem Fun.ok {x a:Str}{st:Stmt}{f:Addr}{fd:Ay}{N ps:List Str}{k:Nat}{sp:Sp}(F:Fun K x a st f fd)(S:FnScope N ps (qaa st))(len:∀vs H Q E,sp vs H Q E->vs.length=ps.length)
  (c:∀(b:Value)(A:AQ)(outer:List Env)(s:Ae)(H:Hp)(vs:List V)(Q:VK)(E:XK),Room k (A.deeper (envOfC a (qaa st) s.heap.objs.size f b))->sp vs H Q E ->
   ∃t,PSs (qpz CX0 P w K mg base N a (qaa st) f b A outer s H E).nox (qaw st) t/\t {nx:=λ_ H'=>Q .non H',rt:=Q} (start N vs) H):FnOk P w K mg base CX0 (k+1) f fd ps sp:=by
 obtain⟨oc,od,kV,doc,pm,an,b,ct,osl,rfl,g,e⟩:=F.ex
 refine qwg g e S len λA outer s H vs Q E i d=>?_
 obtain⟨t,h,q⟩:=c b A outer s H vs Q E i d
 exact⟨t,h.nox,q⟩
theorem Fun.binds {x b:Str}{st:Stmt}{f:Addr}{fd:Ay}{ps:List Str}(F:Fun K x b st f fd)
  (h:∀(kV c e:Value)(d:Option Addr)(a ct:Value)(us:List Value),us.length=ps.length->bindArgs (Bg x b (qa4 st) (qaw st) (qaa st) .none kV c e d a ct) ⟨us,[]⟩=pure (ps.zip us)):Binds K fd ps []:=by
 obtain⟨oc,od,kV,c,e,d,a,ct,osl,rfl,lk,hcd⟩:=F.ex;exact .all (h kV c e d a ct)
theorem qon {x a:Str}{st:Stmt}{f:Addr}{j:Value}{i g:Option Addr}{e:Array (Option Value)}{kV d h b ct:Value}(l:K.lookup f=some ⟨j,i,.func (Bg x a (qa4 st) (qaw st) (qaa st) .none kV d h g b ct),e⟩)
  (c:B9 K b a=true)(k:Bu K (.ref f)=true):Fun K x a st f (Bg x a (qa4 st) (qaw st) (qaa st) .none kV d h g b ct):=⟨⟨j,i,kV,d,h,g,b,ct,e,Z,l,c⟩,k⟩
end
theorem qch {A:AQ}{k:Nat}(a:Room k A):A.units+1<cLine:=CW (Nat.add_le_add_left (by decide:1<=64) _) a.units
theorem qnm {n:Nat}(h:n<=1000):n<A6:=CW h Uk
section
variable {X:Cx}
theorem pv (i:Nat){x:Str}{pos:Pos}(a:X.N[i]?=some x:=by rfl)(hv:Vis X.env.scope x:=by first|exact Au rfl|exact CG (Au rfl)|exact CG (CG rfl))(hd:(x == ("__debug__" : Str))=false:=by decide)
  (hcd:(x == ("__classdict__" : Str))=false:=by decide):PE X (.Name x pos) (tVar i):=pe_var a hv hd hcd
end
theorem qce {A B:Prop}(h:B):if false=true then A else B:=by rw[if_neg AF];exact h
theorem qdm {A B:Prop}(h:A):if true=true then A else B:=by rw[if_pos Z];exact h
theorem qb2 {c A B:Prop}[Decidable c](a:c->A)(b:¬c->B):if c then A else B:=by
 by_cases h:c
 .rw[if_pos h];exact a h
 .rw[if_neg h];exact b h
theorem iteNS {c A B:Prop}[Decidable c](a:c)(h:B):if (!decide c)=true then A else B:=by rw[decide_eq_true a];exact qce h
def Same (H H':Hp):Prop:=∀b o,H b=some o->H' b=some o
theorem Same.refl (H:Hp):Same H H:=λ_ _ h=>h
theorem Same.trans {H d e:Hp}(a:Same H d)(b:Same d e):Same H e:=λc o h=>b c o (a c o h)
theorem Same.free {H H':Hp}(e:Same H H'){l:Addr}(h:H' l=Option.none):H l=Option.none:=by
 cases q:H l with|none=>rfl|some o =>rw[e l o q]at h;cases h
theorem Same.seq {K:Ag}{H H':Hp}{a:Addr}{xs:List V}(e:Same H H')(h:SqL K H a xs):SqL K H' a xs:=by
 rcases h with (h|⟨o,h⟩)|h
 .exact .inl (.inl (e _ _ h))
 .exact .inl (.inr ⟨o,e _ _ h⟩)
 .exact .inr h
end L2
namespace L2
open PySem PySem.Spec PyProof.Rows
section
variable {κ:Type}[DecidableEq κ]
noncomputable def qbf (kvs:List (κ×V))(k:κ):Option V:=(kvs.find? λkv=>decide (kv.1=k)).map (·.2)
noncomputable def qc8 (kvs:List (κ×V))(k:κ)(v:V):List (κ×V) :=
 if (kvs.any λkv=>decide (kv.1=k))=true then kvs.map (λkv=>if kv.1=k then (kv.1,v) else kv) else kvs++[(k,v)]
theorem qb3 {p:κ×V}{r:List (κ×V)}{k:κ}(e:p.1=k):qbf (p::r) k=some p.2:=by simp[qbf,C0,e]
theorem qbu {p:κ×V}{r:List (κ×V)}{k:κ}(e:¬p.1=k):qbf (p::r) k=qbf r k:=by simp[qbf,C0,e]
theorem qe1 (k:κ):∀kvs:List (κ×V),(kvs.any λa=>decide (a.1=k))=(qbf kvs k).isSome
 | []=>rfl
 |p::r=>by
  rw[D8];by_cases e:p.1=k
  .simp only[qb3 e,decide_eq_true e,Bool.true_or,Option.isSome_some]
  .rw[qbu e,decide_eq_false e,D9];exact qe1 k r
theorem qp3 (k j:κ)(y:V):∀kvs:List (κ×V),qbf (kvs.map λa=>if a.1=k then (a.1,y) else a) j=(qbf kvs j).map λx=>if j=k then y else x
 | []=>rfl
 |p::r=>by
  have b:=qp3 k j y r;rw[Ba];by_cases h:p.1=k
  .rw[if_pos h];by_cases e:p.1=j
   .rw[qb3 (p:=(p.1,y)) e,qb3 e,DJ,if_pos (e.symm.trans h)]
   .rw[qbu (p:=(p.1,y)) e,qbu e,b]
  .rw[if_neg h];by_cases e:p.1=j
   .rw[qb3 (p:=p) e,qb3 e,DJ,if_neg (λz=>h (e.trans z))]
   .rw[qbu (p:=p) e,qbu e,b]
theorem qnn (k j:κ)(y:V):∀kvs:List (κ×V),qbf kvs k=none->qbf (kvs++[(k,y)]) j=if j=k then some y else qbf kvs j
 | [],_=>by
  by_cases e:k=j
  .rw[if_pos e.symm];exact qb3 (p:=(k,y)) e
  .rw[if_neg (λz=>e z.symm)];exact qbu (p:=(k,y)) e
 |p::r,hn=>by
  rw[List.cons_append];have a:¬p.1=k:=λz=>by rw[qb3 z]at hn;cases hn
  rw[qbu a]at hn;have b:=qnn k j y r hn;by_cases e:p.1=j
  .rw[qb3 e,qb3 e,if_neg (λz=>a (e.trans z))]
  .rw[qbu e,qbu e,b]
theorem qk8 (kvs:List (κ×V))(k j:κ)(y:V):qbf (qc8 kvs k y) j=if j=k then some y else qbf kvs j:=by
 unfold qc8;by_cases a:(kvs.any λb=>decide (b.1=k))=true
 .rw[if_pos a,qp3];rw[qe1]at a;by_cases e:j=k
  .obtain⟨x,c⟩:=BZ.mp a;rw[if_pos e,e,c,DJ,if_pos Z]
  .rw[if_neg e];cases qbf kvs j with|none=>rfl|some x=>rw[DJ,if_neg e]
 .rw[if_neg a];refine qnn k j y kvs ?_;rw[qe1]at a;cases q:qbf kvs k with|none=>rfl|some x=>rw[q]at a;exact(a Z).elim
theorem qcu (kvs:List (κ×V))(k:κ)(v:V):(qc8 kvs k v).length<=kvs.length+1:=by
 unfold qc8;split
 .rw[Ab];lia
 .rw[Af,AD,DK];lia
theorem qh9 {kvs:List (κ×V)}{k:κ}(v:V)(h:qbf kvs k=none):qc8 kvs k v=kvs++[(k,v)]:=by unfold qc8;rw[qe1,h];exact if_neg Uk
theorem RelO.isSome_eq {o:Option V}{u:Option Value}(r:RelO o u):o.isSome=u.isSome:=by
 cases o with
 |none=>cases u with
  |none=>rfl
  |some _=>exact(show False from r).elim
 |some _=>cases u with
  |none=>exact(show False from r).elim
  |some _=>rfl
theorem RelO.getD {o:Option V}{u:Option Value}{d:V}{d':Value}(r:RelO o u)(rd:RelV d d'):RelV (o.getD d) (u.getD d'):=by
 cases o with
 |none=>cases u with
  |none=>exact rd
  |some _=>exact(show False from r).elim
 |some _=>cases u with
  |none=>exact(show False from r).elim
  |some _=>exact r
theorem KV.val {kvs:List (κ×V)}{vs:List (κ×Value)}(r:KV kvs vs)(k:κ):RelO (qbf kvs k) (valueAt vs k):=by
 unfold KV at r
 induction r with
 |nil=>exact CN
 | @cons p q ps qs h t ih =>
  obtain⟨c,d⟩:=h;by_cases e:p.1=k
  .have a:q.1=k:=c.symm.trans e;have b:valueAt (q::qs) k=some q.2:=by simp[valueAt,C0,a]
   rw[qb3 e,b];exact d
  .have a:¬q.1=k:=λz=>e (c.trans z);have b:valueAt (q::qs) k=valueAt qs k:=by simp[valueAt,C0,a]
   rw[qbu e,b];exact ih
theorem KV.any {kvs:List (κ×V)}{vs:List (κ×Value)}(r:KV kvs vs)(k:κ):(kvs.any λa=>decide (a.1=k))=vs.any λa=>decide (a.1=k):=by
 unfold KV at r
 induction r with
 |nil=>rfl
 |cons h t ih=>rw[D8,D8,ih,h.1]
theorem KV.repl {kvs:List (κ×V)}{vs:List (κ×Value)}(r:KV kvs vs)(k:κ){y:V}{u:Value}(c:RelV y u) :
  KV (kvs.map λa=>if a.1=k then (a.1,y) else a) (vs.map λa=>if a.1=k then (a.1,u) else a):=by
 unfold KV at r |-
 induction r with
 |nil=>exact .nil
 | @cons p q ps qs h t ih =>
  rw[Ba,Ba];refine .cons ?_ ih;obtain⟨b,d⟩:=h;by_cases e:p.1=k
  .rw[if_pos e,if_pos (b.symm.trans e)];exact⟨b,c⟩
  .rw[if_neg e,if_neg (λz=>e (b.trans z))];exact⟨b,d⟩
theorem KV.put {kvs:List (κ×V)}{vs:List (κ×Value)}(r:KV kvs vs)(k:κ){y:V}{u:Value}(a:RelV y u):KV (qc8 kvs k y) (stored vs k u):=by
 unfold qc8 stored;rw[r.any k];by_cases e:(vs.any λb=>decide (b.1=k))=true
 .rw[if_pos e,if_pos e];exact r.repl k a
 .rw[if_neg e,if_neg e];exact Dm.snoc r ⟨Z,a⟩
theorem KV.length {kvs:List (κ×V)}{vs:List (κ×Value)}(r:KV kvs vs):kvs.length=vs.length:=Dm.length r
end
theorem qk9 {P:AK}{w:World}{k:Key}{u:Value}(r:RelV (kV k) u):(qat P w).is k u=true:=by
 cases k with
 |inl i=>obtain⟨t,e⟩:=(show ∃t,u=D4 i t from r);subst e;exact qpt P w i t
 |inr x=>obtain⟨t,e⟩:=(show ∃t,u=D5 x t from r);subst e;exact qpu P w x t
theorem qno {P:AK}{w:World}:∀{ks:List Key}{us:List Value},Vals (ks.map kV) us->ItemsAre (qat P w) ks us
 | [],_,r=>by rw[List.map_nil]at r;cases r;exact .nil
 |k::ks,_,r=>by
  rw[Ba]at r;cases r with|cons h t=>exact .cons (qk9 h) (qno t)
abbrev KT (H:Hp):List (List Key×V)->List (List Key×Addr×Value)->Prop:=Dm λp q=>p.1=q.1/\H q.2.1=some (.tup (p.1.map kV))/\RelV p.2 q.2.2
theorem KT.val {H:Hp}{kvs:List (List Key×V)}{xs:List (List Key×Addr×Value)}(r:KT H kvs xs)(k:List Key):RelO (qbf kvs k) ((atKey xs k).map (·.2)):=by
 induction r with
 |nil=>exact CN
 | @cons p q ps qs h t ih =>
  obtain⟨c,_,d⟩:=h;by_cases e:p.1=k
  .have a:q.1=k:=c.symm.trans e;have b:atKey (q::qs) k=some q.2:=by simp[atKey,C0,a]
   rw[qb3 e,b];exact d
  .have a:¬q.1=k:=λz=>e (c.trans z);have b:atKey (q::qs) k=atKey qs k:=by simp[atKey,C0,a]
   rw[qbu e,b];exact ih
theorem KT.repl {H:Hp}{kvs:List (List Key×V)}{xs:List (List Key×Addr×Value)}(r:KT H kvs xs)(k:List Key){y:V}{u:Value}(d:RelV y u) :
  KT H (kvs.map λb=>if b.1=k then (b.1,y) else b) (xs.map (putAt k u)):=by
 induction r with
 |nil=>exact .nil
 | @cons p q ps qs h t ih =>
  rw[Ba,Ba];refine .cons ?_ ih;obtain⟨a,c,f⟩:=h;unfold putAt;by_cases e:p.1=k
  .rw[if_pos e,if_pos (a.symm.trans e)];exact⟨a,c,d⟩
  .rw[if_neg e,if_neg (λz=>e (a.trans z))];exact⟨a,c,f⟩
theorem KT.put {H:Hp}{kvs:List (List Key×V)}{xs:List (List Key×Addr×Value)}(r:KT H kvs xs)(k:List Key){b:Addr}{y:V}{u:Value}(d:H b=some (.tup (k.map kV)))(a:RelV y u) :
  KT H (qc8 kvs k y) (storedH xs k b u):=by
 have e:(kvs.any λc=>decide (c.1=k))=(atKey xs k).isSome:=by rw[qe1,(r.val k).isSome_eq,Ec]
 unfold qc8 storedH;rw[e];by_cases q:(atKey xs k).isSome=true
 .rw[if_pos q,if_pos q];exact r.repl k a
 .rw[if_neg q,if_neg q];exact Dm.snoc r ⟨Z,d,a⟩
theorem KT.keeps {H H':Hp}{kvs:List (List Key×V)}{xs:List (List Key×Addr×Value)}(r:KT H kvs xs)(a:∀b ys,H b=some (.tup ys)->H' b=some (.tup ys)):KT H' kvs xs :=
 Dm.mapP r λ_ _ z=>⟨z.1,a _ _ z.2.1,z.2.2⟩
section
variable {P:AK}{w:World}{H:Hp}{h:Heap}{a:Addr}
theorem rd_of {u:HO}(ok:HOk P w H h)(e:Rd H a u):ObjOk P w H h a u:=e.ok ok
theorem qfv {kvs:List (Key×V)}(ok:HOk P w H h)(e:Rd H a (.dK kvs)):kvs.length<=A6/\(a == sysModules)=false/\∃vs,KV kvs vs/\h.DictOf (qat P w) a vs :=
 show ObjOk P w H h a (.dK kvs) from rd_of ok e
theorem dk_of {kvs:List (Key×V)}(ok:HOk P w H h)(e:H a=some (.dK kvs)):kvs.length<=A6/\(a == sysModules)=false/\∃vs,KV kvs vs/\h.DictOf (qat P w) a vs:=qfv ok (.inl e)
theorem qhh {ks:List Key}(ok:HOk P w H h)(e:H a=some (.tup (ks.map kV))):(tupleKind (qat P w)).is h ks a:=by obtain⟨_,its,r,o,b,d,n,c⟩:=(show ObjOk P w H h a (.tup (ks.map kV)) from ok a _ e);exact⟨o,its.toArray,n,b,d,c,by simpa using qno r⟩
theorem qj3 {kvs:List (List Key×V)}(ok:HOk P w H h)(e:Rd H a (.dT kvs)):kvs.length<=A6/\(a == sysModules)=false /\
  ∃xs,KT H kvs xs/\h.DictOfH (tupleKind (qat P w)) a xs:=by
 obtain⟨z,y,xs,r,o,es,ep,d,i,g,f,c⟩:=(show ObjOk P w H h a (.dT kvs) from rd_of ok e);refine⟨z,y,xs,r,o,es,ep,d,i,g,f,λx b=>?_,c⟩;have all:∀{l:List (List Key×V)}{m:List (List Key×Addr×Value)},KT H l m->∀x∈m,(tupleKind (qat P w)).is h x.1 x.2.1:=by
  intro l m q
  induction q with
  |nil=>intro x b;exact nomatch b
  | @cons p q ps qs hq t ih =>
   intro x b;rcases Aq.mp b with e|b
   .subst e;exact qhh ok (by rw[<- hq.1];exact hq.2.1)
   .exact ih x b
 exact all r x b
theorem dt_of {kvs:List (List Key×V)}(ok:HOk P w H h)(e:H a=some (.dT kvs)):kvs.length<=A6/\(a == sysModules)=false /\
  ∃xs,KT H kvs xs/\h.DictOfH (tupleKind (qat P w)) a xs:=qj3 ok (.inl e)
end
def DGet (H:Hp)(a:Addr)(y:V)(r:Option V):Prop :=
 (∃kvs k,Rd H a (.dK kvs)/\y=kV k/\r=qbf kvs k) \/ ∃kvs k b,Rd H a (.dT kvs)/\y=.ref b/\H b=some (.tup (k.map kV))/\r=qbf kvs k
def DPut (H:Hp)(a:Addr)(y v:V)(H':Hp):Prop :=
 (∃kvs k,H a=some (.dK kvs)/\y=kV k/\kvs.length<A6/\H'=upd H a (.dK (qc8 kvs k v))) \/
 ∃kvs k b,H a=some (.dT kvs)/\y=.ref b/\H b=some (.tup (k.map kV))/\kvs.length<A6/\H'=upd H a (.dT (qc8 kvs k v))
theorem DGet.k {H:Hp}{a:Addr}{kvs:List (Key×V)}{k:Key}(e:H a=some (.dK kvs)):DGet H a (kV k) (qbf kvs k):=.inl ⟨kvs,k,.inl e,Z,Z⟩
theorem DPut.k {H:Hp}{a:Addr}{kvs:List (Key×V)}{k:Key}{v:V}(e:H a=some (.dK kvs))(b:kvs.length<A6):DPut H a (kV k) v (upd H a (.dK (qc8 kvs k v))):=.inl ⟨kvs,k,e,Z,b,Z⟩
section
variable {X:Cx}{pins:List (Addr×Obj)}{σ:St}{H:Hp}{s:Ae}{a:Addr}{y v:V}{u r:Value}{o:Option V}{A:AQ}{E:Value->Ae->Prop}
theorem Inv.big (I:Inv X pins σ H s):sysModules<s.heap.objs.size:=by have h:A4<s.heap.objs.size:=(I.mod.glob.keeps I.bk).lt;exact Nat.lt_trans Uk h
theorem qut {Q:Value->Ae->Prop}(r:A.units+1<cLine)(I:Inv X pins σ H s)(g:DGet H a y (some v))(q:RelV y u)(h:∀c s',Inv X pins σ H s'->RelV v c->Q c s') :
  wpAny (model X.prog X.w) A (getItem (.ref a) u) Q E s:=by
 rcases g with ⟨kvs,k,e,i,l⟩|⟨kvs,k,b,e,i,B,l⟩
 .subst i;obtain⟨z,t,vs,d,j⟩:=qfv I.hok e;obtain⟨c,m,f⟩:=RelO.some_of (v:=v) (o:=valueAt vs k) (by rw[l];exact d.val k);exact wpAny_getItem_of (qk9 q) j.mapOf m (h c _ (I.tok _) f)
 .subst i;cases (show u=Bm b from q);obtain⟨z,t,xs,d,j⟩:=qj3 I.hok e;obtain⟨c,m,f⟩:=RelO.some_of (v:=v) (o:=(atKey xs k).map (·.2)) (by rw[l];exact d.val k);obtain⟨p,x,n⟩:=Option.map_eq_some_iff.mp m;refine wpAny_getItem_heap (CB r) (qhh I.hok B) j x ?_;rw[n];exact h c _ (I.tok _) f
theorem d_in {Q:Value->Ae->Prop}(m:A.units+1<cLine)(I:Inv X pins σ H s)(g:DGet H a y o)(j:RelV y u)(h:∀s',Inv X pins σ H s'->Q (.bool o.isSome) s') :
  wpAny (model X.prog X.w) A (compareOp .In u (.ref a)) Q E s:=by
 rcases g with ⟨kvs,k,e,d,l⟩|⟨kvs,k,b,e,d,n,l⟩
 .subst d;obtain⟨z,i,vs,c,f⟩:=qfv I.hok e;refine wpAny_in_of (qk9 j) i f.mapOf ?_;rw[<- (c.val k).isSome_eq,<- l];exact h _ (I.tok _)
 .subst d;cases (show u=Bm b from j);obtain⟨z,i,xs,c,f⟩:=qj3 I.hok e;refine wpAny_in_heap (CB m) (qhh I.hok n) i f ?_;have q:=(c.val k).isSome_eq;rw[Ec]at q;rw[<- q,<- l];exact h _ (I.tok _)
theorem d_notIn {Q:Value->Ae->Prop}(m:A.units+1<cLine)(I:Inv X pins σ H s)(g:DGet H a y o)(j:RelV y u)(h:∀s',Inv X pins σ H s'->Q (.bool (!o.isSome)) s') :
  wpAny (model X.prog X.w) A (compareOp .NotIn u (.ref a)) Q E s:=by
 rcases g with ⟨kvs,k,e,d,l⟩|⟨kvs,k,b,e,d,n,l⟩
 .subst d;obtain⟨z,i,vs,c,f⟩:=qfv I.hok e;refine wpAny_notIn_of (qk9 j) i f.mapOf ?_;rw[<- (c.val k).isSome_eq,<- l];exact h _ (I.tok _)
 .subst d;cases (show u=Bm b from j);obtain⟨z,i,xs,c,f⟩:=qj3 I.hok e;refine wpAny_notIn_heap (CB m) (qhh I.hok n) i f ?_;have q:=(c.val k).isSome_eq;rw[Ec]at q;rw[<- q,<- l];exact h _ (I.tok _)
theorem qs8 {h':Heap}{t':Nat}{c:HO}(I:Inv X pins σ H s)(g:Mut (H a))(f:BR a s.heap h')(h:∃q,h'.get? a=some q)(d:ObjOk X.prog X.w (upd H a c) h' a c) :
  Inv X pins σ (upd H a c) {s with heap:=h',toks:=t'} :=
 I.write (x:=a) (e:=a) g (.inl Z) (λb q i z=>(f.2 b i).trans z) h d
theorem dk_new {P:AK}{w:World}{H':Hp}{h':Heap}{kvs:List (Key×V)}{vs:List (Key×Value)}(z:kvs.length<=A6)(d:(a == sysModules)=false)(b:KV kvs vs)(c:h'.DictOf (qat P w) a vs) :
  ObjOk P w H' h' a (.dK kvs):=⟨z,d,vs,b,c⟩
theorem quu {H':Hp}{Q:Unit->Ae->Prop}(G:A.units+1<cLine)(I:Inv X pins σ H s)(g:DPut H a y v H')(B:RelV y u)(rv:RelV v r)(h:∀s',Inv X pins σ H' s'->Q () s') :
  wpAny (model X.prog X.w) A (setItem (.ref a) u r) Q E s:=by
 rcases g with ⟨kvs,k,e,j,l,n⟩|⟨kvs,k,b,e,j,C,l,n⟩
 .subst j n;obtain⟨z,o,vs,d,m⟩:=dk_of I.hok e;have hz:vs.length<=A6:=by rw[<- d.length];exact z
  have t:(qc8 kvs k v).length<=A6:=by have:=qcu kvs k v;lia
  refine wpAny_setItem_pairs (hsz:=hz) (qk9 B) m λh' f p=>h _ ?_;have F:∃q,h'.get? a=some q:=let ⟨q,_,_,i,_⟩:=f;⟨q,i⟩;exact qs8 I (by rw[e];exact CN) p F (dk_new t o (d.put k rv) f)
 .subst j n;cases (show u=Bm b from B);obtain⟨z,o,xs,d,m⟩:=dt_of I.hok e;have hz:xs.length<=A6:=by rw[<- Dm.length d];exact z
  have t:(qc8 kvs k v).length<=A6:=by have:=qcu kvs k v;lia
  refine wpAny_setItem_heap (hsz:=hz) (CB G) (qhh I.hok C) m λh' f p=>h _ ?_;obtain⟨q,es,ep,i,L,K,J,_,D⟩:=f;refine qs8 I (by rw[e];exact CN) p ⟨q,i⟩ ⟨t,o,_,(d.put k C rv).keeps λc ys x=>?_,q,es,ep,i,L,K,J,D⟩;rw[qr (ne_of x e (λz=>nomatch z))];exact x
end
section
variable {X:Cx}{pins:List (Addr×Obj)}{σ:St}{H:Hp}{s:Ae}{a:Addr}{kvs:List (Key×V)}{k:Key}{u:Value}{A:AQ}{E:Value->Ae->Prop}
end
def NoSl (i:Expr):Prop:=∀ov iv,subscripted i false ov iv=operate [ov,iv] (getItem ov iv)
theorem subD_of {prog:AK}{w:World}{A:AQ}{E:Value->Ae->Prop}{s:Ae}{env:Env}{b a:Expr}{pos:Pos}{T id:String}{Q:Value->Ae->Prop}
  (m:typeLookup (.type T) "__getitem__"=pure (some (.builtin id)))(l:NoSl a)
  (h:wpAny (model prog w) A (eval b env) (λo f=>wpAny (model prog w) A (eval a env) (λi d=>d.TypeIs o T/\wpAny (model prog w) A (getItem o i) Q E d) E f) E s) :
  wpAny (model prog w) A (eval (.Subscript b a pos) env) Q E s:=by
 refine Subscript_ (Ca h (λo f k=>Ca k (λi d e=>?_) λ_ _ x=>x) λ_ _ x=>x);obtain⟨j,e⟩:=e;unfold subscriptTail;refine As ?_;rw[getitemInPython_of_ne j.not_modules];refine As (wpAny_specialOf j m ?_);have c:wpAny (model prog w) A (subscripted a false o i) (λr g=>wpAny (model prog w) A (letTemporaryGo b o r >>= λ_=>pure r) Q E g) E d:=by rw[l o i];exact wpAny_operating (Ca e (λr g n=>As (wpAny_letTemporaryGo (AO n))) λ_ _ x=>x)
 first
  |exact AO (As c)
  |exact As (AO (As c))
  |exact As c
theorem qp4 {X:Cx}{c:List (Addr×Obj)}{σ:St}{H:Hp}{s:Ae}{a:Addr}{y:V}{o:Option V}(I:Inv X c σ H s)(g:DGet H a y o):s.TypeIs (.ref a) "dict" := by
 rcases g with ⟨kvs,k,e,_,_⟩|⟨kvs,k,b,e,_,_,_⟩
 .obtain⟨_,_,vs,_,d⟩:=qfv I.hok e;exact d.typeIs
 .obtain⟨_,_,xs,_,d⟩:=qj3 I.hok e;exact d.typeIs
def tDGet (td ty:TE):TE:=λσ H Q=>td σ H λx H1=>ty σ H1 λy H2=>∃a v,x=.ref a/\DGet H2 a y (some v)/\Q v H2
def tDNotIn (ty td:TE):TE:=λσ H Q=>ty σ H λy H1=>td σ H1 λx H2=>∃a o,x=.ref a/\DGet H2 a y o/\Q (.bl (!o.isSome)) H2
def sDPut (td ty tv:TE):TS:=λD σ H=>tv σ H λv H1=>td σ H1 λx H2=>ty σ H2 λy H3=>∃a H4,x=.ref a/\DPut H3 a y v H4/\D.nx σ H4
section
variable {X:Cx}{o i e value:Expr}{pos pos' tpos:Pos}{td ty tv:TE}
theorem qc0 (n:X.A.units+1<cLine)(q:PE X o td)(j:PE X i ty)(r:NoSl i):PE X (.Subscript o i pos) (tDGet td ty):=by intro b s σ H Q I h;refine subD_of PySem.F.slot_dict_getitem.lookup r (thn (q b s σ H _ I h) λu p ⟨x,w,k,m,t⟩=>thn (j b p σ w _ k t) λiv s2 d=>?_);obtain⟨y,l,c,z,a,v,ex,g,f⟩:=d;subst ex;obtain rfl:u=Bm a:=m;exact⟨qp4 c g,qut n c g z λw' s3 B e=>⟨v,l,B,e,f⟩⟩
theorem quv (m:X.A.units+1<cLine)(f:PE X i ty)(p:PE X o td):PC X .NotIn i o (tDNotIn ty td):=by intro b s σ H Q I h;refine thn (f b s σ H _ I h) λiv n ⟨y,r,j,t,q⟩=>thn (p b n σ r _ j q) λu s2 c=>?_;obtain⟨x,k,e,l,a,ov,ex,g,d⟩:=c;subst ex;obtain rfl:u=Bm a:=l;exact d_notIn m e g t λs3 v=>⟨.bl (!ov.isSome),k,v,Z,d⟩
theorem qe8 (q:X.A.units+1<cLine)(w:PE X o td)(j:PE X i ty)(J:PE X value tv)(z:swapsWith value (some (.Subscript o i pos')) pos.line X.env=pure false) :
  PS X (.Assign [.Subscript o i pos'] value pos) (sDPut td ty tv):=by
 intro b s σ H D I h;refine wpAny_Assign_Subscript (thn (J b s σ H _ I h) λr t ⟨v,C,k,rv,B⟩=>thn (w b t σ C _ k B) λu m ⟨x,n,f,p,d⟩=>thn (j b m σ n _ f d) λiv s3 c=>?_) z;obtain⟨y,H3,G,E,a,e,ex,g,F⟩:=c;subst ex;obtain rfl:u=Bm a:=p;exact quu q G g E rv λs4 l=>⟨σ,e,l,F⟩
end
theorem qwm {P:AK}{w:World}{H:Hp}(h:Heap)(a:sysModules<h.objs.size):ObjOk P w H (h.push {cls:=.type "dict",data:=.dict #[]}) h.objs.size (.dK []) :=
 ⟨AU _,beq_eq_false_iff_ne.mpr (B4 (AA a)),[],.nil,Heap.DictOf.new h⟩
def tDNewK:TE:=λ_ H Q=>∀p,H p=none->Q (.ref p) (upd H p (.dK []))
section
variable {X:Cx}{pos:Pos}
theorem qd3:PE X (.Dict [] [] pos) tDNewK:=λpins s σ H Q I h =>
 wpAny_Dict_empty ⟨.ref s.heap.objs.size,_,I.laid (a:=s.heap.objs.size) (o:=.dK []) (t':=s.toks) (λ_ _ q=>Ao _ q) (Am _) (qwm s.heap I.big),Z,h _ (I.hok.fresh (Am _))⟩
end
structure M1 (X:Cx)(o:Expr)(m:Str)(apos:Pos)(e:Expr)(cpos:Pos):Prop where
 base:attributeBase o m X.env (eval o X.env)=eval o X.env
 few:((backTo cpos (starEach [e] X.env)).all (λx=>!x.1) && (backToKw cpos (keywordEach [] X.env)).all (λx=>x.1.isSome)
  && decide (([e]:List Expr).length+([]:List Eo).length+(if ([]:List Eo).isEmpty then 0 else 1)<30))=true
 line:(apos.endLine == cpos.line)=true
 trees:backTo cpos (starEach [e] X.env)=[(false,eval e X.env)]
structure M2 (X:Cx)(o:Expr)(m:Str)(apos:Pos)(e f:Expr)(cpos:Pos):Prop where
 base:attributeBase o m X.env (eval o X.env)=eval o X.env
 few:((backTo cpos (starEach [e,f] X.env)).all (λx=>!x.1) && (backToKw cpos (keywordEach [] X.env)).all (λx=>x.1.isSome)
  && decide (([e,f]:List Expr).length+([]:List Eo).length+(if ([]:List Eo).isEmpty then 0 else 1)<30))=true
 line:(apos.endLine == cpos.line)=true
 trees:backTo cpos (starEach [e,f] X.env)=[(false,eval e X.env),(false,eval f X.env)]
def IsD (H:Hp)(a:Addr):Prop:=(∃kvs,Rd H a (.dK kvs)) \/ ∃kvs,Rd H a (.dT kvs)
theorem qwn {X:Cx}{j:List (Addr×Obj)}{σ:St}{H:Hp}{s:Ae}{a:Addr}(I:Inv X j σ H s)(d:IsD H a) :
  s.TypeIs (.ref a) "dict" /\ (∀b,Bm a=.ref b->∃c,s.heap.get? b=some c/\c.dict=none)/\(a == sysModules)=false:=by
 rcases d with ⟨kvs,e⟩|⟨kvs,e⟩
 .obtain⟨_,h,vs,_,f⟩:=qfv I.hok e;refine⟨f.typeIs,λb q=>?_,h⟩;cases q;obtain⟨c,_,_,g,i,_⟩:=f;exact⟨c,g,i.2.1⟩
 .obtain⟨_,h,xs,_,f⟩:=qj3 I.hok e;refine⟨f.typeIs,λb q=>?_,h⟩;cases q;obtain⟨c,_,_,g,i,_⟩:=f;exact⟨c,g,i.2.1⟩
section
variable {X:Cx}{pins:List (Addr×Obj)}{σ:St}{H:Hp}{s:Ae}{a:Addr}{y d:V}{u r:Value}{o:Option V}{A:AQ}{E:Value->Ae->Prop}
theorem d_get1 {Q:Value->Ae->Prop}(m:A.units+1<cLine)(I:Inv X pins σ H s)(g:DGet H a y o)(j:RelV y u)(h:∀w' s',Inv X pins σ H s'->RelV (o.getD .non) w'->Q w' s') :
  wpAny (model X.prog X.w) A (call (.builtin "dict.get") [.ref a,u]) Q E s:=by
 rcases g with ⟨kvs,k,e,f,l⟩|⟨kvs,k,b,e,f,n,l⟩
 .subst f;obtain⟨z,i,vs,d,c⟩:=qfv I.hok e;refine DQ BX c.typeIs C3 (Dp _ _) (meets_dict_get (qat X.prog X.w) a (qk9 j) i) ⟨_,c.mapOf,h _ _ (I.tok _) ?_⟩;rw[l];exact(d.val k).getD rfl
 .subst f;cases (show u=Bm b from j);obtain⟨z,i,xs,d,c⟩:=qj3 I.hok e;refine DQ BX c.typeIs C3 (Dp _ _) (meetsH_dict_get (tupleKind (qat X.prog X.w)) a b i) ⟨CB m,k,xs,qhh I.hok n,c,h _ _ (I.tok _) ?_⟩;rw[l];exact(d.val k).getD rfl
theorem d_get2 {Q:Value->Ae->Prop}(n:A.units+1<cLine)(I:Inv X pins σ H s)(g:DGet H a y o)(m:RelV y u)(rd:RelV d r)(h:∀w' s',Inv X pins σ H s'->RelV (o.getD d) w'->Q w' s') :
  wpAny (model X.prog X.w) A (call (.builtin "dict.get") [.ref a,u,r]) Q E s:=by
 rcases g with ⟨kvs,k,e,i,l⟩|⟨kvs,k,b,e,i,p,l⟩
 .subst i;obtain⟨z,j,vs,f,c⟩:=qfv I.hok e;refine DQ BX c.typeIs C3 (PySem.F.args_dict_get_3 _ _ _) (meets_dict_get_default (qat X.prog X.w) a (qk9 m) j r) ⟨_,c.mapOf,h _ _ (I.tok _) ?_⟩;rw[l];exact(f.val k).getD rd
 .subst i;cases (show u=Bm b from m);obtain⟨z,j,xs,f,c⟩:=qj3 I.hok e;refine DQ BX c.typeIs C3 (PySem.F.args_dict_get_3 _ _ _) (meetsH_dict_get_default (tupleKind (qat X.prog X.w)) a b j r) ⟨CB n,k,xs,qhh I.hok p,c,h _ _ (I.tok _) ?_⟩;rw[l];exact(f.val k).getD rd
end
def tDGet2 (td ty tx:TE):TE:=λσ H Q=>td σ H λx H1=>∃a,x=.ref a/\IsD H1 a/\ty σ H1 λy H2=>tx σ H2 λz H3=>∃o,DGet H3 a y o/\Q (o.getD z) H3
section
variable {X:Cx}{o e f:Expr}{apos cpos:Pos}{td ty tx:TE}
theorem qwo (v:X.A.units+1<cLine)(B:PE X o td)(l:PE X e ty)(L:PE X f tx)(m:M2 X o "get" apos e f cpos):PE X (.Call (.Attribute o "get" apos) [e,f] [] cpos) (tDGet2 td ty tx):=by
 intro b s σ H Q I h;refine wpAny_Call_method m.base m.few m.line PySem.F.plainAttrs_dict BX PySem.F.type_dict_get (thn (B b s σ H _ I h) λu w i=>?_);obtain⟨x,J,c,t,a,ex,d,E⟩:=i;subst ex;obtain rfl:u=Bm a:=t;obtain⟨D,N,_⟩:=qwn c d;refine⟨D,N,?_⟩;rw[m.trees];refine CV rfl (DC (CA (thn (l b w σ J _ c E) λiv q ⟨y,r,n,K,k⟩ =>
  CA (thn (L b q σ r _ n k) λfv s3 ⟨z,C,O,G,ov,g,M⟩=>Db ?_))))
 exact d_get2 v O g K G λw' s4 p j=>⟨_,C,p,j,M⟩
end
section
variable {X:Cx}{pins:List (Addr×Obj)}{σ:St}{H:Hp}{s:Ae}{a:Addr}{kvs:List (Key×V)}{A:AQ}{E:Value->Ae->Prop}
end
section
variable {X:Cx}{pins:List (Addr×Obj)}{σ:St}{H:Hp}{s:Ae}{a:Addr}{y:V}{u:Value}{A:AQ}{E:Value->Ae->Prop}
end
end L2
namespace L2
open PySem PySem.Spec PyProof.Rows
section
variable {κ:Type}[DecidableEq κ]
theorem valV_in {kvs:List (κ×V)}{k:κ}{v:V}(h:qbf kvs k=some v):k∈kvs.map (·.1):=by
 have q:(kvs.any λb=>decide (b.1=k))=true:=by rw[qe1,h];all_goals rfl
 obtain⟨p,a,e⟩:=CQ.mp q;exact AS.mpr ⟨p,a,of_decide_eq_true e⟩
end
end L2
namespace Add
open PySem PySem.Spec PyProof.Rows L2
theorem pos {j:Int}(h:0<j):0<j:=h
theorem mulL {i j:Int}(h : -1000000<i)(h':i<1000000):CMul i j:=.inl ⟨by lia,by lia⟩
section
variable {K:Ag}
theorem qp5:AX K (.type "int") (.type "int")=some true:=by kernel_rfl
theorem qoo:AX K (.type "int") (.type "bool")=some false:=by kernel_rfl
theorem qke:AX K (.type "tuple") (.type "tuple")=some true:=by kernel_rfl
end
section
variable {X:Cx}
theorem qia:qh5 X (.builtin "isinstance") (λxs H Q=>∃x t c b,xs=[x,.ty c]/\TyOf X.K H x t/\AX X.K t (.type c)=some b/\Q (.bl b) H):=by intro pins s σ H xs us Q I r h;obtain⟨x,t,c,b,rfl,ty,e,q⟩:=h;obtain⟨u,u',rfl,a,d⟩:=Vals.two r;cases (show u'=CM c from d);exact qup I a ty e λtk=>⟨.bl b,H,I.tok tk,Z,q⟩
def qfz:List V->List V->Bool
 | [],[]=>true
 |x::xs,y::ys=>eqV x y && qfz xs ys
 |_,_=>false
def eAt (xs ys:List V)(j:Nat):Bool:=match xs[j]?,ys[j]? with
 |some x,some y=>eqV x y
 |_,_=>false
theorem qwp:∀(xs ys:List V),((Ar (min xs.length ys.length)).all (eAt xs ys) && (xs.length == ys.length))=qfz xs ys
 | [],[]=>rfl
 | [],_::_=>by simp[qfz]
 |_::_,[]=>by simp[qfz]
 |x::xs,y::ys=>by
  have a:=qwp xs ys;have e:min (x::xs).length (y::ys).length=min xs.length ys.length+1:=by simp only[AD];lia
  rw[e,List.range_succ_eq_map,List.all_cons,List.all_map];have f:(eAt (x::xs) (y::ys) ∘ Nat.succ)=eAt xs ys:=by funext j;simp[eAt,Function.comp]
  have g:((x::xs).length == (y::ys).length)=(xs.length == ys.length):=by simp
  rw[f,g];show ((eqV x y && (Ar (min xs.length ys.length)).all (eAt xs ys)) && (xs.length == ys.length))=(eqV x y && qfz xs ys);rw[<- a,Bool.and_assoc]
theorem qwq {A:AQ}{s:Ae}{xs ys:List V}{us a:List Value}(r:Vals xs us)(f:Vals ys a)(o:xs.all qbt=true)(fy:ys.all qbt=true) :
  ∀j (d:j<us.toArray.size) (g:j<a.toArray.size),Bd A s us.toArray[j] a.toArray[j] (eAt xs ys j):=by
 intro j d g;have b:j<xs.length:=by rw[r.length];simpa using d
 have c:j<ys.length:=by rw[f.length];simpa using g
 obtain⟨u,e,m⟩:=r.get (i:=j) (x:=xs[j]) (by simp[b]);obtain⟨w,k,h⟩:=f.get (i:=j) (x:=ys[j]) (by simp[c]);have l:us.toArray[j]=u:=by
  have:us[j]?=some us[j]:=by simp
  rw[this]at e;simpa using AE e
 have p:a.toArray[j]=w:=by
  have:a[j]?=some a[j]:=by simp
  rw[this]at k;simpa using AE k
 have n:eAt xs ys j=eqV xs[j] ys[j]:=by simp[eAt,b,c]
 rw[l,p,n];exact qom m h (Cf.mp o _ (Bj b)) (Cf.mp fy _ (Bj c))
def rEqT (K:Ag)(f:Bool->Bool):R2:=λx y H Q=>∃a b xs ys,x=.ref a/\y=.ref b/\SqT K H a xs/\SqT K H b ys/\xs.all qbt=true/\ys.all qbt=true/\Q (.bl (f (qfz xs ys))) H
theorem op_neT (l:X.A.units<cLine):OpR X (compareOp .NotEq) (rEqT X.K λz=>!z):=by
 intro pins s σ H x y v u Q I k o h;obtain⟨a,b,xs,ys,rfl,rfl,j,i,n,fy,q⟩:=h;cases k;cases o;obtain⟨its,d,g,_⟩:=I.tuple j;obtain⟨c,f,m,_⟩:=I.tuple i;refine DR.tuples (show s.heap.IsTuple a its.toArray from g) (show s.heap.IsTuple b c.toArray from m) l (qwq d f n fy) _ _ _ _ ?_;have e:((Ar (min its.toArray.size c.toArray.size)).all (eAt xs ys) && (its.toArray.size == c.toArray.size))=qfz xs ys:=by rw[<- qwp xs ys,Ak,Ak,d.length,f.length]
 rw[e];exact⟨.bl (!qfz xs ys),H,I,Z,q⟩
end
section
variable {X:Cx}{tg:Expr}
end
section
open PySem.SeqAt
open PySem.AutoSeq1 (wpAny_loadPart')
open PySem.MeetsSeq PySem.MeetsSeq2 PySem.MeetsSeq3
open HT
end
section
variable {prog:AK}{w:World}{A:AQ}{E:Value->Ae->Prop}{s:Ae}
end
section
variable {X:Cx}
end
theorem qhi {env:Env}:∀(names:List (Str×B0))(b:List (Str×Addr)),(∀x∈names,x.2=.free->∃c,env.cells.lookup x.1=some c) ->
  (∀x c,b.lookup x=some c->env.cells.lookup x=some c) ->
  ∃f,(forIn names b λ(x:Str×B0)(u:List (Str×Addr))=>if (x.2 == Bs)=true then (do let a <- cellOf env x.1;pure (CY ((x.1,a)::u))) else (pure (CY u):Sem (ForInStep (List (Str×Addr)))))=pure f /\
   (∀x c,f.lookup x=some c->env.cells.lookup x=some c)/\(∀x,(b.lookup x).isSome=true->(f.lookup x).isSome=true)/\∀x∈names,x.2=.free->(f.lookup x.1).isSome=true
 | [],b,_,ha=>⟨b,Z,ha,λ_ h=>h,λ_ h=>absurd h (by simp)⟩
 | (n,k)::r,b,hf,ha=>by
  have t:∀x∈r,x.2=.free->∃c,env.cells.lookup x.1=some c:=λx g=>hf x (Az _ g);rw[List.forIn_cons];cases l:(k == Bs) with
  |false =>
   obtain⟨f,e,s,o,p⟩:=qhi r b t ha;refine⟨f,?_,s,o,λx g i=>?_⟩
   .simp only[l,DU,if_false];exact e
   .rcases Aq.mp g with z|z
    .subst z;have A:k=.free:=i;subst A;exact absurd l Uk
    .exact p x z i
  |true =>
   have y:k=.free:=by simpa using l
   obtain⟨c,v⟩:=hf (n,k) Al y;have w:∀x d,((n,c)::b).lookup x=some d->env.cells.lookup x=some d:=λx d e=>by
    rw[BS]at e;cases q:x == n with
    |true =>
     rw[q]at e;have B:x=n:=by simpa using q
     subst B;rw[v];exact e
    |false=>rw[q]at e;exact ha x d e
   obtain⟨f,e,s,o,p⟩:=qhi r ((n,c)::b) t w;have m:((((n,c)::b).lookup n).isSome)=true:=by simp
   refine⟨f,?_,s,λx g=>o x ?_,λx g i=>?_⟩
   .have j:cellOf env n=pure c:=by unfold cellOf;rw[v]
    simp only[l,if_true,j];exact e
   .rw[BS];cases q:x == n with|true=>rfl|false=>exact g
   .rcases Aq.mp g with z|z
    .subst z;exact o n m
    .exact p x z i
theorem qhj {env:Env}{scope:Scope}(b:∀x∈scope.names,x.2=.free->∃c,env.cells.lookup x.1=some c) :
  ∃a,closureFor scope env=pure a/\(∀x c,a.lookup x=some c->env.cells.lookup x=some c)/\∀x∈scope.names,x.2=.free->(a.lookup x.1).isSome=true:=by
 obtain⟨a,e,f,_,d⟩:=qhi scope.names [] b (λx c h=>absurd h (by simp));refine⟨a,?_,f,d⟩;unfold closureFor;exact(congrArg (λz=>z >>= λg=>(pure g:Sem (List (Str×Addr)))) e).trans rfl
noncomputable def qla (N:List Str)(js:List (Option Nat))(XN:List Str)(xs scope:Scope):Bool :=
 (scope.kind == .function) && (scope.names.all λx=>x.2 != .cell) && (scope.names.all λx=>x.2 != .local || (scope.names.lookup x.1 == some .local)) &&
 (scope.names.all λx=>x.2 != .free || (xs.names.lookup x.1 == some .cell || xs.names.lookup x.1 == some .free)) && (N.length == js.length) &&
 ((N.zip js).all λp=>match p.2 with|none=>true|some j=>(XN[j]? == some p.1) && (xs.names.lookup p.1 == some .cell || xs.names.lookup p.1 == some .free) && (scope.names.any λx=>x.1 == p.1 && x.2 == .free) && (scope.names.lookup p.1 == some .free))
structure CompNm (N:List Str)(js:List (Option Nat))(XN:List Str)(xs scope:Scope):Prop where
 kind:scope.kind=.function
 nocell:∀x∈scope.names,x.2 ≠ .cell
 names:∀x∈scope.names,x.2=.local->scope.names.lookup x.1=some .local
 clos:∀x∈scope.names,x.2=.free->(xs.names.lookup x.1=some .cell\/xs.names.lookup x.1=some .free)
 len:N.length=js.length
 free:∀(i j:Nat)(x:Str),N[i]?=some x->js[i]?=some (some j)->XN[j]?=some x/\(xs.names.lookup x=some .cell\/xs.names.lookup x=some .free)/\(x,Bs)∈scope.names/\scope.names.lookup x=some .free
theorem qi9 {N:List Str}{js:List (Option Nat)}{XN:List Str}{xs scope:Scope}(h:qla N js XN xs scope=true):CompNm N js XN xs scope:=by
 unfold qla at h;simp only[BF,Cf,beq_iff_eq,Bool.or_eq_true,bne_iff_ne,ne_eq]at h;obtain⟨⟨⟨⟨⟨g,t⟩,r⟩,o⟩,d⟩,f⟩:=h;refine⟨g,λx a=>t x a,λx a e=>?_,λx a e=>?_,d,λi j x l w=>?_⟩
 .rcases r x a with z|z
  .exact absurd e z
  .exact z
 .rcases o x a with z|z
  .exact absurd e z
  .exact z
 .have hz:(N.zip js)[i]?=some (x,some j):=by rw[List.getElem?_zip_eq_some];exact⟨l,w⟩
  have:=f _ (A0 hz);simp only[BF,beq_iff_eq,Bool.or_eq_true,CQ]at this;obtain⟨⟨⟨k,u⟩,y,s,m,p⟩,q⟩:=this;refine⟨k,u,?_,q⟩;obtain⟨v,n⟩:=y;have b:v=x:=m;have c:n=.free:=p;subst b c;exact s
theorem qp6 {env:Env}{scope:Scope}{x:Str}(h:scope.names.lookup x=some .free):(relabel scope env).names.lookup x=some .cell\/(relabel scope env).names.lookup x=some .free:=by
 have b:∀(l:List (Str×B0)),l.lookup x=some .free->((l.map λ(n,k)=>if (k == Bs && env.scope.kind == .function && env.kindOf n == some .cell) then (n,B0.cell) else (n,k)).lookup x=some .cell\/(l.map λ(n,k)=>if (k == Bs && env.scope.kind == .function && env.kindOf n == some .cell) then (n,B0.cell) else (n,k)).lookup x=some .free):=by
  intro l
  induction l with
  |nil=>intro h;simp at h
  |cons y r ih =>
   obtain⟨n,k⟩:=y;intro h;rw[BS]at h;rw[Ba];cases q:x == n with
   |false =>
    rw[q]at h;have:=ih h;by_cases a:(k == Bs && env.scope.kind == .function && env.kindOf n == some .cell)=true
    .simpa [a,BS,q] using this
    .simpa [a,BS,q] using this
   |true =>
    rw[q]at h;have h':k=.free:=AE h;subst h';by_cases a:(Bs == Bs && env.scope.kind == .function && env.kindOf n == some .cell)=true
    .exact .inl (by show CU x ((if (Bs == Bs && env.scope.kind == .function && env.kindOf n == some .cell)=true then (n,B0.cell) else (n,Bs))::_)=_;rw[if_pos a,BS,q])
    .exact .inr (by show CU x ((if (Bs == Bs && env.scope.kind == .function && env.kindOf n == some .cell)=true then (n,B0.cell) else (n,Bs))::_)=_;rw[if_neg a,BS,q])
 exact b scope.names h
noncomputable def qbz (X:Cx)(N:List Str)(scope:Scope)(cl:List (Str×Addr))(C:Addr)(s:Ae)(H:Hp)(fp:List Addr)(E:Value->Ae->Prop):Cx :=
 {X with N:=N,s₀:=s,H₀:=H,env:=compEnvC scope cl C X.env,outer:=X.stack,ex:=fp,fn:=λ_=>false,pn:=[],xe:=E}
noncomputable def qda (js:List (Option Nat))(σ:L2.St):L2.St:=js.map λj=>j.bind λk=>(σ[k]?).join
section
variable {prog:AK}{w:World}{A:AQ}{R:Result->Ae->Prop}{s:Ae}
theorem qr0 {g a d:Expr}{i:List Expr}{scope:Scope}{pos:Pos}{it f:Value}{env:Env}(I:Nat->Ae->Prop)
  (o:∀n s,I n s->wpAny (model prog w) A (pyNext it) (λr k=>match r with
   |none=>R (.ok .next) k
   |some v=>wpAny (model prog w) A (letOwnedTupleGo a it v) (λ_ j=>wpAny (model prog w) A (assign a env v) (λ_ q =>
     wpAny (model prog w) A (forIn i true λc r=>if r=true then do let ok <- isTrue c env (eval c env);pure (CY ok) else pure (CY r)) (λok l =>
      if ok=true then wpAny (model prog w) A (eval g env) (λx y =>
       wpAny (model prog w) A (call (.builtin "list.append") [f,x]) (λ_ t=>∃m,m<n/\I m t) (notedBy (model prog w) A env λe b=>R (.error e) b) y) (notedBy (model prog w) A env λe b=>R (.error e) b) l
      else ∃m,m<n/\I m l) (notedBy (model prog w) A env λe b=>R (.error e) b) q) (notedBy (model prog w) A env λe b=>R (.error e) b) j)
     (notedBy (model prog w) A env λe b=>R (.error e) b) k) (notedBy (model prog w) A env λe b=>R (.error e) b) s)
  (n:Nat)(h:I n s):codeAny (model prog w) A (.compLoop (.ListComp g [⟨a,d,i,0⟩] scope pos) 0 it f env) R s:=by
 refine codeAny_loop rfl I (λn s B=>?_) n h;show wpAny _ A ((compTurn (.ListComp g [⟨a,d,i,0⟩] scope pos) 0 it f env).onRaise (λx=>do noteFrame x env;theTreesLotGoes x)) _ _ s;refine wpAny_noted ?_;rw[compTurn_list];refine As (Ef (As (Ca (o n s B) (λr k p=>?_) λ_ _ h'=>h')));cases r with
 |none=>exact AO p
 |some v =>
  refine As (Ca p (λ_ j u=>?_) λ_ _ h'=>h');refine As (Ca u (λ_ q E=>As (Ca E (λok l z=>?_) λ_ _ h'=>h')) λ_ _ h'=>h');cases ok with|false=>exact AO ⟨Z,z⟩|true =>exact As (As (Ca z (λx y C=>As (Ca C (λ_ t D=>AO (AO ⟨Z,D⟩)) λ_ _ h'=>h')) λ_ _ h'=>h'))
end
def PTs (X:Cx)(ifs:List Expr)(t:TT):Prop :=
 ∀(pins:List (Addr×Obj))(s:Ae)(σ:L2.St)(H:Hp)(Q:Bool->Hp->Prop),Inv X pins σ H s->t σ H Q ->
  wpAny (model X.prog X.w) X.A (forIn ifs true λc r=>if r=true then do let ok <- isTrue c X.env (eval c X.env);pure (CY ok) else pure (CY r)) (TP X pins σ Q) X.xe s
def qs9:TT:=λ_ H Q=>Q true H
theorem qel {X:Cx}:PTs X [] qs9:=λ_ _ _ H _ I h=>wpAny_tests_nil ⟨H,I,h⟩
theorem qe9 {X:Cx}{c:Expr}{t:TT}(b:PT X c t):PTs X [c] t:=λa s σ H Q I h=>wpAny_tests_one (b a s σ H Q I h)
def qja (js:List (Option Nat))(g:TG)(tc:TT)(te:TE)(σ:L2.St)(Q:VK)(J:It)(H1:Hp):Prop:=∀p,H1 p=none ->
 ∃W:Nat->Nat->L2.St->Hp->Prop,(∃m,W 0 m (qda js σ) (upd H1 p (.lst [])))/\∀i m σ' H',W i m σ' H' ->
  (J.stop i H'/\Q (.ref p) H')\/(J.go i H'/\∃N:L2.St->Hp->Prop,(∀σ2 H2,N σ2 H2->∃m',m'<m/\W (i+1) m' σ2 H2) /\
   ∀x H2,J.yld i H' x H2->g x σ' H2 λσ3 H3=>tc σ3 H3 λk H4=>if k=true then te σ3 H4 λv H5=>∃xs,H5 p=some (.lst xs)/\xs.length<A6/\N σ3 (upd H5 p (.lst (xs++[v]))) else N σ3 H4)
def tComp (js:List (Option Nat))(wi:TI)(g:TG)(tc:TT)(te:TE):TE:=λσ H Q=>wi σ H (qja js g tc te σ Q)
section
variable {X:Cx}{N XN:List Str}{js:List (Option Nat)}{xs scope:Scope}{elt target iter:Expr}{ifs:List Expr}{pos:Pos}{g:TG}{tc:TT}{te:TE}
theorem qlb {L:List (Addr×Obj)}{σ:L2.St}{H2:Hp}{D:Ae}{it:Addr}{fp:List Addr}{tn:Nat->Heap->Prop}{J:It}{B:List (Str×Addr)}{Q:V->Hp->Prop}{RR:Value->Addr->Result->Ae->Prop}{E:Value->Ae->Prop}
  (O:X.calm=true)(hN:X.N=XN)(hS:X.env.scope=xs)(nm:CompNm N js XN xs scope)(F:∀x c,B.lookup x=some c->X.env.cells.lookup x=some c)(ah:∀x∈scope.names,x.2=.free->(B.lookup x.1).isSome=true)
  (hg:∀(B:List (Str×Addr))(C:Addr)(s:Ae)(H:Hp)(fp:List Addr)(E:Value->Ae->Prop),PG (qbz X N scope B C s H fp E) target g)
  (ht:∀(B:List (Str×Addr))(C:Addr)(s:Ae)(H:Hp)(fp:List Addr)(E:Value->Ae->Prop),PTs (qbz X N scope B C s H fp E) ifs tc)
  (he:∀(B:List (Str×Addr))(C:Addr)(s:Ae)(H:Hp)(fp:List Addr)(E:Value->Ae->Prop),PE (qbz X N scope B C s H fp E) elt te)
  (I2:Inv X L σ H2 D)(T:Turn X.prog X.w X.K target J fp it tn)(al:tn 0 D.heap)(f2:∀b∈fp,qi3 X L H2 b)
  (hW:qja js g tc te σ Q J H2)
  (cg:∀(p C:Addr)(H':Hp)(G:Ae)(m:Str->Option Value),Inv X L σ H' G->G.heap.Ns C m->D.heap.objs.size<=C->H' C=none->Q (.ref p) H'->RR (.ref p) C (.ok .next) G) :
  wpAny (model X.prog X.w) X.A (newList []) (λau s₃=>wpAny (model X.prog X.w) X.A (newFunctionEnv scope X.env.globals B [] X.env.qual none .none (some X.env)) (λam s₄ =>
   codeAny (model X.prog X.w) X.A (.compStart (.ListComp elt [⟨target,iter,ifs,0⟩] scope pos) 0 (.ref it) au {am with scope:=relabel scope X.env}) (RR au am.locals) s₄) E s₃) E D:=by
 refine wpAny_newObj_type (wpAny_newFunctionEnv nm.nocell (by intro y hy;simp at hy) (λh₁ Y ad=>?_) nm.kind)
 obtain⟨W,⟨m0,w0⟩,aq⟩:=hW D.heap.objs.size I2.fresh
 have f:Inv X L σ (upd H2 D.heap.objs.size (.lst [])) {D with heap:=D.heap.push {cls:=.type "list",data:=.seq ([]:List Value).toArray} }:=I2.lnew (ys:=[]) (its:=[]) (t':=D.toks) .nil (AU _)
 generalize c8:({D with heap:=D.heap.push {cls:=.type "list",data:=.seq ([]:List Value).toArray} }:Ae)=s3 at f Y ad |-
 have aw:s3.heap=D.heap.push {cls:=.type "list",data:=.seq ([]:List Value).toArray}:=by rw[<- c8]
 have z3:s3.heap.objs.size=D.heap.objs.size+1:=by rw[aw,Dd]
 generalize hP:D.heap.objs.size=P at w0 aq f z3 |-
 have ay:∀b∈fp,upd H2 P (.lst []) b=none:=λb a=>by
  have nb:b≠P:=by obtain⟨o,eo,_⟩:=T.obj 0 D.heap al b a;have:=A9 eo;rw[hP]at this;exact AA this
  rw[qr nb];exact(f2 b a).1
 generalize hH:upd H2 P (.lst [])=H3 at w0 f ay
 have R:∀b∈fp,b≠X.env.locals/\b∉X.fs/\(b∈X.ex\/X.s₀.heap.objs.size<=b)/\(∀x c,X.env.cells.lookup x=some c->c≠b)/\∀p∈X.pn++L,p.1≠b:=λb a=>(f2 b a).2
 have ag:∀b∈fp,b<s3.heap.objs.size:=λb a=>by obtain⟨o,eo,_⟩:=T.obj 0 D.heap al b a;have hl:=A9 eo;exact A2 hl (by rw[z3,hP];exact Cn _)
 have av:tn 0 s3.heap:=T.keep 0 _ _ al λb _ o e=>by rw[aw];exact Ao _ e
 generalize hC:s3.heap.objs.size=C at Y ad z3 ag |-
 have M:∀b o,s3.heap.get? b=some o->h₁.get? b=some o:=λb o e=>ad.extBut b o (by have hl:=A9 e;rw[hC]at hl;exact AA hl) (Ao _ e)
 have stk:∀b∈fp,b∉frs X.stack:=λb a z=>by
  rcases Aq.mp (f.stkSub b z) with q|q
  .exact(R b a).1 q
  .exact(R b a).2.1 q
 have ok:∀E',(qbz X N scope B C s3 H3 fp E').Ok:=λE'=>{
  mod:=f.ok.mod
  kind:=nm.kind
  glob:=f.ok.glob
  blt:=f.ok.blt
  above:=Ci hC
  inj:=λx y c h1 h2=>f.ok.inj x y c (F x c h1) (F y c h2)
  has:=λx hx=>by
   have cp:(x,Bs)∈scope.names:=by
    have hl:(relabel scope X.env).names.lookup x=some .cell\/(relabel scope X.env).names.lookup x=some .free:=hx;have cr:∀(l:List (Str×B0)),(∀y∈l,y.2 ≠ .cell)->((l.map λ(n,k)=>if (k == Bs && X.env.scope.kind == .function && X.env.kindOf n == some .cell) then (n,B0.cell) else (n,k)).lookup x=some .cell\/(l.map λ(n,k)=>if (k == Bs && X.env.scope.kind == .function && X.env.kindOf n == some .cell) then (n,B0.cell) else (n,k)).lookup x=some .free)->(x,Bs)∈l:=by
     intro l
     induction l with
     |nil=>intro _ h;rcases h with h|h <;>simp at h
     |cons y r ih =>
      obtain⟨n,k⟩:=y;intro hn h;have hr:=ih (λy hy=>hn y (Az _ hy));have hk:k ≠ .cell:=hn (n,k) Al;rw[Ba]at h;cases q:x == n with
      |false =>
       refine Az _ (hr ?_);by_cases O:(k == Bs && X.env.scope.kind == .function && X.env.kindOf n == some .cell)=true
       .simpa [O,BS,q] using h
       .simpa [O,BS,q] using h
      |true =>
       have q':x=n:=by simpa using q
       subst q';by_cases O:(k == Bs && X.env.scope.kind == .function && X.env.kindOf x == some .cell)=true
       .have:k=.free:=by
         simp only[BF,beq_iff_eq]at O
         exact O.1.1
        subst this
        exact Al
       .have h':k=.cell\/k=.free:=by simpa [O,BS] using h
        rcases h' with z|z
        .exact absurd z hk
        .subst z;exact Al
    exact cr scope.names nm.nocell hl
   exact BZ.mp (ah _ cp Z)
  cab:=λ_ _ h _=>nomatch h
  hd:=f.ok.hd
  frames:=f.ok.frames
  stk:=.inl Z
  exf:=λb a=>⟨AA (ag b a),λx c e=>(R b a).2.2.2.1 x c (F x c e)⟩
  bs:=f.bs
  bsz:=A5 f.ok.bsz f.sz
  noex:=λb o e a=>by
   rcases (R b a).2.2.1 with z|z
   .exact f.ok.noex b o e z
   .have h1:=A9 e;have h2:=f.ok.bsz;exact absurd (A2 h1 (A5 h2 z)) (Cg _)
  exfs:=stk
  funs:=f.stack
  frf:=f.stkFree}
 have start:∀E',Inv (qbz X N scope B C s3 H3 fp E') [] (qda js σ) H3 {s3 with heap:=h₁,toks:=s3.toks+([]:List (Str×Value)).length}:=λE'=>{
  ok:=ok E'
  os:=rfl
  bare:=f.bare
  base:=Un.kept M
  loc:=by
   refine⟨_,Y,λi x v e1 e2 e3=>?_⟩;have S:((js[i]?).map λj=>j.bind λk=>(σ[k]?).join)=some (some v):=by
    have:=e2;unfold qda at this
    rwa [Ai]at this
   cases hj:js[i]? with
   |none=>rw[hj]at S;cases S
   |some jo =>
    rw[hj]at S;cases jo with
    |none=>cases S
    |some j =>
     have I:(σ[j]?).join=some v:=AE S;have e4:σ[j]?=some (some v):=by
      cases q:σ[j]? with
      |none=>rw[q]at I;cases I
      |some o=>rw[q]at I;cases o with
       |none=>cases I
       |some y=>cases I;rfl
     obtain⟨a1,a2,a3,a4⟩:=nm.free i j x e1 hj;obtain⟨mX,hnX,lX⟩:=f.loc;have bt:Vis X.env.scope x:=by rw[hS];exact .inr a2
     obtain⟨u,ru,lu⟩:=lX j x v (by rw[hN];exact a1) e4 bt;refine⟨u,ru,?_⟩;rcases lu with ⟨k1,_⟩|⟨k1,c,e5,z⟩
     .exfalso;have aj:X.env.scope.names.lookup x=some .local:=k1;rw[hS]at aj;rcases a2 with q|q <;>rw[q]at aj <;>cases aj
     .obtain⟨c',e6⟩:=BZ.mp (ah _ a3 Z);have e7:=F x c' e6;rw[e5]at e7;cases e7;refine .inr ⟨?_,c,e6,?_⟩
      .rcases e3 with q|q|q
       .exfalso;have:=qp6 (env:=X.env) a4;rcases this with t|t <;>(have q':(relabel scope X.env).names.lookup x=some .local:=q;rw[t]at q';cases q')
       .exact .inl q
       .exact .inr q
      .obtain⟨o,ho,hd⟩:=z;exact⟨o,M c o ho,hd⟩
  cell:=λx c e=>by obtain⟨v,o,ho,hd⟩:=f.cell x c (F x c e);exact⟨v,o,M c o ho,hd⟩
  free:=f.hok.fresh (Ci hC)
  freeC:=λx c e=>f.freeC x c (F x c e)
  pin:=λp hp=>absurd (show p∈([]:List (Addr×Obj)) from hp) (by simp)
  hok:=f.hok.kept M
  len:=by unfold qda;rw[Ab];exact nm.len.symm}
 have done:∀{E':Value->Ae->Prop}{σ':L2.St}{H':Hp}{G:Ae},Inv (qbz X N scope B C s3 H3 fp E') [] σ' H' G->Q (.ref P) H'->RR (.ref P) C (.ok .next) G:=λ{E' σ' H' G} J' q=>by obtain⟨m',bi,_⟩:=J'.loc;refine cg P C H' G m' (f.call' (ch:=fp) J'.os J'.base J'.hok J'.bare λb a=>⟨(R b a).2.2.1,(R b a).1,(R b a).2.2.2.1,(R b a).2.2.2.2⟩) bi (by rw[z3,hP];exact Cn _) J'.free q
 have ak:∀s₄:Ae,s₄={s3 with heap:=h₁,toks:=s3.toks+([]:List (Str×Value)).length} ->
   codeAny (model X.prog X.w) X.A (.compLoop (.ListComp elt [⟨target,iter,ifs,0⟩] scope pos) 0 (.ref it) (.ref P) (compEnvC scope B C X.env)) (RR (.ref P) C) s₄:=by
  rintro s₄ rfl;generalize c7:notedBy (model X.prog X.w) X.A (compEnvC scope B C X.env) (λe G=>RR (.ref P) C (.error e) G)=NB;have ae:∀{H':Hp},(∀b∈fp,H' b=none)->∀b∈fp,qi3 (qbz X N scope B C s3 H3 fp NB) [] H' b:=λhn b a =>
   ⟨hn b a,AA (ag b a),stk b a,.inl a,λx c e=>(R b a).2.2.2.1 x c (F x c e),λp hp=>absurd (show p∈([]:List (Addr×Obj)) from hp) (by simp)⟩
  refine qr0 (λn G=>∃i σ' H',Inv (qbz X N scope B C s3 H3 fp NB) [] σ' H' G/\tn i G.heap/\(∀b∈fp,H' b=none)/\W i n σ' H') ?_ m0 ⟨0,qda js σ,H3,start NB,T.keep 0 _ _ av λb _ o e=>M b o e,ay,w0⟩;rw[c7];rintro n s5 ⟨i,σ5,H5,I5,bc,ar,w5⟩;rcases aq i n σ5 H5 w5 with ⟨stop,qn⟩|⟨go,Nx,bj,step⟩
  .refine thn (T.done (qbz X N scope B C s3 H3 fp NB) Z Z Z O i [] s5 σ5 H5 NB I5 (ae ar) bc stop) λr s6 ⟨hr,I6⟩=>?_;subst hr;exact done I6 qn
  .refine thn (T.item (qbz X N scope B C s3 H3 fp NB) Z Z Z O i [] s5 σ5 H5 NB I5 (ae ar) bc go) λr s6 ⟨u,hr,h6⟩=>?_;subst hr;refine thn h6 λ_ s7 ⟨x,H7,I7,r7,y7,ai,bq⟩=>?_;have ca:=I7.pinned (ae bq) (T.obj _ _ ai);have af:∀{σ8:L2.St}{U:Hp}{s8:Ae},Inv (qbz X N scope B C s3 H3 fp NB) ([]++qi4 fp s7.heap) σ8 U s8->Nx σ8 U->∃m,m<n/\∃i σ' H',Inv (qbz X N scope B C s3 H3 fp NB) [] σ' H' s8/\tn i s8.heap/\(∀b∈fp,H' b=none)/\W i m σ' H':=λ{σ8 U s8} I8 n8=>by obtain⟨m',hm,w8⟩:=bj σ8 U n8;refine⟨m',hm,i+1,σ8,U,I8.unpinned,T.keep _ _ _ ai λb a o e=>(I8.pin (b,o) (A1 _ (A1 _ (qd0 a e)))).1,λb a=>?_,w8⟩;obtain⟨o,e,d⟩:=T.obj _ _ ai b a;exact(I8.pin (b,o) (A1 _ (A1 _ (qd0 a e)))).2.1
   refine thn (hg B C s3 H3 fp NB _ s7 σ5 H7 x u _ ca r7 (step x H7 y7)) λ_ s8 ⟨σ8,U,I8,q8⟩=>?_;refine thn (ht B C s3 H3 fp NB _ s8 σ8 U _ I8 q8) λk s9 ⟨H9,I9,q9⟩=>?_;cases k with
   |false =>rw[if_neg Uk]at q9 |-;exact af I9 q9
   |true =>rw[if_pos Z]at q9 |-;refine thn (he B C s3 H3 fp NB _ s9 σ8 H9 _ I9 q9) λuv cz ⟨v,cx,cw,bz,bu,bw,bh,dc⟩=>?_;refine thn (qao (X:=qbz X N scope B C s3 H3 fp NB) _ cz σ8 cx (.ref P) [v] (.ref P) [uv] (λ_ bf=>Nx σ8 bf) cw Z (.cons bz .nil) ⟨P,bu,v,Z,Z,bw,bh,dc⟩) λ_ s11 ⟨_,bf,c9,_,cq⟩=>?_;exact af c9 cq
 exact codeAny_compStart_list (ak _ Z) (T.self _ 0 _ _ _ (T.keep 0 _ _ av λb _ o e=>M b o e) (ak _ Z))
end
section
variable {X:Cx}{N XN:List Str}{js:List (Option Nat)}{xs scope:Scope}{elt target iter:Expr}{ifs:List Expr}{pos:Pos}{wi:TI}{g:TG}{tc:TT}{te:TE}
theorem qj4 {a:List (Addr×Obj)}{σ σ':L2.St}{H H':Hp}{s d:Ae}{C:Addr}{h':Heap}(f:Inv X a σ H s)(J:Inv X a σ' H' d)(g:s.heap.objs.size<=C)(j:H' C=none)(h:BR C d.heap h'):Inv X a σ' H' {d with heap:=h'} :=
 J.turned (t':=d.toks) (it:=C) (λb o i e=>h.extBut b o i e) j (Ch (A2 f.lt g)) (.inr (A5 f.sz g))
  (λx c e=>by obtain⟨v,q⟩:=f.cell x c e;exact AA (A2 q.lt g)) λp k=>AA (A2 (A9 (f.pin p k).1) g)
theorem qc1 (L:X.calm=true)(D:X.N=XN)(c:X.env.scope=xs)(f:qla N js XN xs scope=true)(u:PI X target iter wi)
  (P:∀(a:List (Str×Addr))(C:Addr)(s:Ae)(H:Hp)(fp:List Addr)(E:Value->Ae->Prop),PG (qbz X N scope a C s H fp E) target g)
  (K:∀(a:List (Str×Addr))(C:Addr)(s:Ae)(H:Hp)(fp:List Addr)(E:Value->Ae->Prop),PTs (qbz X N scope a C s H fp E) ifs tc)
  (o:∀(a:List (Str×Addr))(C:Addr)(s:Ae)(H:Hp)(fp:List Addr)(E:Value->Ae->Prop),PE (qbz X N scope a C s H fp E) elt te)
  (G:∀x,foldedSetIterable iter X.env x=pure x:=by intro _;rfl):PE X (.ListComp elt [⟨target,iter,ifs,0⟩] scope pos) (tComp js wi g tc te):=by
 intro b s σ H Q I h;have nm:=qi9 f;obtain⟨a,hcl,O,y⟩:=qhj (env:=X.env) (scope:=scope) λx F e=>I.ok.has x.1 (by
  rcases nm.clos x F e with q|q
  .exact .inl (by show X.env.scope.names.lookup _=_;rw[c];exact q)
  .exact .inr (by show X.env.scope.names.lookup _=_;rw[c];exact q))
 rw[eval_ListComp];refine wpAny_comprehension_free (use:=none) rfl G hcl nm.kind nm.names (thn (u b s σ H _ I h) λv s1 n=>thn n λitv s2 M=>?_);obtain⟨it,fp,tn,J,H2,e,d,T,k,t,r⟩:=M;subst e;refine qlb (RR:=λi C=>compPost (model X.prog X.w) X.A X.xe none (EP X b σ Q) i C) L D c nm O y P K o d T k t r λp C H' s' m J' B z l q=>?_;exact⟨m,B,λh' j=>⟨.ref p,H',qj4 d J' z l j,Z,q⟩⟩
theorem qfa {i:Nat}{x:Str}{c j:Pos}(R:X.N.Nodup)(K:X.N[i]?=some x)(f:X.env.scope.names.lookup x=some .local)(V:X.calm=true)(hN:X.N=XN)(n:X.env.scope=xs)(L:qla N js XN xs scope=true)(hi:PI X target iter wi)
  (hg:∀(d:List (Str×Addr))(C:Addr)(s:Ae)(H:Hp)(fp:List Addr)(E:Value->Ae->Prop),PG (qbz X N scope d C s H fp E) target g)
  (ht:∀(d:List (Str×Addr))(C:Addr)(s:Ae)(H:Hp)(fp:List Addr)(E:Value->Ae->Prop),PTs (qbz X N scope d C s H fp E) ifs tc)
  (he:∀(d:List (Str×Addr))(C:Addr)(s:Ae)(H:Hp)(fp:List Addr)(E:Value->Ae->Prop),PE (qbz X N scope d C s H fp E) elt te)
  (P:swapsWith (.ListComp elt [⟨target,iter,ifs,0⟩] scope pos) (some (.Name x c)) j.line X.env=pure true:=by rfl)
  (hs:∀x,foldedSetIterable iter X.env x=pure x:=by intro _;rfl):PS X (.Assign [.Name x c] (.ListComp elt [⟨target,iter,ifs,0⟩] scope pos) j) (tAsg (tComp js wi g tc te) (qbk i)):=by
 intro a s σ H D I h;have nm:=qi9 L;obtain⟨d,hcl,c1,c2⟩:=qhj (env:=X.env) (scope:=scope) λx hx e=>I.ok.has x.1 (by
  rcases nm.clos x hx e with q|q
  .exact .inl (by show X.env.scope.names.lookup _=_;rw[n];exact q)
  .exact .inr (by show X.env.scope.names.lookup _=_;rw[n];exact q))
 rw[exec_Assign_Name_used _ _ _ _ P];refine As (Ef (As ?_));show wpAny _ X.A (do let _ <- comprehension (.ListComp elt [⟨target,iter,ifs,0⟩] scope pos) scope X.env _ (newList []) false (eval iter X.env) (some (assign (.Name x c) X.env))) _ _ s;refine As (Ca (wpAny_comprehension_free (use:=some (assign (.Name x c) X.env)) (Q:=λ_ b=>SP X a D .next b) Z hs hcl nm.kind nm.names
  (thn (hi a s σ H _ I h) λv s1 W=>thn W λitv s2 h2=>?_)) (λ_ b U=>AO (AO U)) λ_ _ e=>e)
 obtain⟨it,fp,tn,J,H2,e,k,T,M,f2,Y⟩:=h2;subst e;refine qlb (Q:=λx H1=>qbk i x σ H1 D.nx) (RR:=λt C=>compPost (model X.prog X.w) X.A X.xe (some (assign (.Name x c) X.env)) (λ_ b=>SP X a D .next b) t C) V hN n nm c1 c2 hg ht he k T M f2 Y λp C H' b m J' hn l O q=>?_;obtain⟨o,es,ep,ho,G,hr⟩:=id hn;have Jp:Inv X (a++[(C,o)]) σ H' b:=J'.pins_of λz hz=>(Av.mp hz).elim (λy=>J'.pin z (A1 _ y)) λy=>by
  have e:z=(C,o):=by simpa using y
  subst e;exact⟨ho,O,Ch (A2 k.lt l),k.nofs l,λv z=>by rw[G]at z;cases z⟩
 refine thn (qad (X:=X) (pos:=c) R K (.inl f) (.inr f) (a++[(C,o)]) b σ H' (.ref p) (.ref p) _ Jp Z q) λ_ s'' ⟨σ'',B,F,r⟩=>?_;have S:=F.pin (C,o) (A1 _ (A1 _ (by simp)));refine⟨m,⟨o,es,ep,S.1,G,hr⟩,λh' u=>⟨σ'',B,qj4 k F.unpinned l S.2.1 u,r⟩⟩
end
def qnp (J:It)(H:Hp)(xs:List V):Prop:=∀H',Same H H'->(∀i x,xs[i]?=some x->J.go i H'/\∀y H2,J.yld i H' y H2->y=x/\H2=H')/\J.stop xs.length H'
theorem qbg {K:Ag}{H:Hp}{a:Addr}{xs:List V}(h:SqL K H a xs):qnp (Itl K a) H xs:=λH' e =>
 ⟨λi x b=>⟨⟨xs,x,e.seq h,b⟩,λy H2 d=>by obtain⟨c,f⟩:=d;have:=f xs (e.seq h);rw[b]at this;exact⟨(AE this).symm,c⟩⟩,⟨xs,e.seq h,Am _⟩⟩
theorem qem {H:Hp}{lo:Int}{n:Nat}:qnp (Itr lo n) H ((Ar n).map λi=>V.int (lo+(i:Nat))):=λH' _ =>
 ⟨λi x a=>by
  rw[Ai]at a;cases q:(Ar n)[i]? with
  |none=>rw[q]at a;cases a
  |some j =>
   have d:i<n:=by obtain⟨c,_⟩:=Ac.mp q;simpa using c
   have f:j=i:=by obtain⟨_,e⟩:=Ac.mp q;simpa using e.symm
   rw[q]at a;subst f;exact⟨d,λy H2 b=>⟨b.2.trans (AE a),b.1⟩⟩,by show n<=_;simp⟩
theorem qe2 {js:List (Option Nat)}{g:TG}{t:TE}{J:It}{σ:L2.St}{H:Hp}{Q:VK}{xs:List V}(f:V->V)(c:L2.St->Prop)(F:qnp J H xs)(hz:xs.length<=A6)(w:c (qda js σ))
  (step:∀(x:V)(σ':L2.St)(H':Hp)(R:L2.St->VK),x∈xs->Same H H'->c σ'->(∀σ3,c σ3->R σ3 (f x) H')->g x σ' H' λσ3 h=>t σ3 h (R σ3))
  (D:∀(x:V)(σ':L2.St)(H':Hp)(R q:L2.St->Hp->Prop),(∀σ3 h,R σ3 h->q σ3 h)->g x σ' H' R->g x σ' H' q)
  (k:∀p,H p=none->Q (.ref p) (upd H p (.lst (xs.map f)))) :
  qja js g qs9 t σ Q J H:=by
 intro p r;have s:∀o,Same H (upd H p o):=λo b u e=>by rw[qr (qae e r)];exact e
 refine⟨λi m σ' H'=>m=xs.length-i/\i<=xs.length/\c σ'/\H'=upd H p (.lst ((xs.take i).map f)),⟨xs.length,by simp,AU _,w,by simp⟩,?_⟩;rintro i m σ' H' ⟨rfl,hi,G,rfl⟩;obtain⟨A,B⟩:=F _ (s (.lst ((xs.take i).map f)));by_cases d:i<xs.length
 .have ex:xs[i]?=some xs[i]:=by simp[d]
  obtain⟨E,y⟩:=A i _ ex;refine .inr ⟨E,λσ2 j=>c σ2/\j=upd H p (.lst ((xs.take (i+1)).map f)),λσ2 j ⟨a,b⟩=>⟨xs.length-(i+1),by lia,Z,d,a,b⟩,λx j C=>?_⟩;obtain⟨rfl,rfl⟩:=y x j C;refine D _ _ _ _ _ (λσ3 h z=>?_) (step xs[i] σ' _ (λσ3 v l=>∃ys,l p=some (.lst ys)/\ys.length<A6/\(c σ3/\upd l p (.lst (ys++[v]))=upd H p (.lst ((xs.take (i+1)).map f)))) (Bj d) (s _) G λσ3 n=>?_)
  .exact z
  .refine⟨_,qk,?_,n,?_⟩
   .rw[Ab,Bv];lia
   .rw[qs3,B1,ex,Ax];rfl
 .have e:i=xs.length:=by lia
  subst e;refine .inl ⟨B,?_⟩;rw[Bq];exact k p r
theorem qb8 {i:Nat}(x:V)(σ':L2.St)(H':Hp)(R a:L2.St->Hp->Prop)(h:∀σ3 H3,R σ3 H3->a σ3 H3)(z:qbk i x σ' H' R):qbk i x σ' H' a:=h _ _ z
section
variable {X:Cx}{tg:Expr}
end
section
variable {X:Cx}
theorem qwr {a b}{es:List Expr}{env:Env}:starEach (.List a b::es) env=(false,eval (.List a b) env)::starEach es env:=by rw[starEach];intro e p' h;cases h
theorem zn {a b c}{es:List Expr}{env:Env}:starEach (.Tuple a b c::es) env=(false,eval (.Tuple a b c) env)::starEach es env:=by rw[starEach];intro e p' h;cases h
theorem qf7 {a b c d}{es:List Expr}{env:Env}:starEach (.ListComp a b c d::es) env=(false,eval (.ListComp a b c d) env)::starEach es env:=by rw[starEach];intro e p' h;cases h
theorem ql {a b c}{es:List Expr}{env:Env}:starEach (.Constant a b c::es) env=(false,eval (.Constant a b c) env)::starEach es env:=by rw[starEach];intro e p' h;cases h
theorem qe {a b}{es:List Expr}{env:Env}:starEach (.Name a b::es) env=(false,eval (.Name a b) env)::starEach es env:=by rw[starEach];intro e p' h;cases h
theorem zj {a b c d}{es:List Expr}{env:Env}:starEach (.Call a b c d::es) env=(false,eval (.Call a b c d) env)::starEach es env:=by rw[starEach];intro e p' h;cases h
theorem zl {a b c d}{es:List Expr}{env:Env}:starEach (.BinOp a b c d::es) env=(false,eval (.BinOp a b c d) env)::starEach es env:=by rw[starEach];intro e p' h;cases h
theorem zm {a b c}{es:List Expr}{env:Env}:starEach (.Subscript a b c::es) env=(false,eval (.Subscript a b c) env)::starEach es env:=by rw[starEach];intro e p' h;cases h
theorem qam {a b c}{es:List Expr}{env:Env}:starEach (.Attribute a b c::es) env=(false,eval (.Attribute a b c) env)::starEach es env:=by rw[starEach];intro e p' h;cases h
theorem qws {a b c d}{es:List Expr}{env:Env}:starEach (.IfExp a b c d::es) env=(false,eval (.IfExp a b c d) env)::starEach es env:=by rw[starEach];intro e p' h;cases h
end
section
variable {K:Ag}
theorem qp7:AX K (.type "str") (.type "str")=some true:=by kernel_rfl
end
section
variable {prog:AK}{w:World}{A:AQ}{E:Value->Ae->Prop}{h:Heap}{g:Array Eh}{d:Drawn}{t:Nat}{os:OsState}
variable {nm q:Str}{C N:Addr}{bs bm bmB:List Value}{hdct:Bool}{sn:List Str}{sub:List Value}{ab:Bool}{col:Option Bool}{dd:Option Addr}{k0 k1 k2 k3 k5:Option Value}{B Bn newId nid initId inN:String}{bmN:List Value}
end
section
open PySem.W
variable {prog:AK}{w:World}{A:AQ}{E:Value->Ae->Prop}{s:Ae}{K:Frag}{x C:Addr}{ox:Obj}{od:Option Obj}{name:Str}{expr:Bool}
end
section
open PySem.W
variable {prog:AK}{w:World}{A:AQ}{E:Value->Ae->Prop}{s:Ae}{K:Frag}{x C:Addr}{ox:Obj}{od:Option Obj}{name:Str}{expr:Bool}
end
section
open PySem.W
variable {prog:AK}{w:World}{A:AQ}{E:Value->Ae->Prop}{s:Ae}{K:Frag}{x C:Addr}{o:Obj}{name:Str}{v:Value}
end
section
variable {prog:AK}{w:World}{A:AQ}{E:Value->Ae->Prop}{K:Ag}{C fI:Addr}{s:Ae}{qcd:List Value}
end
section
variable {P:AK}{w:World}{H:Hp}{h:Heap}{x C dx:Addr}{od:Option Addr}{fr:Bool}{fs:List (Str×V)}
end
section
variable {X:Cx}{pins:List (Addr×Obj)}{σ:L2.St}{H:Hp}{s:Ae}{A:AQ}{E:Value->Ae->Prop}
variable {CX:CXT}{k:Nat}{f:Addr}{fd:Ay}{ps:List Str}{sp:Sp}{ds:List Value}{dvs:List V}{EX:XK}
end
section
variable {X:Cx}{pins:List (Addr×Obj)}{σ:L2.St}{H:Hp}{s:Ae}{E:Value->Ae->Prop}
end
section
variable {X:Cx}
theorem qp8:∀{x:V},qbt x=true->eqV x x=true
 |.non,_=>rfl
 |.bl b,_=>by cases b <;>rfl
 |.int i,_=>by simp[eqV]
 |.str y,_=>by simp[eqV]
 |.byt _,h=>by simp[qbt]at h
 |.flt _,h=>by simp[qbt]at h
 |.ref _,h=>by simp[qbt]at h
 |.ty _,h=>by simp[qbt]at h
end
noncomputable def xNo (K:Ag)(C:Addr)(ns:List Str):Bool:=ns.all λn=>Bf K (.ref C) n == some none
theorem qp {K:Ag}{C:Addr}{a:List Str}{n:Str}(h:xNo K C a=true)(m:n∈a):Bf K (.ref C) n=some none:=beq_iff_eq.mp (Cf.mp h n m)
structure MethAt (K:Ag)(x qual:Str)(st:Stmt)(ps:List Str)(f:Addr)(fd:Ay):Prop where
 fn:Fun K x qual st f fd
 bd:Binds K fd ps []
 ty:C9 K (.ref f)=some (.type "function")
section
variable {X:Cx}{K:Ag}
theorem qko {e:Expr}{f:Str}{pos:Pos}{a:TE}(b:X.K=K)(c:PE X e a)(d:attributeBase e f X.env (eval e X.env)=eval e X.env):PE X (.Attribute e f pos) (tFld K a f):=b ▸ qab c d
theorem qta (a:X.K=K):IxR X (rIxT K):=a ▸ zp
end
section
variable {M:Model}{A:AQ}{E:Value->Ae->Prop}{s:Ae}{base:Heap}{env:Env}{outer:List Env}{L x C:Addr}{od:Option Addr}{vs:Array Value}{sl:Array (Option Value)}
end
section
variable {X:Cx}{pins:List (Addr×Obj)}{σ:L2.St}{H:Hp}{s:Ae}{E:Value->Ae->Prop}{x C:Addr}{od:Option Addr}
end
section
variable {P:AK}{w:World}{K:Ag}{mg:Str->Option Value}{base:Heap}
end
section
variable {X:Cx}{k:Nat}{f C:Addr}{fd:Ay}{ps:List Str}{sp:Sp}{dvs:List V}{ds:List Value}{EX:L2.St->XK}{x m:Str}{p pos apos:Pos}{e o:Expr}{es:List Expr}{ta:TE}{t:TA}
end
abbrev _root_.L2.Cx.tr (X:Cx)(pins:List (Addr×Obj))(W:Value->Ae->Prop):Cx:={X with pn:=X.pn++pins,xe:=W}
section
variable {X:Cx}{pins pins':List (Addr×Obj)}{σ:L2.St}{H:Hp}{s:Ae}{W:Value->Ae->Prop}{e:Value}
end
abbrev TH:=Ends->L2.St->Addr->Addr->Option Addr->Hp->Prop
section
variable {X:Cx}{pins:List (Addr×Obj)}{σ:L2.St}{H:Hp}{s:Ae}{E:Value->Ae->Prop}
end
def PC (X:Cx)(t:Expr)(c:Value):Prop:=∀(e:Value)(E:Value->Ae->Prop)(pins:List (Addr×Obj))(s:Ae)(σ:L2.St)(H:Hp)(Q:Value->Ae->Prop),Inv X pins σ H s->Q c s->wpAny (model X.prog X.w) (X.A.mark (some e)) (eval t X.env) Q E s
section
variable {X:Cx}{t:Expr}{b₀:Stmt}{body:List Stmt}{pos:Pos}{qcd:List ExceptHandler}{c:Value}{ts:Addr->TS}{tr:TH}
end
section
variable {X:Cx}
theorem qwt {e:Expr}:PE X e λ_ _ _=>False:=λ_ _ _ _ _ _ h=>h.elim
end
noncomputable abbrev TJ:=Str->TE
section
variable {X:Cx}{e:Expr}{es:List Expr}{te:TE}{tj:TJ}{pos:Pos}
end
open Builtin Builtin.Str
section
variable {X:Cx}
end
end Add
namespace Add
open PySem PySem.Spec PyProof.Rows L2
section
variable {K:Ag}{C f:Addr}{m:Str}
noncomputable def qmu (K:Ag)(C:Addr):Bool:=Df K C A8 && Dt K C && Ea K C && (Bf K (.ref C) "__setattr__" == some (some (.builtin "object.__setattr__")))
theorem qf8 (h:qmu K C=true):Cls K C:=by unfold qmu at h;simp only[BF,beq_iff_eq]at h;obtain⟨⟨⟨a,d⟩,b⟩,c⟩:=h;exact⟨a,d,b,c⟩
noncomputable def mkB (K:Ag)(C f:Addr):Bool:=PySem.W.makesIn K C && (Bf K (.ref C) "__init__" == some (some (.ref f))) && DP K (.ref f) && Bu K (.ref C)
theorem qj5 (h:mkB K C f=true):Mk K C f:=by unfold mkB at h;simp only[BF,beq_iff_eq]at h;obtain⟨⟨⟨a,d⟩,b⟩,c⟩:=h;exact⟨a,d,b,c⟩
noncomputable def qax (K:Ag)(C:Addr)(m:Str)(f:Addr):Bool:=(Bf K (.ref C) m == some (some (.ref f))) && DP K (.ref f) && Bu K (.ref f)
theorem qai (h:qax K C m f=true):Meth K C m f:=by unfold qax at h;simp only[BF,beq_iff_eq]at h;obtain⟨⟨b,c⟩,a⟩:=h;exact⟨b,c,a⟩
end
open Builtin Builtin.Str
section
variable {X:Cx}
end
end Add
namespace Add
open PySem PySem.Spec PyProof.Rows L2
open Builtin Builtin.Str
end Add
namespace Add
open PySem PySem.Spec PyProof.Rows L2
theorem qak {H H':Hp}{p:Addr}{o:HO}(s:Same H H')(n:H p=none):Same H (upd H' p o):=λb u e=>by rw[qr (qae e n)];exact s _ _ e
theorem qnq {js:List (Option Nat)}{g:TG}{w:TE}{J:It}{σ:L2.St}{H:Hp}{Q:VK}{xs:List V}(f:V->V)(h:L2.St->Prop)(F:qnp J H xs)(hz:xs.length<=A6)(y:h (qda js σ))
  (step:∀(x:V)(σ':L2.St)(H':Hp)(R:L2.St->VK),x∈xs->Same H H'->h σ'->(∀σ3 d,h σ3->Same H' d->R σ3 (f x) d)->g x σ' H' λσ3 l=>w σ3 l (R σ3))
  (E:∀(x:V)(σ':L2.St)(H':Hp)(R u:L2.St->Hp->Prop),(∀σ3 l,R σ3 l->u σ3 l)->g x σ' H' R->g x σ' H' u)
  (r:∀p H',H p=none->Same H H'->H' p=some (.lst (xs.map f))->Q (.ref p) H') :
  qja js g qs9 w σ Q J H:=by
 intro p q;refine⟨λi m σ' H'=>m=xs.length-i/\i<=xs.length/\h σ'/\Same H H'/\H' p=some (.lst ((xs.take i).map f)),⟨xs.length,by simp,AU _,y,qak (Same.refl H) q,by rw[qk];rfl⟩,?_⟩;rintro i m σ' H' ⟨rfl,hi,I,n,o⟩;obtain⟨B,C⟩:=F _ n;by_cases j:i<xs.length
 .have ex:xs[i]?=some xs[i]:=by simp[j]
  obtain⟨G,A⟩:=B i _ ex;refine .inr ⟨G,λσ2 k=>h σ2/\Same H k/\k p=some (.lst ((xs.take (i+1)).map f)),λσ2 k ⟨a,b,c⟩=>⟨xs.length-(i+1),by lia,Z,j,a,b,c⟩,λx k D=>?_⟩;obtain⟨rfl,rfl⟩:=A x k D;refine E _ _ _ _ _ (λσ3 l z=>?_) (step xs[i] σ' _ (λσ3 v d=>∃ys,d p=some (.lst ys)/\ys.length<A6/\(h σ3/\Same H (upd d p (.lst (ys++[v])))/\upd d p (.lst (ys++[v])) p=some (.lst ((xs.take (i+1)).map f)))) (Bj j) n I λσ3 d t s=>?_)
  .exact z
  .refine⟨_,s _ _ o,?_,t,qak (n.trans s) q,?_⟩
   .rw[Ab,Bv];lia
   .rw[qk,B1,ex,Ax];rfl
 .have e:i=xs.length:=by lia
  subst e;refine .inl ⟨C,?_⟩;rw[Bq]at o;exact r p _ q n o
theorem qdb {js:List (Option Nat)}{g:TG}{t:TT}{B:TE}{J:It}{σ:L2.St}{H:Hp}{Q:VK}{xs:List V}(b:V->Bool)(f:V->V)(c:L2.St->Prop)(F:qnp J H xs)(hz:xs.length<=A6)(C:c (qda js σ))
  (step:∀(x:V)(σ':L2.St)(H':Hp)(N:L2.St->Hp->Prop)(R:L2.St->VK),x∈xs->Same H H'->c σ'->(∀σ3,c σ3->b x=false->N σ3 H')->(∀σ3,c σ3->b x=true->R σ3 (f x) H') ->
   g x σ' H' λσ3 j=>t σ3 j λk r=>if k=true then B σ3 r (R σ3) else N σ3 r)
  (L:∀(x:V)(σ':L2.St)(H':Hp)(R u:L2.St->Hp->Prop),(∀σ3 j,R σ3 j->u σ3 j)->g x σ' H' R->g x σ' H' u)
  (q:∀p,H p=none->Q (.ref p) (upd H p (.lst ((xs.filter b).map f)))) :
  qja js g t B σ Q J H:=by
 intro p w;have A:∀o,Same H (upd H p o):=λo=>qak (Same.refl H) w;have G:∀i,((xs.take i).filter b).length<=i:=λi=>A5 (BY b (xs.take i)) (by rw[Bv];lia);refine⟨λi m σ' H'=>m=xs.length-i/\i<=xs.length/\c σ'/\H'=upd H p (.lst (((xs.take i).filter b).map f)),⟨xs.length,by simp,AU _,C,by simp⟩,?_⟩;rintro i m σ' H' ⟨rfl,hi,O,rfl⟩;obtain⟨E,I⟩:=F _ (A (.lst (((xs.take i).filter b).map f)));by_cases h:i<xs.length
 .have ex:xs[i]?=some xs[i]:=by simp[h]
  obtain⟨M,D⟩:=E i _ ex;have y:(xs.take (i+1)).filter b=(xs.take i).filter b++(if b xs[i]=true then [xs[i]] else []):=by
   rw[B1,ex,Cc]
   congr 1
   show List.filter b [xs[i]]=_;rw[D6];rfl
  refine .inr ⟨M,λσ2 d=>c σ2/\d=upd H p (.lst (((xs.take (i+1)).filter b).map f)),λσ2 d ⟨a,b⟩=>⟨xs.length-(i+1),by lia,Z,h,a,b⟩,λx d K=>?_⟩;obtain⟨rfl,rfl⟩:=D x d K;refine L _ _ _ _ _ (λσ3 j z=>?_) (step xs[i] σ' _ (λσ2 d=>c σ2/\d=upd H p (.lst (((xs.take (i+1)).filter b).map f))) (λσ3 v s=>∃ys,s p=some (.lst ys)/\ys.length<A6/\(c σ3/\upd s p (.lst (ys++[v]))=upd H p (.lst (((xs.take (i+1)).filter b).map f)))) (Bj h) (A _) O (λσ3 l n=>?_) λσ3 l n=>?_)
  .exact z
  .refine⟨l,?_⟩;rw[y,n];simp
  .refine⟨_,qk,?_,l,?_⟩
   .rw[Ab];have:=G i;lia
   .rw[qs3,y,n,if_pos Z,Ax];rfl
 .have e:i=xs.length:=by lia
  subst e;refine .inl ⟨I,?_⟩;rw[Bq];exact q p w
end Add
namespace Wri
open PySem PySem.Spec PyProof.Rows PySem.W PySem.W.KIN PySem.NumText
noncomputable def plain (x:Str):Bool:=decide (x=Aa "0") || !decide (x.cps.toList.head?=some 48)
end Wri
namespace Add
open PySem PySem.Spec PyProof.Rows L2
inductive Tups (H:Hp):List V->List (List V)->Prop where
 |nil:Tups H [] []
 |cons {a:Addr} {r vs:List V} {rs:List (List V)} (h:H a=some (.tup r)) (t:Tups H vs rs):Tups H (.ref a::vs) (r::rs)
theorem Tups.same {H H':Hp}{vs:List V}{rs:List (List V)}(t:Tups H vs rs)(s:Same H H'):Tups H' vs rs:=by
 induction t with
 |nil=>exact .nil
 |cons h _ ih=>exact .cons (s _ _ h) ih
theorem Tups.length {H:Hp}{vs:List V}{rs:List (List V)}(t:Tups H vs rs):vs.length=rs.length:=by
 induction t with
 |nil=>rfl
 |cons _ _ ih=>rw[AD,AD,ih]
theorem Tups.get {H:Hp}{vs:List V}{rs:List (List V)}(t:Tups H vs rs):∀{i:Nat}{r:List V},rs[i]?=some r->∃a,vs[i]?=some (.ref a)/\H a=some (.tup r):=by
 induction t with
 |nil=>intro i r h;cases i <;>cases h
 |cons h _ ih =>
  intro i r' h';cases i with|zero=>cases h';exact⟨_,Z,h⟩|succ i=>exact ih (i:=i) h'
theorem Tups.get' {H:Hp}{vs:List V}{rs:List (List V)}(t:Tups H vs rs){i:Nat}{v:V}(h:vs[i]?=some v):∃a r,v=.ref a/\rs[i]?=some r/\H a=some (.tup r):=by
 have b:i<rs.length:=by rw[<- t.length];exact(Ac.mp h).1
 obtain⟨a,e,q⟩:=t.get (i:=i) (r:=rs[i]) (by simp[b]);rw[h]at e;cases e;exact⟨a,_,Z,by simp[b],q⟩
theorem Tups.app {H:Hp}{vs us:List V}{rs ts:List (List V)}(t:Tups H vs rs)(u:Tups H us ts):Tups H (vs++us) (rs++ts):=by
 induction t with
 |nil=>exact u
 |cons h _ ih=>exact .cons h ih
theorem Tups.snoc {H:Hp}{vs:List V}{rs:List (List V)}{a:Addr}{r:List V}(t:Tups H vs rs)(h:H a=some (.tup r)):Tups H (vs++[.ref a]) (rs++[r]):=t.app (.cons h .nil)
theorem Tups.take {H:Hp}{vs:List V}{rs:List (List V)}(t:Tups H vs rs):∀n,Tups H (vs.take n) (rs.take n):=by
 induction t with
 |nil=>intro n;rw[List.take_nil,List.take_nil];exact .nil
 |cons h _ ih =>
  intro n;cases n with|zero=>exact .nil|succ n=>exact .cons h (ih n)
theorem Tups.drop {H:Hp}{vs:List V}{rs:List (List V)}(t:Tups H vs rs):∀n,Tups H (vs.drop n) (rs.drop n):=by
 induction t with
 |nil=>intro n;rw[List.drop_nil,List.drop_nil];exact .nil
 |cons h t ih =>
  intro n;cases n with|zero=>exact .cons h t|succ n=>exact ih n
theorem Tups.upd {H:Hp}{vs:List V}{rs:List (List V)}{p:Addr}{xs:List V}{o:HO}(t:Tups H vs rs)(a:H p=some (.lst xs)):Tups (L2.upd H p o) vs rs:=by
 induction t with
 |nil=>exact .nil
 |cons h _ ih=>exact .cons (by rw[qr (λz=>by rw[z,a]at h;cases h)];exact h) ih
theorem Tups.setLast {H:Hp}{vs:List V}{rs:List (List V)}{v:V}{r b:List V}{a:Addr}(t:Tups H (vs++[v]) (rs++[r]))(h:H a=some (.tup b)):Tups H (vs++[.ref a]) (rs++[b]):=by have:=t.take vs.length;have c:=t.length;simp only[Af,AD,DK]at c;rw[List.take_left,show vs.length=rs.length by lia,List.take_left]at this;exact this.snoc h
section
variable {X:Cx}
theorem qkp {a:Addr}{u:Value}(r:RelV (.ref a) u):u=.ref a:=by cases r;rfl
theorem qib {K:Ag}(h:X.K=K):IxR X (rIxT K):=by subst h;exact zp
theorem qp9 {K:Ag}(h:X.K=K):IxR X (rIxL K):=by subst h;exact zq
end
end Add
namespace Lay
section
variable {W:Type}[DecidableEq W]
noncomputable abbrev Row (W:Type):=Int×Int×W
noncomputable def qa8 (a:W)(rs:List (Row W))(d:Int):W:=rs.foldl (λa r=>if r.1<=d/\d<=r.2.1 then r.2.2 else a) a
noncomputable def cnt (es:List Int)(d:Int):Nat:=(es.filter λe=>decide (e<d)).length
noncomputable abbrev ends (rs:List (Row W)):List Int:=rs.map λr=>r.2.1
structure Dis (rs:List (Row W)):Prop where
 ok:∀r∈rs,r.1<=r.2.1
 pw:rs.Pairwise λr s=>r.2.1<s.1
noncomputable def left (rs:List (Row W))(f:Int):List (Row W):=rs.filterMap λr=>if r.1<f then some (r.1,min r.2.1 (f-1),r.2.2) else none
noncomputable def right (rs:List (Row W))(l:Int):List (Row W):=rs.filterMap λr=>if l<r.2.1 then some (max r.1 (l+1),r.2.1,r.2.2) else none
def over (rs:List (Row W))(f l:Int)(w:W):List (Row W):=left rs f++(f,l,w)::right rs l
theorem qr1:∀{es:List Int}{d:Int}{k:Nat},k<=es.length->(∀i e,es[i]?=some e->i<k->e<d)->(∀i e,es[i]?=some e->k<=i->¬e<d)->cnt es d=k
 | [],d,k,hk,_,_=>by
  have:k=0:=by simpa using hk
  subst this;rfl
 |e::es,d,0,_,h1,h2=>by have a:=qr1 (es:=es) (d:=d) (k:=0) (AU _) (λ_ _ _ z=>absurd z (B2 _)) λi x b _=>h2 (i+1) x b (AU _);have c:=h2 0 e rfl (Am _);unfold cnt at a |-;rw[D6,if_neg (by simpa using c)];exact a
 |e::es,d,k+1,hk,h1,h2=>by have a:=qr1 (es:=es) (d:=d) (k:=k) (by simpa using hk) (λi x b z=>h1 (i+1) x b (by lia)) λi x b z=>h2 (i+1) x b (by lia);have c:=h1 0 e rfl (by lia);unfold cnt at a |-;rw[D6,if_pos (by simpa using c),AD,a]
theorem qd4 (e:Int)(es:List Int)(d:Int):cnt (e::es) d=if e<d then cnt es d+1 else cnt es d:=by unfold cnt;rw[D6];by_cases h:e<d <;>simp[h]
theorem qop (es:List Int)(d:Int):cnt es d<=es.length:=BY _ _
theorem qic {es:List Int}{d:Int}(h:∀e∈es,¬e<d):cnt es d=0:=by unfold cnt;rw[List.filter_eq_nil_iff.mpr (λe a=>by simpa using h e a)];rfl
theorem Dis.tail {r:Row W}{rs:List (Row W)}(h:Dis (r::rs)):Dis rs:=⟨λs a=>h.ok s (Az _ a),(BO.mp h.pw).2⟩
theorem Dis.later {r:Row W}{rs:List (Row W)}(h:Dis (r::rs)){s:Row W}(a:s∈rs):r.2.1<s.1/\s.1<=s.2.1:=⟨(BO.mp h.pw).1 s a,h.ok s (Az _ a)⟩
theorem qwu {rs:List (Row W)}{f:Int}(h:∀s∈rs,¬s.1<f):left rs f=[]:=by unfold left;rw[List.filterMap_eq_nil_iff];intro s a;rw[if_neg (h s a)]
theorem qjb:∀{rs:List (Row W)}(f:Int),Dis rs->left rs f=rs.take (cnt (ends rs) f)++(match rs[cnt (ends rs) f]? with|some r=>if r.1<f then [(r.1,f-1,r.2.2)] else [] | none=>[])
 | [],f,_=>rfl
 |r::rs,f,h=>by
  have l:=h.ok r Al;by_cases c:r.2.1<f
  .have e:cnt (ends (r::rs)) f=cnt (ends rs) f+1:=by rw[show ends (r::rs)=r.2.1::ends rs from Z,qd4,if_pos c]
   have j:=qjb f h.tail;rw[e,List.take_succ_cons,Dq,List.cons_append,<- j];show Dw _ (r::rs)=_;have g:min r.2.1 (f-1)=r.2.1:=Int.min_eq_left (Int.le_sub_one_of_lt c);rw[BG (b:=r) (by rw[if_pos (DV l c),g])];rfl
  .have e:cnt (ends (r::rs)) f=0:=qic λx k=>by
    obtain⟨s,a,rfl⟩:=AS.mp k
    rcases Aq.mp a with rfl|a
    .exact c
    .exact λz=>c (CJ (Bh (h.later a).1 (h.later a).2) z)
   have i:left rs f=[]:=qwu λs a z=>c (CJ (h.later a).1 z)
   rw[e,De,List.nil_append,List.getElem?_cons_zero]
   show Dw _ (r::rs)=_
   by_cases d:r.1<f
   .have g:min r.2.1 (f-1)=f-1:=Int.min_eq_right (Bt (Dg (Int.sub_lt_self f Uk)) (B8.mp c));rw[BG (b:=(r.1,f-1,r.2.2)) (by rw[if_pos d,g])];show _::left rs f=_;rw[i];exact(if_pos d).symm
   .rw[CO (by rw[if_neg d])];show left rs f=_;rw[i];exact(if_neg d).symm
theorem qnr:∀{rs:List (Row W)}{l:Int},(∀s∈rs,l<s.1/\s.1<=s.2.1)->right rs l=rs
 | [],_,_=>rfl
 |r::rs,l,h=>by have a:=h r Al;have d:=qnr (l:=l) λs c=>h s (Az _ c);show Dw _ (r::rs)=_;have e:max r.1 (l+1)=r.1:=Int.max_eq_left a.1;rw[BG (b:=r) (by rw[if_pos (Bh a.1 a.2),e])];show r::right rs l=_;rw[d]
theorem qhk:∀{rs:List (Row W)}(l:Int),Dis rs->right rs l=(match rs[cnt (ends rs) (l+1)]? with|some r=>if r.1<=l then (l+1,r.2.1,r.2.2)::rs.drop (cnt (ends rs) (l+1)+1) else rs.drop (cnt (ends rs) (l+1))|none=>[])
 | [],l,_=>rfl
 |r::rs,l,h=>by
  have h0:=h.ok r Al;by_cases c:r.2.1<l+1
  .have e:cnt (ends (r::rs)) (l+1)=cnt (ends rs) (l+1)+1:=by rw[show ends (r::rs)=r.2.1::ends rs from Z,qd4,if_pos c]
   have i:=qhk l h.tail;rw[e,Dq,List.drop_succ_cons,List.drop_succ_cons,<- i];show Dw _ (r::rs)=_;rw[CO (by rw[if_neg (B8.mpr (DD c))])];rfl
  .have e:cnt (ends (r::rs)) (l+1)=0:=qic λx j=>by
    obtain⟨s,a,rfl⟩:=AS.mp j
    rcases Aq.mp a with rfl|a
    .exact c
    .exact λz=>c (CJ (Bh (h.later a).1 (h.later a).2) z)
   have g:right rs l=rs:=qnr λs a=>⟨CJ (B8.mp c) (h.later a).1,(h.later a).2⟩
   rw[e,List.getElem?_cons_zero]
   show Dw _ (r::rs)=if r.1<=l then (l+1,r.2.1,r.2.2)::rs else r::rs
   by_cases d:r.1<=l
   .have f:max r.1 (l+1)=l+1:=Int.max_eq_right (DW d);rw[BG (b:=(l+1,r.2.1,r.2.2)) (by rw[if_pos (show l<r.2.1 from B8.mp c),f]),if_pos d];show _::right rs l=_;rw[g]
   .have f:max r.1 (l+1)=r.1:=Int.max_eq_left (Ep.mp d);rw[BG (b:=r) (by rw[if_pos (show l<r.2.1 from B8.mp c),f]),if_neg d];show _::right rs l=_;rw[g]
theorem qd5 (a:W)(rs ss:List (Row W))(d:Int):qa8 a (rs++ss) d=qa8 (qa8 a rs d) ss d:=by unfold qa8;rw[Ct]
theorem qb6 (a:W)(r:Row W)(rs:List (Row W))(d:Int):qa8 a (r::rs) d=qa8 (if r.1<=d/\d<=r.2.1 then r.2.2 else a) rs d:=rfl
theorem qjc:∀(a:W)(rs:List (Row W))(f d:Int),qa8 a (left rs f) d=if d<f then qa8 a rs d else a
 |a,[],f,d=>by show a=if d<f then a else a;split <;>rfl
 |a,r::rs,f,d=>by
  by_cases c:r.1<f
  .have e:left (r::rs) f=(r.1,min r.2.1 (f-1),r.2.2)::left rs f:=BG (by rw[if_pos c]);rw[e,qb6,qjc];by_cases q:d<f
   .rw[if_pos q,if_pos q,qb6];have hz:(r.1<=d/\d<=min r.2.1 (f-1))↔(r.1<=d/\d<=r.2.1):=and_congr_right λ_=>⟨λz=>Bt z (Int.min_le_left _ _),λz=>Int.le_min.mpr ⟨z,Int.le_sub_one_of_lt q⟩⟩;simp only[hz]
   .rw[if_neg q,if_neg q,if_neg (show ¬(r.1<=d/\d<=min r.2.1 (f-1)) from λz=>q (Int.lt_of_le_sub_one (Bt z.2 (Int.min_le_right _ _))))]
  .have e:left (r::rs) f=left rs f:=CO (by rw[if_neg c]);rw[e,qjc];by_cases q:d<f
   .rw[if_pos q,if_pos q,qb6,if_neg (λz=>c (DV z.1 q))]
   .rw[if_neg q,if_neg q]
theorem qhl:∀(a:W)(rs:List (Row W))(l d:Int),qa8 a (right rs l) d=if l<d then qa8 a rs d else a
 |a,[],l,d=>by show a=if l<d then a else a;split <;>rfl
 |a,r::rs,l,d=>by
  by_cases c:l<r.2.1
  .have e:right (r::rs) l=(max r.1 (l+1),r.2.1,r.2.2)::right rs l:=BG (by rw[if_pos c]);rw[e,qb6,qhl];by_cases q:l<d
   .rw[if_pos q,if_pos q,qb6];have hz:(max r.1 (l+1)<=d/\d<=r.2.1)↔(r.1<=d/\d<=r.2.1):=and_congr_left λ_=>⟨λz=>Bt (Int.le_max_left _ _) z,λz=>Int.max_le.mpr ⟨z,q⟩⟩;simp only[hz]
   .rw[if_neg q,if_neg q,if_neg (show ¬(max r.1 (l+1)<=d/\d<=r.2.1) from λz=>q (Bt (Int.le_max_right _ _) z.1))]
  .have e:right (r::rs) l=right rs l:=CO (by rw[if_neg c]);rw[e,qhl];by_cases q:l<d
   .rw[if_pos q,if_pos q,qb6,if_neg (λz=>c (Bh q z.2))]
   .rw[if_neg q,if_neg q]
theorem quw (a:W)(rs:List (Row W)){f l:Int}(w:W)(h:f<=l)(d:Int):qa8 a (over rs f l w) d=if f<=d/\d<=l then w else qa8 a rs d:=by
 unfold over;rw[qd5,qb6,qjc,qhl];by_cases b:d<f
 .rw[if_pos b,if_neg (B8.mpr (Bt (Dg b) h)),if_neg (show ¬(f<=d/\d<=l) from λz=>B8.mpr z.1 b)]
 .by_cases c:l<d
  .rw[if_neg b,if_pos c,if_neg (show ¬(f<=d/\d<=l) from λz=>B8.mpr z.2 c)];exact(if_neg (show ¬(f<=d/\d<=l) from λz=>B8.mpr z.2 c)).symm
  .rw[if_neg b,if_neg c,if_pos (show f<=d/\d<=l from ⟨B8.mp b,B8.mp c⟩)];exact(if_pos (show f<=d/\d<=l from ⟨B8.mp b,B8.mp c⟩)).symm
theorem qqa {rs:List (Row W)}{f l:Int}(w:W)(h:Dis rs)(p:f<=l):Dis (over rs f l w):=by
 have o:∀r∈left rs f,r.1<=r.2.1/\r.2.1<f:=λr i=>by
  obtain⟨s,m,e⟩:=Cb.mp i;have:=h.ok s m;split at e
  .injection e with e;subst e;show s.1<=min s.2.1 (f-1)/\min s.2.1 (f-1)<f;lia
  .cases e
 have i:∀r∈right rs l,r.1<=r.2.1/\l<r.1:=λr i=>by
  obtain⟨s,m,e⟩:=Cb.mp i;have:=h.ok s m;split at e
  .injection e with e;subst e;show max s.1 (l+1)<=s.2.1/\l<max s.1 (l+1);lia
  .cases e
 refine⟨λr g=>?_,?_⟩
 .rcases Av.mp g with g|g
  .exact(o r g).1
  .rcases Aq.mp g with rfl|g
   .exact p
   .exact(i r g).1
 .refine B6.mpr ⟨?_,BO.mpr ⟨λr g=>(i r g).2,?_⟩,λa q b k=>?_⟩
  .refine List.pairwise_filterMap.mpr (h.pw.imp λ{r s} j x c y d=>?_);split at c
   .split at d
    .injection c with c;injection d with d;subst c;subst d;exact DV (Int.min_le_left _ _) j
    .cases d
   .cases c
  .refine List.pairwise_filterMap.mpr (h.pw.imp λ{r s} j x c y d=>?_);split at c
   .split at d
    .injection c with c;injection d with d;subst c;subst d;exact Bh j (Int.le_max_left _ _)
    .cases d
   .cases c
  .have n:=o a q;rcases Aq.mp k with rfl|k
   .exact n.2
   .exact CJ (Bh n.2 p) (i b k).2
noncomputable def jn1 (told:List (Row W))(r:Row W):List (Row W):=match told.getLast? with
 |some t=>if t.2.2=r.2.2/\t.2.1+1=r.1 then told.dropLast++[(t.1,r.2.1,r.2.2)] else told++[r]
 |none=>told++[r]
def Nx (r s:Row W):Prop:=r.2.1<s.1/\(s.1=r.2.1+1->r.2.2≠s.2.2)
structure Ap (rs:List (Row W)):Prop where
 ok:∀r∈rs,r.1<=r.2.1
 nx:∀i r s,rs[i]?=some r->rs[i+1]?=some s->Nx r s
theorem qoq {rs:List (Row W)}{t:Row W}(h:Ap rs)(g:t.1<=t.2.1)(j:∀z,rs.getLast?=some z->Nx z t):Ap (rs++[t]):=by
 refine⟨λr b=>?_,λi r s d a=>?_⟩
 .rcases Av.mp b with b|b
  .exact h.ok r b
  .rw[Ah.mp b];exact g
 .have f:i+1<rs.length+1:=by
   have:=(Ac.mp a).1
   simpa using this
  rw[AH (Nat.lt_of_succ_lt_succ f)]at d
  by_cases c:i+1<rs.length
  .rw[AH c]at a;exact h.nx i r s d a
  .have e:i+1=rs.length:=Nat.le_antisymm (Nat.le_of_lt_succ f) (D7.mp c);rw[AV (D7.mp c),e,Dx]at a;cases a;refine j r ?_;rw[Dj,show rs.length-1=i by rw[<- e];rfl];exact d
theorem ap_init {rs:List (Row W)}{t:Row W}(h:Ap (rs++[t])):Ap rs/\t.1<=t.2.1/\∀z,rs.getLast?=some z->Nx z t:=by
 refine⟨⟨λr e=>h.ok r (Bl _ e),λi r s a b=>?_⟩,h.ok t (by simp),λz hz=>?_⟩
 .have f:=(Ac.mp a).1;have d:=(Ac.mp b).1;exact h.nx i r s (by rw[AH f];exact a) (by rw[AH d];exact b)
 .rw[Dj]at hz;have g:=(Ac.mp hz).1;refine h.nx (rs.length-1) z t (by rw[AH g];exact hz) ?_;have c:=Nat.sub_add_cancel (CW (AU _) g);rw[AV (Ci c.symm),c,Dx];rfl
theorem qe3 {α:Type}(xs:List α)(x:α):(xs++[x]).getLast?=some x:=by simp
theorem qd6 (rs:List (Row W))(t r:Row W):jn1 (rs++[t]) r=if t.2.2=r.2.2/\t.2.1+1=r.1 then rs++[(t.1,r.2.1,r.2.2)] else rs++[t]++[r]:=by unfold jn1;rw[qe3];simp
theorem jn1_ok {b:List (Row W)}{r:Row W}(h:Ap b)(j:r.1<=r.2.1)(l:∀z,b.getLast?=some z->z.2.1<r.1) :
  Ap (jn1 b r)/\(∀z,(jn1 b r).getLast?=some z->z.2.1=r.2.1)/\∀a d,qa8 a (jn1 b r) d=qa8 a (b++[r]) d:=by
 rcases BJ b with rfl|⟨rs,t,rfl⟩
 .refine⟨qoq h j (λz hz=>by cases hz),λz hz=>?_,λ_ _=>rfl⟩;have:z=r:=by simpa [jn1] using hz.symm
  rw[this]
 .rw[BK]at h l |-;rw[qd6];obtain⟨n,m,o⟩:=ap_init h;have k:=l t (qe3 rs t);by_cases c:t.2.2=r.2.2/\t.2.1+1=r.1
  .rw[if_pos c];refine⟨qoq n (show t.1<=r.2.1 from Bt m (Bt (Dg k) j)) (λz hz=>?_),λz hz=>?_,λa d=>?_⟩
   .have:=o z hz;exact⟨this.1,λe=>by rw[<- c.1];exact this.2 e⟩
   .rw[qe3]at hz;cases hz;rfl
   .rw[qd5,qd5,qd5];show (if t.1<=d/\d<=r.2.1 then r.2.2 else _)=if r.1<=d/\d<=r.2.1 then r.2.2 else if t.1<=d/\d<=t.2.1 then t.2.2 else _;rw[c.1];by_cases i:r.1<=d/\d<=r.2.1
    .rw[if_pos i,if_pos ⟨Bt m (Bt (Dg k) i.1),i.2⟩]
    .rw[if_neg i];by_cases f:t.1<=d/\d<=t.2.1
     .rw[if_pos f,if_pos ⟨f.1,Bt f.2 (Bt (Dg k) j)⟩]
     .rw[if_neg f,if_neg λz=>(Int.lt_or_le d r.1).elim (λy=>f ⟨z.1,DD (by rw[c.2];exact y)⟩) λy=>i ⟨y,z.2⟩]
  .rw[if_neg c];refine⟨qoq h j (λz hz=>?_),λz hz=>?_,λ_ _=>rfl⟩
   .rw[qe3]at hz;cases hz;exact⟨k,λe g=>c ⟨g,e.symm⟩⟩
   .rw[qe3]at hz;cases hz;rfl
def jn (rs:List (Row W)):List (Row W):=rs.foldl jn1 []
theorem jn_ok {rs:List (Row W)}(h:Dis rs):Ap (jn rs)/\∀a d,qa8 a (jn rs) d=qa8 a rs d:=by
 have step:∀(ss c:List (Row W))(b:List (Row W)),Dis (c++ss)->Ap b->(∀z,b.getLast?=some z->∃y∈c,z.2.1=y.2.1)->(∀a d,qa8 a b d=qa8 a c d) ->
   Ap (ss.foldl jn1 b)/\∀a d,qa8 a (ss.foldl jn1 b) d=qa8 a (c++ss) d:=by
  intro ss
  induction ss with
  |nil=>intro c b _ g _ j;exact⟨g,λa d=>by rw[Br];exact j a d⟩
  |cons r ss ih =>
   intro c b f g q j;have m:=f.ok r (by simp);have k:∀z,b.getLast?=some z->z.2.1<r.1:=λz hz=>by obtain⟨y,p,e⟩:=q z hz;rw[e];exact(B6.mp f.pw).2.2 y p r Al
   obtain⟨l,n,o⟩:=jn1_ok g m k;have e:c++r::ss=(c++[r])++ss:=by simp
   rw[e];rw[e]at f;refine ih (c++[r]) (jn1 b r) f l (λz hz=>⟨r,by simp,n z hz⟩) λa d=>?_;rw[o,qd5,qd5,j]
 exact step rs [] [] h ⟨(λ_ h=>absurd h AG),λi r s h=>by cases h⟩ (λz hz=>by cases hz) λ_ _=>rfl
def lay (rs:List (Row W)):List (Row W):=rs.foldl (λlaid r=>over laid r.1 r.2.1 r.2.2) []
theorem qwv (rs:List (Row W))(r:Row W):lay (rs++[r])=over (lay rs) r.1 r.2.1 r.2.2:=by unfold lay;rw[Ct];rfl
theorem qww {rs:List (Row W)}(h:∀r∈rs,r.1<=r.2.1):Dis (lay rs)/\∀a d,qa8 a (lay rs) d=qa8 a rs d:=by
 have step:∀(ss b laid:List (Row W)),(∀r∈ss,r.1<=r.2.1)->Dis laid->(∀a d,qa8 a laid d=qa8 a b d) ->
   Dis (ss.foldl (λlaid r=>over laid r.1 r.2.1 r.2.2) laid)/\∀a d,qa8 a (ss.foldl (λlaid r=>over laid r.1 r.2.1 r.2.2) laid) d=qa8 a (b++ss) d:=by
  intro ss
  induction ss with
  |nil=>intro b laid _ c f;exact⟨c,λa d=>by rw[Br];exact f a d⟩
  |cons r ss ih =>
   intro b laid g c f;have i:=g r Al;have e:b++r::ss=(b++[r])++ss:=by simp
   rw[e];refine ih (b++[r]) _ (λs j=>g s (Az _ j)) (qqa r.2.2 c i) λa d=>?_;rw[quw a laid r.2.2 i,qd5,f];rfl
 exact step rs [] [] h ⟨(λ_ h=>absurd h AG),Eb⟩ λ_ _=>rfl
def ov (rs:List (Row W)):List (Row W):=jn (lay rs)
theorem qwx {rs:List (Row W)}(h:∀r∈rs,r.1<=r.2.1):Ap (ov rs)/\∀a d,qa8 a (ov rs) d=qa8 a rs d:=by obtain⟨b,c⟩:=qww h;obtain⟨e,f⟩:=jn_ok b;exact⟨e,λa d=>(f a d).trans (c a d)⟩
theorem qhm {rs:List (Row W)}(h:Ap rs):Dis rs:=by
 refine⟨h.ok,?_⟩;rw[AZ];intro i j b hj hij;have step:∀n,∀(a:i+1+n<rs.length),(rs[i]'b).2.1<(rs[i+1+n]'a).1:=by
  intro n
  induction n with
  |zero=>intro a;exact(h.nx i (rs[i]'b) (rs[i+1]'a) (Ad _) (Ad _)).1
  |succ n ih =>intro a;have g:=ih (Nat.lt_of_succ_lt a);have k:=(h.nx (i+1+n) (rs[i+1+n]'(Nat.lt_of_succ_lt a)) (rs[i+1+n+1]'a) (Ad _) (Ad _)).1;have m:=h.ok rs[i+1+n] (Bj _);exact CJ (Bh g m) k
 have:=step (j-i-1) (by lia);simpa [show i+1+(j-i-1)=j by lia] using this
theorem qtb {rs:List (Row W)}(h:Dis rs):(ends rs).Pairwise (· < ·):=by refine Cj.mpr ?_;refine(List.Pairwise.and_mem.mp h.pw).imp λ{r s} q=>?_;have:=h.ok s q.2.1;have:=q.2.2;lia
end
end Lay
namespace Srt
open PySem PySem.W PyProof.Rows
def Sat {α:Type}(n:Nat)(r:Nat->Nat->Bool):KasT α->(α->Prop)->Prop
 |.ret a,Q=>Q a
 |.ask i j k,Q=>i<n/\j<n/\Sat n r (k (r i j)) Q
theorem Sat.mono {α:Type}{n:Nat}{r:Nat->Nat->Bool}:∀{t:KasT α}{Q b:α->Prop},Sat n r t Q->(∀a,Q a->b a)->Sat n r t b
 |.ret _,_,_,h,q=>q _ h
 |.ask i j k,_,_,h,q=>⟨h.1,h.2.1,Sat.mono (t:=k (r i j)) h.2.2 q⟩
theorem Sat.bind {α β:Type}{n:Nat}{r:Nat->Nat->Bool}{f:α->KasT β}:∀{t:KasT α}{Q:β->Prop},Sat n r t (λa=>Sat n r (f a) Q)->Sat n r (t.bind f) Q
 |.ret _,_,h=>h
 |.ask i j k,_,h=>⟨h.1,h.2.1,Sat.bind (t:=k (r i j)) h.2.2⟩
theorem Sat.wp {α:Type}{n:Nat}{r:Nat->Nat->Bool}{b:Nat->Nat->(Bool->Ae->Prop)->Ae->Prop}{s:Ae}(d:∀i j C,i<n->j<n->C (r i j) s->b i j C s):∀{t:KasT α}{Q:α->Prop}{c:α->Ae->Prop},Sat n r t Q->(∀a,Q a->c a s)->t.kasWp b c s
 |.ret a,_,_,h,q=>q a h
 |.ask i j k,_,_,h,q=>d i j _ h.1 h.2.1 (Sat.wp d (t:=k (r i j)) h.2.2 q)
structure Ord (r:Nat->Nat->Bool):Prop where
 asym:∀i j,r i j=true->r j i=false
 trans:∀i j k,r j i=false->r k j=false->r k i=false
section
variable {n:Nat}{r:Nat->Nat->Bool}
noncomputable abbrev at' (p:Array Nat)(i:Nat):Nat:=p.getD i 0
structure Gd (n:Nat)(p:Array Nat):Prop where
 perm:p.Perm (Ar n).toArray
theorem Gd.size {p:Array Nat}(h:Gd n p):p.size=n:=by rw[h.perm.size_eq];simp
theorem Gd.lt {p:Array Nat}(h:Gd n p)(b:0<n)(i:Nat):at' p i<n:=by
 by_cases a:i<p.size
 .have e:at' p i=p[i]:=by simp[at',a]
  rw[e];have:p[i]∈p:=Array.getElem_mem a;have:=h.perm.mem_iff.mp this;simpa using this
 .have e:at' p i=0:=by simp[at',a]
  rw[e];exact b
def Up (r:Nat->Nat->Bool)(p:Array Nat)(k:Nat):Prop:=∀i j,i<=j->j<k->r (at' p j) (at' p i)=false
def qmv (r:Nat->Nat->Bool)(p:Array Nat)(k:Nat):Prop:=∀i j,i<=j->j<k->r (at' p i) (at' p j)=false
theorem Ord.irr (o:Ord r)(i:Nat):r i i=false:=by
 cases h:r i i with|false=>rfl|true=>rw[o.asym i i h]at h;cases h
theorem up_succ (o:Ord r){p:Array Nat}{k:Nat}(h:Up r p k)(h1:1<=k)(e:r (at' p k) (at' p (k-1))=false):Up r p (k+1):=by
 intro i j a hj;by_cases c:j<k
 .exact h i j a c
 .have d:j=k:=by lia
  subst d;by_cases b:i=j
  .rw[b];exact o.irr _
  .exact o.trans _ _ _ (h i (j-1) (by lia) (by lia)) e
theorem qe4 (o:Ord r){p:Array Nat}{k:Nat}(h:qmv r p k)(h1:1<=k)(e:r (at' p (k-1)) (at' p k)=false):qmv r p (k+1):=by
 intro i j a hj;by_cases c:j<k
 .exact h i j a c
 .have d:j=k:=by lia
  subst d;by_cases b:i=j
  .rw[b];exact o.irr _
  .exact o.trans _ _ _ e (h i (j-1) (by lia) (by lia))
theorem qr2 (o:Ord r){p:Array Nat}(g:Gd n p)(a:0<n):∀(f k:Nat),Up r p k->1<=k->Sat n r (kas_asc p f k) λm=>k<=m/\m<=k+f/\Up r p m/\(m=k+f\/r (at' p m) (at' p (m-1))=true)
 |0,k,h,_=>⟨Am _,Am _,h,.inl Z⟩
 |f+1,k,h,h1=>by
  refine⟨g.lt a _,g.lt a _,?_⟩;cases c:r (at' p k) (at' p (k-1)) with
  |true=>dsimp only;rw[if_pos Z];exact⟨Am _,by lia,h,.inr c⟩
  |false =>
   dsimp only;rw[if_neg (by simp)];refine(qr2 o g a f (k+1) (up_succ o h h1 c) (by lia)).mono λm b=>⟨by lia,by lia,b.2.2.1,?_⟩;rcases b.2.2.2 with e|e
   .exact .inl (by lia)
   .exact .inr e
theorem qf9 {p:Array Nat}{i j:Nat}(a:j<=p.size)(k:Nat):at' (Er p i j) k=if i<=k/\k<j then at' p (i+j-1-k) else at' p k:=by
 unfold at' Er;rw[C4,getElem?_mirror_all a];split
 .rw[C4]
 .rw[C4]
theorem qlc {p:Array Nat}(g:Gd n p)(i j:Nat):Gd n (Er p i j):=⟨(mirror_perm _ _ _ _).trans g.perm⟩
def qux (r:Nat->Nat->Bool)(p:Array Nat)(a b:Nat):Prop:=∀i j,a<=i->i<b->a<=j->j<b->r (at' p i) (at' p j)=false
theorem qld (o:Ord r){p:Array Nat}{a b:Nat}(e:b<=p.size)(h:qmv r p b)(g:qux r p a b):qmv r (Er p a b) b:=by
 intro i j d c;rw[qf9 e,qf9 e];by_cases k:a<=i
 .rw[if_pos ⟨k,by lia⟩,if_pos ⟨by lia,c⟩];exact g _ _ (by lia) (by lia) (by lia) (by lia)
 .rw[if_neg (by lia)];by_cases f:a<=j
  .rw[if_pos ⟨f,c⟩];exact h _ _ (by lia) (by lia)
  .rw[if_neg (by lia)];exact h _ _ d c
theorem rev_up {p:Array Nat}{b:Nat}(a:b<=p.size)(h:qmv r p b):Up r (Er p 0 b) b:=by intro i j hij c;rw[qf9 a,qf9 a,if_pos ⟨by lia,c⟩,if_pos ⟨by lia,by lia⟩];exact h _ _ (by lia) (by lia)
theorem qkq (o:Ord r)(b:0<n):∀(f:Nat)(p:Array Nat)(k q:Nat),Gd n p->qmv r p k->q+1<=k->k+f<=n->qux r p (k-(q+1)) k ->
  Sat n r (kas_desc f p k q) λt=>Gd n t.1/\qmv r t.1 t.2.1/\t.2.2+1<=t.2.1/\t.2.1<=k+f/\qux r t.1 (t.2.1-(t.2.2+1)) t.2.1
 |0,p,k,q,g,h,h1,_,hf=>⟨g,h,h1,Am _,hf⟩
 |f+1,p,k,q,g,h,h1,hk,hf=>by
  have hs:=g.size;refine⟨g.lt b _,g.lt b _,?_⟩;cases c:r (at' p k) (at' p (k-1)) with
  |true =>
   dsimp only;rw[if_pos Z];have w:=o.asym _ _ c;have one:∀v:Array Nat,qux r v (k+1-(0+1)) (k+1):=λv i j _ _ _ _=>by
    have:i=j:=by lia
    rw[this];exact o.irr _
   by_cases u:q > 0
   .rw[if_pos u];have x:=qld o (show k<=p.size by lia) h hf;have e:r (at' (Er p (k-(q+1)) k) (k-1)) (at' (Er p (k-(q+1)) k) k)=false:=by rw[qf9 (by lia),qf9 (by lia),if_pos ⟨by lia,by lia⟩,if_neg (by lia)];exact o.trans _ _ _ w (hf _ _ (by lia) (by lia) (by lia) (by lia))
    refine(qkq o b f _ (k+1) 0 (qlc g _ _) (qe4 o x (by lia) e) (by lia) (by lia) (one _)).mono λt a=>⟨a.1,a.2.1,a.2.2.1,by lia,a.2.2.2.2⟩
   .rw[if_neg u];exact(qkq o b f _ (k+1) 0 g (qe4 o h (by lia) w) (by lia) (by lia) (one _)).mono λt a=>⟨a.1,a.2.1,a.2.2.1,by lia,a.2.2.2.2⟩
  |false =>
   dsimp only;rw[if_neg (by simp)];refine⟨g.lt b _,g.lt b _,?_⟩;cases d:r (at' p (k-1)) (at' p k) with
   |true=>dsimp only;rw[if_pos Z];exact⟨g,h,h1,by show k<=k+(f+1);lia,hf⟩
   |false =>
    dsimp only;rw[if_neg (by simp)];have m:qux r p (k+1-(q+1+1)) (k+1):=by
     intro i j hi hi' hj hj';by_cases s:i=k
     .by_cases l:j=k
      .rw[s,l];exact o.irr _
      .rw[s];exact o.trans _ _ _ (hf (k-1) j (by lia) (by lia) (by lia) (by lia)) c
     .by_cases l:j=k
      .rw[l];exact o.trans _ _ _ d (hf i (k-1) (by lia) (by lia) (by lia) (by lia))
      .exact hf i j (by lia) (by lia) (by lia) (by lia)
    exact(qkq o b f p (k+1) (q+1) g (qe4 o h (by lia) d) (by lia) (by lia) m).mono λt a=>⟨a.1,a.2.1,a.2.2.1,by lia,a.2.2.2.2⟩
theorem qqb (o:Ord r)(b:0<n){p:Array Nat}{k:Nat}(g:Gd n p)(h:qmv r p k)(a:1<=k)(d:k<=n):Sat n r (kas_tail3 k n p) λt=>Gd n t.2/\Up r t.2 t.1/\1<=t.1/\t.1<=n:=by refine Sat.bind ((qr2 o (qlc g 0 k) b (n-k) k (rev_up (by rw[g.size];exact d) h) a).mono λm c=>?_);exact⟨qlc g 0 k,c.2.2.1,by show 1<=m;lia,by show m<=n;lia⟩
theorem qj6 (o:Ord r)(b:0<n){p:Array Nat}{k:Nat}(g:Gd n p)(h:qmv r p (k+1))(hk:k+1<=n):Sat n r (kas_descPart k n p) λt=>Gd n t.2/\Up r t.2 t.1/\1<=t.1/\t.1<=n:=by
 refine Sat.bind ((qkq o b (n-(k+1)) p (k+1) 0 g h (by lia) (by lia) (λi j _ _ _ _=>by
  have:i=j:=by lia
  rw[this];exact o.irr _)).mono λt f=>?_)
 obtain⟨a,d,h2,h3,e⟩:=f;have hs:=a.size;by_cases c:t.2.2 > 0
 .rw[if_pos c];exact qqb o b (qlc a _ _) (qld o (by lia) d e) (by lia) (by lia)
 .rw[if_neg c];exact qqb o b a d (by lia) (by lia)
theorem qwy (o:Ord r)(a:0<n){p:Array Nat}(g:Gd n p):Sat n r (kas_count n p) λt=>Gd n t.2/\Up r t.2 t.1/\1<=t.1/\t.1<=n:=by
 refine Sat.bind ((qr2 o g a (n-1) 1 (λi j s b=>by
  have:i=j:=by lia
  rw[this];exact o.irr _) (Am _)).mono λm w=>?_)
 obtain⟨k,h2,h,f⟩:=w;by_cases c:(m == n)=true
 .rw[if_pos c];exact⟨g,h,k,by show m<=n;lia⟩
 .rw[if_neg c];have cn:m≠n:=λz=>c (by rw[z];exact beq_self_eq_true n);have e:r (at' p m) (at' p (m-1))=true:=by
   rcases f with f|f
   .lia
   .exact f
  by_cases q:m > 1
  .rw[if_pos q];refine⟨g.lt a _,g.lt a _,?_⟩;cases d:r (at' p 0) (at' p (m-1)) with|true=>dsimp only;rw[if_pos Z];exact⟨g,h,k,by show m<=n;lia⟩|false =>dsimp only;rw[if_neg (by simp)];have l:qux r p 0 m:=λi j _ u _ b=>o.trans _ _ _ (h j (m-1) (by lia) (by lia)) (o.trans _ _ _ d (h 0 i (by lia) u));have v:qmv r (Er p 0 m) m:=qld o (by rw[g.size];lia) (λi j _ b=>l i j (by lia) (by lia) (by lia) b) l;refine qj6 o a (qlc g _ _) (qe4 o v k ?_) (by lia);rw[qf9 (by rw[g.size];lia),qf9 (by rw[g.size];lia),if_pos ⟨by lia,by lia⟩,if_neg (by lia)];exact o.trans _ _ _ (o.asym _ _ e) (l _ _ (by lia) (by lia) (by lia) (by lia))
  .rw[if_neg q];have:m=1:=by lia
   subst this;refine qj6 o a g (qe4 o (λi j s b=>?_) (by lia) (o.asym _ _ e)) (by lia);have:i=j:=by lia
   rw[this];exact o.irr _
theorem qle (o:Ord r)(h:0<n){p:Array Nat}{k:Nat}(g:Gd n p)(j:Up r p k):∀(f a b:Nat),b-a<=f->a<=b->b<=k->(∀i,i<a->r (at' p k) (at' p i)=false)->(∀i,b<=i->i<k->r (at' p k) (at' p i)=true) ->
  Sat n r (kas_place p k f a b) λl=>l<=k/\(∀i,i<l->r (at' p k) (at' p i)=false)/\∀i,l<=i->i<k->r (at' p k) (at' p i)=true
 |0,a,b,hf,hab,hb,h1,h2=>⟨by lia,h1,λi e=>h2 i (by lia)⟩
 |f+1,a,b,hf,hab,hb,h1,h2=>by
  unfold kas_place;by_cases c:a ≥ b
  .rw[if_pos c];exact⟨by lia,h1,λi e=>h2 i (by lia)⟩
  .rw[if_neg c];refine⟨g.lt h _,g.lt h _,?_⟩;cases d:r (at' p k) (at' p ((a+b) / 2)) with
   |true =>
    dsimp only;rw[if_pos Z];refine qle o h g j f a ((a+b) / 2) (by lia) (by lia) (by lia) h1 λi e m=>?_;by_cases q:b<=i
    .exact h2 i q m
    .cases z:r (at' p k) (at' p i) with
     |true=>rfl
     |false =>have:=o.trans _ _ _ (j ((a+b) / 2) i e m) z;rw[d]at this;cases this
   |false =>dsimp only;rw[if_neg (by simp)];refine qle o h g j f ((a+b) / 2+1) b (by lia) (by lia) hb (λi e=>?_) h2;exact o.trans _ _ _ (j i ((a+b) / 2) (by lia) (by lia)) d
theorem qns {p:Array Nat}{k d:Nat}(b:k<p.size)(a:d<=k)(i:Nat):at' (bubble p k d) i=if i=k-d then at' p k else if k-d<i/\i<=k then at' p (i-1) else at' p i:=by
 have e:∀(q:Array Nat)(j:Nat),at' q j=q[j]?.getD 0:=λq j=>C4;rw[e,e,e,e,getElem?_bubble b d a];split
 .rfl
 .split <;>rfl
theorem qwz (o:Ord r)(c:0<n):∀(f:Nat)(p:Array Nat)(k:Nat),Gd n p->Up r p k->k+f=n->Sat n r (kas_bin f p k) λq=>Gd n q/\Up r q n
 |0,p,k,g,h,e=>by
  have t:k=n:=by lia
  subst t;exact⟨g,h⟩
 |f+1,p,k,g,h,e=>by
  have hs:=g.size;refine Sat.bind ((qle o c g h k 0 k (by lia) (by lia) (Am _) (λi s=>by lia) (λi s hk=>by lia)).mono λl u=>?_);obtain⟨h0,m,v⟩:=u;refine qwz o c f _ (k+1) ⟨(bubble_perm _ _ _).trans g.perm⟩ (λi j d hj=>?_) (by lia);rw[qns (by lia) (by lia),qns (by lia) (by lia),show k-(k-l)=l by lia];by_cases b:i=l
  .rw[if_pos b];by_cases a:j=l
   .rw[if_pos a];exact o.irr _
   .rw[if_neg a,if_pos ⟨by lia,by lia⟩];exact o.asym _ _ (v (j-1) (by lia) (by lia))
  .rw[if_neg b];by_cases a:j=l
   .rw[if_pos a,if_neg (by lia)];exact m i (by lia)
   .rw[if_neg a];by_cases c1:l<i
    .rw[if_pos (show l<j/\j<=k by lia),if_pos (show l<i/\i<=k by lia)];exact h _ _ (by lia) (by lia)
    .rw[if_neg (show ¬(l<i/\i<=k) by lia)];by_cases c2:l<j
     .rw[if_pos (show l<j/\j<=k by lia)];exact h _ _ (by lia) (by lia)
     .rw[if_neg (show ¬(l<j/\j<=k) by lia)];exact h _ _ d (by lia)
theorem sort_ok (o:Ord r)(a:0<n):Sat n r (kas_sort n) λq=>Gd n q/\Up r q n:=by
 refine Sat.bind ((qwy o a ⟨.refl _⟩).mono λt b=>?_);obtain⟨g,h,h1,h2⟩:=b;by_cases c:t.1<n
 .rw[if_pos c];have:max t.1 1=t.1:=by lia
  rw[this];exact qwz o a _ _ _ g h (by lia)
 .rw[if_neg c];have:t.1=n:=by lia
  rw[this]at h;exact⟨g,h⟩
end
end Srt
namespace Srt
open PySem PySem.W PySem.Calls PyProof.Rows
section
variable {prog:AK}{w:World}{A:AQ}{E:Value->Ae->Prop}{s:Ae}
noncomputable abbrev qg9 (vs:List Value)(p:Array Nat):List Value:=p.toList.map λi=>vs.getD i C8
theorem quy (vs:List Value):qg9 vs (Ar vs.length).toArray=vs:=by
 unfold qg9;refine Ck λi=>?_;rw[Ai];by_cases h:i<vs.length
 .simp[h]
 .simp[h]
end
end Srt
namespace Add
open PySem PySem.Spec PyProof.Rows L2 Srt PySem.W
noncomputable def encP (r:Int×Int):List V:=[.int r.1,.int r.2]
theorem qr3 {α:Type}(xs:List α)(d:α):(Ar xs.length).map (λi=>xs.getD i d)=xs:=by
 refine Ck λi=>?_;rw[Ai];by_cases h:i<xs.length
 .simp[h]
 .simp[h]
section
variable {X:Cx}{pins:List (Addr×Obj)}{σ:L2.St}{H:Hp}{s:Ae}
theorem qnt {us:List V}{its:List Value}(rv:Vals us its):∀(js:List Nat),(∀i∈js,i<its.length)->Vals (js.map λi=>us.getD i V.non) (js.map λi=>its.getD i C8)
 | [],_=>.nil
 |i::js,h=>by
  have b:=h i Al;have a:i<us.length:=by rw[rv.length];exact b
  obtain⟨v,d,r⟩:=rv.get (i:=i) (x:=us[i]) (by simp[a]);refine .cons ?_ (qnt rv js λj c=>h j (Az _ c));show L2.RelV (us.getD i V.non) (its.getD i C8);rw[Aj,Aj,d,Ad a];exact r
end
end Add
namespace Mrg
noncomputable abbrev S2:=Int×Int
noncomputable def inB (rs:List S2)(d:Int):Bool:=rs.any λr=>decide (r.1<=d) && decide (d<=r.2)
noncomputable def mg1 (told:List S2)(r:S2):List S2:=match told.getLast? with
 |some t=>if r.1<=t.2+1 then told.dropLast++[(t.1,if r.2 > t.2 then r.2 else t.2)] else told++[r]
 |none=>told++[r]
def mg (rs:List S2):List S2:=rs.foldl mg1 []
end Mrg
namespace Add
open PySem PySem.Spec PyProof.Rows L2
theorem qtc {X:Cx}{f:List (Addr×Obj)}{σ:L2.St}{H:Hp}{s:Ae}{h':Heap}{t':Nat}{e it:Addr}(I:Inv X f σ H s)(k:∀b o,b≠e->b≠it->s.heap.get? b=some o->h'.get? b=some o)(i:qi3 X f H e)(h:qi3 X f H it) :
  Inv X f σ H {s with heap:=h',toks:=t'}:=by
 have l:∀b u,H b=some u->b≠e:=λb u q z=>by rw[z,i.1]at q;cases q
 have j:∀b u,H b=some u->b≠it:=λb u q z=>by rw[z,h.1]at q;cases q
 have d:∀b,b∉[e,it]->b≠e/\b≠it:=λb g=>⟨λz=>g (by simp[z]),λz=>g (by simp[z])⟩;refine I.step (g':=s.gens) (d':=s.drawn) (ch:=[e,it]) (λb g=>?_) (λb o _ _ a q _=>k b o (d b a).1 (d b a).2 q) (λb o _ _ a q _=>⟨o.slots,k b o (d b a).1 (d b a).2 q⟩) (λ_ _ _ _ n=>n)
  (λb o a q=>⟨o,k b o (d b a).1 (d b a).2 q⟩) (λ_ _ q=>q) (λ_ _ _ q=>q) (λb ps q=>⟨#[],by rw[q];simp⟩) (λm t=>?_) (λb u q=>?_) I.bare
 .rcases Aq.mp g with rfl|g
  .exact⟨i.2.2.2.1,i.2.1,i.2.2.2.2.1,i.2.2.2.2.2⟩
  .cases Ah.mp g;exact⟨h.2.2.2.1,h.2.1,h.2.2.2.2.1,h.2.2.2.2.2⟩
 .obtain⟨o,es,ep,p,r⟩:=t;exact⟨o,es,ep,k _ o (B4 i.2.1) (B4 h.2.1) p,r⟩
 .refine(I.hok b u q).stay (λc v a z=>k c v ?_ ?_ z) (λ_ z=>z) λ_ _ z=>z
  .rcases a with rfl|a
   .exact l _ u q
   .exact l c _ a
  .rcases a with rfl|a
   .exact j _ u q
   .exact j c _ a
def Ite (K:Ag)(a:Addr):It :=
 ⟨λi H=>∃xs x,SqL K H a xs/\xs[i]?=some x,λi H x H'=>∀xs,SqL K H a xs->∃y t,xs[i]?=some y/\H t=none/\x=.ref t/\H'=upd H t (.tup [.int i,y]),λi H=>∃xs,SqL K H a xs/\xs.length<=i⟩
theorem qw0 {X:Cx}{a:List (Addr×Obj)}{H:Hp}{b t:Addr}{o:HO}(f:qi3 X a H b)(c:b≠t):qi3 X a (L2.upd H t o) b:=⟨by rw[qr c];exact f.1,f.2⟩
theorem quz {P:AK}{w:World}{K:Ag}{es:List Expr}{kk pos}(a e it:Addr)(G:e≠it):Turn P w K (.Tuple es kk pos) (Ite K a) [e,it] e (λi h=>∃f,IsEnum h e it i f/\h.IsListIter it a i) where
 mem:=by simp
 obj:=λi h st b j=>by
  obtain⟨f,r,o,l,c,d⟩:=st;rcases Aq.mp j with rfl|j
  .exact⟨_,r,λv z=>by cases z⟩
  .cases Ah.mp j;exact⟨o,l,λv z=>by rw[d]at z;cases z⟩
 keep:=λi h h' st k=>by obtain⟨f,r,l⟩:=st;exact⟨f,k e (by simp) _ r,l.at λo q=>k it (by simp) o q⟩
 item:=by
  intro X J U L hc i R s σ H E I t st O;subst J U L;obtain⟨f,m,g⟩:=st;obtain⟨xs,x,D,M⟩:=O;obtain⟨its,rv,p,hz⟩:=I.list D;obtain⟨u,hu,ru⟩:=rv.get M;have C:=t e (by simp);have B:=t it (by simp);refine wpAny_pyNext_enum_item m g p.isList (x:=u) (by simpa using hu) G λr ho T ht hsz keep=>⟨_,Z,?_⟩;refine wpAny_letOwnedTupleGo_enum ho λl V n=>?_
  replace n:BR e r l:=n
  have y:e<s.heap.objs.size:=A9 m;obtain⟨oi,Y,_⟩:=id g;have F:it<s.heap.objs.size:=A9 Y;have ad:l.get? s.heap.objs.size=some {cls:=.type "tuple",data:=.seq #[.int i s.toks,u]}:=(n.2 _ (Ch y)).trans ht;have W:H s.heap.objs.size=none:=I.hok.fresh (Am _);have I1:=I.laid (a:=s.heap.objs.size) (o:=.tup [.int i,x]) (h':=s.heap.push {cls:=.type "tuple",data:=.seq #[.int i s.toks,u]}) (t':=s.toks) (λb o q=>Ao _ q) (Am _) ⟨show 2<=A6 by rw[B3];decide,[.int i s.toks,u],.cons ⟨_,Z⟩ (.cons ru .nil),⟨_,AR _ Z,Z,_,Z⟩⟩;have I2:=qtc (h':=l) (t':=s.toks+1) I1 (λb o S N q=>by
   by_cases z:b=s.heap.objs.size
   .subst z;rw[AR _ Z]at q;cases q;exact ad
   .rw[Heap.get?_push_ne _ _ _ z]at q;exact(n.2 b S).trans (keep b o S N q)) (qw0 C (AA y)) (qw0 B (AA F))
  refine⟨.ref s.heap.objs.size,_,I2,Z,λys hy=>?_,⟨u,V,T.at λo q=>(n.2 it (B4 G)).trans q⟩,λb j=>?_⟩
  .rw[I.list_inj hy D];exact⟨x,_,M,W,Z,Z⟩
  .rcases Aq.mp j with rfl|j
   .rw[qr (AA y)];exact C.1
   .cases Ah.mp j;rw[qr (AA F)];exact B.1
 done:=by intro X J U L hc i R s σ H E I t st O;subst J U L;obtain⟨f,m,g⟩:=st;obtain⟨xs,D,M⟩:=O;obtain⟨its,rv,p,hz⟩:=I.list D;have hl:=rv.length;have C:=t e (by simp);have B:=t it (by simp);exact wpAny_pyNext_enum_end (I.ok.hd hc) m g p.isList (by simp;lia) λh' eb=>⟨Z,qtc (t':=s.toks) I (λb o S N q=>eb b o N q) C B⟩
 self:=λA i s Q E st h=>by obtain⟨f,m,g⟩:=st;exact wpAny_pyIter_enum m h
def iEnum (K:Ag)(ta:TA):TI:=λσ H R=>ta σ H λvs H1=>∃a xs,vs=[.ref a]/\H1 a=some (.lst xs)/\R (Ite K a) H1
theorem qu0:bootBuiltins "enumerate"=some (.type "enumerate"):=Ez
theorem qkr {X:Cx}{es:List Expr}{r:_}{i:Pos}{a:Expr}{m:TA}{p pos:Pos}(D:Gl X "enumerate")(C:X.mg "enumerate"=none)(v:PA X [a] m)(x:starEach [a] X.env=[(false,eval a X.env)]:=by rfl):PI X (.Tuple es r i) (.Call (.Name "enumerate" p) [a] [] pos) (iEnum X.K m):=by
 intro f s σ H R I h;refine Call_ (qep I D C qu0 (BM (thn (v pos f s σ H _ I h) λus d ⟨vs,o,c,B,y⟩=>?_) x Z));obtain⟨l,xs,e,A,q⟩:=y;subst e;obtain⟨u,rfl,w⟩:=qne B;cases qkp w;obtain⟨z,its,n,rv,hz,e⟩:=c.lstM A;refine call_enumerate_1 e λh' j k hsz keep=>wpAny_pyIter_enum j ?_;have t:Inv X f σ o {d with heap:=h'}:=c.kept (t':=d.toks) keep;refine⟨d.heap.objs.size+1,[d.heap.objs.size+1,d.heap.objs.size],_,_,o,Z,t,quz l _ _ (Ch (Ce _)),⟨.none,j,k⟩,λb g=>?_,q⟩;rcases Aq.mp g with rfl|g
 .exact c.fpOk (Cn _) (c.hok.fresh (Cn _))
 .cases Ah.mp g;exact c.fpOk (Am _) (c.hok.fresh (Am _))
theorem qid {K:Ag}{a:Addr}{xs:List V}{g:TG}{tb:TS}{D:Ends}{σ:L2.St}{H:Hp}(b:Nat->L2.St->Hp->Prop)(h:b 0 σ H)(q:∀i σ H,i<=xs.length->b i σ H->SqL K H a xs)
  (l:∀i x t σ H,xs[i]?=some x->b i σ H->H t=none->g (.ref t) σ (upd H t (.tup [.int i,x])) λσ2 d=>tb {D with nx:=b (i+1),ct:=b (i+1),bk:=D.nx} σ2 d)(hd:∀σ H,b xs.length σ H->D.nx σ H) :
  ∃W:Nat->Nat->L2.St->Hp->Prop,(∃m,W 0 m σ H)/\∀i m σ H,W i m σ H ->
   ((Ite K a).stop i H/\D.nx σ H)\/((Ite K a).go i H/\∃N:L2.St->Hp->Prop,(∀σ' H',N σ' H'->∃m',m'<m/\W (i+1) m' σ' H')/\∀x H',(Ite K a).yld i H x H'->g x σ H' λσ2 d=>tb {D with nx:=N,ct:=N,bk:=D.nx} σ2 d):=by
 refine⟨λi m σ H=>m=xs.length-i/\i<=xs.length/\b i σ H,⟨xs.length,by simp,AU _,h⟩,?_⟩
 rintro i m σ H ⟨rfl,k,p⟩
 have f:=q i σ H k p
 by_cases c:i<xs.length
 .have ex:xs[i]?=some xs[i]:=by simp[c]
  refine .inr ⟨⟨xs,xs[i],f,ex⟩,b (i+1),λσ' H' n=>⟨xs.length-(i+1),by lia,Z,c,n⟩,λx H' r=>?_⟩;obtain⟨y,t,j,o,rfl,rfl⟩:=r xs f;exact l i y t σ H j p o
 .have e:i=xs.length:=by lia
  subst e;exact .inl ⟨⟨xs,f,Am _⟩,hd σ H p⟩
end Add
namespace Add
open PySem PySem.Spec PyProof.Rows L2
section
variable {X:Cx}
theorem qw1 (bs:List Bool):((Ar bs.length).any λj=>(bs[j]?).getD true)=bs.any λb=>b:=by
 rw[Cy,CQ,CQ];constructor
 .rintro⟨j,a,e⟩;have c:j<bs.length:=by simpa using a
  rw[Ad c]at e;exact⟨bs[j],Bj c,e⟩
 .rintro⟨b,d,e⟩;obtain⟨j,a,rfl⟩:=C1 d;exact⟨j,by simpa using a,by rw[Ad a];exact e⟩
theorem qu1 (B:X.calm=true):qh5 X (.builtin "any") (λxs H Q=>∃(p:Addr)(bs:List Bool),xs=[V.ref p]/\SqL X.K H p (bs.map V.bl)/\Q (.bl (bs.any λb=>b)) H):=by
 intro pins s σ H xs us Q I r h;obtain⟨p,bs,rfl,w,q⟩:=h;obtain⟨u,rfl,c⟩:=Vals.one r;cases c;obtain⟨its,rv,pl,hz⟩:=I.list w;have f:=rv.length;rw[Ab]at f;have k:p≠s.heap.objs.size:=by obtain⟨o,y,_⟩:=pl.isList;exact AA (A9 y)
 refine call_any_walk (wpAny_pyIter_list pl.isList ⟨s.heap.objs.size,_,_,its.toArray.size,_,_,λj=>(bs[j]?).getD true,Z,Walks.list (show X.A.in1.handled=none from I.ok.hd B) _ p k its.toArray,
  ⟨⟨_,AR _ Z,Z,Z⟩,pl.isList.at λo e=>Ao _ e⟩,?_,λh' tk m=>?_⟩)
 .intro i v s' Q' E' t d;have a:its[i]?=some v:=by simpa using t
  cases e:bs[i]? with
  |none =>
   exfalso;have l:its.length<=i:=by rw[<- f];exact Dk.mp e
   rw[Dk.mpr l]at a;cases a
  |some b =>obtain⟨u,g,c⟩:=rv.get (i:=i) (x:=.bl b) (by rw[Ai,e];rfl);rw[a]at g;cases g;cases (show v=El b from c);dsimp only at d;rw[e]at d;exact BA d
 .refine⟨.bl _,H,I.kept (t':=tk) λb o e=>m b o (λz=>?_) (Ao _ e),Z,?_⟩
  .have n:b=s.heap.objs.size:=by simpa using z
   exact absurd (A9 e) (by rw[n];exact Cg _)
  .have e:its.toArray.size=bs.length:=by rw[Ak,f]
   rw[e,qw1];exact q
theorem gk_tup {K:Ag}{n:Nat}{t:TGs}(c:∀xs σ' H' R b,(∀σ3 H3,R σ3 H3->b σ3 H3)->t xs σ' H' R->t xs σ' H' b)(x:V)(σ':L2.St)(H':Hp)(R b:L2.St->Hp->Prop)(h:∀σ3 H3,R σ3 H3->b σ3 H3)(z:gTup K n t x σ' H' R):gTup K n t x σ' H' b:=by obtain⟨a,xs,e,f,d,z⟩:=z;exact⟨a,xs,e,f,d,c _ _ _ _ _ h z⟩
end
structure FunD (K:Ag)(x qual:Str)(st:Stmt)(f:Addr)(fd:Ay):Prop where
 ex:∃(oc dV kV doc pm cdv ct:Value)(od an:Option Addr)(osl:Array (Option Value)),
  fd=Bg x qual (qa4 st) (qaw st) (qaa st) dV kV doc pm an cdv ct/\K.lookup f=some ⟨oc,od,.func fd,osl⟩/\B9 K cdv qual=true
 kp:Bu K (.ref f)=true
section
variable {P:AK}{w:World}{K:Ag}{mg:Str->Option Value}{base:Heap}
theorem FunD.ok {x a:Str}{st:Stmt}{f:Addr}{fd:Ay}{N ps:List Str}{k:Nat}{sp:Sp}(F:FunD K x a st f fd)(S:FnScope N ps (qaa st))(len:∀vs H Q E,sp vs H Q E->vs.length=ps.length)
  (c:∀(b:Value)(A:AQ)(outer:List Env)(s:Ae)(H:Hp)(vs:List V)(Q:VK)(E:XK),Room k (A.deeper (envOfC a (qaa st) s.heap.objs.size f b))->sp vs H Q E ->
   ∃t,PSs (qpz CX0 P w K mg base N a (qaa st) f b A outer s H E).nox (qaw st) t/\t {nx:=λ_ H'=>Q .non H',rt:=Q} (start N vs) H):FnOk P w K mg base CX0 (k+1) f fd ps sp:=by
 obtain⟨oc,dV,kV,doc,pm,b,ct,od,an,osl,rfl,g,e⟩:=F.ex
 refine qwg g e S len λA outer s H vs Q E i d=>?_
 obtain⟨t,h,q⟩:=c b A outer s H vs Q E i d
 exact⟨t,h.nox,q⟩
theorem qor {x a:Str}{st:Stmt}{f:Addr}{m:Value}{j g:Option Addr}{e:Array (Option Value)}{h kV d i b ct:Value}(l:K.lookup f=some ⟨m,j,.func (Bg x a (qa4 st) (qaw st) (qaa st) h kV d i g b ct),e⟩)
  (c:B9 K b a=true)(k:Bu K (.ref f)=true):FunD K x a st f (Bg x a (qa4 st) (qaw st) (qaa st) h kV d i g b ct):=⟨⟨m,h,kV,d,i,b,ct,j,g,e,Z,l,c⟩,k⟩
theorem qos {fd:Ay}{ps:List Str}{ds:List Value}(h:∀us:List Value,(us++ds).length=ps.length->∀S,CK K S (bindArgs fd ⟨us,[]⟩)=some (ps.zip (us++ds))):Binds K fd ps ds:=λs us X a=>PySem.W.kp_binds X (h us a)
end
structure MethD (K:Ag)(x qual:Str)(st:Stmt)(ps:List Str)(f:Addr)(fd:Ay):Prop where
 fn:FunD K x qual st f fd
 bd:Binds K fd ps []
 ty:C9 K (.ref f)=some (.type "function")
section
variable {X:Cx}{a b c d:Expr}{ta tb tc td:TE}{pos:Pos}
def tChain3 (r r' r2:R2)(ta tb tc td:TE):TE:=λσ H Q=>ta σ H λx H1=>tb σ H1 λy H2=>r x y H2 λz H3=>∃k,z=.bl k /\
 (if k=true then tc σ H3 λw' H4=>r' y w' H4 λz' H5=>∃k',z'=.bl k'/\(if k'=true then td σ H5 λu H6=>r2 w' u H6 Q else Q (.bl false) H5) else Q (.bl false) H3)
theorem qu2 {j i g:CmpOp}{r t E:R2}(ho:OpR X (compareOp j) r)(B:OpR X (compareOp i) t)(l:OpR X (compareOp g) E)(T:PE X a ta)(N:PE X b tb)(hc:PE X c tc)(hd:PE X d td)
  (hm:lastMarks [j,i,g] [b,c,d]=false:=by with_unfolding_all rfl):PE X (.Compare a [j,i,g] [b,c,d] pos) (tChain3 r t E ta tb tc td):=by
 intro f s σ H Q I h;refine Compare_chain (thn (T f s σ H _ I h) λv s1 ⟨x,H1,W,r1,q1⟩=>chain_link (thn (N f s1 σ H1 _ W q1) λu s2 ⟨y,H2,R,C,K⟩ =>
  thn (ho f s2 σ H2 x y v u _ R r1 C K) λe s3 ⟨z,p,F,U,k,ek,D⟩=>?_)) hm
 subst ek;cases U;refine BA ?_;cases k with
 |false=>exact ite_ff ⟨.bl false,p,F,Z,D⟩
 |true =>
  refine ite_tt (chain_link (thn (hc f s3 σ p _ F D) λG s4 ⟨m,P,Y,w,S⟩=>thn (B f s4 σ P y m u G _ Y C w S) λe' s5 ⟨z2,n,o,r5,J,q,A⟩=>?_));subst q;cases r5;refine BA ?_;cases J with|false=>exact ite_ff ⟨.bl false,n,o,Z,A⟩|true=>exact ite_tt (chain_last (thn (hd f s5 σ n _ o A) λu' L ⟨z3,O,I6,V,M⟩=>l f L σ O m z3 G u' Q I6 w V M))
end
theorem pg_tupC {X:Cx}{K:Ag}(a:X.K=K){es:List Expr}{c:_}{pos:Pos}{t:TGs}{n:Nat}(d:X.calm=true)(h:PGs X es t)
  (b:(assignEach es X.env).length=n:=by rfl)(hst:(assignEach es X.env).findIdx? (·.1)=none:=by rfl):PG X (.Tuple es c pos) (gTup K n t):=by
 subst a;exact qeq d h b hst
theorem qqc {α:Type}{H:Hp}{enc:α->List V}{f g:V->V}{h:α->V}:∀{rs:List α}{us:List V},Tups H us (rs.map enc)->(∀a r,H a=some (.tup (enc r))->f (.ref a)=h r)->us.map f=rs.map h
 | [],us,t,_=>by cases t;rfl
 |r::rs,us,t,k=>by
  cases t with|cons q t=>rw[Ba,Ba,k _ _ q,qqc (g:=g) t k]
theorem qqd (x:Int)(xs:List Int):inV (.int x) (xs.map V.int)=xs.contains x:=by
 unfold inV;rw[List.any_map,List.contains_eq_any_beq]
 congr 1
 funext y;show (y == x)=(x == y);rw[Cy,beq_iff_eq,beq_iff_eq];exact eq_comm
theorem qnu (xs:List Int):(xs.map V.int).all qbt=true:=by rw[List.all_map];exact Cf.mpr λ_ _=>rfl
end Add
namespace Tab
open Mrg Lay
def fy (wk:List Int)(yr:List S2)(i:Int):Bool:=wk.contains (i % 7+1) || inB yr i
def fdL (wk:List Int)(yr:List S2):List Bool:=(Ar 371).map λi=>fy wk yr (i:Nat)
theorem qfb (wk:List Int)(yr:List S2):(fdL wk yr).length=371:=by unfold fdL;rw[Ab,Aw]
noncomputable def opn (bs:List Bool)(k:Nat):Int:=(((bs.take k).filter λb=>!b).length:Nat)
def cuL (bs:List Bool):List Int:=(Ar (bs.length+1)).map λk=>opn bs k
theorem qr4 (bs:List Bool){k:Nat}(h:k<=bs.length):(cuL bs)[k]?=some (opn bs k):=by unfold cuL;rw[Ai,Bb (by lia)];rfl
theorem qlf {bs:List Bool}{k:Nat}{b:Bool}(h:bs[k]?=some b):opn bs (k+1)=if b=true then opn bs k else opn bs k+1:=by unfold opn;rw[B1,h,Cc];cases b <;>simp
theorem qjd (bs:List Bool)(k:Nat):0<=opn bs k/\opn bs k<=bs.length:=by
 unfold opn;have h1:=BY (λb=>!b) (bs.take k);have h2:(bs.take k).length<=bs.length:=by rw[Bv];lia
 lia
noncomputable def odL (bs:List Bool):List Int:=((Ar bs.length).filter λi=>!(bs.getD i true)).map λ(i:Nat)=>(i:Int)
structure OkW (wk:List Int):Prop where
 len:wk.length<=6
 nd:wk.Nodup
 rng:∀x∈wk,1<=x/\x<=7
structure OkY (yr:List S2):Prop where
 len:yr.length<=4
 rng:∀r∈yr,0<=r.1/\r.1<=r.2/\r.2<r.1+30/\r.2<364
end Tab
namespace Add
open PySem PySem.Spec PyProof.Rows L2
section
variable {X:Cx}{tg:Expr}
end
end Add
namespace Rev
open PySem PyProof.Rows
set_option maxRecDepth 100000
theorem no_len:typeLookup (.type "list_reverseiterator") "__len__"=pure none:=by rw[typeLookup_type,builtinLookup_eq_fast];kernel_rfl
theorem qw2:typeLookup (.type "list_reverseiterator") "__length_hint__"=pure (some (.builtin "list_reverseiterator.__length_hint__")):=by rw[typeLookup_type,builtinLookup_eq_fast];kernel_rfl
section
variable {prog:AK}{w:World}{A:AQ}{s:Ae}{R:Result->Ae->Prop}{E:Value->Ae->Prop}
variable {I:Addr}{fp wr:List Addr}{G:Array Eh->Array Eh->Prop}{n:Nat}{P:Nat->Value->Prop}{St:Nat->Ae->Prop}
theorem hint_ok {x:Value}{Q:Bool->Ae->Prop}(c:s.TypeIs x "list_reverseiterator")(h:Q false s):wpAny (model prog w) A (BL.List.listLengthHint x) Q E s:=by
 unfold BL.List.listLengthHint;refine As (wpAny_specialOf c no_len ?_);show wpAny _ A (specialOf x (Aa "__length_hint__") >>= _) _ _ _;refine As (wpAny_specialOf c qw2 ?_);generalize a:("list_reverseiterator.__length_hint__" : String)=id0
 wp_delta
 rw[show splitId id0=some ("list_reverseiterator","__length_hint__") from by subst a;decide +kernel];subst a;refine As (wpAny_isInstance (b:=true) c (by rw[isSubtype_type];kernel_rfl) ?_);exact AO h
theorem qu3 (W:WalksS prog w A.in1 I fp wr G n P St)(k:∀i s,St i s->s.TypeIs (.ref I) "list_reverseiterator")(S:Addr)(res:Value)(v:Nat)(c:St 0 s)(g:S∉fp)(o:I∈fp)
  (q:s.heap.get? S=some {cls:=.type "list",data:=.seq #[] v})
  (hR:∀a b d,Moved (S::wr) G s a->a.heap.get? S=some {cls:=.type "list",dict:=none,data:=.seq b d,slots:=#[]}->ItemsOf P b n->R (.ok (.ret res)) a)(hn:n<=A6) :
  wpAny (model prog w) A.in1 (BL.List.listExtendWith (.ref S) (.ref I) res)
   (λj a=>match j with | .done f=>R (.ok f) a | .again d=>d.quiet=true/\codeAny (model prog w) A d R a) (λe a=>R (.error e) a) s:=by
 have l:S≠I:=λe=>g (e ▸ o)
 unfold BL.List.listExtendWith
 refine As (wpAny_typeOf (k 0 _ c) ?_)
 have p:BL.List.listSameRef (.ref S) (.ref I)=false:=by simp[BL.List.listSameRef,l]
 have u:(CM "list_reverseiterator" == CM "list")=false:=by decide
 have r:(CM "list_reverseiterator" == CM "tuple")=false:=by decide
 simp only[p,u,r,Eg,DU,if_false]
 refine As (W.self 0 _ _ _ c ?_)
 refine As (Co (hint_ok (k 0 _ c) ?_))
 rw[if_neg Uk]
 exact AO ⟨plainId_quiet F.plain_extend_loop _,codeAny_extend_loopS W hn _ g _ n 0 _ _ _ Z (AU _) c q (ItemsOf.nil P) λa b d t m h=>hR a b d t m h⟩
theorem init_ok (W:WalksS prog w A.in1 I fp wr G n P St)(x:∀i s,St i s->s.TypeIs (.ref I) "list_reverseiterator")(S:Addr)(u:St 0 s)(j:S∉fp)(v:I∈fp)
  (l:s.heap.get? S=some {cls:=.type "list",data:=.seq #[]})
  (hR:∀a c d,Moved (S::wr) G s a->a.heap.get? S=some {cls:=.type "list",dict:=none,data:=.seq c d,slots:=#[]}->ItemsOf P c n->R (.ok (.ret .none)) a)(hn:n<=A6) :
  wpAny (model prog w) A.in1 (BL.«list.__init__» ⟨[.ref S,.ref I],[]⟩)
   (λp a=>match p with | .done f=>R (.ok f) a | .again d=>d.quiet=true/\codeAny (model prog w) A d R a) (λe a=>R (.error e) a) s:=by
 show wpAny _ A.in1 (BL.List.listItems (.ref S) >>= λq=>BL.List.listUpdate (.ref S) (λ_=>#[]) >>= λ_=>letGo q.toList.reverse >>= λ_=>BL.List.listExtendWith (.ref S) (.ref I) .none) _ _ s
 refine As ?_
 unfold BL.List.listItems
 refine As (wpAny_seqItems l Z (AO ?_))
 refine As (wpAny_updateSeq l Z ?_)
 have t:=Heap.get?_update_self (B7 (λ_=>(#[]:Array Value))) l rfl
 have k:∀b o,b≠S->s.heap.get? b=some o->(s.heap.update S (B7 (λ_=>(#[]:Array Value)))).get? b=some o:=λb o g e=>(Dv _ _ (B4 g)).trans e
 refine As (wpAny_letGo ?_)
 refine qu3 W x S .none _ (W.frame 0 s _ s.toks u (Am _) λb g o e=>k b o (λh=>j (h ▸ g)) e) j v t (λa c d y r m=>?_) hn
 exact hR a c d (Moved.trans W.gtrans ((Moved.refl W.grefl).then_heap (Am _) λb o g e=>k b o (λh=>g (h ▸ Al)) e) y) r m
theorem list_ok {Q:Value->Ae->Prop}(W:WalksS prog w A.in1.in1 I fp wr G n P St)(v:∀i s,St i s->s.TypeIs (.ref I) "list_reverseiterator")(q:St 0 s)(p:∀b∈fp,b<s.heap.objs.size)(r:I∈fp)
  (u:∀c a g,Moved (s.heap.objs.size::wr) G {s with heap:=s.heap.push {cls:=.type "list",data:=.seq #[]} } c ->
   c.heap.get? s.heap.objs.size=some {cls:=.type "list",dict:=none,data:=.seq a g,slots:=#[]}->ItemsOf P a n->Q (.ref s.heap.objs.size) c) (hn:n<=A6) :
  wpAny (model prog w) A (call (.type "list") [.ref I]) Q E s:=by
 have m:s.heap.objs.size∉fp:=λf=>Cg _ (p _ f);refine callType_codes (Q₁:=λd j=>d=.ref s.heap.objs.size/\j={s with heap:=s.heap.push {cls:=.type "list",data:=.seq #[]} }) F.called_list (F.typeCall_list_1 _) F.entry_list_init (code_list_new _ ⟨Z,Z⟩) λd j t=>?_;obtain⟨rfl,rfl⟩:=t;have k:(s.heap.push {cls:=.type "list",data:=.seq #[]}).get? s.heap.objs.size=some {cls:=.type "list",data:=.seq #[]}:=AR _ rfl;exact⟨⟨_,k,Z⟩,F.args_list_init_2 _ _,init_ok W v _ (W.frame 0 s _ s.toks q (Am _) λb _ o e=>Ao _ e) m r k (λc a g f l h=>⟨Z,u c a g f l h⟩) hn⟩
end
end Rev
namespace Add
open PySem PySem.Spec PyProof.Rows L2
theorem qmw:bootBuiltins "reversed"=some (.type "reversed"):=Ez
theorem qu4 {xs:List V}{us:List Value}{x:V}{u:Value}(h:Vals xs us)(r:RelV x u):Vals (xs++[x]) (us++[u]):=by
 induction h with
 |nil=>exact .cons r .nil
 |cons r' _ ih=>exact .cons r' ih
theorem qw3 {xs:List V}{us:List Value}(h:Vals xs us):Vals xs.reverse us.reverse:=by
 induction h with
 |nil=>exact .nil
 |cons r _ ih=>rw[Dc,Dc];exact qu4 ih r
theorem qu5 {its:List Value}{a:Array Value}(h:ItemsOf (λi v=>its.toArray[its.toArray.size-1-i]?=some v) a its.toArray.size):a=its.reverse.toArray:=by
 obtain⟨d,g⟩:=h;have e:a.toList=its.reverse:=by
  refine Ck λi=>?_;have hs:a.size=its.length:=by rw[d];simp
  by_cases c:i<its.length
  .have f:i<a.size:=by lia
   have b:a[i]?=some a[i]:=Array.getElem?_eq_getElem f;have:=g i _ b;rw[Array.getElem?_toList,b,<- this,CZ c];simp
  .rw[AI (by rw[Bz];lia),AI (by rw[BU];lia)]
 rw[<- e]
section
variable {X:Cx}
def tLR (K:Ag)(t:TA):TE:=λσ H Q=>t σ H λvs H1=>∃l ys,vs=[.ref l]/\SqL K H1 l ys/\∀q,H1 q=none->Q (.ref q) (upd H1 q (.lst ys.reverse))
theorem qr5 {e:Expr}{t:TA}{p J pos d:Pos}(G:X.calm=true)(C:Gl X "list")(F:X.mg "list"=none)(D:Gl X "reversed")(E:X.mg "reversed"=none)(x:bootBuiltins "list"=some (.type "list"))(N:PA X [e] t)
  (M:starEach [e] X.env=(false,eval e X.env)::starEach [] X.env:=by rfl):PE X (.Call (.Name "list" p) [.Call (.Name "reversed" J) [e] [] d] [] pos) (tLR X.K t):=by
 intro r s σ H Q I h;refine BN (qep I C F x ?_);refine BM ?_ rfl rfl;show wpAny _ _ (spliced ((false,eval (.Call (.Name "reversed" J) [e] [] d) X.env)::[])) _ _ s;refine CA ?_;refine BN (qep I D E qmw ?_);refine BM (thn (N d r s σ H _ I h) λus a ⟨vs,Y,n,U,T⟩=>?_) M rfl;obtain⟨l,ys,rfl,R,q⟩:=T;obtain⟨u,rfl,P⟩:=qne U;cases P;obtain⟨its,B,pl,hz⟩:=n.list R;refine call_reversed_list pl.isList (Db ?_);have j:=pl.isList;have m:l<a.heap.objs.size:=by obtain⟨o,S,_⟩:=j;exact A9 S
 have O:X.A.handled=none:=I.ok.hd G;have W:=(Walks.listRev (prog:=X.prog) (w:=X.w) (A:=X.A.in1.in1) O a.heap.objs.size l (AA m) its.toArray).toS;refine Rev.list_ok W (λi s st=>st.2.1.typeIs) ⟨AU _,?_,j.at λo e=>Ao _ e⟩ (λb f=>?_) (by simp) (λc acc' V g k v=>?_) ?_
 .refine⟨_,AR _ Z,Z,?_⟩;rw[show ((its.toArray.size:Nat):Int)-1-((0:Nat):Int)=(its.toArray.size:Int)-1 by lia];rfl
 .show b<(a.heap.push _).objs.size;rw[Dd];rcases Aq.mp f with z|z
  .rw[z];exact Ce _
  .rw[Ah.mp z];exact CL m
 .have sz:(a.heap.push (revObj l ((its.toArray.size:Int)-1))).objs.size=a.heap.objs.size+1:=Dd _ _;have kp:∀b o,a.heap.get? b=some o->c.heap.get? b=some o:=λb o e=>by
   have f:=A9 e;refine g.heap b o (λz=>?_) (Ao _ (Ao _ e));rcases Aq.mp z with z|z
   .rw[z]at f;exact absurd f (by show ¬((a.heap.push (revObj l ((its.toArray.size:Int)-1))).objs.size<a.heap.objs.size);rw[sz];exact Nat.not_lt_of_le (Cn _))
   .rw[Ah.mp z]at f;exact Cg _ f
  have es:c={a with heap:=c.heap,toks:=c.toks}:=by
   have g1:=g.gens;have g2:=g.drawn;have g3:=g.os;cases c;cases a
   simp_all
  have le:a.heap.objs.size<=(a.heap.push (revObj l ((its.toArray.size:Int)-1))).objs.size:=by rw[sz];exact Cn _
  rw[qu5 v]at k;have y:ObjOk X.prog X.w (upd Y (a.heap.push (revObj l ((its.toArray.size:Int)-1))).objs.size (.lst ys.reverse)) c.heap (a.heap.push (revObj l ((its.toArray.size:Int)-1))).objs.size (.lst ys.reverse) :=
   ⟨by rw[BU];exact hz,its.reverse,V,qw3 B,k⟩
  have L:=n.laid (t':=c.toks) kp le y;rw[<- es]at L;exact⟨.ref _,_,L,Z,q _ (n.hok.fresh le)⟩
 .have:=B.length;simp only[Ak];lia
end
end Add
namespace Lay
theorem qqe {W:Type}[DecidableEq W](d:Int):∀(b:List (Row W))(a:W),(∀s∈b,¬(s.1<=d/\d<=s.2.1))->qa8 a b d=a
 | [],_,_=>rfl
 |r::b,a,h=>by rw[qb6,if_neg (h r Al)];exact qqe d b a λs c=>h s (Az _ c)
theorem qnv {W:Type}[DecidableEq W](a:W)(d:Int):∀{b:List (Row W)},Dis b->qa8 a b d=(match b[cnt (ends b) d]? with|some r=>if r.1<=d then r.2.2 else a|none=>a)
 | [],_=>rfl
 |r::b,h=>by
  have pw:=BO.mp h.pw;have h':Dis b:=⟨λs f=>h.ok s (Az _ f),pw.2⟩;have e:ends (r::b)=r.2.1::ends b:=rfl;rw[qb6,e,qd4];by_cases c:r.2.1<d
  .rw[if_neg (λz=>B8.mpr z.2 c),if_pos c,Dq];exact qnv a d h'
  .rw[if_neg c,qic (λe i z=>by
    obtain⟨s,f,rfl⟩:=AS.mp i
    exact c (CJ (Bh (pw.1 s f) (h'.ok s f)) z))]
   rw[qqe d b _ λs f z=>c (Bh (pw.1 s f) z.1)]
   show _=if r.1<=d then r.2.2 else a
   by_cases g:r.1<=d
   .rw[if_pos ⟨g,B8.mp c⟩,if_pos g]
   .rw[if_neg λz=>g z.1,if_neg g]
theorem qtd {W:Type}[DecidableEq W](S:W->Prop)(d:Int):∀(b:List (Row W))(a:W),S a->(∀s∈b,S s.2.2)->S (qa8 a b d)
 | [],_,h,_=>h
 |r::b,a,h,hs=>by
  rw[qb6];refine qtd S d b _ ?_ λs z=>hs s (Az _ z);split
  .exact hs r Al
  .exact h
end Lay
namespace Add
open PySem PySem.Spec PyProof.Rows L2
end Add
namespace Add
open PySem PySem.Spec PyProof.Rows L2
section
variable {X:Cx}{CX:CXT}{k:Nat}{f C:Addr}{fd:Ay}{ps ks:List Str}{sp:Sp}{E:XK}{x:Str}{p pos:Pos}{e:Expr}{es:List Expr}{kws:List Eo}{t tk:TA}{g:List Value->List Value->List Value}{gV:List V->List V->List V}
end
noncomputable def g21 {α:Type}(n:α):List α->List α->List α
 | [a,b],[c]=>[a,b,n,c]
 |_,_=>[]
section
variable {X:Cx}
theorem qga (n:Nat):(Ar n).all (λ_=>true)=true:=by simp
end
section
variable {X:Cx}
def ipL:TIp:=λx y H Q=>∃l b xs zs,x=.ref l/\y=.ref b/\H l=some (.lst xs)/\H b=some (.lst zs)/\xs.length+zs.length<=A6/\Q (.ref l) (upd H l (.lst (xs++zs)))
theorem qkf:fillsInplaceSlot (.type "list") "add" (Ev.Add == .Add)=pure false:=by unfold fillsInplaceSlot;show (typeLookup (.type "list") (dunderI "add") >>= λa=>pure (a.isSome && !isSeqSlot a))=pure false;rw[Ei.lookup];rfl
theorem qmx:seqSlot? (.type "list") (dunderI "add")=pure (some (.builtin "list.__iadd__")):=PySem.seqSlot_of Ei.lookup Ez
theorem ip_ext:PIp X .Add ipL:=by
 intro pins s σ H x y v u Q I j m h;obtain⟨l,b,xs,zs,rfl,rfl,f,i,hz,q⟩:=h;cases j;cases m;obtain⟨z,its,n,r,hl,e⟩:=I.lstM f;obtain⟨z2,a,k,o,hl2,g⟩:=I.lstM i;have hsz:its.toArray.size+a.toArray.size<=A6:=by rw[Ak,Ak];lia
 have c:¬(!its.toArray.isEmpty && BL.List.listTooLong (its.toArray.size+a.toArray.size))=true:=by rw[qk6 hsz,Cs];exact AF
 unfold inplaceOp;refine Co ?_;have d:s.TypeIs (.ref l) "list" := ⟨_,e,Z⟩;have tb:s.TypeIs (.ref b) "list" := ⟨_,g,Z⟩;refine As (wpAny_typeOf d (As (wpAny_of_eq qkf ?_)));show wpAny _ _ (if false=true then _ else _) _ _ s;rw[if_neg AF];refine As (wpAny_binaryOp1_none (nm := "add") d tb noFill_list_add ?_);refine As (wpAny_of_eq qmx ?_);refine As (wpAny_rule ?_);refine DT Ei d F.entry_list_iadd (F.args_list_iadd_2 _ _)
  (AutoSeq1.list___iadd___list_list_0 l its.toArray n b a.toArray k c (by rw[Ak];lia) (by lia)) ⟨e,g,?_⟩
 refine⟨.ref l,_,I.lset (its':=its++a) f e (by simp) (r.append o) ?_,Z,q⟩;rw[Af];lia
end
def tMethF {ι:Type}(C:ι->Addr)(m:Str)(sp:ι->Sp)(dvs:List V)(E:XK)(ta:TE)(t:TA):TE:=λσ H Q=>ta σ H λx H1=>∃(i:ι)(a dx:Addr)(fs:List (Str×V)),x=.ref a/\H1 a=some (.ins (C i) dx fs)/\fs.lookup m=none /\
 t σ H1 λvs H2=>sp i (x::(vs++dvs)) H2 Q E
section
variable {X:Cx}{CX:CXT}{ι:Type}{k:ι->Nat}{f C:ι->Addr}{fd:ι->Ay}{ps:ι->List Str}{sp:ι->Sp}{dvs:List V}{ds:List Value}{E:XK}{m:Str}{pos apos:Pos}{e o:Expr}{es:List Expr}{ta:TE}{t:TA}
theorem qlg {pl:Sem Bool}(v:PE X o ta)(c:∀i,Cls X.K (C i))(n:∀i,Meth X.K (C i) m (f i))(F:∀i,FnOk X.prog X.w X.K X.mg X.base CX (k i) (f i) (fd i) (ps i) (sp i))(G:∀i,Room (k i) X.A)(y:∀i,Binds X.K (fd i) (ps i) ds)(M:Vals dvs ds)(L:qf5 CX X E)(z:PA X (e::es) t)
  (j:starEach (e::es) X.env=(false,eval e X.env)::starEach es X.env:=by rfl)(hpl:(backTo pos (starEach es X.env)).any (·.1)=false:=by rfl)
  (ht:eval (.Call (.Attribute o m apos) (e::es) [] pos) X.env=(do
   let ov <- eval o X.env
   standAt apos.atName
   let (f,first) <- holding [ov] (getMethod ov m pl)
   callWith pos f first (backTo pos (starEach (e::es) X.env)) (backToKw pos (keywordEach [] X.env))):=by rfl) :
  PE X (.Call (.Attribute o m apos) (e::es) [] pos) (tMethF C m sp dvs E ta t):=by
 intro b s σ H Q I h;refine D3 (pl:=pl) (thn (v b s σ H _ I h) λu J ⟨x,N,g,D,i,a,dx,fs,ex,B,l,q⟩=>?_) ht;subst ex;obtain rfl:u=Bm a:=D;refine qhg g B (c i) (n i) l ?_;refine Dn (first:=[.ref a]) (h₀:=X.base) I.ok.mod.kin (n i).kp (thn (z pos b J σ N _ g q) λus s2 ⟨vs,H2,d,r,p⟩=>⟨d.kIn,?_⟩) j hpl;exact qog (us:=.ref a::us) (vs:=.ref a::vs) (F i) (G i) (y i) M L d (.cons Z r) p
end
inductive Three where
 |a|b|c
noncomputable def qcn {α:Type}(x y z:α):Three->α
 |.a=>x
 |.b=>y
 |.c=>z
theorem qf0 {p:Three->Prop}(x:p .a)(y:p .b)(z:p .c):∀i,p i
 |.a=>x
 |.b=>y
 |.c=>z
section
variable {X:Cx}
end
section
variable {K:Ag}{C:Addr}
noncomputable def qu6 (K:Ag)(C:Addr):Bool:=(Bf K (.ref C) "__class__" == some (some (.builtin "object.__class__"))) && (PySem.W.specialIn K (.builtin "object.__class__") "__get__" == some (some (.builtin "getset_descriptor.__get__"))) && (PySem.W.takesIn K (.builtin "object.__class__") == some true) && (PySem.W.mroIn K C (.type "object") == some true)
end
section
variable {X:Cx}{tg:Expr}
end
section
variable {X:Cx}
theorem qlh:∀{ss:List Str}{its:List Value},Vals (ss.map V.str) its->StrsAre its ss
 | [],_,.nil=>.nil
 |y::ss,_,.cons a r=>by obtain⟨t,rfl⟩:=a;exact .cons y t (qlh r)
theorem qqf:∀{ss:List Str}{its:List Value},StrsAre its ss->Vals (ss.map V.str) its
 | [],_,.nil=>.nil
 |_::_,_,.cons y t h=>.cons ⟨t,Z⟩ (qqf h)
theorem qot:qh5 X (.builtin "sorted") (λxs H Q=>∃(p:Addr)(ss:List Str),xs=[.ref p]/\SqL X.K H p (ss.map V.str)/\ss.length<64/\∀(q:Addr)(a:List Str),H q=none->a.Perm ss->Q (.ref q) (upd H q (.lst (a.map V.str)))):=by intro pins s σ H xs vs Q I r h;obtain⟨p,ss,rfl,j,h64,q⟩:=h;obtain⟨u,rfl,i⟩:=qne r;cases qkp i;obtain⟨its,rv,pl,hz⟩:=I.list j;have l:=rv.length;rw[Ab]at l;refine sorted_strs pl.isList (qlh rv) (by lia) λc a g d hs=>?_;obtain⟨e,f⟩:=sortedAll_at s.heap its c;refine⟨.ref (s.heap.objs.size+1),upd H (s.heap.objs.size+1) (.lst (a.map V.str)),I.laid (t':=s.toks) (λb u e=>sortedAll_old e) (Cn _) ?_,Z,q _ a (I.hok.fresh (Cn _)) d⟩;have k:=d.length_eq;refine⟨by rw[Ab,k];exact BC (qnm (by lia)),c.toList,e,qqf g,?_⟩;exact f
end
section
variable {X:Cx}
end
section
end
section
variable {prog:AK}{w:World}{A:AQ}{E:Value->Ae->Prop}{s:Ae}
end
section
variable {prog:AK}{w:World}{A:AQ}{E:Value->Ae->Prop}{s:Ae}{z TI TO i1 i2:Addr}{f1 f2:List Addr}{n n2 k:Nat}{P1 P2:Nat->Value->Prop}{S1 S2:Nat->Heap->Prop}
end
section
end
section
variable {X:Cx}
end
section
variable {X:Cx}{t:Expr}{es:List Expr}{c:Value}{us:List Value}{qcd:List ExceptHandler}{tr:TH}{body:List Stmt}{pos pos':Pos}
end
section
variable {X:Cx}
end
section
variable {X:Cx}
end
section
variable {prog:AK}{w:World}{A:AQ}{E:Value->Ae->Prop}{s:Ae}
end
section
variable {P:AK}{w:World}{K:Ag}{mg:Str->Option Value}{base:Heap}
end
section
variable {X:Cx}
def rNeNil (K:Ag):R2:=λx y H Q=>∃a b xs,x=.ref a/\y=.ref b/\SqL K H a xs/\SqL K H b []/\Q (.bl (!xs.isEmpty)) H
theorem qw4 (hu:X.A.units+64<cLine):OpR X (compareOp .NotEq) (rNeNil X.K):=by
 intro pins s σ H x y v u Q I n p h;obtain⟨a,b,xs,rfl,rfl,m,l,q⟩:=h;cases n;cases p;obtain⟨its,o,f,_⟩:=I.list m;obtain⟨c,r,g,_⟩:=I.list l;have d:=o.length;have i:=r.length;have i:0=c.length:=i;cases xs with|nil =>have d:0=its.length:=d;refine DR.lists (e:=λ_=>true) f.isList g.isList (by rw[Ak,Ak];lia) (by lia) (λj k _=>absurd k (by rw[Ak];lia)) _ _ _ _ ?_;rw[qga];exact⟨.bl false,H,I,Z,q⟩|cons z zs =>rw[AD]at d;refine DR.lists_lengths f.isList g.isList (bne_iff_ne.mpr (by rw[Ak,Ak];lia)) (by lia) _ _ _ _ ?_;exact⟨.bl true,H,I,Z,q⟩
end
section
variable {X:Cx}
theorem ext_tup (l b:Addr)(as bs:Array Value)(n m:Nat)(i:Option Addr)(ss:Array (Option Value))(h0:¬(!as.isEmpty && BL.List.listTooLong (as.size+bs.size))=true)(e:as.size<=A6)(j:as.size+bs.size<=A6+1) :
  Meets (BL.«list.extend» ⟨[.ref l,.ref b],[]⟩) (λ_ R s=>s.heap.get? l=some ⟨.type "list",none,.seq as n,#[]⟩/\s.heap.get? b=some ⟨.type "tuple",i,.seq bs m,ss⟩/\R (.ok (.ret .none)) {s with heap:=s.heap.update l (B7 λx=>x++bs),toks:=s.toks}):=by
 refine .of_wp λprog w A R s h=>?_;obtain⟨hp,g,d,tk,os⟩:=s;obtain⟨a,f,h⟩:=h;have k1:=AutoSeq1.idx_int;have k2:=AutoSeq1.sub_tuple_tuple;have k3:=AutoSeq1.sub_list_list;have k4:=AutoSeq1.sub_tuple_list;have k5:=AutoSeq1.sub_list_tuple;have c:(as++bs).size<=A6+1:=A5 (Ci Array.size_append) j
 wp_walk using (wpAny_updateSeq a Z (hz:=e) (_hz':=c)),wpAny_loadPart' a,wpAny_loadPart' f
 exact⟨_,Z,h⟩
def qw5 (K:Ag):V->List V->Hp->VK->Prop:=λx vs H Q=>∃l b xs zs,x=.ref l/\vs=[.ref b]/\H l=some (.lst xs)/\SqT K H b zs/\xs.length+zs.length<=A6/\Q .non (upd H l (.lst (xs++zs)))
theorem qr6:MtM X "list.extend" (qw5 X.K):=by
 intro pins s σ H x vs v us Q I k rv h;obtain⟨l,b,xs,zs,rfl,rfl,d,j,hz,q⟩:=h;cases k;obtain⟨u,rfl,i⟩:=rv.one;cases i;obtain⟨z,its,n,r,hl,e⟩:=I.lstM d;obtain⟨a,f,o,hz2⟩:=I.tuple j;have hl2:=f.length;obtain⟨⟨cl,g,da,ss⟩,p,rfl,m,rfl⟩:=o;have hsz:its.toArray.size+a.toArray.size<=A6:=by rw[Ak,Ak];lia
 have c:¬(!its.toArray.isEmpty && BL.List.listTooLong (its.toArray.size+a.toArray.size))=true:=by rw[qk6 hsz,Cs];exact AF
 refine DT F.slot_list_extend ⟨_,e,Z⟩ F.entry_list_extend (F.args_list_extend_2 _ _)
  (ext_tup l b its.toArray a.toArray n m g ss c (by rw[Ak];lia) (by lia)) ⟨e,p,?_⟩
 refine⟨.non,_,I.lset (its':=its++a) d e (by simp) (r.append f) ?_,Z,q⟩;rw[Af];lia
end
theorem qw6 {js:List (Option Nat)}{g:TG}{T:TE}{J:It}{σ:L2.St}{H:Hp}{Q:VK}{xs:List V}(G:Addr->V->Addr->Hp->Prop)(N:∀p x q H H',(∀b o,b≠p->H b=some o->H' b=some o)->G p x q H->G p x q H')(Gn:∀p x q H,G p x q H->H q≠none)
  (k:L2.St->Prop)(F:qnp J H xs)(hz:xs.length<=A6)(W:k (qda js σ))
  (step:∀(p:Addr)(x:V)(σ':L2.St)(H':Hp)(RR:L2.St->VK),x∈xs->H p=none->Same H H'->(∃zs,H' p=some (.lst zs))->k σ'->(∀σ3 q d,k σ3->Same H' d->H' q=none->G p x q d->RR σ3 (.ref q) d)->g x σ' H' λσ3 s=>T σ3 s (RR σ3))
  (gk:∀(x:V)(σ':L2.St)(H':Hp)(R S:L2.St->Hp->Prop),(∀σ3 s,R σ3 s->S σ3 s)->g x σ' H' R->g x σ' H' S)
  (M:∀(p:Addr)(H':Hp)(A:List Addr),H p=none->Same H H'->H' p=some (.lst (A.map V.ref))->A.length=xs.length->A.Nodup->(∀(j:Nat)(x:V)(q:Addr),xs[j]?=some x->A[j]?=some q->G p x q H'/\q≠p/\H q=none)->Q (.ref p) H') :
  qja js g qs9 T σ Q J H:=by
 intro p B;refine⟨λi m σ' H'=>m=xs.length-i/\i<=xs.length/\k σ'/\Same H H'/\∃ys:List Addr,H' p=some (.lst (ys.map V.ref))/\ys.length=i/\ys.Nodup/\∀(j:Nat)(x:V)(q:Addr),xs[j]?=some x->ys[j]?=some q->G p x q H'/\q≠p/\H q=none,⟨xs.length,by simp,AU _,W,qak (Same.refl H) B,[],qk,Z,.nil,λj x y _ L=>by cases L⟩,?_⟩;rintro i m σ' H' ⟨rfl,hi,hv,t,us,u,K,nd,D⟩;obtain⟨Y,F2⟩:=F _ t;by_cases l:i<xs.length
 .have ex:xs[i]?=some xs[i]:=by simp[l]
  obtain⟨go,X⟩:=Y i _ ex;refine .inr ⟨go,λσ2 h=>k σ2/\Same H h/\∃ys:List Addr,h p=some (.lst (ys.map V.ref))/\ys.length=i+1/\ys.Nodup/\∀(j:Nat)(x:V)(q:Addr),xs[j]?=some x->ys[j]?=some q->G p x q h/\q≠p/\H q=none,λσ2 h ⟨a,b,c⟩=>⟨xs.length-(i+1),by lia,Z,l,a,b,c⟩,λx h L=>?_⟩;obtain⟨rfl,rfl⟩:=X x h L;refine gk _ _ _ _ _ (λσ3 s z=>?_) (step p xs[i] σ' _ (λσ3 v d=>∃zs,d p=some (.lst zs)/\zs.length<A6/\(k σ3/\Same H (upd d p (.lst (zs++[v])))/\∃ys:List Addr,upd d p (.lst (zs++[v])) p=some (.lst (ys.map V.ref))/\ys.length=i+1/\ys.Nodup/\∀(j:Nat)(x:V)(q:Addr),xs[j]?=some x->ys[j]?=some q->G p x q (upd d p (.lst (zs++[v])))/\q≠p/\H q=none)) (Bj l) B t ⟨_,u⟩ hv λσ3 q d P I w hq=>?_)
  .exact z
  .have U:=I _ _ u;have O:q≠p:=λz=>by rw[z,u]at w;cases w
   have keep:∀b o,b≠p->d b=some o->upd d p (.lst (us.map V.ref++[V.ref q])) b=some o:=λb o n e=>by rw[qr n];exact e
   refine⟨_,U,?_,P,qak (t.trans I) B,us++[q],?_,?_,?_,λj x y E f=>?_⟩
   .rw[Ab];lia
   .rw[qk,Ax];rfl
   .rw[Af,K];rfl
   .refine List.nodup_append.mpr ⟨nd,CS _ _,λa ha b hb e=>?_⟩;obtain⟨j,r⟩:=Bc ha;have lj:=(Ac.mp r).1;obtain⟨C,_⟩:=D j _ a (Ad (by lia)) r;have:=Gn _ _ _ _ C;rw[e,Ah.mp hb]at this;exact this w
   .by_cases r:j<us.length
    .rw[AH r]at f;obtain⟨C,g2,g3⟩:=D j x y E f;exact⟨N _ _ _ _ _ (λb o n e=>keep b o n (I _ _ e)) C,g2,g3⟩
    .rw[AV (D7.mp r)]at f;have ej:j=i:=by have:=(Ac.mp f).1;simp at this;lia
     subst ej;rw[K,Dx]at f;rw[ex]at E;cases E;cases f;exact⟨N _ _ _ _ _ keep hq,O,t.free w⟩
 .have e:i=xs.length:=by lia
  subst e;exact .inl ⟨F2,M p _ us B t u K nd D⟩
section
variable {X:Cx}
end
end Add
namespace Sts
open PySem PyProof.Rows
section
variable {prog:AK}{w:World}{A:AQ}{E:Value->Ae->Prop}{s:Ae}
def SetP (prog:AK)(w:World)(h:Heap)(a:Addr)(S:Str->Bool)(n:Nat):Prop :=
 ∃o es ep t,h.get? a=some o/\o.ExactSet/\o.data=.set es ep t/\ElemsOf (strKind prog w) es.toList/\(∀k,S k=true ↔ ∃e∈es.toList,(strKind prog w).is k e.2=true)
  /\ es.size<scanBound/\t.fits es.size=true/\es.size=n/\(es.size=0\/t.plain=false)
theorem qqg {t:SetTable}{es:Array (Int×Value)}{k:Nat}(h:t.plain=false):(relayAll t es k).2.1.plain=false:=by
 unfold relayAll;split
 .rename_i t' order q;dsimp only;split
  .unfold SetTable.relaid SetTable.laid at q;simp only[Option.bind_eq_bind,Option.bind_eq_some_iff,Option.pure_def,Option.some.injEq,Prod.mk.injEq]at q;obtain⟨live,_,a,_⟩:=q;rw[<- a];exact h
  .rfl
 .rfl
theorem put_at {h:Heap}{a:Addr}{o:Obj}{es es':Array (Int×Value)}{ep:Nat}{t t':SetTable}(c:h.get? a=some o)(b:o.data=.set es ep t):(h.update a (Obj.putSet es' t')).get? a=some {o with data:=.set es' (ep+1) t'}:=by have:=Heap.get?_update_self (Obj.putSet es' t') c (by rw[putSet_of es' t' b];rfl);rw[putSet_of es' t' b]at this;exact this
theorem qw7 (k:Str)(tok:Tok):(strKind prog w).is k (.str k tok)=true:=by show Value.isStrOf k (.str k tok)=true;simp[Value.isStrOf]
theorem putStrS {a:Addr}{S:Str->Bool}{n:Nat}{k:Str}{tok:Tok}{Q:Bool->Ae->Prop}(hS:SetP prog w s.heap a S n)(room:n+1<scanBound)
  (v:∀h',BR a s.heap h'->SetP prog w h' a (λz=>S z || decide (z=k)) (if S k then n else n+1)->Q (!S k) {s with heap:=h'}) :
  wpAny (model prog w) A (setAddHashed a (.str k tok) ((strKind prog w).hash k)) Q E s:=by
 obtain⟨o,es,ep,t,H,O,G,y,m,Y,W,hn,ae⟩:=hS;have P:=qw7 (prog:=prog) (w:=w) k tok;unfold setAddHashed setAddHashedIn;refine Co (As (wpAny_setState_of H G W ?_));dsimp only;rw[byScan_of (x:=D5 k tok) Z Y y,if_pos Z];unfold setAddByScan;refine As (As (wpAny_rule (As (wpAny_setScan_of (knd:=strKind prog w) P H G W y ?_))));cases hr:es.toList.findIdx? (λe=>(strKind prog w).is k e.2) with
 |some j =>obtain⟨hj,X,_⟩:=List.findIdx?_eq_some_iff_getElem.mp hr;have K:S k=true:=(m k).mpr ⟨_,Bj hj,X⟩;rw[K]at v;refine AO (AO (v s.heap (BR.refl a s.heap) ⟨o,es,ep,t,H,O,G,y,λz=>?_,Y,W,hn,ae⟩));rw[<- m z,Bool.or_eq_true,decide_eq_true_eq];exact⟨λq=>q.elim id λe=>by rw[e];exact K,.inl⟩
 |none =>
  have K:S k=false:=by
   cases c:S k with
   |false=>rfl
   |true =>obtain⟨e,D,hp⟩:=(m k).mp c;rw[List.findIdx?_eq_none_iff.mp hr e D]at hp;cases hp
  rw[K]at v;dsimp only;have C:=layNew_perm t es ((strKind prog w).hash k) (.str k tok);have J:=layNew_fits t es ((strKind prog w).hash k) (.str k tok);generalize layNew t es ((strKind prog w).hash k) (.str k tok)=L at C J |-;obtain⟨d,t1,wd,gv⟩:=L;dsimp only at C J |-;rw[Array.toList_push]at C;have af:=(y.push P (x:=.str k tok) Z).perm C;have V:=mem_push_iff P m C;have ad:d.size=n+1:=by rw[<- Bz,C.length_eq,Af,Bz,hn];rfl
  have b1:d.size<scanBound:=by lia
  have T:∀(b:Bool){l:Ae}{u:Unit->Ae->Prop},u () l->wpAny (model prog w) A (match b with|true=>rule "set.scan.the-table-gave-way" |false=>pure ()) u E l:=λb l u B=>by
   cases b
   .exact AO B
   .exact wpAny_rule B
  have I:∀(h':Heap)(i:Array (Int×Value))(F:Nat)(h:SetTable),BR a s.heap h'->h'.get? a=some {o with data:=.set i F h}->i.toList.Perm d.toList->h.fits i.size=true->h.plain=false->Q true {s with heap:=h'}:=λh' i F h sb g p f pl=>by
   have sz:i.size=d.size:=by rw[<- Bz,p.length_eq,Bz]
   exact v h' sb ⟨_,i,F,h,g,O,Z,af.perm p,λz=>(V z).trans ⟨λ⟨e,D,q⟩=>⟨e,p.mem_iff.mpr D,q⟩,λ⟨e,D,q⟩=>⟨e,p.mem_iff.mp D,q⟩⟩,by lia,f,by rw[sz,ad];rfl,.inr pl⟩
  have tail:∀(g:Bool->Sem Unit)(h:SetTable),(∀(b:Bool)(l:Ae)(u:Unit->Ae->Prop),u () l->wpAny (model prog w) A (g b) u E l)->h.plain=false->h.fits d.size=true ->
    wpAny (model prog w) A (do
     storeSet a d h
     if (!wd && h.tooFull)=true then do
       g (relayAll h d (SetTable.grown d.size)).2.2
       storeSet a (relayAll h d (SetTable.grown d.size)).1 (relayAll h d (SetTable.grown d.size)).2.1
       pure (some true)
      else pure (some true)) (λr l=>wpAny (model prog w) A (match r with|some added=>pure added|none=>setAddHashedIn a (.str k tok) ((strKind prog w).hash k) 99999) Q E l) E s:=λg h hg M f2=>by
   refine As (wpAny_storeSet_of H G ?_ (fits_of_scanBound b1))
   have R:=put_at (es':=d) (t':=h) H G
   have N:=BR.update s.heap a (Obj.putSet d h)
   split
   .have U:=relayAll_perm h d (SetTable.grown d.size);have rf:=relayAll_fits h d (SetTable.grown d.size);have rl:=qqg (es:=d) (k:=SetTable.grown d.size) M;generalize relayAll h d (SetTable.grown d.size)=Rl at U rf rl |-;obtain⟨i,t3,gv2⟩:=Rl;have z2:i.size<scanBound:=by
     have:i.size=d.size:=by rw[<- Bz,U.length_eq,Bz]
     lia
    refine As (hg _ _ _ ?_);refine As (wpAny_storeSet_of R Z ?_ (fits_of_scanBound z2));exact AO (AO (I _ i _ t3 (N.trans (BR.update _ a _)) (put_at (o:={o with data:=.set d (ep+1) h}) R Z) U rf rl))
   .exact AO (AO (I _ d _ h N R (List.Perm.refl _) f2 M))
  refine As (T _ ?_);split
  .refine As ?_;rw[hashByValue_scannable 8 (x:=D5 k tok) Z];refine AO (tail _ _ (λb l u B=>T b B) Z (SetTable.fits_plain_off J))
  .rename_i np;exact As (AO (tail _ t1 (λb l u B=>T b B) (by cases c:t1.plain;rfl;exact absurd c np) J))
theorem SetP.congr {h:Heap}{a:Addr}{S b:Str->Bool}{n c:Nat}(d:SetP prog w h a S n)(e:∀k,S k=b k)(f:n=c):SetP prog w h a b c:=by rw[<- f,<- (funext e:S=b)];exact d
theorem SetP.keep {h h':Heap}{a:Addr}{S:Str->Bool}{n:Nat}(c:SetP prog w h a S n)(k:∀o,h.get? a=some o->h'.get? a=some o):SetP prog w h' a S n:=by obtain⟨o,es,ep,t,b,qcd⟩:=c;exact⟨o,es,ep,t,k o b,qcd⟩
noncomputable def qmy (acc:List Str)(x:Str):List Str:=if x∈acc then acc else acc++[x]
def onceL (l:List Str):List Str:=l.foldl qmy []
theorem qqh (a:List Str)(x z:Str):z∈qmy a x↔z∈a\/z=x:=by
 unfold qmy;by_cases c:x∈a
 .rw[if_pos c];exact⟨.inl,λq=>q.elim id λe=>by rw[e];exact c⟩
 .rw[if_neg c,Av,Ah]
theorem qw8 (a:List Str)(x:Str):(qmy a x).length=if x∈a then a.length else a.length+1:=by
 unfold qmy;by_cases c:x∈a
 .rw[if_pos c,if_pos c]
 .rw[if_neg c,if_neg c,Af];rfl
theorem once_nd {d:List Str}(h:d.Nodup)(x:Str):(qmy d x).Nodup:=by
 unfold qmy;by_cases c:x∈d
 .rw[if_pos c];exact h
 .rw[if_neg c];exact List.nodup_append.mpr ⟨h,by simp,λa f b g e=>c (by rw[<- Ah.mp g,<- e];exact f)⟩
theorem qli (l:List Str)(x:Str):onceL (l++[x])=qmy (onceL l) x:=by unfold onceL;rw[Ct];rfl
theorem onceL_mem (l:List Str)(z:Str):z∈onceL l↔z∈l:=by
 have h:∀(l a:List Str),z∈l.foldl qmy a↔z∈a\/z∈l:=λl=>by
  induction l with
  |nil=>intro a;simp
  |cons x l ih =>intro a;rw[List.foldl_cons,ih,qqh,Aq,or_assoc]
 rw[onceL,h];simp
theorem onceL_nd (l:List Str):(onceL l).Nodup:=by
 have h:∀(l a:List Str),a.Nodup->(l.foldl qmy a).Nodup:=λl=>by
  induction l with
  |nil=>intro a h;exact h
  |cons x l ih=>intro a h;exact ih _ (once_nd h x)
 exact h l [] List.nodup_nil
theorem onceL_le (l:List Str):(onceL l).length<=l.length:=(onceL_nd l).length_le_of_subset λz hz=>(onceL_mem l z).mp hz
end
section
variable {prog:AK}{w:World}{A:AQ}{R:Result->Ae->Prop}{I:Addr}{fp wr:List Addr}{G:Array Eh->Array Eh->Prop}{n:Nat}{P:Nat->Value->Prop}{St:Nat->Ae->Prop}
theorem fill (W:WalksS prog w A.in1 I fp wr G n P St)(T:Addr)(y:T∉fp)(ss:List Str)(N:ss.length=n)(r:∀i v,P i v->∃k t,ss[i]?=some k/\v=.str k t)(h:n+1<scanBound) :
  ∀(m i:Nat)(s:Ae),n-i=m->i<=n->St i s->SetP prog w s.heap T (λz=>decide (z∈onceL (ss.take i))) (onceL (ss.take i)).length ->
   (∀a,Moved (T::wr) G s a->SetP prog w a.heap T (λz=>decide (z∈onceL ss)) (onceL ss).length->R (.ok (.ret .none)) a) ->
   codeAny (model prog w) A (.builtin "set.update.loop" ⟨[.ref T,.ref I],[]⟩) R s:=by
 have x:T∉wr:=λq=>y (W.sub _ q)
 have sub:∀b∈wr,b∈T::wr:=λb q=>Az _ q
 intro m
 induction m with
 |zero =>
  intro i s O L f j d;have e:i=n:=by lia
  subst e;rw[<- N,Bq]at j;refine codeAny_builtin F.entry_set_update_loop ?_;rw[AQ.under_plainId F.plain_set_update_loop _];show wpAny _ A.in1 (pyNext (.ref I) >>= _) _ _ s;refine As (W.done s _ _ f λa g=>?_);exact AO (d a (g.mono sub) (j.keep λo p=>g.heap T o x p))
 |succ m ih =>
  intro i s O L f j d;have lt:i<n:=by lia
  refine codeAny_builtin F.entry_set_update_loop ?_;rw[AQ.under_plainId F.plain_set_update_loop _];show wpAny _ A.in1 (pyNext (.ref I) >>= _) _ _ s;refine As (W.item i s _ _ lt f λv a J l g=>?_);obtain⟨k,t,K,rfl⟩:=r i v J;have tk:ss.take (i+1)=ss.take i++[k]:=by rw[B1,K];rfl
  have D:=j.keep (h':=a.heap) λo p=>g.heap T o x p;have Q:=onceL_le (ss.take i);rw[Bv]at Q;show wpAny _ A.in1 (holding [D5 k t] (setAdd T (.str k t)) >>= _) _ _ a;refine As (Co ?_);unfold setAdd;refine Co (As ((strKind prog w).pyHash (k:=k) (qw7 k t) ?_));refine putStrS (s:={a with toks:=a.toks+1}) D (by lia) λh' u E=>?_;have H:SetP prog w h' T (λz=>decide (z∈onceL (ss.take (i+1)))) (onceL (ss.take (i+1))).length:=E.congr (λz=>by
   rw[tk,qli,<- Bool.decide_or];exact decide_eq_decide.mpr (qqh _ _ _).symm) (by
   rw[tk,qli,qw8];by_cases c:k∈onceL (ss.take i)
   .rw[if_pos c,if_pos (decide_eq_true c)]
   .rw[if_neg c,if_neg (by simp[c])])
  refine AO ⟨plainId_quiet F.plain_set_update_loop _,ih (i+1) _ (by lia) lt (W.frame _ a _ _ l (Cn _) λb h o e=>?_) H λM B C=>?_⟩
  .rw[u.2 b (λq:b=T=>y (by rw[<- q];exact h))];exact e
  .refine d M (Moved.trans W.gtrans ((g.mono sub).then_heap (Cn _) λb o h e=>?_) B) C;rw[u.2 b (λq:b=T=>h (by rw[q];exact Al))];exact e
end
end Sts
namespace Sts
open PySem PyProof.Rows
set_option maxRecDepth 100000
section
variable {prog:AK}{w:World}{A:AQ}{E:Value->Ae->Prop}{s:Ae}
noncomputable abbrev qgb (led:Bool):Obj:={cls:=.type "set",dict:=none,data:=.set #[] 0 (.fresh 0 0 led)}
set_option maxHeartbeats 3200000 in
theorem qu7 {a:Value}{Q:Value->Ae->Prop}
  (nx:∀led:Bool,wpAny (model prog w) A.in1.in1 (BL.«set.__init__» ⟨[.ref s.heap.objs.size,a],[]⟩)
    (λj g=>match j with | .done f=>wants (λr b=>r=.none/\Q (.ref s.heap.objs.size) b) E (.ok f) g | .again c'=>c'.quiet=true/\codeAny (model prog w) A.in1 c' (wants (λr b=>r=.none/\Q (.ref s.heap.objs.size) b) E) g)
    (λe g=>wants (λr b=>r=.none/\Q (.ref s.heap.objs.size) b) E (.error e) g) {s with heap:=s.heap.push (qgb led)}) :
  wpAny (model prog w) A (call (.type "set") [a]) Q E s:=by
 obtain⟨c,tl,hmro⟩:=F.called_set.mro;have k1:=F.called_set.made;have k2:=F.called_set.sub;have k3:=F.called_set.notType;have k4:=F.called_set.canCreate;have k5:=F.typeCall_set_1 a;refine wpAny_call (codeAny_of_tree ?_);show wpAny _ _ (callAny (.type "set") _) _ _ _;refine AO ⟨Code.quiet_builtin _ Ez,codeAny_builtin F.entry_type_call ?_⟩;rw[AQ.under_plain (weight_type_call_type "set" [a] []) Z]
 repeat (any_goals (first|assumption|wp_step))
 refine Du (code_set_new_1 a (E:=E) (Q₁:=λh k=>∃led:Bool,h=.ref s.heap.objs.size/\k={s with heap:=s.heap.push (qgb led)}) λled=>⟨led,Z,Z⟩) λr k i=>?_;rcases r with e|o
 .exact i
 rcases o with _|_|_|h;all_goals (try exact i.elim)
 obtain⟨led,rfl,rfl⟩:=i;have m:Ae.TypeIs {s with heap:=s.heap.push (qgb led)} (.ref s.heap.objs.size) "set" := ⟨_,AR _ Z,Z⟩;have k6:=F.called_set.init.lookup;have k7:=F.called_set.init.bind (.ref s.heap.objs.size)
 repeat (any_goals (first|assumption|wp_step))
 refine Du (codeAny_call_builtin F.called_set.init.plain F.entry_set_init (check_set_init_1 m (nx led))) λn b d=>?_;rcases n with e|l
 .exact d
 rcases l with _|_|_|r;all_goals (try exact d.elim)
 obtain⟨rfl,hq⟩:=d
 repeat (any_goals (first|assumption|wp_step))
end
end Sts
namespace Sts
open PySem PyProof.Rows
set_option maxRecDepth 100000
section
variable {prog:AK}{w:World}{A:AQ}{E:Value->Ae->Prop}{s:Ae}
theorem mt_setP {h:Heap}{a:Addr}{led:Bool}(g:h.get? a=some (qgb led)):SetP prog w h a (λ_=>false) 0 :=
 ⟨_,#[],0,_,g,⟨Z,Z,Z⟩,Z,(λ_ q=>nomatch q),λk=>⟨(λq=>nomatch q),λ⟨_,q,_⟩=>nomatch q⟩,Uk,Z,Z,.inl Z⟩
set_option maxHeartbeats 3200000 in
theorem call_set_str {l:Addr}{a:Array Value}{ss:List Str}{Q:Value->Ae->Prop}(H:A.handled=none)(L:s.heap.IsList l a)(D:∀(i:Nat) (v:Value),a[i]?=some v->∃k t,ss[i]?=some k/\v=.str k t)(G:ss.length=a.size)(B:a.size+1<scanBound)
  (m:∀(h':Heap)(tk:Nat),SetP prog w h' s.heap.objs.size (λz=>decide (z∈onceL ss)) (onceL ss).length->(∀b o,s.heap.get? b=some o->h'.get? b=some o)->s.toks<=tk->Q (.ref s.heap.objs.size) {s with heap:=h',toks:=tk}) :
  wpAny (model prog w) A (call (.type "set") [.ref l]) Q E s:=by
 refine qu7 λled=>?_;obtain⟨⟨oc,od,odt,osl⟩,d,hcl,K,g⟩:=L;simp only at hcl g;subst hcl;subst g;have I:(s.heap.push (qgb led)).get? s.heap.objs.size=some (qgb led):=AR _ rfl;have j:=Ao (qgb led) d;have h:(s.heap.push (qgb led)).IsList l a:=⟨_,j,Z,K,Z⟩;have f1:=F.sub_list_set;have f2:=F.sub_list_frozenset;have f3:(CM "list" == CM "dict")=false:=by decide
 have q:=A9 d;unfold BL.«set.__init__» noKeywords BL.Frozenset.updateFrom;generalize M:pyIter=PI
 wp_walk
 subst M;refine wpAny_pyIter_list h (As (wpAny_runValue ?_));have sz:(s.heap.push (qgb led)).objs.size=s.heap.objs.size+1:=Dd _ _;have u:l≠(s.heap.push (qgb led)).objs.size:=by rw[sz];exact AA (CL q)
 have C:s.heap.objs.size∉[(s.heap.push (qgb led)).objs.size,l]:=by rw[sz];simp only[Aq,AG,or_false,not_or];exact⟨AA (Ce _),Ch q⟩
 refine fill ((Walks.list (A:=A.in1.in1.in1) (by simp[H]) _ l u a).toS) s.heap.objs.size C ss G D B a.size 0 _ (by lia) (AU _) ⟨⟨_,AR _ Z,Z,Z⟩,h.push _⟩ ?_ λy c r=>?_
 .exact(mt_setP (led:=led) (Ao _ I)).congr (λ_=>rfl) rfl
 .obtain⟨h',g',d',p,n⟩:=y;have x:g'=s.gens:=c.gens;have N:d'=s.drawn:=c.drawn;have J:n=s.os:=c.os;subst x;subst N;subst J;show wpAny _ _ _ _ _ _;refine AO (AO ⟨Z,m h' p r (λb o e=>?_) c.toks⟩);have f:=A9 e;refine c.heap b o ?_ (Ao _ (Ao _ e));simp only[Aq,AG,or_false,not_or];exact⟨AA f,by rw[sz];exact AA (CL f)⟩
end
end Sts
namespace Sts
open PySem PyProof.Rows
set_option maxRecDepth 100000
section
variable {M:Model}{A:AQ}{E:Value->Ae->Prop}{s:Ae}
end
end Sts
namespace Sts
open PySem PyProof.Rows
set_option maxRecDepth 100000
section
variable {prog:AK}{w:World}{A:AQ}{E:Value->Ae->Prop}{s:Ae}
end
end Sts
namespace Sts
open PySem PyProof.Rows
set_option maxRecDepth 100000
section
variable {prog:AK}{w:World}{A:AQ}{E:Value->Ae->Prop}{s:Ae}
end
end Sts
namespace Sts
open PySem PyProof.Rows
set_option maxRecDepth 100000
section
variable {prog:AK}{w:World}{A:AQ}{E:Value->Ae->Prop}{s:Ae}
end
end Sts
namespace Sts
open PySem PyProof.Rows
set_option maxRecDepth 100000
section
variable {prog:AK}{w:World}{A:AQ}{E:Value->Ae->Prop}{s:Ae}
end
end Sts
namespace Sts
open PySem PyProof.Rows
set_option maxRecDepth 100000
section
variable {prog:AK}{w:World}{A:AQ}{E:Value->Ae->Prop}{s:Ae}
end
end Sts
namespace Add
open PySem PySem.Spec PyProof.Rows L2
theorem boot_sorted:bootBuiltins "sorted"=some (.builtin "sorted"):=Ez
theorem qw9:bootBuiltins "set"=some (.type "set"):=Ez
section
variable {X:Cx}
end
end Add
namespace Add
open PySem PySem.Spec PyProof.Rows L2
section
variable {X:Cx}{pins:List (Addr×Obj)}{σ:L2.St}{H:Hp}{s:Ae}
theorem inv_frz {d:Addr}{o:Obj}{kvs:List (Key×V)}(I:Inv X pins σ H s)(g:H d=some (.dK kvs))(j:s.heap.get? d=some o):Inv X pins σ (upd H d (.frz o (.dK kvs))) s:=by
 have a:∀b u,H b=some u->(∀k,u ≠ .dK k)->b≠d:=λb u e n z=>by rw[z,g]at e;exact n kvs (AE e).symm
 have f:∀b,H b=none->b≠d:=λb e z=>by rw[z,g]at e;cases e
 refine⟨I.ok,I.os,I.bare,⟨I.base.keep,I.base.slot,λb u e n i=>?_,I.base.there,λb xs e=>?_,λb u v e=>?_,λb ps e=>?_⟩,I.loc,I.cell,?_,λx c e=>?_,λp r=>?_,λb u e=>?_,I.len⟩
 .have:=I.base.free b u e n i;rw[qr (f b this)];exact this
 .have:=I.base.tups b xs e;rw[qr (a b _ this λk z=>nomatch z)];exact this
 .have:=I.base.frzs b u v e;rw[qr (a b _ this λk z=>nomatch z)];exact this
 .obtain⟨m,this⟩:=I.base.tbls b ps e;exact⟨m,by rw[qr (a b _ this λk z=>nomatch z)];exact this⟩
 .rw[qr (f _ I.free)];exact I.free
 .rw[qr (f _ (I.freeC x c e))];exact I.freeC x c e
 .obtain⟨l,h,t⟩:=I.pin p r;exact⟨l,by rw[qr (f _ h)];exact h,t⟩
 .have st:∀{b u},ObjOk X.prog X.w H s.heap b u->ObjOk X.prog X.w (upd H d (.frz o (.dK kvs))) s.heap b u:=λ{b u} q=>q.stay (λ_ _ _ e=>e) (λc e=>by rw[qr (a c _ e λk z=>nomatch z)];exact e) λc xs e=>by rw[qr (a c _ e λk z=>nomatch z)];exact e
  by_cases z:b=d
  .rw[z]at e |-;rw[qk]at e;cases e;exact⟨j,st (I.hok d _ g)⟩
  .rw[qr z]at e;exact st (I.hok b u e)
theorem qxa {d:Addr}{o:Obj}{kvs:List (Key×V)}(I:Inv X pins σ H s)(g:H d=some (.frz o (.dK kvs)))(t:∀u v,X.H₀ d≠some (.frz u v)):Inv X pins σ (upd H d (.dK kvs)) s:=by
 have f:∀b u,H b=some u->(∀k v,u ≠ .frz k v)->b≠d:=λb u e n z=>by rw[z,g]at e;exact n _ _ (AE e).symm
 have a:∀b,H b=none->b≠d:=λb e z=>by rw[z,g]at e;cases e
 refine⟨I.ok,I.os,I.bare,⟨I.base.keep,I.base.slot,λb u e n i=>?_,I.base.there,λb xs e=>?_,λb u v e=>?_,λb ps e=>?_⟩,I.loc,I.cell,?_,λx c e=>?_,λp l=>?_,λb u e=>?_,I.len⟩
 .have:=I.base.free b u e n i;rw[qr (a b this)];exact this
 .have:=I.base.tups b xs e;rw[qr (f b _ this λk v z=>nomatch z)];exact this
 .have:=I.base.frzs b u v e;rw[qr (λz=>t u v (by rw[<- z];exact e))];exact this
 .obtain⟨m,this⟩:=I.base.tbls b ps e;exact⟨m,by rw[qr (f b _ this λk v z=>nomatch z)];exact this⟩
 .rw[qr (a _ I.free)];exact I.free
 .rw[qr (a _ (I.freeC x c e))];exact I.freeC x c e
 .obtain⟨j,h,r⟩:=I.pin p l;exact⟨j,by rw[qr (a _ h)];exact h,r⟩
 .have st:∀{b u},ObjOk X.prog X.w H s.heap b u->ObjOk X.prog X.w (upd H d (.dK kvs)) s.heap b u:=λ{b u} q=>q.stay (λ_ _ _ e=>e) (λc e=>by rw[qr (f c _ e λk v z=>nomatch z)];exact e) λc xs e=>by rw[qr (f c _ e λk v z=>nomatch z)];exact e
  by_cases z:b=d
  .rw[z]at e |-;rw[qk]at e;cases e;exact st (I.hok d _ g).2
  .rw[qr z]at e;exact st (I.hok b u e)
end
end Add
namespace Lam
open PySem PySem.Spec PySem.Calls PyProof.Rows L2 Add PySem.W
def qte (X:Cx)(A:AQ)(N:List Str)(qual:Str)(scope:Scope)(f:Addr)(cd:Value)(cl:List (Str×Addr))(s:Ae)(H:Hp)(E:Value->Ae->Prop):Cx where
 prog:=X.prog
 w:=X.w
 K:=X.K
 mg:=X.mg
 base:=X.base
 A:=A.deeper (envX qual scope s.heap.objs.size f cd cl)
 N:=N
 s₀:=s
 H₀:=H
 env:=envX qual scope s.heap.objs.size f cd cl
 outer:=X.stack
 stack:=envX qual scope s.heap.objs.size f cd cl::X.stack
 ex:=[]
 fn:=λ_=>false
 calm:=true
 pn:=[]
 xe:=E
def qha (js:List (Option Nat))(σ:L2.St)(x:V):L2.St:=(qda js σ).set 0 (some x)
section
variable {X:Cx}{A:AQ}{N XN:List Str}{js:List (Option Nat)}{xs scope:Scope}{qual y:Str}{f:Addr}{cd:Value}{cl:List (Str×Addr)}{E:Value->Ae->Prop}{pins:List (Addr×Obj)}{σ:L2.St}{H:Hp}{s:Ae}{u:Value}{x:V}
theorem qu8 {D:Heap}{tk:Nat}(hN:X.N=XN)(O:X.env.scope=xs)(nm:CompNm N js XN xs scope)(d:∀x c,cl.lookup x=some c->X.env.cells.lookup x=some c)(n:∀x∈scope.names,x.2=.free->(cl.lookup x.1).isSome=true)
  (hA:A.frames=some X.stack)(t:A.handled=none)(U:N[0]?=some y)(j0:js[0]?=some none)(hy:scope.names.lookup y=some .local)(I:Inv X pins σ H s)(rx:RelV x u)
  (J:D.Ns s.heap.objs.size (λz=>[(y,u)].reverse.lookup z))(m:∀b o,s.heap.get? b=some o->D.get? b=some o) :
  Inv (qte X A N qual scope f cd cl s H E) [] (qha js σ x) H {s with heap:=D,toks:=tk}:=by
 have B:∀b:Addr,b∉(qte X A N qual scope f cd cl s H E).ex:=λb z=>absurd (show b∈([]:List Addr) from z) (by simp);have Y:0<js.length:=(Ac.mp j0).1;refine⟨⟨I.ok.mod,nm.kind,Z,Z,Am _,λx y c S h2=>I.ok.inj x y c (d x c S) (d y c h2),λz hz=>?_,(λ_ _ h _=>nomatch h),λ_=>t,AQ.frames_deeper hA,.inr ⟨Z,Z⟩,λb z=>absurd z (B b),I.bs,A5 I.ok.bsz I.sz,λb _ _=>B b,λb z=>absurd z (B b),I.stack,I.stkFree⟩,
  rfl,I.bare,Un.kept m,⟨_,J,λi z v r g e3=>?_⟩,λz c e=>?_,I.hok.fresh (Am _),λz c e=>I.freeC z c (d z c e),λp hp=>absurd (show p∈([]:List (Addr×Obj)) from hp) (by simp),I.hok.kept m,?_⟩
 .have hz:scope.names.lookup z=some .cell\/scope.names.lookup z=some .free:=hz;rcases hz with hz|hz
  .exact absurd rfl (nm.nocell _ (Cm hz))
  .exact BZ.mp (n _ (Cm hz) Z)
 .by_cases c:i=0
  .subst c;have r:N[0]?=some z:=r;rw[U]at r;cases r;have g:(qha js σ x)[0]?=some (some v):=g;unfold qha at g;rw[Dr (by unfold qda;rw[Ab];exact Y)]at g;cases g;exact⟨u,rx,.inl ⟨hy,by show [(y,u)].reverse.lookup y=some u;simp⟩⟩
  .have g:(qha js σ x)[i]?=some (some v):=g;unfold qha at g;rw[DB (B4 c)]at g;have l:((js[i]?).map λj=>j.bind λk=>(σ[k]?).join)=some (some v):=by
    unfold qda at g
    rwa [Ai]at g
   cases F:js[i]? with
   |none=>rw[F]at l;cases l
   |some jo =>
    rw[F]at l;cases jo with
    |none=>cases l
    |some j =>
     have a:(σ[j]?).join=some v:=AE l;have e4:σ[j]?=some (some v):=by
      cases q:σ[j]? with
      |none=>rw[q]at a;cases a
      |some o=>rw[q]at a;cases o with
       |none=>cases a
       |some y=>cases a;rfl
     obtain⟨R,Q,T,a4⟩:=nm.free i j z r F;obtain⟨mX,hnX,lX⟩:=I.loc;have P:Vis X.env.scope z:=by rw[O];exact .inr Q
     obtain⟨u',W,lu⟩:=lX j z v (by rw[hN];exact R) e4 P;refine⟨u',W,?_⟩;rcases lu with ⟨L,_⟩|⟨L,c,V,w⟩
     .exfalso;have C:X.env.scope.names.lookup z=some .local:=L;rw[O]at C;rcases Q with q|q <;>rw[q]at C <;>cases C
     .obtain⟨c',M⟩:=BZ.mp (n _ T Z);have K:=d z c' M;rw[V]at K;cases K;refine .inr ⟨.inr a4,c,M,?_⟩;obtain⟨o,G,t⟩:=w;exact⟨o,m c o G,t⟩
 .obtain⟨v,o,G,t⟩:=I.cell z c (d z c e);exact⟨v,o,m c o G,t⟩
 .unfold qha qda;rw[List.length_set,Ab];exact nm.len.symm
theorem qxb {g:Str}{d:Ex}{a:Expr}{C l:Value}{h:Addr}{tb:TE}{Q:VK}(R:X.N=XN)(S:X.env.scope=xs)(nm:CompNm N js XN xs scope)(n:∀x c,cl.lookup x=some c->X.env.cells.lookup x=some c)(m:∀x∈scope.names,x.2=.free->(cl.lookup x.1).isSome=true)
  (T:A.frames=some X.stack)(V:A.handled=none)(i:A.depth<recursionLimit)(Y:N[0]?=some y)(O:js[0]?=some none)(D:scope.names.lookup y=some .local)(F:scope.isCoroutine=false)(p:scope.isGenerator=false)
  (j:∀u,bindArgs (kla_fn g qual d a scope cl C (.ref h) l) ⟨[u],[]⟩=pure [(y,u)])
  (M:∀(s:Ae)(H:Hp)(E:Value->Ae->Prop),PE (qte X A N qual scope f (.ref h) cl s H E) a tb)
  (I:Inv X pins σ H s)(W:s.heap.get? f=some (DA g qual d a scope cl C h l))(G:s.heap.CodeRec (.ref h) qual)(P:RelV x u)(U:tb (qha js σ x) H Q) :
  wpAny (model X.prog X.w) A (call (.ref f) [u]) (EP X pins σ Q) E s:=by
 refine wpAny_call (kla_callFunE i W Z F p Z G ?_);rw[j u];refine AO (wpAny_newFunctionEnv nm.nocell (λz hz=>?_) (λL t B=>?_) nm.kind)
 .rw[Ah.mp hz];exact D
 have k:∀b o,s.heap.get? b=some o->L.get? b=some o:=λb o e=>B.extBut b o (AA (A9 e)) (Ao _ e);refine⟨(I.nolimit).keeps k,?_⟩;show codeAny _ _ (.expr a (envX qual scope s.heap.objs.size f (.ref h) cl)) _ _;refine kla_codeExpr ?_;refine Ca (M s H _ [] _ (qha js σ x) H Q (qu8 R S nm n m T V Y O D I P t k) U) (λv s' z=>?_) λ_ _ z=>z;obtain⟨K,H',J,r,q⟩:=z;exact I.after ⟨K,H',J.os,J.bare,J.base,J.hok,r,q⟩
end
structure LamF (mg:Str->Option Value)(base:Heap)(c Pt:Addr):Prop where
 hd:CodeHd base c Pt
 bm:∃bm ob,mg "__builtins__"=some (.ref bm)/\bm≠builtinsNs/\bm≠A4/\base.get? bm=some ob/\ob.cls=.type "module" /\ ob.dict=some builtinsNs/\ob.data=.plain
section
variable {fs ex:List Addr}{H:Hp}{h h':Heap}{Pt:Addr}{ps more:Array Value}{prog:AK}{w:World}
theorem qlj {b:Addr}{u:HO}(a:H Pt=some (.tbl ps))(q:H b=some u)(n:∀z,u ≠ .tbl z):b≠Pt:=λz=>by rw[z,a]at q;exact n _ (AE q).symm
theorem un_tbl (a:H Pt=some (.tbl ps))(k:∀b o,b≠Pt->h.get? b=some o->h'.get? b=some o)(e:h'.get? Pt=some (tabObj (ps++more))):Un fs ex H (upd H Pt (.tbl (ps++more))) h h':=by
 have c:∀b,H b=none->b≠Pt:=λb n z=>by rw[z,a]at n;cases n
 refine⟨λb o q n _ _=>k b o (c b n) q,λb o q n _ _=>⟨o.slots,k b o (c b n) q⟩,λb o q n _=>by rw[qr (c b n)];exact n,λb o q _=>?_,λb xs q=>?_,λb o u q=>?_,λb qs q=>?_⟩
 .by_cases z:b=Pt
  .rw[z];exact⟨_,e⟩
  .exact⟨o,k b o z q⟩
 .rw[qr (qlj a q λ_ z=>nomatch z)];exact q
 .rw[qr (qlj a q λ_ z=>nomatch z)];exact q
 .by_cases z:b=Pt
  .rw[z,a]at q;cases q;exact⟨more,by rw[z,qk]⟩
  .exact⟨#[],by rw[qr z,q];simp⟩
theorem hok_tbl (f:HOk prog w H h)(a:H Pt=some (.tbl ps))(k:∀b o,b≠Pt->h.get? b=some o->h'.get? b=some o)(e:h'.get? Pt=some (tabObj (ps++more))):HOk prog w (upd H Pt (.tbl (ps++more))) h':=λb u q=>by
 by_cases z:b=Pt
 .subst z;rw[qk]at q;cases q;exact e
 .rw[qr z]at q;refine(f b u q).stay (λc v d r=>k c v ?_ r) (λc r=>?_) λc xs r=>?_
  .rcases d with rfl|d
   .exact z
   .exact qlj a d λ_ z=>nomatch z
  .rw[qr (qlj a r λ_ z=>nomatch z)];exact r
  .rw[qr (qlj a r λ_ z=>nomatch z)];exact r
end
section
variable {X:Cx}{scope:Scope}{cl:List (Str×Addr)}{E:Value->Ae->Prop}{pins:List (Addr×Obj)}{σ:L2.St}{H:Hp}{s:Ae}
end
section
variable {X:Cx}{A:AQ}{E:Value->Ae->Prop}{pins:List (Addr×Obj)}{σ:L2.St}{H:Hp}{s:Ae}
theorem qnw {a:Addr}{o:HO}(I:Inv X pins σ H s)(j:H a=none)(C:X.s₀.heap.objs.size<=a)(y:a≠X.env.locals)(i:∀x c,X.env.cells.lookup x=some c->c≠a)(A:∀p∈X.pn++pins,p.1≠a)(f:ObjOk X.prog X.w (upd H a o) s.heap a o):Inv X pins σ (upd H a o) s:=by
 have t:∀b u,H b=some u->b≠a:=λb u e z=>by rw[z,j]at e;cases e
 have d:∀b u,H b=some u->upd H a o b=some u:=λb u e=>by rw[qr (t b u e)];exact e
 refine⟨I.ok,I.os,I.bare,⟨I.base.keep,I.base.slot,λb u e n l=>?_,I.base.there,λb xs e=>d _ _ (I.base.tups b xs e),λb u z e=>d _ _ (I.base.frzs b u z e),λb ps e=>?_⟩,I.loc,I.cell,?_,λx c e=>?_,λp g=>?_,λb u e=>?_,I.len⟩
 .rw[qr (AA (A2 (A9 e) C))];exact I.base.free b u e n l
 .obtain⟨m,q⟩:=I.base.tbls b ps e;exact⟨m,d _ _ q⟩
 .rw[qr y.symm];exact I.free
 .rw[qr (i x c e)];exact I.freeC x c e
 .obtain⟨h,B,k⟩:=I.pin p g;exact⟨h,by rw[qr (A p g)];exact B,k⟩
 .by_cases z:b=a
  .subst z;rw[qk]at e;cases e;exact f
  .rw[qr z]at e;exact(I.hok b u e).stay (λc v _ r=>r) (λc r=>d _ _ r) λc xs r=>d _ _ r
theorem kset {a:Addr}{ks ks':List V}{g:Array Value->Array Value}{Q:Unit->Ae->Prop}(I:Inv X pins σ H s)(h:H a=some (.lst ks))(i:ks'.length<=A6)(j:∀its:List Value,Vals ks its->Vals ks' (g its.toArray).toList)
  (k:∀s',Inv X pins σ (upd H a (.lst ks')) s'->Q () s'):wpAny (model X.prog X.w) A (BL.List.listUpdate (.ref a) g) Q E s:=by
 obtain⟨z,its,n,r,e⟩:=(show ObjOk X.prog X.w H s.heap a (.lst ks) from I.hok a _ h);have c:=j its r;have sz:(g its.toArray).size<=A6:=by
  have e1:ks'.length=(g its.toArray).size:=by rw[c.length,Bz]
  lia
 refine listUpdate_at (o:=seqObj "list" its.toArray n) e rfl ?_ (by rw[Ak,<- r.length];exact z) (Cu sz);obtain⟨c2,hc2⟩:∃c2,(s.heap.update a (B7 g)).get? a=some (seqObj "list" (g its.toArray) c2):=⟨_,get?_update_seq e g⟩;have f:=BR.update s.heap a (B7 g);refine k _ (I.write (x:=a) (e:=a) (t':=s.toks) (by rw[h];trivial) (.inl Z) (λb u d q=>(f.2 b d).trans q) ⟨_,hc2⟩ ⟨i,(g its.toArray).toList,c2,c,by rw[hc2,Array.toArray_toList]⟩)
end
section
variable {X:Cx}{A:AQ}{E:Value->Ae->Prop}{pins:List (Addr×Obj)}{σ:L2.St}{H:Hp}{s:Ae}
end
end Lam
namespace Lam
open PySem PySem.Spec PySem.Calls PyProof.Rows L2 Add PySem.W
section
variable {prog:AK}{w:World}{A:AQ}{E:Value->Ae->Prop}{s:Ae}
end
section
variable {X:Cx}
end
end Lam
namespace Lam
open PySem PySem.Spec PySem.Calls PyProof.Rows L2 Add PySem.W
section
variable {P:AK}{w:World}{K:Frag}{mg mb:Str->Option Value}{CX:CXT}{k:Nat}{fa a c Pt:Addr}{fd:Ay}{x:Str}{sp:Sp}{s₁:Ae}{vs:List Value}{ns:List Int}
noncomputable def hd0 (K:Frag)(a Pt:Addr)(vs:List Value)(ns:List Int):Hp:=λb =>
 if b=Pt then some (.tbl #[]) else if b=a/\K.lookup a=none then some (.frz {cls:=.type "list",data:=.seq vs.toArray} (.lst (ns.map V.int))) else none
theorem law_tab (Q:K.In s₁.heap)(E:s₁.heap.Ns A4 mg)(hb:s₁.heap.Ns builtinsNs mb)(W:∀x:Str,x ≠ "__name__" -> mb x=bootBuiltins x)(J:s₁.heap.NoLimit)(hg:s₁.gens=#[])
  (i:s₁.heap.get? a=some {cls:=.type "list",data:=.seq vs.toArray})(hi:IntsAre vs ns)(hl:ns.length<=A6)(hr:Room k callerA)
  (hC:CodeHd s₁.heap c Pt)(hPt:s₁.heap.get? Pt=some (tabObj #[]))(hKP:K.lookup Pt=none)
  (hbm:∃A y,mg "__builtins__"=some (.ref A)/\A≠builtinsNs/\A≠A4/\s₁.heap.get? A=some y/\y.cls=.type "module" /\ y.dict=some builtinsNs/\y.data=.plain)
  (F:∀base:Heap,K.In base->base.Ns A4 mg->LamF mg base c Pt->FnOk P w K mg base CX k fa fd [x] sp)(hbind:∀(s:Ae)(u:Value),BindsTo s fd ⟨[u],[]⟩ [(x,u)])
  (hsp:∀H:Hp,H Pt=some (.tbl #[])->SqL K H a (ns.map V.int)->sp [.ref a] H (λv _=>v=.bl true) λ_ _ _=>False)
  (hCX:∀H e j,CX [] H s₁ (λ_ _ _=>False) e j->False) :
  codeAny (model P w) callerA (.call (.ref fa) ⟨[.ref a],[]⟩) (λr j=>r=.ok (.ret (.bool true))/\OldK s₁.heap j.heap/\j.os=s₁.os/\En j.gens) s₁:=by
 have rv:=qnl hi;have G:=hi.length;have O:a≠Pt:=λz=>by rw[z,hPt]at i;cases i
 have n:hd0 K a Pt vs ns Pt=some (.tbl #[]):=if_pos rfl;have only:∀b,hd0 K a Pt vs ns b≠none->b=Pt\/(b=a/\K.lookup a=none):=λb z=>by
  by_cases e:b=Pt
  .exact .inl e
  .by_cases f:b=a/\K.lookup a=none
   .exact .inr f
   .exact absurd (by unfold hd0;rw[if_neg e,if_neg f]) z
 have t:K.lookup a=none->hd0 K a Pt vs ns a=some (.frz {cls:=.type "list",data:=.seq vs.toArray} (.lst (ns.map V.int))):=λz=>by unfold hd0;rw[if_neg O,if_pos ⟨Z,z⟩]
 generalize hd0 K a Pt vs ns=H at n only t;have T:HOk P w H s₁.heap:=λb u e=>by
  rcases only b (by rw[e];simp) with rfl|⟨rfl,g⟩
  .rw[n]at e;cases e;exact hPt
  .rw[t g]at e;cases e;exact⟨i,by rw[Ab];exact hl,vs,_,rv,i⟩
 have un:∀{b:Addr}{o:Obj},s₁.heap.get? b=some o->o.cls ≠ .none->b≠a->H b=none:=λ{b o} e hc X=>by
  cases q:H b with
  |none=>rfl
  |some u =>
   rcases only b (by rw[q];simp) with rfl|⟨z,_⟩
   .rw[hPt]at e;cases e;exact absurd rfl hc
   .exact absurd z X
 have U:∀{b:Addr}{o:Obj}{es:Array DictEntry}{ep:Nat},s₁.heap.get? b=some o->o.data=.dict es ep->H b=none:=λ{b o es ep} e d=>by
  cases q:H b with
  |none=>rfl
  |some u =>
   rcases only b (by rw[q];simp) with rfl|⟨rfl,_⟩
   .rw[hPt]at e;cases e;cases d
   .rw[i]at e;cases e;cases d
 have p:∀{b:Addr}{m:Str->Option Value},s₁.heap.Ns b m->(qoe s₁.heap H).Ns b m:=λ{b m} ⟨o,es,ep,e,d,r⟩=>⟨o,es,ep,qh2 e (U e d),d,r⟩;have kin:K.In (qoe s₁.heap H):=λb o e=>qh2 (Q b o e) (by
  cases q:H b with
  |none=>rfl
  |some u =>
   rcases only b (by rw[q];simp) with rfl|⟨rfl,g⟩
   .rw[hKP]at e;cases e
   .rw[g]at e;cases e)
 have md:Mod K mg (qoe s₁.heap H):=⟨kin,p E,⟨mb,p hb,W⟩,by obtain⟨mc,Y,h2⟩:=J;exact⟨mc,p Y,h2⟩⟩;have lf:LamF mg (qoe s₁.heap H) c Pt:=by
  refine⟨?_,?_⟩
  .obtain⟨o,ws,L,tf,C,tg,S,I,tt,e,f,r⟩:=hC;refine⟨o,ws,L,tf,C,tg,S,I,tt,qh2 e (un e (by rw[f];exact λz=>nomatch z) λz=>?_),f,r⟩;rw[z,i]at e;cases e;exact absurd (CM.inj f) Uk
  .obtain⟨A,y,b1,b2,b3,D,M,b6⟩:=hbm;refine⟨A,y,b1,b2,b3,qh2 D (un D (by rw[M];exact λz=>nomatch z) λz=>?_),M,b6⟩;rw[z,i]at D;cases D;exact absurd (CM.inj M) Uk
 have sq:SqL K H a (ns.map V.int):=by
  cases g:K.lookup a with|none=>exact .inl (.inr ⟨_,t g⟩)|some o =>have e:=Q a o g;rw[i]at e;cases e;exact .inr ⟨_,vs.toArray,_,g,Z,Z,Z,by rw[Ak,G];exact hl,by simpa using rv⟩
 have e0:Env0 P w K mg (qoe s₁.heap H) callerA [] s₁ H:=⟨Z,md,λb o e=>of_hidT e,Ci (qui _ _),trivial,λb z=>absurd (show b∈([]:List Addr) from z) (by simp),T,.of_eq hg⟩;refine Du ((F _ kin (p E) lf).run callerA [] s₁ H ⟨[.ref a],[]⟩ [.ref a] [.ref a] _ _ hr e0 (hbind s₁ (.ref a)) (.cons Z .nil) (hsp H n sq)) λr j h=>?_
 match r,h with
 |.error e,h=>exact(hCX H e j h).elim
 |.ok .next,h=>exact Cw h
 |.ok .brk,h=>exact Cw h
 |.ok .cont,h=>exact Cw h
 |.ok (.ret u),h =>
  obtain⟨v,H',os,N,l,B,r',q⟩:=h;cases (show v=.bl true from q);cases (show u=El true from r');refine⟨Z,⟨λb o e=>?_,λb o e=>l.there b o e (by simp)⟩,os,N⟩;by_cases R:H b=none
  .exact .inl (l.keep b o e R (λz=>absurd (show b∈([]:List Addr) from z) (by simp)) (by simp))
  .rcases only b R with rfl|⟨rfl,g⟩
   .obtain⟨more,f⟩:=l.tbls b _ n;have e3:j.heap.get? b=some (tabObj (#[]++more)):=B b _ f;rw[hPt]at e;cases e;exact .inr (.inl ⟨(hC.tab hPt).isCodeTable,Z,#[],more,Z,e3⟩)
   .have f:=l.frzs b _ _ (t g);rw[i]at e;cases e;exact .inl (B b _ f).1
end
theorem walk_tab {l:OpenLaw}{n k:Nat}{q:AK}{t:List Str}{XP:(Str->Option Value)->Heap->Prop}{P:World->Heap->Prop}{d d':DefRec}{K:Params->Frag}{CX:World->CXT}{sp:World->Addr->Sp}{x dn:Str}
  (hn:l.most=some n)(R:n<=A6)(O:d.params.defaults=[])(hr:Room k callerA)(D:(recsOf q).find? (λe=>e.name == dn)=some d')
  (hY:∀(w:World)(h:Heap),P w h->(K w.params).In h)
  (F:∀(w:World)(mg:Str->Option Value)(p:Addr)(h:Heap),(K w.params).In h->h.Ns A4 mg->mg d.name=some (.ref p) ->
   ∃(fd:Ay)(c i:Addr),(∀(s:Ae)(u:Value),BindsTo s fd ⟨[u],[]⟩ [(x,u)])/\tabIn (K w.params) dn=some (c,i)/\(K w.params).lookup i=none /\
    ∀base:Heap,(K w.params).In base->base.Ns A4 mg->LamF mg base c i->FnOk l.prog w (K w.params) mg base (CX w) k p fd [x] (sp w i))
  (I:∀(w:World)(H:Hp)(a i:Addr)(m:List Int),m.length<=n->H i=some (.tbl #[])->SqL (K w.params) H a (m.map V.int)->sp w i [.ref a] H (λv _=>v=.bl true) λ_ _ _=>False)
  (N:∀(w:World)(H:Hp)(s:Ae)(e:Value)(y:Ae),CX w [] H s (λ_ _ _=>False) e y->False) :
  WalkO q t XP P l.row.toRowW d [] (λf vs=>PySem.call f vs):=by
 refine Att.attach_call hn O λw s₀ s₁ mg mb p o pm cd doc a vs m G Y ho hd hcd L C r j hg=>?_;have A:=hY w _ Y;obtain⟨fd,c,i,hb,ht,hk,W⟩:=F w mg p _ A G.T.g L;obtain⟨U,M⟩:=tab_of G.T A D ht;obtain⟨Q,ob,b1,b2,B,b4,b5,E⟩:=G.T.bmain;have J:Q≠A4:=λz=>by obtain⟨u,es,ep,e,S,_⟩:=G.T.g;rw[z,e]at B;cases B;rw[S]at E;cases E
 exact law_tab A G.T.g G.T.b G.T.builtins G.T.nolimit hg C r (A5 j R) hr U M hk ⟨Q,ob,b1,b2,J,B,b4,b5,E⟩ W hb (λH X hS=>I w H a i m j X hS) λH e y=>N w H s₁ e y
end Lam
namespace Lam
open PySem PySem.Spec PySem.Calls PyProof.Rows L2 Add PySem.W
theorem okT {P:AK}{w:World}{K:Frag}{mg:Str->Option Value}{base:Heap}{x b:Str}{st:Stmt}{f c:Addr}{fd:Ay}{N ps:List Str}{k:Nat}{sp:Sp}(F:Fun K x b st f fd)(l:fd.code=.ref c)(S:FnScope N ps (qaa st))(len:∀vs H Q E,sp vs H Q E->vs.length=ps.length)
  (d:∀(a:Value),a=.ref c->∀(A:AQ)(outer:List Env)(s:Ae)(H:Hp)(vs:List V)(Q:VK)(E:XK),Room k (A.deeper (envOfC b (qaa st) s.heap.objs.size f a))->sp vs H Q E ->
   ∃t,PSs (qpz CX0 P w K mg base N b (qaa st) f a A outer s H E).nox (qaw st) t/\t {nx:=λ_ H'=>Q .non H',rt:=Q} (start N vs) H):FnOk P w K mg base CX0 (k+1) f fd ps sp:=by
 obtain⟨oc,od,kV,doc,pm,an,a,ct,osl,rfl,i,g⟩:=F.ex
 refine qwg i g S len λA outer s H vs Q E j e=>?_
 obtain⟨t,h,q⟩:=d a l A outer s H vs Q E j e
 exact⟨t,h.nox,q⟩
end Lam
namespace Lam
open PySem PySem.Spec PySem.Calls PyProof.Rows L2 Add PySem.W
end Lam
namespace Lam
open PySem PySem.Spec PySem.Calls PyProof.Rows L2 Add PySem.W
end Lam
namespace Lam
open PySem PySem.Spec PySem.Calls PyProof.Rows L2 Add PySem.W
theorem tab_mk {K:Frag}{x:Str}{f c b:Addr}{l g:Value}{j h:Option Addr}{fd:Ay}{a i:Array (Option Value)}{vs:Array Value}(e:nsIn K A4 x=some (some (.ref f)))(m:K.lookup f=some ⟨l,j,.func fd,a⟩)(k:fd.code=.ref c)(n:K.lookup c=some ⟨g,h,.fields vs,i⟩)(d:vs[11]?=some (.ref b)):tabIn K x=some (c,b):=by unfold tabIn;rw[e];dsimp only;rw[m];dsimp only;rw[k];dsimp only;rw[n];dsimp only;rw[d]
end Lam
namespace Add
open PySem PySem.Spec PyProof.Rows L2
end Add
namespace Lam
open PySem PySem.Spec PyProof.Rows L2 Add PySem.W PySem.Calls Srt
noncomputable def qqi (c:Addr)(qual:Str):HO:=.ext λh=>h.CodeRec (.ref c) qual
def LamAt (H:Hp)(Pt:Addr)(pos:Pos)(qual:Str):Prop:=H Pt=some (.tbl #[]) \/ ∃c',H Pt=some (.tbl #[rawInt pos.line,rawInt pos.col,.ref c'])/\H c'=some (qqi c' qual)
theorem LamAt.keep {H H':Hp}{d:Addr}{pos:Pos}{a:Str}(h:LamAt H d pos a)(k:∀b o,(∀xs,o ≠ .lst xs)->H b=some o->H' b=some o):LamAt H' d pos a:=by
 rcases h with h|⟨c,e,f⟩
 .exact .inl (k _ _ (λ_ z=>nomatch z) h)
 .exact .inr ⟨c,k _ _ (λ_ z=>nomatch z) e,k _ _ (λ_ z=>nomatch z) f⟩
theorem LamAt.same {H H':Hp}{c:Addr}{pos:Pos}{a:Str}(h:LamAt H c pos a)(k:Same H H'):LamAt H' c pos a:=h.keep λb o _ e=>k b o e
theorem LamAt.tbl {H:Hp}{b:Addr}{pos:Pos}{a:Str}(h:LamAt H b pos a):∃ps,H b=some (.tbl ps):=by
 rcases h with h|⟨c,d,_⟩
 .exact⟨_,h⟩
 .exact⟨_,d⟩
theorem codO_ok {P:AK}{w:World}{H:Hp}{h:Heap}{c:Addr}{q:Str}(r:h.CodeRec (.ref c) q):ObjOk P w H h c (qqi c q):=by
 refine⟨r,?_,λh1 h2 r k=>?_⟩
 .obtain⟨d,b,vs,t,e,a,_⟩:=r;cases e;exact⟨b,a⟩
 .obtain⟨d,b,vs,t,e,a,f,g⟩:=r;cases e;exact⟨c,b,vs,t,Z,k _ a,f,g⟩
section
variable {X:Cx}{scope:Scope}{cl:List (Str×Addr)}{E:Value->Ae->Prop}{pins:List (Addr×Obj)}{σ:L2.St}{H:Hp}{s:Ae}
theorem qu9 {c g:Addr}{a:Ex}{i:Expr}{pos:Pos}{Q:Value->Ae->Prop}(I:Inv X pins σ H s)(L:LamF X.mg X.base c g)(G:X.env.code=.ref c)(r:LamAt H g pos (X.env.qual ++ "<lambda>"))
  (C:defaultsOf a X.env=([],[]))(hcl:closureFor scope X.env=pure cl)
  (k:∀(f d:Addr)(pm h:Value)(H':Hp)(W:Ae),Inv X (pins++[(f,DA "<lambda>" (X.env.qual ++ "<lambda>") a i scope cl pm d h)]) σ H' W->(∀b o,b≠g->H b=some o->H' b=some o)->H' g=some (.tbl #[rawInt pos.line,rawInt pos.col,.ref d])->H' d=some (qqi d (X.env.qual ++ "<lambda>"))->Q (.ref f) W) :
  wpAny (model X.prog X.w) X.A (eval (.Lambda a i scope pos) X.env) Q E s:=by
 have V:s.heap.Ns A4 X.mg:=I.ok.mod.glob.keeps I.bk;obtain⟨bm,ob,b1,b2,b3,b4,U,b6,b7⟩:=L.bm;have y:=I.bk _ _ b4;have T:=I.lt;obtain⟨af,P⟩:=r.tbl;have D:s.heap.get? g=some (tabObj af):=I.hok g _ P;have ag:A4≠g:=λq=>by obtain⟨o,es,ep,e,hd,_⟩:=V;rw[q,D]at e;cases e;cases hd
 have K:bm≠g:=λq=>by rw[q,D]at y;cases y;cases U
 rcases r with r|⟨d,r,ad⟩
 .have B:s.heap.get? g=some (tabObj #[]):=I.hok g _ r;refine kla_eval C (kla_makeFunction (mg:=X.mg) hcl I.ok.glob V G (L.hd.keeps I.bk) B trivial Z ag ⟨bm,ob,b1,b2,b3,K,y,U,b6,b7⟩ λd h h' tk S l J R ae=>?_);have M:∀b o,b≠g->s.heap.get? b=some o->(h'.push (DA "<lambda>" (X.env.qual ++ "<lambda>") a i scope cl ((X.mg "__name__").getD .none) d h)).get? b=some o:=λb o n e=>Ao _ (S b o n e);have tb:=Ao (DA "<lambda>" (X.env.qual ++ "<lambda>") a i scope cl ((X.mg "__name__").getD .none) d h) ae;have F:Inv X pins σ (upd H g (.tbl (#[] ++ #[rawInt pos.line,rawInt pos.col,.ref d]))) {s with heap:=h'.push (DA "<lambda>" (X.env.qual ++ "<lambda>") a i scope cl ((X.mg "__name__").getD .none) d h),toks:=tk}:=I.un (un_tbl r M tb) (hok_tbl I.hok r M tb);have m:s.heap.objs.size<=h'.objs.size:=BC (CW l J);have N:g<s.heap.objs.size:=A9 B;have hn:∀b,s.heap.objs.size<=b->upd H g (.tbl (#[] ++ #[rawInt pos.line,rawInt pos.col,.ref d])) b=none:=λb hb=>by rw[qr (Ch (A2 N hb))];exact I.hok.fresh hb
  have O:(h'.push (DA "<lambda>" (X.env.qual ++ "<lambda>") a i scope cl ((X.mg "__name__").getD .none) d h)).CodeRec (.ref d) (X.env.qual ++ "<lambda>"):=by obtain⟨c2,oc,vs,t,e2,Y,hd,hv⟩:=id R;cases e2;exact⟨d,oc,vs,t,Z,Ao _ Y,hd,hv⟩
  have I3:=qnw (o:=qqi d (X.env.qual ++ "<lambda>")) F (hn d l) (A5 I.sz l) (Ch (A2 T l)) (λx cc e=>by obtain⟨v,qc⟩:=I.cell x cc e;exact AA (A2 qc.lt l)) (λp j=>AA (A2 (A9 (I.pin p j).1) l)) (codO_ok O);have nP:g≠d:=AA (A2 N l);refine k h'.objs.size d ((X.mg "__name__").getD .none) h _ _ (I3.pins_of λp j=>?_) (λb o n e=>?_) ?_ qk
  .rcases Av.mp j with j|j
   .exact I3.pin p (A1 _ j)
   .rw[Ah.mp j];refine⟨AR _ Z,?_,Ch (A2 T m),I.nofs m,λ_ z=>nomatch z⟩;rw[qr (Ch J)];exact hn _ m
  .have lb:b<s.heap.objs.size:=I.hok.lt e;rw[qr (AA (A2 lb l)),qr n];exact e
  .rw[qr nP,qk];rfl
 .have B:s.heap.get? g=some (tabObj #[rawInt pos.line,rawInt pos.col,.ref d]):=I.hok g _ r;refine kla_eval C (kla_makeFunctionHit (mg:=X.mg) (cv:=.ref d) hcl I.ok.glob V G (L.hd.keeps I.bk) B trivial (by simp[codeAmong,rawInt]) ⟨bm,ob,b1,b2,b3,K,y,U,b6,b7⟩ λh h' tk S m=>?_);have F:Inv X pins σ H {s with heap:=h'.push (DA "<lambda>" (X.env.qual ++ "<lambda>") a i scope cl ((X.mg "__name__").getD .none) d h),toks:=tk}:=I.kept λb u e=>Ao _ (S b u e);refine k h'.objs.size d ((X.mg "__name__").getD .none) h H _ (F.pins_of λp j=>?_) (λb o _ e=>e) r ad;rcases Av.mp j with j|j
  .exact F.pin p (A1 _ j)
  .rw[Ah.mp j];exact⟨AR _ Z,I.hok.fresh m,Ch (A2 T m),I.nofs m,λ_ z=>nomatch z⟩
end
end Lam
namespace Lam
open PySem PySem.Spec PyProof.Rows L2 Add PySem.W PySem.Calls Srt
noncomputable def encK (k:Int×Str):List V:=[.int k.1,.str k.2]
noncomputable abbrev kDf:Int×Str:=(0,A8)
noncomputable def ltK (a b:Int×Str):Bool:=decide (a.1<b.1) || (decide (a.1=b.1) && decide (a.2.cps.toList<b.2.cps.toList))
theorem qtf (a b:Int×Str):ltK a b=true↔a.1<b.1\/(a.1=b.1/\a.2.cps.toList<b.2.cps.toList):=by unfold ltK;simp
theorem ltK_no (a b:Int×Str):ltK a b=false ↔ ¬(a.1<b.1\/(a.1=b.1/\a.2.cps.toList<b.2.cps.toList)):=by rw[<- qtf];cases ltK a b <;>simp
theorem ordK (ks:List (Int×Str)):Ord λi j=>ltK (ks.getD i kDf) (ks.getD j kDf):=by
 refine⟨λi j h=>?_,λi j k b a=>?_⟩
 .rw[qtf]at h;rw[ltK_no];rintro (z|⟨f,c⟩)
  .lia
  .rcases h with h|⟨b,a⟩
   .lia
   .exact List.lt_asymm a c
 .rw[ltK_no]at b a |-;have d:∀x y:Int×Str,¬(x.1<y.1\/(x.1=y.1/\x.2.cps.toList<y.2.cps.toList))->y.1<=x.1/\(x.1=y.1->y.2.cps.toList<=x.2.cps.toList):=λx y h=>⟨by lia,λe=>Ew.mp λz=>h (.inr ⟨e,z⟩)⟩;obtain⟨a1,g⟩:=d _ _ b;obtain⟨b1,l⟩:=d _ _ a;rintro (z|⟨f,c⟩)
  .lia
  .exact Ew.mpr (List.le_trans (g (by lia)) (l (by lia))) c
def qxc (tb:V->Hp->VK->Prop)(xs:List V)(H:Hp)(Q:VK):Prop:=∀kS,H kS=none->∃W:Nat->Hp->Prop,W 0 (upd H kS (.lst [])) /\
 (∀i x H',xs[i]?=some x->W i H'->tb x H' λv H2=>∃ks,H2 kS=some (.lst ks)/\ks.length<A6/\W (i+1) (upd H2 kS (.lst (ks++[v])))) /\
 ∀H',W xs.length H'->∃(kv:List V)(ks:List (Int×Str)),H' kS=some (.lst kv)/\Tups H' kv (ks.map encK)/\ks.length=xs.length/\∀(p:List Nat)(q:Addr),p.Perm (Ar xs.length)->(p.map λi=>ks.getD i kDf).Pairwise (λa b=>ltK b a=false)->H' q=none->Q (.ref q) (upd (upd H' kS (.lst [])) q (.lst (p.map λi=>xs.getD i V.non)))
section
variable {X:Cx}{A:AQ}{E:Value->Ae->Prop}{pins:List (Addr×Obj)}{σ:L2.St}{H:Hp}{s:Ae}
theorem qtg (I:Inv X pins σ H s):∀{rs:List (Int×Str)}{us:List V}{its:List Value},Vals us its->Tups H us (rs.map encK)->∃fs,KatTups s.heap its fs/\fs.length=its.length/\∀v∈fs,∃n t,v=D4 n t
 | [],us,its,rv,ht=>by cases ht;cases rv;exact⟨[],.nil,Z,λv a=>absurd a AG⟩
 |r::rs,us,its,rv,ht=>by
  cases ht with
  |cons qa ht =>
   cases rv with
   |cons ru rv =>
    obtain⟨fs,d,g,c⟩:=qtg I rv ht;obtain⟨ts,i,b,_⟩:=I.tuple (SqT.of qa);obtain⟨v1,v2,rfl,⟨t,rfl⟩,⟨t',rfl⟩⟩:=Vals.two i;obtain⟨o,f,h,n,e⟩:=(show s.heap.IsTuple _ _ from b);cases qkp ru;refine⟨.int r.1 t::fs,.cons f h e Z d,by rw[AD,AD,g],λv a=>?_⟩;rcases Aq.mp a with rfl|a
    .exact⟨_,_,Z⟩
    .exact c v a
theorem qva {prog:AK}{w:World}{A:AQ}{E:Value->Ae->Prop}{h:Ae}{C:Bool->Ae->Prop}{a b:Addr}{k f:Obj}{x y:Int×Str}{i l g j:Tok}{n m:Nat}(p:h.heap.get? a=some k)(q:k.data=.seq #[.int x.1 i,.str x.2 l] n)(o:h.heap.get? b=some f)(r:f.data=.seq #[.int y.1 g,.str y.2 j] m)
  (d:C (ltK x y) h):wpAny (model prog w) A (keyLt' (tuples' true) (.ref a) (.ref b)) C E h:=by
 refine kat_lt p q o r (kat_cons (Bd.int_int x.1 i y.1 g prog w _ _ (kat_go (λc=>?_) λc=>?_)))
 .have c:x.1=y.1:=eq_of_beq c;refine kat_yes (kat_cons (Bd.str_str x.2 l y.2 j prog w _ _ (kat_go (λe=>?_) λe=>?_)))
  .have e:x.2=y.2:=eq_of_beq e;refine kat_yes (kat_nil ?_);have z:ltK x y=false:=(ltK_no x y).mpr (by
    rintro (z|⟨_,z⟩)
    .lia
    .rw[e]at z;exact List.lt_irrefl _ z)
   rw[z]at d;exact d
  .refine kat_no (kat_one _ _ (lt_str ?_));have z:ltK x y=decide (x.2.cps.toList<y.2.cps.toList):=by unfold ltK;rw[decide_eq_false (show ¬x.1<y.1 by lia),decide_eq_true c];rfl
   rw[z]at d;exact d
 .have c:x.1≠y.1:=λz=>by rw[z]at c;simp at c
  refine kat_no (oneLt_int ?_);have z:ltK x y=decide (x.1<y.1):=by unfold ltK;rw[decide_eq_false c];simp
  rw[z]at d;exact d
theorem qr7 {a:Addr}{n:Nat}{vs:List Value}{xs:List V}{f:Value}{tb:V->Hp->VK->Prop}{Q:VK}{P:PySem.Fin->Ae->Prop}(I:Inv X pins σ H s)(rv:Vals xs vs)(J:s.heap.get? a=some (seqObj "list" vs.toArray n))(am:H a=none)(Y:X.s₀.heap.objs.size<=a)(O:a≠X.env.locals)(bj:a∉X.fs)
  (af:∀x c,X.env.cells.lookup x=some c->c≠a)(ae:∀p∈X.pn++pins,p.1≠a)(av:vs.length<64)
  (hk:∀(y:List (Addr×Obj))(d:Ae)(H':Hp)(x:V)(u:Value)(Q':VK),(∀p∈pins,p∈y)->Inv X y σ H' d->RelV x u->tb x H' Q'->wpAny (model X.prog X.w) A (call f [u]) (EP X y σ Q') (λ_ _=>False) d)
  (hq:qxc tb xs H Q)(bu:∀d,EP X pins σ Q (.ref a) d->P (.done (.ret .none)) d):wpAny (model X.prog X.w) A (ksk_tree a f false) P E s:=by
 have L:xs.length=vs.length:=rv.length;have halt:a<s.heap.objs.size:=A9 J;have s1:=BR.update s.heap a (B7 λ_=>(#[]:Array Value));obtain⟨B,ho1⟩:∃B,(s.heap.update a (B7 λ_=>(#[]:Array Value))).get? a=some (seqObj "list" #[] B):=⟨_,get?_update_seq J λ_=>#[]⟩;unfold ksk_tree;refine As (listItems_at J Z ?_);refine As (listUpdate_at J Z ?_ (by rw[Ak,B3];lia) (AU _));refine As (seqEpoch_at ho1 Z ?_);refine As (wpAny_newTuple ?_ (by show vs.length<=_;rw[B3];lia));have I1:Inv X pins σ H {s with heap:=s.heap.update a (B7 λ_=>(#[]:Array Value))}:=I.turned (t':=s.toks) (it:=a) (λb o hb e=>(s1.2 b hb).trans e) am O (.inr Y) af ae;have I2:Inv X pins σ H {s with heap:=(s.heap.update a (B7 λ_=>(#[]:Array Value))).push (seqObj "tuple" vs.toArray 0)}:=I1.kept (t':=s.toks) λb u e=>Ao _ e;have I3:Inv X (pins++[(a,seqObj "list" #[] B)]) σ H {s with heap:=(s.heap.update a (B7 λ_=>(#[]:Array Value))).push (seqObj "tuple" vs.toArray 0)}:=I2.pins_of λp h=>by
  rcases Av.mp h with h|h
  .exact I2.pin p (A1 _ h)
  .rw[Ah.mp h];exact⟨Ao _ ho1,am,O,bj,λ_ z=>nomatch z⟩
 clear I1 I2;generalize hs2:({s with heap:=(s.heap.update a (B7 λ_=>(#[]:Array Value))).push (seqObj "tuple" vs.toArray 0)}:Ae)=l at I3 |-;refine As (wpAny_newList ?_ (AU _));refine Co ?_;have au:H l.heap.objs.size=none:=I3.hok.fresh (Am _);obtain⟨W,w0,ad,done⟩:=hq l.heap.objs.size au;have I4:=I3.lnew (ys:=[]) (its:=[]) (t':=l.toks) .nil (AU _);generalize hkS:l.heap.objs.size=kS at w0 ad done I4 |-;unfold ksk_rest;refine As (wpAny_rule ?_);first
  |rw[List.forIn_toArray]
  | (rw[<- Array.forIn_toList];simp only[List.toList_toArray])
  |rw[<- Array.forIn_toList]
 refine As (ksk_fold (λi d=>∃H',Inv X (pins++[(a,seqObj "list" #[] B)]) σ H' d/\W i H') vs 0 _ ⟨_,I4,w0⟩ ?step ?done)
 case step =>
  rintro j u d hu ⟨H',K,U⟩;simp only[Nat.zero_add]at U |-;have hj:j<xs.length:=by rw[L];exact(Ac.mp hu).1
  obtain⟨x,hx⟩:∃x,xs[j]?=some x:=⟨_,Ad hj⟩;obtain⟨u',ak,rx⟩:=rv.get hx;rw[hu]at ak;cases ak;refine As (wpAny_attempt (Ca (hk _ d H' x u _ (λp h=>Bl _ h) K rx (ad j x H' hx U)) (λv s'' he=>?_) λ_ _ hF=>hF.elim));obtain⟨v',H2,I5,r5,ks,h5,l5,w5⟩:=he;dsimp only;refine As (kset I5 h5 (ks':=ks++[v']) (by rw[Af];exact l5) (λits k=>?_) λM R=>AO ⟨Z,_,R,w5⟩);rw[show (its.toArray.push v).toList=its++[v] by simp];exact k.append (.cons r5 .nil)
 case done =>
  rintro d ⟨H',K,U⟩;rw[Nat.zero_add,<- L]at U;obtain⟨kv,ks,hz,tz,lz,aq⟩:=done H' U;obtain⟨_,its,nn,k,e5⟩:=(show ObjOk X.prog X.w H' d.heap kS (.lst kv) from K.hok kS _ hz);refine As (listItems_at (o:=seqObj "list" its.toArray nn) e5 Z ?_);have q:its.length=vs.length:=by have h1:=k.length;have F:=tz.length;rw[Ab]at F;lia
  have lks:ks.length=vs.length:=by lia
  have hzs:(its.toArray.zip vs.toArray).size=vs.length:=by rw[Array.size_zip,Ak,Ak,q,Nat.min_self]
  have tail:∀(st:SortSt)(p:Array Nat),Gd vs.length p->Up (λi j=>ltK (ks.getD i kDf) (ks.getD j kDf)) p vs.length->(arrOf st).map (·.2)=(qg9 vs p).toArray->failedOf st=none->wpAny (model X.prog X.w) A (ksk_tail a false B (.ref kS) st) P E d:=by
   intro st p g up S bi;have bw:=K.pin (a,seqObj "list" #[] B) (A1 _ (A1 _ (Ah.mpr Z)));unfold ksk_tail;dsimp only;refine As (kset K hz (ks':=[]) (AU _) (λ_ _=>.nil) λM R=>?_);refine As (wpAny_letGo ?_);have N:=R.pin (a,seqObj "list" #[] B) (A1 _ (A1 _ (Ah.mpr Z)));have lp:(qg9 vs p).length=vs.length:=by rw[Ab,Bz,g.size]
   refine As (seqEpoch_at N.1 Z ?_);refine As (listUpdate_at N.1 Z ?_ (AU _) (by rw[if_neg Uk,S,Ak,lp,B3];lia));rw[bi];simp only[bne_self_eq_false,DU,if_false];rw[S];have aj:upd H' kS (.lst []) a=none:=N.2.1;have bf:H' a=none:=bw.2.1;have s7:=BR.update M.heap a (B7 λ_=>(qg9 vs p).toArray);obtain⟨c2,ah⟩:∃c2,(M.heap.update a (B7 λ_=>(qg9 vs p).toArray)).get? a=some (seqObj "list" (qg9 vs p).toArray c2):=⟨_,get?_update_seq N.1 λ_=>(qg9 vs p).toArray⟩;have J6:Inv X pins σ (upd H' kS (.lst [])) M:=R.pins_of λp h=>R.pin p (A1 _ (Bl _ h));have I7:Inv X pins σ (upd H' kS (.lst [])) {M with heap:=M.heap.update a (B7 λ_=>(qg9 vs p).toArray)}:=J6.turned (t':=M.toks) (it:=a) (λb o hb e=>(s7.2 b hb).trans e) aj O (.inr Y) af ae;have bc:∀i∈p.toList,i<vs.length:=λi hi=>by have:=g.perm.mem_iff.mp (Array.mem_toList_iff.mp hi);simpa using this
   have pp:p.toList.Perm (Ar vs.length):=by have:=Array.perm_iff_toList_perm.mp g.perm;simpa using this
   refine AO (bu _ ⟨.ref a,_,qnw (o:=.lst (p.toList.map λi=>xs.getD i V.non)) I7 aj Y O af ae ⟨by rw[Ab,Bz,g.size,B3];lia,qg9 vs p,c2,qnt rv _ bc,ah⟩,Z,aq p.toList a (by rw[L];exact pp) ?_ bf⟩);rw[Cj,AZ];intro i j hi hj bh;have ay:i<p.size:=by simpa using hi
   have al:j<p.size:=by simpa using hj
   have z:=up i j (by lia) (by rw[<- g.size];exact al);have ei:at' p i=p.toList[i]:=by simp[at',ay]
   have ej:at' p j=p.toList[j]:=by simp[at',al]
   rw[ei,ej]at z;exact z
  have ag:∀i,i<its.length->∃(b:Addr)(o:Obj)(t t':Tok)(n:Nat),its.getD i C8=.ref b/\d.heap.get? b=some o/\o.cls=.type "tuple" /\ o.data=.seq #[.int (ks.getD i kDf).1 t,.str (ks.getD i kDf).2 t'] n:=by
   intro i hi;have ai:i<ks.length:=by lia
   obtain⟨b,eb,qb⟩:=tz.get (i:=i) (r:=encK ks[i]) (by simp[ai]);obtain⟨v,hv,bt⟩:=k.get eb;have B:ks.getD i kDf=ks[i]:=by simp[ai]
   obtain⟨ts,c1,p1,_⟩:=K.tuple (SqT.of qb);obtain⟨v1,v2,rfl,⟨t,rfl⟩,⟨t',rfl⟩⟩:=Vals.two c1;obtain⟨o,J,hc,n,hd⟩:=(show d.heap.IsTuple b _ from p1);exact⟨b,o,t,t',n,by rw[<- qkp bt,Aj,hv];rfl,J,hc,by rw[B];exact hd⟩
  unfold ksk_end;dsimp only;rw[if_neg (by decide:¬(false=true))];by_cases F:vs.toArray.size<2
  .rw[if_pos F,if_pos F];refine As (AO ?_);rw[StateT.run_pure];refine As (AO ?_);dsimp only;rw[Ak]at F;refine tail (SortSt.mk' general' (its.toArray.zip vs.toArray) #[] 7 none) (Ar vs.length).toArray ⟨.refl _⟩ (λi j bh hj=>?_) ?_ rfl
   .have:i=j:=by lia
    subst this;exact(ordK ks).irr _
   .rw[quy];show (its.toArray.zip vs.toArray).map (·.2)=_;apply Array.toList_inj.mp;simp[List.map_snd_zip,q]
  .rw[if_neg F,if_neg F];rw[Ak]at F;refine As (m:=keyKind' its.toArray) ?_;obtain⟨fs,f1,f2,f3⟩:=qtg K k tz;refine kat_kind (T:=.type "int") f1 (by lia) (λv hv=>?_) (beq_self_eq_true _) ?_
   .obtain⟨n,t,rfl⟩:=f3 v hv;exact .now
   refine As (Ca (kat_run (ks:=its) (vs:=vs) (κ:=tuples' true) (E:=E) (Q:=λD l=>l=d/\∃p:Array Nat,Gd vs.length p/\Up (λi j=>ltK (ks.getD i kDf) (ks.getD j kDf)) p vs.length/\arrOf D=p.map (kas_item (its.toArray.zip vs.toArray))/\failedOf D=none)
    (G:=λp l=>l=d/\Gd vs.length p/\Up (λi j=>ltK (ks.getD i kDf) (ks.getD j kDf)) p vs.length)
    q (by lia) av (λp D l a1 a2 a3 a4=>⟨a4.1,p,a4.2.1,a4.2.2,a2,a3⟩) (Sat.wp (λi j C hi hj hC=>?_) (sort_ok (ordK ks) (by lia)) λp h=>⟨Z,h⟩)) ?_ λ_ _ e=>e)
   .obtain⟨b,o,t,t',n,e,J,hc,hd⟩:=ag i (by lia);obtain⟨b2,o2,t2,t2',n2,e2,ar,ah,aw⟩:=ag j (by lia);unfold kas_ask;rw[e,e2];exact qva J hd ar aw hC
   .rintro⟨⟨⟩,D⟩ l ⟨rfl,p,g,u,bq,hf⟩;dsimp only;exact tail D p g u (kat_snds q bq) hf
end
end Lam
namespace Lam
open PySem PySem.Spec PyProof.Rows L2 Add PySem.W PySem.Calls Srt
theorem _root_.L2.SqL.keepP {K:Frag}{H H':Hp}{l c:Addr}{xs:List V}{ps:Array Value}(h:SqL K H l xs)(a:H c=some (.tbl ps))(k:∀b o,b≠c->H b=some o->H' b=some o):SqL K H' l xs:=by
 rcases h with (h|⟨o,h⟩)|h
 .exact .inl (.inl (k _ _ (λz=>by rw[z,a]at h;cases h) h))
 .exact .inl (.inr ⟨o,k _ _ (λz=>by rw[z,a]at h;cases h) h⟩)
 .exact .inr h
section
variable {X:Cx}
def tSLT (K:Frag)(t:TA)(js:List (Option Nat))(tb:TE)(Pt:Addr)(lpos:Pos)(qual:Str):TE:=λσ H Q=>t σ H λvs H1=>∃(l:Addr)(xs:List V),vs=[.ref l]/\SqL K H1 l xs/\xs.length<64/\LamAt H1 Pt lpos qual /\
 ∀(H2:Hp)(c':Addr),(∀b o,b≠Pt->H1 b=some o->H2 b=some o)->H2 Pt=some (.tbl #[rawInt lpos.line,rawInt lpos.col,.ref c'])->H2 c'=some (qqi c' qual)->qxc (λx H' Q'=>H' c'=some (qqi c' qual)/\tb (qha js σ x) H' Q') xs H2 Q
theorem pe_sortLamT {N XN:List Str}{js:List (Option Nat)}{xs scope:Scope}{y:Str}{e g:Expr}{t:TA}{tb:TE}{d:Ex}{c Pt:Addr}{p pos B Y:Pos}(ah:X.calm=true)(hr:Room 2 X.A)(ad:Gl X "sorted")(af:X.mg "sorted"=none)(ha:PA X [e] t)
  (L:LamF X.mg X.base c Pt)(ae:X.env.code=.ref c)(hN:X.N=XN)(T:X.env.scope=xs)(hok:qla N js XN xs scope=true)(h0:N[0]?=some y)(j0:js[0]?=some none)(hy:scope.names.lookup y=some .local)(al:scope.isCoroutine=false)(V:scope.isGenerator=false)
  (U:defaultsOf d X.env=([],[]))(F:∀n C i j u,bindArgs (kla_fn "<lambda>" (X.env.qual ++ "<lambda>") d g scope n C (.ref i) j) ⟨[u],[]⟩=pure [(y,u)])
  (hb:∀(f i:Addr)(n:List (Str×Addr))(s:Ae)(H:Hp)(E:Value->Ae->Prop),PE (qte X X.A.in1.in1 N (X.env.qual ++ "<lambda>") scope f (.ref i) n s H E) g tb)
  (he:backTo pos (starEach [e] X.env)=(false,eval e X.env)::backTo pos (starEach [] X.env):=by rfl)(hpl:(backTo pos (starEach [e] X.env)).any (·.1)=false:=by rfl) :
  PE X (.Call (.Name "sorted" p) [e] [⟨some "key",.Lambda d g scope B,Y⟩] pos) (tSLT X.K t js tb Pt B (X.env.qual ++ "<lambda>")):=by
 intro l s σ H Q I h;have nm:=qi9 hok;refine BN (qep I ad af Add.boot_sorted ?_);refine PyProof.Rows.callWith_kw (thn (ha pos l s σ H _ I h) λus s1 ⟨vs,H1,I1,r1,q1⟩=>?_) he hpl;obtain⟨r,O,rfl,am,h64,hP,q⟩:=q1;cases r1 with
 |cons ra rb =>
  cases rb;cases ra;obtain⟨n,hcl,c1,c2⟩:=qhj (env:=X.env) (scope:=scope) λx hx e=>I.ok.has x.1 (by
   rcases nm.clos x hx e with q|q
   .exact .inl (by show X.env.scope.names.lookup _=_;rw[T];exact q)
   .exact .inr (by show X.env.scope.names.lookup _=_;rw[T];exact q))
  show wpAny _ _ (evalAll ((do let v <- eval (.Lambda d g scope B) X.env;standAt pos;pure v)::[])) _ _ s1;refine wpAny_evalAll_cons (As (qu9 I1 L ae hP U hcl λf i C j G k I2 kp ag aq=>As (Ef (AO ?_))));refine wpAny_evalAll_nil ?_;have q:=q G i kp ag aq;have ak:∀p∈l,p∈l++[(f,DA "<lambda>" (X.env.qual ++ "<lambda>") d g scope n C i j)]:=λp D=>Bl _ D;obtain⟨ps,ai⟩:=hP.tbl;have W:SqL X.K G r O:=am.keepP ai kp;obtain⟨its,rv,pl,hz⟩:=I2.list W;have aj:its.length=O.length:=rv.length.symm;have hd:=I.ok.hd ah;refine call_function_entry_kw (kw:=[(Aa "key",.ref f)]) kind_sorted plain_sorted entry_sorted (ksk_s1 _ _) ?_;unfold BL.«sorted»;refine As (m:=checkCount "sorted" 1 1 _) (AO ?_);refine As (collect_list pl.isList ?_ (by rw[B3];lia));have keep:∀b o,k.heap.get? b=some o->((k.heap.push (seqObj "list" #[] 0)).update k.heap.objs.size (B7 (· ++ its.toArray))).get? b=some o:=λb o q=>by have M:b<k.heap.objs.size:=A9 q;rw[Heap.get?_update_ne _ _ _ _ (AA M),Heap.get?_push_ne _ _ _ (AA M)];exact q
  have z:Inv X (l++[(f,DA "<lambda>" (X.env.qual ++ "<lambda>") d g scope n C i j)]) σ G {k with heap:=(k.heap.push (seqObj "list" #[] 0)).update k.heap.objs.size (B7 (· ++ its.toArray))}:=I2.kept (t':=k.toks) keep;generalize hs3:({k with heap:=(k.heap.push (seqObj "list" #[] 0)).update k.heap.objs.size (B7 (· ++ its.toArray))}:Ae)=s3 at z |-;refine As (wpAny_newList ?_ (by rw[aj,B3];lia));have I4:Inv X (l++[(f,DA "<lambda>" (X.env.qual ++ "<lambda>") d g scope n C i j)]) σ G {s3 with heap:=s3.heap.push (seqObj "list" its.toArray 0)}:=z.kept (t':=s3.toks) λb u e=>Ao _ e;have P:(s3.heap.push (seqObj "list" its.toArray 0)).get? s3.heap.objs.size=some (seqObj "list" its.toArray 0):=AR _ rfl;have hL:=z.lt;refine As (Co (wpAny_call_entry_kw slot_list_sort ⟨_,P,Z⟩ entry_list_sort ?g (ksk_l1 _ _)))
  case g =>
   rw[ksk_t1];refine qr7 (tb:=λx H' Q'=>H' i=some (qqi i (X.env.qual ++ "<lambda>"))/\tb (qha js σ x) H' Q') (Q:=Q) (s:={s3 with heap:=s3.heap.push (seqObj "list" its.toArray 0)}) I4 rv P (z.hok.fresh (Am _)) z.sz (Ch hL) (z.nofs (Am _)) (λx c e=>?_) (λp D=>AA (A9 (z.pin p D).1)) (by lia) (λpins' s' H' x u Q' D S rx R=>?_) q λs' hE=>⟨_,Z,?_⟩
   .obtain⟨v,qc⟩:=z.cell x c e;exact AA qc.lt
   .have mf:=D _ (A1 _ (Al (a:=(f,DA "<lambda>" (X.env.qual ++ "<lambda>") d g scope n C i j))));refine qxb (A:=X.A.in1.in1) hN T nm c1 c2 I.ok.frames hd (hr.in1.in1).depth h0 j0 hy al V (F n C i j) (hb f i n) S (S.pin _ (A1 _ mf)).1 ?_ rx R.2;exact(show ObjOk X.prog X.w H' s'.heap i (qqi i (X.env.qual ++ "<lambda>")) from S.hok i _ R.1).1
   .obtain⟨v,H',J,rr,qq⟩:=hE;exact AO ⟨_,Z,v,H',J.pins_of λp D=>J.pin p (A1 _ (ak p D)),rr,qq⟩
end
end Lam
namespace Add
open PySem PySem.Spec PyProof.Rows L2
def keyN (k:Option Key)(v:Value):Bool:=match k with
 |some k=>qj0 k v
 |none=>(match v with | .none=>true|_=>false)
theorem qb0 {k:Option Key}{v:Value}(h:keyN k v=true):(k=none/\v=.none) \/ ∃q,k=some q/\qj0 q v=true:=by
 cases k with
 |none=>cases v <;>first|exact .inl ⟨rfl,rfl⟩|cases h
 |some q=>exact .inr ⟨q,Z,h⟩
theorem qvb {prog:AK}{w:World}{A:AQ}{E:Value->Ae->Prop}{s:Ae}{Q:Int->Ae->Prop}(h:Q 0xFCA86420 {s with toks:=s.toks+1}):wpAny (model prog w) A (PySem.pyHash .none) Q E s:=by
 show wpAny _ _ (pyHashByItsType .none) _ _ _;refine PySem.W.pyHash_slot (T := "NoneType") rfl PySem.F.slot_NoneType_hash PySem.F.entry_NoneType_hash (PySem.F.args_NoneType_hash_1 _) (beq_builtin_none _) (.inl Z) ?_;obtain⟨hp,g,d,tk,os⟩:=s
 wp_walk
 exact⟨_,_,Z,h⟩
def qou (prog:AK)(w:World):PySem.KeyKind prog w (Option Key) where
 is:=keyN
 hash:=λk=>match k with|some k=>keyH w k|none=>0xFCA86420
 inj:=λv a b ha hb=>by
  rcases qb0 ha with ⟨rfl,rfl⟩|⟨q,rfl,h1⟩
  .rcases qb0 hb with ⟨rfl,_⟩|⟨q2,rfl,h2⟩
   .rfl
   .rcases qaq h2 with ⟨i,t,_,e⟩|⟨x,t,_,e⟩ <;>exact nomatch e
  .rcases qb0 hb with ⟨rfl,rfl⟩|⟨q2,rfl,h2⟩
   .rcases qaq h1 with ⟨i,t,_,e⟩|⟨x,t,_,e⟩ <;>exact nomatch e
   .rw[(qat prog w).inj v q q2 h1 h2]
 byValue:=λk v h=>by
  rcases qb0 h with ⟨_,rfl⟩|⟨q,_,h⟩
  .rfl
  .exact(qat prog w).byValue q v h
 pyHash:=λhv h=>by
  rcases qb0 hv with ⟨rfl,rfl⟩|⟨q,rfl,h1⟩
  .exact qvb h
  .exact(qat prog w).pyHash h1 h
 eqBool:=λ{A E s a b u v Q} hu hv h=>by
  rcases qb0 hu with ⟨rfl,rfl⟩|⟨q,rfl,h1⟩
  .rcases qb0 hv with ⟨rfl,rfl⟩|⟨q2,rfl,h2⟩
   .exact Bd.same _ _ _ _ _ h
   .rcases qaq h2 with ⟨i,t,rfl,rfl⟩|⟨x,t,rfl,rfl⟩
    .exact Bd.none_int i t _ _ _ _ h
    .exact Bd.none_str x t _ _ _ _ h
  .rcases qb0 hv with ⟨rfl,rfl⟩|⟨q2,rfl,h2⟩
   .rcases qaq h1 with ⟨i,t,rfl,rfl⟩|⟨x,t,rfl,rfl⟩
    .exact Bd.int_none i t _ _ _ _ h
    .exact Bd.str_none x t _ _ _ _ h
   .refine(qat prog w).eqBool h1 h2 ?_;rw[show decide (some q=some q2)=decide (q=q2) by by_cases e:q=q2 <;>simp[e]]at h;exact h
 «strs» := λk x t v h=>by
  rcases qb0 h with ⟨_,e⟩|⟨q,rfl,h1⟩
  .exact nomatch e
  .exact(qat prog w).strs q x t v h1
theorem qth {prog:AK}{w:World}{h:Heap}{a:Addr}{f:Key->Option Value}(m:h.MapOf (qat prog w) a f):h.MapOf (qou prog w) a (λk=>k.bind f):=by
 obtain⟨o,es,ep,l,q,p,d,j⟩:=m;refine⟨o,es,ep,l,q,p,λe b=>?_,λk=>?_⟩
 .obtain⟨k,c,n⟩:=d e b;exact⟨some k,c,n⟩
 .cases k with
  |some k=>exact j k
  |none =>
   show findBy keyN es none=none;unfold findBy;have:es.find? (λe=>keyN none e.key)=none:=by rw[Array.find?_eq_none];intro e b z;obtain⟨k,c,_⟩:=d e b;rcases qaq c with ⟨i,t,_,g⟩|⟨x,t,_,g⟩ <;>(rw[g]at z;cases z)
   first
    | (rw[this];rfl)
    |simp[this]
def qqj (H:Hp)(a:Addr)(y:V)(o:Option V):Prop:=(y=.non/\o=none/\∃kvs,Rd H a (.dK kvs))\/DGet H a y o
section
variable {X:Cx}{pins:List (Addr×Obj)}{σ:L2.St}{H:Hp}{s:Ae}{a:Addr}{y d:V}{u r:Value}{o:Option V}{A:AQ}{E:Value->Ae->Prop}
theorem d_inN {Q:Value->Ae->Prop}(d:A.units+1<cLine)(I:Inv X pins σ H s)(g:qqj H a y o)(b:L2.RelV y u)(h:∀s',Inv X pins σ H s'->Q (.bool o.isSome) s') :
  wpAny (model X.prog X.w) A (compareOp .In u (.ref a)) Q E s:=by
 rcases g with ⟨rfl,rfl,kvs,e⟩|g
 .cases (show u=C8 from b);obtain⟨z,f,vs,rel,c⟩:=qfv I.hok e;exact wpAny_in_of (knd:=qou X.prog X.w) (k:=none) rfl f (qth c.mapOf) (h _ (I.tok _))
 .exact d_in d I g b h
theorem d_get1N {Q:Value->Ae->Prop}(d:A.units+1<cLine)(I:Inv X pins σ H s)(g:qqj H a y o)(b:L2.RelV y u)(h:∀w' s',Inv X pins σ H s'->L2.RelV (o.getD .non) w'->Q w' s') :
  wpAny (model X.prog X.w) A (call (.builtin "dict.get") [.ref a,u]) Q E s:=by
 rcases g with ⟨rfl,rfl,kvs,e⟩|g
 .cases (show u=C8 from b);obtain⟨z,f,vs,rel,c⟩:=qfv I.hok e;exact DQ BX c.typeIs C3 (Dp _ _) (meets_dict_get (qou X.prog X.w) (k:=none) a Z f) ⟨_,qth c.mapOf,h _ _ (I.tok _) Z⟩
 .exact d_get1 d I g b h
end
def tDInN (ty td:TE):TE:=λσ H Q=>ty σ H λy H1=>td σ H1 λx H2=>∃a o,x=.ref a/\qqj H2 a y o/\Q (.bl o.isSome) H2
def tDGet1N (td ty:TE):TE:=λσ H Q=>td σ H λx H1=>∃a,x=.ref a/\IsD H1 a/\ty σ H1 λy H2=>∃o,qqj H2 a y o/\Q (o.getD .non) H2
section
variable {X:Cx}{o i e:Expr}{apos cpos:Pos}{td ty:TE}
theorem pc_dinN (l:X.A.units+1<cLine)(e:PE X i ty)(n:PE X o td):L2.PC X .In i o (tDInN ty td):=by intro b s σ H Q I h;refine thn (e b s σ H _ I h) λiv m ⟨y,q,f,r,p⟩=>thn (n b m σ q _ f p) λu s2 ⟨x,j,d,k,a,ov,ex,g,c⟩=>?_;subst ex;obtain rfl:u=Bm a:=k;exact d_inN l d g r λs3 t=>⟨.bl ov.isSome,j,t,Z,c⟩
theorem qvc (p:X.A.units+1<cLine)(r:PE X o td)(j:PE X e ty)(m:M1 X o "get" apos e cpos):PE X (.Call (.Attribute o "get" apos) [e] [] cpos) (tDGet1N td ty):=by intro b s σ H Q I h;refine wpAny_Call_method m.base m.few m.line PySem.F.plainAttrs_dict BX PySem.F.type_dict_get (thn (r b s σ H _ I h) λu q ⟨x,w,c,n,a,ex,d,v⟩=>?_);subst ex;obtain rfl:u=Bm a:=n;obtain⟨t,B,_⟩:=qwn c d;refine⟨t,B,?_⟩;rw[m.trees];refine CV rfl (DC (CA (thn (j b q σ w _ c v) λiv s2 ⟨y,l,k,z,ov,g,i⟩=>Db ?_)));exact d_get1N p k g z λw' s3 C f=>⟨_,l,C,f,i⟩
end
end Add
namespace Add
open PySem PySem.Spec PyProof.Rows L2
section
variable {X:Cx}{pins:List (Addr×Obj)}{σ:L2.St}{H:Hp}{s:Ae}
def tForK (te:TE)(g:TG)(tb:TS):TS:=λD σ H=>te σ H λx H1=>∃(d:Addr)(kvs:List (Key×V)),x=.ref d/\H1 d=some (.dK kvs)/\∀o:Obj,∃Pv:Nat->L2.St->Hp->Prop,Pv 0 σ (upd H1 d (.frz o (.dK kvs)))/\(∀i σ H,Pv i σ H->H d=some (.frz o (.dK kvs))) /\
 (∀(i:Nat)(kv:Key×V)(σ:L2.St)(H:Hp),kvs[i]?=some kv->Pv i σ H->g (kV kv.1) σ H λσ2 H2=>tb {nx:=Pv (i+1),rt:=λ_ _=>False,ct:=Pv (i+1)} σ2 H2)/\∀σ H,Pv kvs.length σ H->D.nx σ (upd H d (.dK kvs))
theorem kv_key {kvs:List (Key×V)}{vs:List (Key×Value)}(h:KV kvs vs){i:Nat}{a:Key×V}(e:kvs[i]?=some a):∃k u,vs[i]?=some (k,u)/\k=a.1:=by
 induction h generalizing i with
 |nil=>cases e
 |cons r _ ih =>
  cases i with|zero=>cases e;exact⟨_,_,Z,r.1.symm⟩|succ i=>exact ih e
theorem kV_rel {P:AK}{w:World}{k:Key}{u:Value}(h:(qat P w).is k u=true):RelV (kV k) u:=by
 rcases qaq h with ⟨i,t,rfl,rfl⟩|⟨x,t,rfl,rfl⟩
 .exact⟨t,Z⟩
 .exact⟨t,Z⟩
theorem qfc {tg e:Expr}{G:List Stmt}{te:TE}{g:TG}{tb:TS}{pos:Pos}(K:AY (model X.prog X.w) X.A X.env X.xe)(ae:X.calm=true)(he:PE X e te)(hg:PG X tg g)(p:PSs X G tb)
  (hs:∀x,foldedSetIterable e X.env x=pure x:=by intro _;rfl):PS X (.For tg e G [] pos) (tForK te g tb):=by
 intro j s σ H D I h;refine wpAny_For (thn (he j s σ H _ I h) λv M ⟨x,H1,F,U,q1⟩=>?_) hs;obtain⟨d,kvs,rfl,hd,q⟩:=q1;cases U;obtain⟨z,lo,vs,kv,hD⟩:=dk_of F.hok hd;obtain⟨ep,O⟩:=hD.dictAt;obtain⟨o,es,ho,hx,ai,U,r2,r3⟩:=id O;refine wpAny_pyIter_dict (knd:=qat X.prog X.w) (kvs:=vs) (ep:=ep) lo O ?_;obtain⟨Y,p0,pd,step,ah⟩:=q o;have lk:kvs.length=vs.length:=kv.length;have h0:∀u v,X.H₀ d≠some (.frz u v):=λu v e=>by have:=F.base.frzs d u v e;rw[hd]at this;cases this
 have hh:X.A.handled=none:=I.ok.hd ae;generalize C:M.heap.objs.size=it;have I3:Inv X j σ H1 {M with heap:=M.heap.push {cls:=.type "dict_keyiterator",data:=.fields #[.ref d,.int 0 0,.int vs.length 0,.int ep 0]} }:=F.kept (t':=M.toks) λb o q=>Ao _ q;have I4:=inv_frz I3 hd (Ao _ ho);have R:upd H1 d (.frz o (.dK kvs)) it=none:=by
  rw[qr (λe=>?_),<- C]
  .exact F.hok.fresh (Am _)
  .have:=F.hok.fresh (a:=it) (Ci C);rw[e,hd]at this;cases this
 have fp:∀{H':Hp},H' it=none->qi3 X j H' it:=λn=>⟨n,(F.fpOk (H':=upd H1 d (.frz o (.dK kvs))) (Ci C) R).2⟩;refine codeAny_forLoop_any (λn s'=>∃i σ' H',n=vs.length-i/\i<=vs.length/\Inv X j σ' H' s'/\s'.heap.IsKeyIter it d i vs.length ep/\H' it=none/\Y i σ' H') ?_ vs.length ⟨0,σ,_,Z,AU _,I4,⟨_,by rw[<- C];exact AR _ Z,Z,Z⟩,R,p0⟩;rintro n B ⟨i,σ5,y,rfl,hi,I5,Q,n5,p5⟩;have P:=pd i σ5 y p5;have ag:B.heap.get? d=some o:=(show ObjOk X.prog X.w y B.heap d (.frz o (.dK kvs)) from I5.hok d _ P).1;have J:B.heap.DictAt (qat X.prog X.w) d vs ep:=⟨o,es,ag,hx,ai,U,r2,r3⟩;obtain⟨f0,f1,f2,f3,f4,f5⟩:=fp n5;by_cases c:i<vs.length
 .have hk:kvs[i]?=some (kvs[i]'(by lia)):=Ad (by lia);obtain⟨k,u,e1,ek⟩:=kv_key kv hk;refine BE K (wpAny_pyNext_dict_item Q J e1 λu h' aj T sb=>?_);have V:Inv X j σ5 y {B with heap:=h'}:=I5.turned (t':=B.toks) (λb o p e=>(sb.2 b p).trans e) f0 f1 f3 f4 f5;refine BE K (letGo_keyiter T ?_);obtain⟨oi,N,ad,S⟩:=id T;have af:=V.pinned (fp:=[it]) (λb p=>by rw[Ah.mp p];exact fp n5) (λb p=>by rw[Ah.mp p];exact⟨oi,N,λv e=>by rw[S]at e;cases e⟩);refine BE K (thn (hg _ _ σ5 y _ u _ af (ek ▸ kV_rel aj) (step i _ σ5 y hk p5)) λ_ s6 ⟨σ6,H6,t,q6⟩=>?_);refine BE K (thn (p _ s6 σ6 H6 _ t q6) λf W L=>?_);have E:∀{σ7:L2.St}{r:Hp},Inv X (j++qi4 [it] h') σ7 r W->Y (i+1) σ7 r->∃m,m<vs.length-i/\∃i σ' H',m=vs.length-i/\i<=vs.length/\Inv X j σ' H' W/\W.heap.IsKeyIter it d i vs.length ep/\H' it=none/\Y i σ' H':=λ{σ7 r} I8 l=>by have pn:=I8.pin (it,oi) (A1 _ (A1 _ (qd0 (Ah.mpr Z) N)));exact⟨vs.length-(i+1),by lia,i+1,σ7,r,Z,by lia,I8.unpinned,⟨oi,pn.1,ad,S⟩,pn.2.1,l⟩
  cases f with
  |next=>obtain⟨σ7,r,t,l⟩:=L;exact E t l
  |cont=>obtain⟨σ7,r,t,l⟩:=L;exact E t l
  |brk=>obtain⟨σ7,r,t,l⟩:=L;exact l.elim
  |ret v=>obtain⟨x7,σ7,r,t,r7,l⟩:=L;exact l.elim
 .have ei:i=vs.length:=by lia
  refine BE K (wpAny_pyNext_dict_end hh Q J (AI (by lia)) λh' eb=>?_);have V:Inv X j σ5 y {B with heap:=h'}:=I5.turned (t':=B.toks) (λb o p e=>eb b o p e) f0 f1 f3 f4 f5;exact Dl ⟨σ5,_,qxa V P h0,ah σ5 y (by rw[lk,<- ei];exact p5)⟩
end
def DkV:Nat->Hp->V->V->Prop
 |0,_,v,u=>v=u/\qbt v=true
 |n+1,H,v,u=>(v=u/\qbt v=true) \/ ∃(p q:Addr)(xs ys:List V),v=.ref p/\u=.ref q/\((H p=some (.lst xs)/\H q=some (.lst ys))\/(H p=some (.tup xs)/\H q=some (.tup ys)))/\xs.length=ys.length/\∀(i:Nat)(x y:V),xs[i]?=some x->ys[i]?=some y->DkV n H x y
section
variable {X:Cx}{pins:List (Addr×Obj)}{σ:L2.St}{H:Hp}{s:Ae}
theorem qqk (I:Inv X pins σ H s){n:Nat}{A:AQ}{xs ys:List V}{us a:List Value}(f:Vals xs us)(k:Vals ys a)(o:∀(i:Nat) (x y:V),xs[i]?=some x->ys[i]?=some y->∀u w,RelV x u->RelV y w->Bd A s u w true) :
  ∀j (c:j<us.toArray.size) (g:j<a.toArray.size),Bd A s us.toArray[j] a.toArray[j] true:=by
 intro j c g;have q:=f.length;have r:=k.length;have d:j<xs.length:=by rw[q];simpa using c
 have e:j<ys.length:=by rw[r];simpa using g
 obtain⟨u,b,p⟩:=f.get (i:=j) (x:=xs[j]) (by simp[d]);obtain⟨w,l,h⟩:=k.get (i:=j) (x:=ys[j]) (by simp[e]);have m:us.toArray[j]=u:=by
  have:us[j]?=some us[j]:=by simp
  rw[this]at b;simpa using AE b
 have t:a.toArray[j]=w:=by
  have:a[j]?=some a[j]:=by simp
  rw[this]at l;simpa using AE l
 rw[m,t];exact o j _ _ (by simp[d]) (by simp[e]) _ _ p h
theorem qov (I:Inv X pins σ H s):∀{n:Nat}{A:AQ}{x y:V}{u w:Value},A.units+n<cLine->DkV n H x y->RelV x u->RelV y w->Bd A s u w true
 |0,A,x,y,u,w,_,h,g,a=>by obtain⟨rfl,f⟩:=h;have:=qom (A:=A) (s:=s) g a f f;rw[qp8 f]at this;exact this
 |n+1,A,x,y,u,w,hu,h,g,a=>by
  rcases h with ⟨rfl,f⟩|⟨p,q,xs,ys,rfl,rfl,h,E,D⟩
  .have:=qom (A:=A) (s:=s) g a f f;rw[qp8 f]at this;exact this
  .cases g;cases a;have un:A.in1.units=A.units+1:=rfl;have r:=λ(us B:List Value)(c:Vals xs us)(d:Vals ys B)=>qqk (n:=n) (A:=A.in1) I c d λi x y C F u w g a=>qov I (n:=n) (by lia) (D i x y C F) g a;by_cases j:p=q
   .subst j;exact Bd.same _
   .refine Bd.of_refs j ?_;rcases h with ⟨k,m⟩|⟨k,m⟩
    .obtain⟨its,c,l,_⟩:=I.list (SqL.of k);obtain⟨b,d,o,_⟩:=I.list (SqL.of m);have t:=c.length;have v:=d.length;have z:=SeqAt.RcAt.lists (A:=A) (e:=λ_=>true) l.isList o.isList (by rw[Ak,Ak];lia) (by lia) (r its b c d);rw[qga]at z;exact z
    .obtain⟨its,c,l,_⟩:=I.tuple (SqT.of k);obtain⟨b,d,o,_⟩:=I.tuple (SqT.of m);have t:=c.length;have v:=d.length;have z:=SeqAt.RcAt.tuples (A:=A) (e:=λ_=>true) (show s.heap.IsTuple p its.toArray from l) (show s.heap.IsTuple q b.toArray from o) (by lia) (r its b c d);rw[qga,Ak,Ak,<- t,<- v,E,beq_self_eq_true,Bool.and_true]at z;exact z
def DkD (n:Nat)(H:Hp)(v u:V):Prop:=∃(d e:Addr)(kvs kws:List (Key×V)),v=.ref d/\u=.ref e/\Rd H d (.dK kvs)/\Rd H e (.dK kws)/\kvs.length=kws.length/\∀k x,(k,x)∈kvs->∃y,qbf kws k=some y/\DkV n H x y
theorem qxd (I:Inv X pins σ H s){n:Nat}{A:AQ}(l:A.units+n<cLine){c:List (Key×V)}{d:List (Key×Value)}(q:KV c d):∀{kvs:List (Key×V)}{vs:List (Key×Value)},KV kvs vs->(∀k x,(k,x)∈kvs->∃y,qbf c k=some y/\DkV n H x y)->PySem.W.KeqHits A s d vs true:=by
 intro kvs vs r
 induction r with
 |nil=>intro _;exact .nil
 | @cons a b as bs h _ ih =>intro e;obtain⟨i,p⟩:=h;obtain⟨y,j,t⟩:=e a.1 a.2 Al;obtain⟨w,f,g⟩:=RelO.some_of (v:=y) (o:=valueAt d a.1) (by rw[<- j];exact q.val a.1);rw[i]at f;have z:=PySem.W.KeqHits.hit (A:=A) (s:=s) (v:=b.2) f (qov I l t p g) (ih λk x m=>e k x (Az _ m));exact z
end
section
variable {X:Cx}
def rNeDk:R2:=λx y H Q=>∃n,n<=20/\((DkV n H x y)\/DkD n H x y)/\Q (.bl false) H
theorem op_neDk (hu:X.A.units+64<cLine):OpR X (compareOp .NotEq) rNeDk:=by
 intro c s σ H x y v u Q I B E h;obtain⟨n,hn,h,q⟩:=h;have un:X.A.in1.units=X.A.units+1:=rfl;have j:∀{s'},s'=s->EP X c σ Q (.bool false) s':=λe=>by rw[e];exact⟨.bl false,H,I,Z,q⟩
 rcases h with h|⟨d,e,kvs,kws,rfl,rfl,k,m,C,z⟩
 .have l:x=y/\qbt x=true->wpAny (model X.prog X.w) X.A (compareOp .NotEq v u) (EP X c σ Q) X.xe s:=λ⟨e,f⟩=>by
   subst e
   refine op_ne c s σ H x x v u Q I B E ⟨?_,by simpa using q⟩
   cases x <;>first|rfl|cases f
  cases n with
  |zero=>exact l h
  |succ n =>
   rcases h with h|⟨p,T,xs,ys,rfl,rfl,h,C,z⟩
   .exact l h
   .cases B;cases E;have J:=λ(us G:List Value)(b:Vals xs us)(g:Vals ys G)=>qqk (n:=n) (A:=X.A.in1) I b g λi x y P U u w R N=>qov I (n:=n) (by lia) (z i x y P U) R N;rcases h with ⟨k,m⟩|⟨k,m⟩
    .obtain⟨its,b,t,_⟩:=I.list (SqL.of k);obtain⟨a,g,D,_⟩:=I.list (SqL.of m);have L:=b.length;have M:=g.length;refine DR.lists (e:=λ_=>true) t.isList D.isList (by rw[Ak,Ak];lia) (by lia) (J its a b g) _ _ _ _ ?_;rw[qga];exact j rfl
    .obtain⟨its,b,t,_⟩:=I.tuple (SqT.of k);obtain⟨a,g,D,_⟩:=I.tuple (SqT.of m);have L:=b.length;have M:=g.length;refine DR.tuples (e:=λ_=>true) (show s.heap.IsTuple p its.toArray from t) (show s.heap.IsTuple T a.toArray from D) (by lia) (J its a b g) _ _ _ _ ?_;rw[qga,Ak,Ak,<- L,<- M,C,beq_self_eq_true,Bool.and_true];exact j rfl
 .cases B;cases E;obtain⟨z1,F,vs,o,O⟩:=qfv I.hok k;obtain⟨z2,K,G,r,S⟩:=qfv I.hok m;refine PySem.W.keq_ne F K O S (by lia) (λ_=>qxd I (A:=X.A.in1) (by lia) r o z) ?_;rw[<- o.length,<- r.length,C,beq_self_eq_true];exact j rfl
end
end Add
namespace Lam
open PySem PySem.Spec PyProof.Rows L2 Add PySem.W PySem.Calls
section
open PySem.SeqAt
open PySem.AutoSeq1 (wpAny_loadPart')
open PySem.MeetsSeq PySem.MeetsSeq2 PySem.MeetsSeq3
open HT
end
section
variable {X:Cx}
end
end Lam
namespace Add
open PySem PySem.Spec PyProof.Rows L2
theorem qvd:bootBuiltins "len"=some (.builtin "len"):=Ez
section
variable {X:Cx}
def tLS (K:Ag)(t:TA):TE:=λσ H Q=>t σ H λvs H1=>∃(l:Addr)(ss:List Str),vs=[.ref l]/\SqL K H1 l (ss.map V.str)/\ss.length<=4000/\Q (.int ((Sts.onceL ss).length:Int)) H1
theorem qve {e:Expr}{t:TA}{p y pos a:Pos}(x:X.calm=true)(j:Gl X "len")(r:X.mg "len"=none)(m:Gl X "set")(n:X.mg "set"=none)(D:PA X [e] t)
  (B:starEach [e] X.env=(false,eval e X.env)::starEach [] X.env:=by rfl):PE X (.Call (.Name "len" p) [.Call (.Name "set" y) [e] [] a] [] pos) (tLS X.K t):=by
 intro b s σ H Q I h;refine BN (qep I j r qvd ?_);refine PyProof.Rows.callWith_builtin1 ?_ rfl rfl;show wpAny _ _ (spliced ((false,eval (.Call (.Name "set" y) [e] [] a) X.env)::[])) _ _ s;refine CA ?_;refine BN (qep I m n qw9 ?_);refine BM (thn (D a b s σ H _ I h) λus s1 ⟨vs,P,d,O,M⟩=>?_) B rfl;obtain⟨l,ss,rfl,J,l4,q⟩:=M;obtain⟨u,rfl,E⟩:=qne O;cases E;obtain⟨its,N,pl,hz⟩:=d.list J;have z:=qlh N;have c:=z.len_eq;have F:X.A.handled=none:=I.ok.hd x;refine Sts.call_set_str (ss:=ss) F pl.isList (λi v f=>?_) (by rw[Ak];exact c.symm) (by rw[Ak,c];unfold scanBound;lia) λh' tk G kp tl=>Db ?_
 .obtain⟨k,t,C,S⟩:=z.item i v (by rw[List.getElem?_toArray]at f;exact f);exact⟨k,t,S,C⟩
 obtain⟨o,es,ep,t,L,w,hd,hel,hmem,hb,R,g,hpl⟩:=G;have ol:=Sts.onceL_le ss;refine call_len_set L w hd R (by rw[g];lia) ?_;rw[g];exact⟨.int _,P,d.kept kp,⟨_,Z⟩,q⟩
theorem qxe {K:Ag}(h:X.K=K):OpR X (compareOp .In) (rIn K false):=by subst h;exact qct
theorem qnx {K:Ag}(h:X.K=K):OpR X (compareOp .NotIn) (rIn K true):=by subst h;exact qh8
theorem op_neTK {K:Ag}(h:X.K=K)(a:X.A.units<cLine):OpR X (compareOp .NotEq) (rEqT K λz=>!z):=by subst h;exact op_neT a
end
end Add
namespace Cal
noncomputable def lb (y:Int):Int:=(3*y+14) / 17
noncomputable def fw (y:Int):Int:=52*y+(3*y+14) / 17
noncomputable def yo (w:Int):Int:=(17*w+2) / 887
noncomputable def wk (y:Int):Int:=if 3*y % 17<3 then 53 else 52
theorem qie (y:Int):fw (y+1)=fw y+wk y:=by unfold fw wk;rw[show 3*(y+1)+14=3*y+17 by lia,show 52*(y+1)=52*y+52 by lia];generalize 3*y=z;split <;>lia
theorem qny (y:Int):52<=wk y/\wk y<=53:=by unfold wk;split <;>lia
theorem lies (w:Int):fw (yo w)<=w/\w<fw (yo w+1):=by unfold fw yo;lia
theorem qti {w y:Int}(h1:fw y<=w)(h2:w<fw (y+1)):yo w=y:=by unfold fw at *;unfold yo;lia
theorem fw_nn {y:Int}(h:0<=y):0<=fw y:=by unfold fw;lia
theorem lb_up (n:Int):(3*(n+1)+14) / 17=(3*n+14) / 17+(wk n-52):=by have:=qie n;unfold fw at this;lia
structure Ok (y w d:Int):Prop where
 y0:0<=y
 w1:1<=w
 w2:w<=wk y
 d1:1<=d
 d2:d<=7
def dn (y w d:Int):Int:=7*(fw y+w-1)+d-1
noncomputable def cell (ns:List Int)(k:Int):Int:=ns.getD k.toNat 0
end Cal
namespace K56
open PySem L2 Add
def nmc {α β:Type}{t:β}{f:α->β}{P:α->Prop}{v:α}(e:t=f v)(h:P v):∃v,t=f v/\P v:=⟨v,e,h⟩
def iic {α β γ δ:Type}{x:γ}{y:δ}{f:α->γ}{g:β->δ}{P:α->β->Prop}{i:α}{j:β}(e:x=f i)(a:y=g j)(h:P i j):∃i j,x=f i/\y=g j/\P i j:=⟨i,j,e,a,h⟩
def icc {α β γ δ:Type}{x:γ}{y:δ}{f:α->γ}{g:β->δ}{C P:α->β->Prop}{i:α}{j:β}(e:x=f i)(a:y=g j)(c:C i j)(h:P i j):∃i j,x=f i/\y=g j/\C i j/\P i j:=⟨i,j,e,a,c,h⟩
def lxc {K:Ag}{H:Hp}{p:Addr}{xs:List V}{i:Int}{v:V}{P:V->Prop}(s:SqL K H p xs)(e:atI xs i=some v)(h:P v):∃p' xs' i' v',V.ref p=.ref p'/\V.int i=.int i'/\SqL K H p' xs'/\atI xs' i'=some v'/\P v':=⟨p,xs,i,v,Z,Z,s,e,h⟩
def txc {K:Ag}{H:Hp}{p:Addr}{xs:List V}{i:Int}{v:V}{P:V->Prop}(s:SqT K H p xs)(e:atI xs i=some v)(h:P v):∃p' xs' i' v',V.ref p=.ref p'/\V.int i=.int i'/\SqT K H p' xs'/\atI xs' i'=some v'/\P v':=⟨p,xs,i,v,Z,Z,s,e,h⟩
def flc {H:Hp}{a C b:Addr}{fs:List (Str×V)}{v:V}{A B:Addr->Prop}{L:List (Str×V)->V->Prop}{P:V->Prop}(h:H a=some (.ins C b fs))(c:A C)(n:B C)(l:L fs v)(q:P v):∃a' C' dx' fs' v',V.ref a=.ref a'/\H a'=some (.ins C' dx' fs')/\A C'/\B C'/\L fs' v'/\P v':=⟨a,C,b,fs,v,Z,h,c,n,l,q⟩
def lxo {K:Ag}{H:Hp}{p:Addr}{xs:List V}{i:Int}{v:V}{P:V->Prop}(s:H p=some (.lst xs))(e:atI xs i=some v)(h:P v):∃p' xs' i' v',V.ref p=.ref p'/\V.int i=.int i'/\SqL K H p' xs'/\atI xs' i'=some v'/\P v':=lxc (SqL.of s) e h
def txo {K:Ag}{H:Hp}{p:Addr}{xs:List V}{i:Int}{v:V}{P:V->Prop}(s:H p=some (.tup xs))(e:atI xs i=some v)(h:P v):∃p' xs' i' v',V.ref p=.ref p'/\V.int i=.int i'/\SqT K H p' xs'/\atI xs' i'=some v'/\P v':=txc (SqT.of s) e h
noncomputable def top (i:Nat):Stmt:=PySem.Challenge.pw_termcourt_k56_what_did_nothing.main.body.getD i (.Pass ⟨0,0,0,0⟩)
abbrev qer:Stmt:=qaj (top 3) 0
abbrev qow:Stmt:=top 6
abbrev qlk:Stmt:=top 8
abbrev qfd:Stmt:=top 10
abbrev qr8:Stmt:=top 11
abbrev qox:Stmt:=top 14
abbrev qje:Stmt:=top 13
abbrev qll:Stmt:=top 12
abbrev qdc:Stmt:=qaj (top 3) 1
abbrev qes:Stmt:=qaj (top 4) 0
abbrev qd7:Stmt:=qaj (top 3) 4
abbrev qgc:Stmt:=top 40
abbrev qcr:Stmt:=qaj (top 52) 3
abbrev qdd:Stmt:=qaj (top 52) 5
abbrev qhn:Stmt:=top 41
abbrev qgd:Stmt:=qaj (top 52) 4
abbrev qoy:Stmt:=top 42
abbrev qlm:Stmt:=top 44
abbrev qoz:Stmt:=top 43
abbrev qho:Stmt:=top 53
abbrev qd8:Stmt:=qaj (top 52) 2
abbrev qge:Stmt:=qaj (top 64) 1
abbrev qfe:Stmt:=qaj (top 64) 3
abbrev qjf:Stmt:=qaj (top 64) 4
abbrev qdp:Stmt:=qaj (top 5) 2
abbrev qcs:Stmt:=qaj (top 3) 3
abbrev qcj:Stmt:=qaj (top 5) 1
abbrev qln:Stmt:=top 16
abbrev qd9:Stmt:=qaj (top 64) 5
abbrev qjg:Stmt:=top 18
abbrev qlo:Stmt:=top 17
abbrev qdn:Stmt:=top 22
abbrev qff:Stmt:=qaj (top 38) 2
abbrev qgf:Stmt:=qaj (top 38) 3
abbrev qhp:Stmt:=qaj (top 20) 4
abbrev qhq:Stmt:=top 25
abbrev qde:Stmt:=qaj (top 36) 2
abbrev qgv:Stmt:=qaj (top 36) 1
abbrev qfg:Stmt:=qaj (top 20) 8
abbrev qlp:Stmt:=qaj (top 20) 13
abbrev qhr:Stmt:=qaj (top 20) 9
abbrev qgg:Stmt:=qaj (top 20) 3
abbrev qfh:Stmt:=qaj (top 20) 2
abbrev qea:Stmt:=qaj (top 20) 7
abbrev qhs:Stmt:=qaj (top 20) 1
abbrev qet:Stmt:=qaj (top 20) 10
abbrev qfi:Stmt:=qaj (top 20) 11
abbrev qlq:Stmt:=qaj (top 20) 12
abbrev qjh:Stmt:=qaj (top 20) 6
abbrev qlr:Stmt:=qaj (top 20) 5
abbrev qc2:Stmt:=qaj (top 20) 0
abbrev qxf:Stmt:=top 24
abbrev qeu:Stmt:=qaj (top 20) 15
abbrev qgh:Stmt:=qaj (top 20) 14
abbrev qif:Stmt:=top 23
abbrev qls:Stmt:=top 34
abbrev qev:Stmt:=top 33
abbrev qdh:Stmt:=top 54
abbrev qht:Stmt:=top 55
abbrev qhu:Stmt:=top 57
abbrev qgi:Stmt:=top 56
abbrev qji:Stmt:=top 59
abbrev qew:Stmt:=top 58
abbrev qfj:Stmt:=top 65
abbrev qr9:Stmt:=top 67
abbrev qgj:Stmt:=top 66
abbrev qhv:Stmt:=top 69
abbrev qjj:Stmt:=top 70
abbrev qjk:Stmt:=top 71
abbrev qcf:Stmt:=qaj (top 36) 0
abbrev qig:Stmt:=top 72
abbrev qlt:Stmt:=top 73
abbrev qih:Stmt:=top 74
abbrev qii:Stmt:=top 75
abbrev qjl:Stmt:=top 76
abbrev qgw:Stmt:=top 77
abbrev qjm:Stmt:=top 78
abbrev qdo:Stmt:=top 79
abbrev qjn:Stmt:=qaj (top 38) 0
abbrev qc3:Stmt:=qaj (top 52) 0
abbrev qba:Stmt:=qaj (top 64) 0
abbrev qmz:Stmt:=top 80
structure DefAt (K:Ag)(mg:Str->Option Value)(x:Str)(st:Stmt)(ps:List Str)(f:Addr)(fd:Ay):Prop where
 fn:Fun K x x st f fd
 mgx:mg x=some (.ref f)
 bd:Binds K fd ps []
abbrev Pd (K:Ag)(x:Str)(st:Stmt)(f:Addr):Prop:=∃(oc:Value)(od:Option Addr)(kV doc pm:Value)(an:Option Addr)(cdv ct:Value)(osl:Array (Option Value)),AJ K A4 x=some (some (.ref f))/\K.lookup f=some ⟨oc,od,.func (Bg x x (qa4 st) (qaw st) (qaa st) .none kV doc pm an cdv ct),osl⟩/\B9 K cdv x=true/\Bu K (.ref f)=true
abbrev Pm (K:Ag)(C:Addr)(x q:Str)(st:Stmt)(f:Addr):Prop:=∃(oc:Value)(od:Option Addr)(kV doc pm:Value)(an:Option Addr)(cdv ct:Value)(osl:Array (Option Value)),Bf K (.ref C) x=some (some (.ref f))/\C9 K (.ref f)=some (.type "function")/\K.lookup f=some ⟨oc,od,.func (Bg x q (qa4 st) (qaw st) (qaa st) .none kV doc pm an cdv ct),osl⟩/\B9 K cdv q=true/\Bu K (.ref f)=true
def pd_of {K:Ag}{x:Str}{st:Stmt}{f:Addr}{i:Value}{h:Option Addr}{kV d j:Value}{g:Option Addr}{b ct:Value}{e:Array (Option Value)}(a:AJ K A4 x=some (some (.ref f)))(l:K.lookup f=some ⟨i,h,.func (Bg x x (qa4 st) (qaw st) (qaa st) .none kV d j g b ct),e⟩)(c:B9 K b x=true)(k:Bu K (.ref f)=true):Pd K x st f:=⟨i,h,kV,d,j,g,b,ct,e,a,l,c,k⟩
def pm_of {K:Ag}{C:Addr}{x q:Str}{st:Stmt}{f:Addr}{j:Value}{h:Option Addr}{kV e i:Value}{g:Option Addr}{b ct:Value}{d:Array (Option Value)}(a:Bf K (.ref C) x=some (some (.ref f)))(t:C9 K (.ref f)=some (.type "function"))(l:K.lookup f=some ⟨j,h,.func (Bg x q (qa4 st) (qaw st) (qaa st) .none kV e i g b ct),d⟩)(c:B9 K b q=true)(k:Bu K (.ref f)=true):Pm K C x q st f:=⟨j,h,kV,e,i,g,b,ct,d,a,t,l,c,k⟩
def qa0 {K:Ag}{h:Heap}{mg:Str->Option Value}{x:Str}{st:Stmt}{f:Addr}(X:K.In h)(G:h.Ns A4 mg)(p:Pd K x st f){ps:List Str}(b:∀(kV e i:Value) (g:Option Addr) (d ct:Value) (us:List Value),us.length=ps.length->bindArgs (Bg x x (qa4 st) (qaw st) (qaa st) .none kV e i g d ct) ⟨us,[]⟩=pure (ps.zip us)):∃fd,DefAt K mg x st ps f fd:=by obtain⟨oc,od,kV,e,i,g,d,ct,osl,a,l,c,k⟩:=p;have F:=qon (st:=st) l c k;exact⟨_,F,Be X G a,F.binds b⟩
def qa7 {K:Ag}{C:Addr}{x q:Str}{st:Stmt}{f:Addr}(p:Pm K C x q st f){ps:List Str}(b:∀(kV e h:Value) (g:Option Addr) (d ct:Value) (us:List Value),us.length=ps.length->bindArgs (Bg x q (qa4 st) (qaw st) (qaa st) .none kV e h g d ct) ⟨us,[]⟩=pure (ps.zip us)):∃fd,MethAt K x q st ps f fd:=by obtain⟨oc,od,kV,e,h,g,d,ct,osl,a,t,l,c,k⟩:=p;have F:=qon (st:=st) l c k;exact⟨_,F,F.binds b,t⟩
def qcy {p:List Value->Prop}(h:∀x0,p [x0]):∀us,us.length=1->p us:=λus a=>by obtain⟨x,rfl⟩:=List.length_eq_one_iff.mp a;exact h x
def qql {p:List Value->Prop}{n:Nat}(h:∀x t,t.length=n->p (x::t)):∀us,us.length=n+1->p us:=λus a=>by obtain⟨x,t,rfl⟩:=List.exists_cons_of_length_eq_add_one a;exact h x t (Nat.succ.inj a)
def qcz {p:List Value->Prop}(h:∀x0 x1,p [x0,x1]):∀us,us.length=2->p us:=qql λx=>qcy (h x)
def qhw {p:List Value->Prop}(h:∀x0 x1 x2,p [x0,x1,x2]):∀us,us.length=3->p us:=qql λx=>qcz (h x)
def qqm {p:List Value->Prop}(h:∀x0 x1 x2 x3,p [x0,x1,x2,x3]):∀us,us.length=4->p us:=qql λx=>qhw (h x)
def arg5 {p:List Value->Prop}(h:∀x0 x1 x2 x3 x4,p [x0,x1,x2,x3,x4]):∀us,us.length=5->p us:=qql λx=>qqm (h x)
def arg6 {p:List Value->Prop}(h:∀x0 x1 x2 x3 x4 x5,p [x0,x1,x2,x3,x4,x5]):∀us,us.length=6->p us:=qql λx=>arg5 (h x)
def arg7 {p:List Value->Prop}(h:∀x0 x1 x2 x3 x4 x5 x6,p [x0,x1,x2,x3,x4,x5,x6]):∀us,us.length=7->p us:=qql λx=>arg6 (h x)
def arg8 {p:List Value->Prop}(h:∀x0 x1 x2 x3 x4 x5 x6 x7,p [x0,x1,x2,x3,x4,x5,x6,x7]):∀us,us.length=8->p us:=qql λx=>arg7 (h x)
def arg9 {p:List Value->Prop}(h:∀x0 x1 x2 x3 x4 x5 x6 x7 x8,p [x0,x1,x2,x3,x4,x5,x6,x7,x8]):∀us,us.length=9->p us:=qql λx=>arg8 (h x)
set_option genInjectivity false
set_option genSizeOf false
set_option genSizeOfSpec false
structure Adr where
 bJ:Addr
 mS:Ay
 rC:Addr
 t9:Ay
 rJ:Addr
 mJ:Ay
 tE:Addr
 mQ:Ay
 pO:Addr
 tP:Ay
 rK:Addr
 rM:Ay
 tZ:Addr
 tL:Ay
 mH:Addr
 mM:Ay
 gP:Addr
 dD:Ay
 bO:Addr
 lQ:Ay
 gW:Addr
 fD:Ay
 mZ:Addr
 tR:Ay
 lR:Addr
 nY:Ay
 hG:Addr
 xP:Ay
 rT:Addr
 sM:Ay
 m4:Addr
 rS:Ay
 sY:Addr
 xG:Ay
 y9:Addr
 xM:Ay
 tN:Addr
 mT:Ay
 pP:Addr
 tG:Ay
 fL:Addr
 mF:Ay
 fU:Addr
 xX:Ay
 fO:Addr
 nR:Ay
 fS:Addr
 sH:Ay
 bN:Addr
 fZ:Ay
 gQ:Addr
 dS:Ay
 bG:Addr
 lI:Ay
 sQ:Addr
 xI:Ay
 lE:Addr
 xY:Ay
 mW:Addr
 tQ:Ay
 mI:Addr
 nJ:Ay
 sR:Addr
 bL:Ay
 fP:Addr
 mU:Ay
 hZ:Addr
 mN:Ay
 lP:Addr
 nD:Ay
 xA:Addr
 yC:Ay
 hU:Addr
 nV:Ay
 fM:Addr
 xD:Ay
 fY:Addr
 nN:Ay
 lB:Addr
 rL:Ay
 l9:Addr
 nZ:Ay
 bD:Addr
 bK:Ay
 bA:Addr
 bQ:Ay
 m8:Addr
 tO:Ay
 fK:Addr
 tK:Ay
 lC:Addr
 tU:Ay
 mB:Addr
 sU:Ay
 lU:Addr
 tT:Ay
 lH:Addr
 pD:Ay
 lV:Addr
 rZ:Ay
 m6:Addr
 rH:Ay
 xU:Addr
 xH:Ay
 m5:Addr
 pJ:Ay
 fV:Addr
 rO:Ay
 pK:Addr
 rE:Ay
 mR:Addr
 pV:Ay
 tH:Addr
 rY:Ay
 r8:Addr
 nO:Ay
 xN:Addr
 xF:Ay
 rF:Addr
 pZ:Ay
 tW:Addr
 xC:Ay
 pH:Addr
 pR:Ay
 xV:Addr
 mO:Ay
 nA:Addr
 sK:Ay
 mP:Addr
 rB:Ay
 tV:Addr
 yG:Ay
 tY:Addr
 rD:Ay
 tD:Addr
 mL:Ay
 rR:Addr
 sL:Ay
 fX:Addr
 pU:Ay
 nE:Addr
 nC:Ay
 mK:Addr
 nM:Ay
 xK:Addr
 xL:Ay
 rV:Addr
 xS:Ay
 rX:Addr
 xW:Ay
 nL:Addr
 xZ:Ay
 xJ:Addr
 sT:Ay
 rA:Addr
 sG:Ay
 fQ:Addr
 rN:Ay
 hM:Addr
 sV:Ay
 hX:Addr
 lG:Ay
 mG:Addr
 nK:Ay
 kO:Addr
 kN:Addr
 kP:Addr
 kK:Addr
 kE:Addr
 kA:Addr
 kI:Addr
 kR:Addr
 lD:Addr
structure Txt (K:Ag)(mg:Str->Option Value)(a:Adr):Prop where
 fF:MethAt K "__init__" "Counting.__init__" qer ["self","table"] a.bJ a.mS
 dN:DefAt K mg "kind_of" qow ["unit","table"] a.rC a.t9
 kZ:DefAt K mg "is_whole" qlk ["thing"] a.rJ a.mJ
 gL:DefAt K mg "is_stretch_of" qfd ["first","last","most"] a.tE a.mQ
 gF:DefAt K mg "place" qr8 ["stretches","day"] a.pO a.tP
 bZ:DefAt K mg "joined" qox ["laid"] a.rK a.rM
 bS:DefAt K mg "laid_over" qje ["laid","first","last","word"] a.tZ a.tL
 fE:DefAt K mg "overlay" qll ["rows"] a.mH a.mM
 mE:MethAt K "days_for" "Counting.days_for" qdc ["self","units"] a.gP a.dD
 yD:MethAt K "days_for" "Weeks.days_for" qes ["self","units"] a.bO a.lQ
 mC:MethAt K "reach" "Counting.reach" qd7 ["self","first","many"] a.gW a.fD
 gJ:DefAt K mg "long_before" qgc ["year"] a.mZ a.tR
 bI:MethAt K "before_year" "Pattern.before_year" qcr ["self","year"] a.lR a.nY
 xQ:MethAt K "year_with" "Pattern.year_with" qdd ["self","many"] a.hG a.xP
 gM:DefAt K mg "first_week" qhn ["year"] a.rT a.sM
 l6:MethAt K "nth" "Pattern.nth" qgd ["self","many"] a.m4 a.rS
 gX:DefAt K mg "year_of" qoy ["week"] a.sY a.xG
 dB:DefAt K mg "weekday" qlm ["day"] a.y9 a.xM
 dL:DefAt K mg "date_of" qoz ["day"] a.tN a.mT
 dO:DefAt K mg "day_of_year" qho ["day"] a.pP a.tG
 fA:MethAt K "before" "Pattern.before" qd8 ["self","day"] a.fL a.mF
 lJ:MethAt K "shift" "Table.shift" qge ["self","row","end"] a.fU a.xX
 gU:MethAt K "before" "Table.before" qfe ["self","day"] a.fO a.nR
 lA:MethAt K "nth" "Table.nth" qjf ["self","many"] a.fS a.sH
 xB:MethAt K "reach" "CourtDays.reach" qdp ["self","first","many"] a.bN a.fZ
 lW:MethAt K "counted_in" "Counting.counted_in" qcs ["self","first","last"] a.gQ a.dS
 rW:MethAt K "counted_in" "CourtDays.counted_in" qcj ["self","first","last"] a.bG a.lI
 dR:DefAt K mg "full_day" qln ["kind","start","units","pauses"] a.sQ a.xI
 mD:MethAt K "next_open" "Table.next_open" qd9 ["self","day"] a.lE a.xY
 dQ:DefAt K mg "first_due" qjg ["table","day","pauses"] a.mW a.tQ
 kY:DefAt K mg "last_day" qlo ["kind","start","units","pauses"] a.mI a.nJ
 bX:DefAt K mg "in_order" qdn ["acts"] a.sR a.bL
 nQ:MethAt K "hanging" "Book.hanging" qff ["self"] a.fP a.mU
 tS:MethAt K "rule_of" "Book.rule_of" qgf ["self","name"] a.hZ a.mN
 xR:MethAt K "is_over" "Run.is_over" qhp ["self"] a.lP a.nD
 dU:DefAt K mg "is_running" qhq ["runs"] a.xA a.yC
 pY:MethAt K "role_in_still" "Rule.role_in_still" qde ["self","kind"] a.hU a.nV
 rQ:MethAt K "role" "Rule.role" qgv ["self","kind"] a.fM a.xD
 lZ:MethAt K "is_halted" "Run.is_halted" qfg ["self"] a.fY a.nN
 hJ:MethAt K "go_on" "Run.go_on" qlp ["self","day"] a.lB a.rL
 pN:MethAt K "finish" "Run.finish" qhr ["self","day"] a.l9 a.nZ
 gH:MethAt K "lasts_to" "Run.lasts_to" qgg ["self"] a.bD a.bK
 gE:MethAt K "starts_on" "Run.starts_on" qfh ["self"] a.bA a.bQ
 xT:MethAt K "is_under_way" "Run.is_under_way" qea ["self","day"] a.m8 a.tO
 lK:MethAt K "set_out" "Run.set_out" qhs ["self","day","base"] a.fK a.tK
 pW:MethAt K "begin_anew" "Run.begin_anew" qet ["self","day"] a.lC a.tU
 nU:MethAt K "lengthen" "Run.lengthen" qfi ["self","kind"] a.mB a.sU
 tJ:MethAt K "halt" "Run.halt" qlq ["self","day"] a.lU a.tT
 rG:MethAt K "works" "Run.works" qjh ["self","word","day","kind"] a.lH a.pD
 mY:MethAt K "feel" "Run.feel" qlr ["self","name","day","kind"] a.lV a.rZ
 sS:MethD K "__init__" "Run.__init__" qc2 ["self","rule","table","name","day","base"] a.m6 a.rH
 fJ:DefAt K mg "take" qxf ["book","table","runs","act"] a.xU a.xH
 yF:MethAt K "state_word" "Run.state_word" qeu ["self","last"] a.m5 a.pJ
 n9:MethAt K "account" "Run.account" qgh ["self"] a.fV a.rO
 gT:DefAt K mg "history" qif ["book","table","acts"] a.pK a.rE
 fG:DefAt K mg "untaken" qls ["name","bases","taken"] a.mR a.pV
 bW:DefAt K mg "hanging_order" qev ["rules"] a.tH a.rY
 bR:DefAt K mg "is_free_within" qdh ["within","week","yearly"] a.r8 a.nO
 bV:DefAt K mg "counted_up" qht ["free_days"] a.xN a.xF
 bU:DefAt K mg "is_weekday" qhu ["thing"] a.rF a.pZ
 dG:DefAt K mg "refuse_week" qgi ["week"] a.tW a.xC
 dX:DefAt K mg "is_yearly" qji ["thing"] a.pH a.pR
 fH:DefAt K mg "refuse_yearly" qew ["yearly"] a.xV a.mO
 gC:DefAt K mg "list_or_empty" qfj ["things"] a.nA a.sK
 dJ:DefAt K mg "is_row" qr9 ["row"] a.mP a.rB
 dE:DefAt K mg "refuse_rows" qgj ["rows"] a.tV a.yG
 gA:DefAt K mg "_law_cell_at" qhv ["_law_script","_law_k"] a.tY a.rD
 kL:DefAt K mg "_law_mixed" qjj ["_law_script","_law_k"] a.tD a.mL
 gK:DefAt K mg "_law_words" qjk ["_law_cell","_law_many"] a.rR a.sL
 yE:MethD K "__init__" "Rule.__init__" qcf ["self","name","who","owes","opens","base","many","unit","still"] a.fX a.pU
 dZ:DefAt K mg "_law_rule" qig ["_law_script","_law_at","_law_k","_law_names","_law_kinds"] a.nE a.nC
 dW:DefAt K mg "_law_book" qlt ["_law_script","_law_names","_law_kinds"] a.mK a.nM
 gS:DefAt K mg "_law_menu" qih ["_law_rules"] a.xK a.xL
 dP:DefAt K mg "_law_acts" qii ["_law_script","_law_rules","_law_names","_law_first","_law_many"] a.rV a.xS
 dC:DefAt K mg "_law_chain" qjl ["_law_rules","_law_name"] a.rX a.xW
 gR:DefAt K mg "_law_named" qgw ["_law_told","_law_chain_here"] a.nL a.xZ
 dI:DefAt K mg "_law_alone" qjm ["_law_told"] a.xJ a.sT
 dH:DefAt K mg "_law_strange" qdo ["_law_rules","_law_chain_here","_law_kinds"] a.rA a.sG
 yH:MethAt K "__init__" "Book.__init__" qjn ["self","rules"] a.fQ a.rN
 pC:MethAt K "__init__" "Pattern.__init__" qc3 ["self","week","yearly"] a.hM a.sV
 zA:MethD K "__init__" "Table.__init__" qba ["self","week","yearly","rows"] a.hX a.lG
 zR:DefAt K mg "law" qmz ["_law_script"] a.mG a.nK
 zY:Binds K a.lG ["self","week","yearly","rows"] [.none,.none]
 zO:mg "Book"=some (.ref a.kO)
 gI:Cls K a.kO
 yI:Mk K a.kO a.fQ
 bC:xNo K a.kO ["free_days","open_days","open_before","pattern","rows","shifts","table","name","who","owes","opens","base","many","unit","still","ends","anew","longer","yields","rule","counting","over","day","units","pauses","grants","order","by_name"]=true
 yP:Meth K a.kO "hanging" a.fP
 yN:Meth K a.kO "rule_of" a.hZ
 yO:mg "Counting"=some (.ref a.kN)
 bH:Cls K a.kN
 zP:Mk K a.kN a.bJ
 yB:xNo K a.kN ["free_days","open_days","open_before","pattern","rows","shifts","table","name","who","owes","opens","base","many","unit","still","ends","anew","longer","yields","rule","counting","over","day","units","pauses","grants","order","by_name"]=true
 zG:Meth K a.kN "counted_in" a.gQ
 zZ:Meth K a.kN "days_for" a.gP
 zC:Meth K a.kN "reach" a.gW
 KZ:qu6 K a.kN=true
 KP:AX K (.ref a.kN) (.ref a.kN)=some true
 KO:AX K (.ref a.kN) (.ref a.kR)=some false
 G3:AX K (.ref a.kN) (.ref a.kP)=some false
 KS:Meth K a.kN "days_for" a.gP
 KJ:Meth K a.kN "reach" a.gW
 KM:Meth K a.kN "counted_in" a.gQ
 K8:mg "CourtDays"=some (.ref a.kP)
 gG:Cls K a.kP
 KA:Mk K a.kP a.bJ
 gZ:xNo K a.kP ["free_days","open_days","open_before","pattern","rows","shifts","table","name","who","owes","opens","base","many","unit","still","ends","anew","longer","yields","rule","counting","over","day","units","pauses","grants","order","by_name"]=true
 zH:Meth K a.kP "counted_in" a.bG
 yL:Meth K a.kP "days_for" a.gP
 zF:Meth K a.kP "reach" a.bN
 KW:qu6 K a.kP=true
 G0:AX K (.ref a.kP) (.ref a.kN)=some true
 G1:AX K (.ref a.kP) (.ref a.kR)=some false
 KY:AX K (.ref a.kP) (.ref a.kP)=some true
 G2:Meth K a.kP "reach" a.bN
 KH:Meth K a.kP "counted_in" a.bG
 yU:mg "Pattern"=some (.ref a.kK)
 kQ:Cls K a.kK
 zW:Mk K a.kK a.hM
 gD:xNo K a.kK ["free_days","open_days","open_before","pattern","rows","shifts","table","name","who","owes","opens","base","many","unit","still","ends","anew","longer","yields","rule","counting","over","day","units","pauses","grants","order","by_name"]=true
 fC:Meth K a.kK "before_year" a.lR
 zN:Meth K a.kK "year_with" a.hG
 xE:Meth K a.kK "nth" a.m4
 hV:Meth K a.kK "before" a.fL
 yW:mg "Rule"=some (.ref a.kE)
 kG:Cls K a.kE
 yJ:Mk K a.kE a.fX
 kH:xNo K a.kE ["free_days","open_days","open_before","pattern","rows","shifts","table","name","who","owes","opens","base","many","unit","still","ends","anew","longer","yields","rule","counting","over","day","units","pauses","grants","order","by_name"]=true
 KG:Meth K a.kE "role_in_still" a.hU
 zV:Meth K a.kE "role" a.fM
 yQ:mg "Run"=some (.ref a.kA)
 k8:Cls K a.kA
 K6:Mk K a.kA a.m6
 kD:xNo K a.kA ["free_days","open_days","open_before","pattern","rows","shifts","table","name","who","owes","opens","base","many","unit","still","ends","anew","longer","yields","rule","counting","over","day","units","pauses","grants","order","by_name"]=true
 K9:Meth K a.kA "is_over" a.lP
 pE:Meth K a.kA "is_halted" a.fY
 xO:Meth K a.kA "go_on" a.lB
 K0:Meth K a.kA "finish" a.l9
 bP:Meth K a.kA "lasts_to" a.bD
 bE:Meth K a.kA "starts_on" a.bA
 KB:Meth K a.kA "is_under_way" a.m8
 rP:Meth K a.kA "set_out" a.fK
 z9:Meth K a.kA "begin_anew" a.lC
 KD:Meth K a.kA "lengthen" a.mB
 yS:Meth K a.kA "halt" a.lU
 zD:Meth K a.kA "works" a.lH
 KC:Meth K a.kA "feel" a.lV
 yX:Meth K a.kA "state_word" a.m5
 zE:Meth K a.kA "account" a.fV
 zM:mg "Table"=some (.ref a.kI)
 kM:Cls K a.kI
 zX:Mk K a.kI a.hX
 kW:xNo K a.kI ["free_days","open_days","open_before","pattern","rows","shifts","table","name","who","owes","opens","base","many","unit","still","ends","anew","longer","yields","rule","counting","over","day","units","pauses","grants","order","by_name"]=true
 r9:Meth K a.kI "shift" a.fU
 gY:Meth K a.kI "before" a.fO
 mV:Meth K a.kI "nth" a.fS
 pQ:Meth K a.kI "next_open" a.lE
 zT:mg "Weeks"=some (.ref a.kR)
 bM:Cls K a.kR
 yK:Mk K a.kR a.bJ
 sZ:xNo K a.kR ["free_days","open_days","open_before","pattern","rows","shifts","table","name","who","owes","opens","base","many","unit","still","ends","anew","longer","yields","rule","counting","over","day","units","pauses","grants","order","by_name"]=true
 zK:Meth K a.kR "counted_in" a.gQ
 yM:Meth K a.kR "days_for" a.bO
 K4:Meth K a.kR "reach" a.gW
 KR:qu6 K a.kR=true
 KI:AX K (.ref a.kR) (.ref a.kN)=some true
 KQ:AX K (.ref a.kR) (.ref a.kR)=some true
 KN:AX K (.ref a.kR) (.ref a.kP)=some false
 KU:Meth K a.kR "days_for" a.bO
 zU:mg "any"=none
 zQ:mg "bool"=none
 dY:mg "enumerate"=none
 yT:mg "int"=none
 bY:mg "isinstance"=none
 kX:mg "len"=none
 bT:mg "list"=none
 fN:mg "max"=none
 sI:mg "min"=none
 gB:mg "range"=none
 K3:mg "reversed"=none
 K5:mg "set"=none
 nH:mg "sorted"=none
 yY:mg "str"=none
 zL:mg "tuple"=none
 zI:∃t,mg "MOST_WEEKDAYS"=some (.int 6 t)
 z4:∃t,mg "MOST_YEARLY"=some (.int 4 t)
 KF:∃t,mg "MOST_YEARLY_DAYS"=some (.int 30 t)
 m9:∃t,mg "SHORT_YEAR"=some (.int 364 t)
 fT:∃t,mg "LONG_YEAR"=some (.int 371 t)
 KE:∃t,mg "MOST_ROWS"=some (.int 12 t)
 K7:∃t,mg "MOST_ROW_DAYS"=some (.int 40 t)
 yA:∃t,mg "TURN"=some (.int 17 t)
 yZ:∃t,mg "DAYS_OF_A_WEEK"=some (.int 7 t)
 yR:mg "WORDS"=some (.ref a.lD)
 yV:∀H,SqT K H a.lD [.str (Aa "free"),.str (Aa "open")]
def qxg:bootBuiltins "any"=some (.builtin "any"):=Ez
def qvf:bootBuiltins "bool"=some (.type "bool"):=Ez
def qxh:bootBuiltins "int"=some (.type "int"):=Ez
def qcq:bootBuiltins "isinstance"=some (.builtin "isinstance"):=Ez
def qbv:bootBuiltins "len"=some (.builtin "len"):=Ez
def qgx:bootBuiltins "list"=some (.type "list"):=Ez
def qlu:bootBuiltins "max"=some (.builtin "max"):=Ez
def qqn:bootBuiltins "min"=some (.builtin "min"):=Ez
def boot_sorted:bootBuiltins "sorted"=some (.builtin "sorted"):=Ez
def qxi:bootBuiltins "str"=some (.type "str"):=Ez
def qsa:bootBuiltins "tuple"=some (.type "tuple"):=Ez
def qlv:FnScope ["self","table"] ["self","table"] (qaa qer):=⟨Z,Z,Z,Ez,Z,Ez,Ez⟩
def qxj:FnScope ["unit","table"] ["unit","table"] (qaa qow):=⟨Z,Z,Z,Ez,Z,Ez,Ez⟩
def qvg:FnScope ["thing"] ["thing"] (qaa qlk):=⟨Z,Z,Z,Ez,Z,Ez,Ez⟩
def qm0:FnScope ["first","last","most"] ["first","last","most"] (qaa qfd):=⟨Z,Z,Z,Ez,Z,Ez,Ez⟩
def qgy:FnScope ["stretches","day","low","high","middle"] ["stretches","day"] (qaa qr8):=⟨Z,Z,Z,Ez,Z,Ez,Ez⟩
def qgk:FnScope ["laid","told","first","last","word"] ["laid"] (qaa qox):=⟨Z,Z,Z,Ez,Z,Ez,Ez⟩
def qeb:FnScope ["laid","first","last","word","begin","end","told"] ["laid","first","last","word"] (qaa qje):=⟨Z,Z,Z,Ez,Z,Ez,Ez⟩
def qdw:FnScope ["rows","laid","first","last","word"] ["rows"] (qaa qll):=⟨Z,Z,Z,Ez,Z,Ez,Ez⟩
def qij:FnScope ["self","units"] ["self","units"] (qaa qdc):=⟨Z,Z,Z,Ez,Z,Ez,Ez⟩
def qlw:FnScope ["self","units"] ["self","units"] (qaa qes):=⟨Z,Z,Z,Ez,Z,Ez,Ez⟩
def qkg:FnScope ["self","first","many"] ["self","first","many"] (qaa qd7):=⟨Z,Z,Z,Ez,Z,Ez,Ez⟩
def qo0:FnScope ["year"] ["year"] (qaa qgc):=⟨Z,Z,Z,Ez,Z,Ez,Ez⟩
def qdt:FnScope ["self","year","in_last_week"] ["self","year"] (qaa qcr):=⟨Z,Z,Z,Ez,Z,Ez,Ez⟩
def qc4:FnScope ["self","many","year"] ["self","many"] (qaa qdd):=⟨Z,Z,Z,Ez,Z,Ez,Ez⟩
def qqo:FnScope ["year"] ["year"] (qaa qhn):=⟨Z,Z,Z,Ez,Z,Ez,Ez⟩
def qik:FnScope ["self","many","year"] ["self","many"] (qaa qgd):=⟨Z,Z,Z,Ez,Z,Ez,Ez⟩
def qxk:FnScope ["week"] ["week"] (qaa qoy):=⟨Z,Z,Z,Ez,Z,Ez,Ez⟩
def qvh:FnScope ["day"] ["day"] (qaa qlm):=⟨Z,Z,Z,Ez,Z,Ez,Ez⟩
def qil:FnScope ["day","day_in_week","week","year"] ["day"] (qaa qoz):=⟨Z,Z,Z,Ez,Z,Ez,Ez⟩
def qj7:FnScope ["day","date"] ["day"] (qaa qho):=⟨Z,Z,Z,Ez,Z,Ez,Ez⟩
def qfw:FnScope ["self","day","year"] ["self","day"] (qaa qd8):=⟨Z,Z,Z,Ez,Z,Ez,Ez⟩
def qfk:FnScope ["self","row","end","by_pattern","by_row"] ["self","row","end"] (qaa qge):=⟨Z,Z,Z,Ez,Z,Ez,Ez⟩
def qdi:FnScope ["self","day","at","many"] ["self","day"] (qaa qfe):=⟨Z,Z,Z,Ez,Z,Ez,Ez⟩
def qfl:FnScope ["self","many","at","row","before_row"] ["self","many"] (qaa qjf):=⟨Z,Z,Z,Ez,Z,Ez,Ez⟩
def qjo:FnScope ["self","first","many"] ["self","first","many"] (qaa qdp):=⟨Z,Z,Z,Ez,Z,Ez,Ez⟩
def qg7:FnScope ["self","first","last"] ["self","first","last"] (qaa qcs):=⟨Z,Z,Z,Ez,Z,Ez,Ez⟩
def qgl:FnScope ["self","first","last"] ["self","first","last"] (qaa qcj):=⟨Z,Z,Z,Ez,Z,Ez,Ez⟩
def qcv:FnScope ["kind","start","units","pauses","left","begin","first","last","counted"] ["kind","start","units","pauses"] (qaa qln):=⟨Z,Z,Z,Ez,Z,Ez,Ez⟩
def qkh:FnScope ["self","day"] ["self","day"] (qaa qd9):=⟨Z,Z,Z,Ez,Z,Ez,Ez⟩
def qec:FnScope ["table","day","pauses","told","first","last"] ["table","day","pauses"] (qaa qjg):=⟨Z,Z,Z,Ez,Z,Ez,Ez⟩
def qnz:FnScope ["kind","start","units","pauses","full"] ["kind","start","units","pauses"] (qaa qlo):=⟨Z,Z,Z,Ez,Z,Ez,Ez⟩
def qvi:FnScope ["acts"] ["acts"] (qaa qdn):=⟨Z,Z,Z,Ez,Z,Ez,Ez⟩
def qm1:FnScope ["self"] ["self"] (qaa qff):=⟨Z,Z,Z,Ez,Z,Ez,Ez⟩
def qo1:FnScope ["self","name"] ["self","name"] (qaa qgf):=⟨Z,Z,Z,Ez,Z,Ez,Ez⟩
def qqp:FnScope ["self"] ["self"] (qaa qhp):=⟨Z,Z,Z,Ez,Z,Ez,Ez⟩
def qqq:FnScope ["runs"] ["runs"] (qaa qhq):=⟨Z,Z,Z,Ez,Z,Ez,Ez⟩
def qim:FnScope ["self","kind"] ["self","kind"] (qaa qde):=⟨Z,Z,Z,Ez,Z,Ez,Ez⟩
def qsb:FnScope ["self","kind"] ["self","kind"] (qaa qgv):=⟨Z,Z,Z,Ez,Z,Ez,Ez⟩
def qm2:FnScope ["self"] ["self"] (qaa qfg):=⟨Z,Z,Z,Ez,Z,Ez,Ez⟩
def qn0:FnScope ["self","day","first"] ["self","day"] (qaa qlp):=⟨Z,Z,Z,Ez,Z,Ez,Ez⟩
def qqr:FnScope ["self","day"] ["self","day"] (qaa qhr):=⟨Z,Z,Z,Ez,Z,Ez,Ez⟩
def qbn:FnScope ["self","start"] ["self"] (qaa qgg):=⟨Z,Z,Z,Ez,Z,Ez,Ez⟩
def qdj:FnScope ["self"] ["self"] (qaa qfh):=⟨Z,Z,Z,Ez,Z,Ez,Ez⟩
def qdq:FnScope ["self","day","start","last"] ["self","day"] (qaa qea):=⟨Z,Z,Z,Ez,Z,Ez,Ez⟩
def qqs:FnScope ["self","day","base"] ["self","day","base"] (qaa qhs):=⟨Z,Z,Z,Ez,Z,Ez,Ez⟩
def qlx:FnScope ["self","day"] ["self","day"] (qaa qet):=⟨Z,Z,Z,Ez,Z,Ez,Ez⟩
def qco:FnScope ["self","kind","done","other","units","times"] ["self","kind"] (qaa qfi):=⟨Z,Z,Z,Ez,Z,Ez,Ez⟩
def qvj:FnScope ["self","day"] ["self","day"] (qaa qlq):=⟨Z,Z,Z,Ez,Z,Ez,Ez⟩
def qsc:FnScope ["self","word","day","kind"] ["self","word","day","kind"] (qaa qjh):=⟨Z,Z,Z,Ez,Z,Ez,Ez⟩
def qn1:FnScope ["self","name","day","kind","word"] ["self","name","day","kind"] (qaa qlr):=⟨Z,Z,Z,Ez,Z,Ez,Ez⟩
def qvk:FnScope ["self","rule","table","name","day","base"] ["self","rule","table","name","day","base"] (qaa qc2):=⟨Z,Z,Z,Ez,Z,Ez,Ez⟩
def qgm:FnScope ["book","table","runs","act","name","kind","day","begun","term","rule"] ["book","table","runs","act"] (qaa qxf):=⟨Z,Z,Z,Ez,Z,Ez,Ez⟩
def qly:FnScope ["self","last"] ["self","last"] (qaa qeu):=⟨Z,Z,Z,Ez,Z,Ez,Ez⟩
def qfm:FnScope ["self","start","last"] ["self"] (qaa qgh):=⟨Z,Z,Z,Ez,Z,Ez,Ez⟩
def qdx:FnScope ["book","table","acts","runs","term","act","told"] ["book","table","acts"] (qaa qif):=⟨Z,Z,Z,Ez,Z,Ez,Ez⟩
def qgz:FnScope ["name","bases","taken","path","above"] ["name","bases","taken"] (qaa qls):=⟨Z,Z,Z,Ez,Z,Ez,Ez⟩
def qbw:FnScope ["rules","bases","rule","taken"] ["rules"] (qaa qev):=⟨Z,Z,Z,Ez,Z,Ez,Ez⟩
def qlz:FnScope ["within","week","yearly"] ["within","week","yearly"] (qaa qdh):=⟨Z,Z,Z,Ez,Z,Ez,Ez⟩
def qgn:FnScope ["free_days","counts","free"] ["free_days"] (qaa qht):=⟨Z,Z,Z,Ez,Z,Ez,Ez⟩
def qqt:FnScope ["thing"] ["thing"] (qaa qhu):=⟨Z,Z,Z,Ez,Z,Ez,Ez⟩
def qfn:FnScope ["week","at","thing"] ["week"] (qaa qgi):=⟨Z,Z,Z,Ez,Z,Ez,Ez⟩
def qsd:FnScope ["thing"] ["thing"] (qaa qji):=⟨Z,Z,Z,Ez,Z,Ez,Ez⟩
def qed:FnScope ["yearly","at","thing"] ["yearly"] (qaa qew):=⟨Z,Z,Z,Ez,Z,Ez,Ez⟩
def qm3:FnScope ["things"] ["things"] (qaa qfj):=⟨Z,Z,Z,Ez,Z,Ez,Ez⟩
def scIsRow:FnScope ["row"] ["row"] (qaa qr9):=⟨Z,Z,Z,Ez,Z,Ez,Ez⟩
def qfo:FnScope ["rows","at","row"] ["rows"] (qaa qgj):=⟨Z,Z,Z,Ez,Z,Ez,Ez⟩
def qqu:FnScope ["_law_script","_law_k"] ["_law_script","_law_k"] (qaa qhv):=⟨Z,Z,Z,Ez,Z,Ez,Ez⟩
def ql0:FnScope ["_law_script","_law_k","_law_cell"] ["_law_script","_law_k"] (qaa qjj):=⟨Z,Z,Z,Ez,Z,Ez,Ez⟩
def qbb:FnScope ["_law_cell","_law_many","_law_letters","_law_size","_law_at","_law_words_here","_law_k","_law_far","_law_word","_law_j","_law_on"] ["_law_cell","_law_many"] (qaa qjk):=⟨Z,Z,Z,Ez,Z,Ez,Ez⟩
def qse:FnScope ["self","name","who","owes","opens","base","many","unit","still"] ["self","name","who","owes","opens","base","many","unit","still"] (qaa qcf):=⟨Z,Z,Z,Ez,Z,Ez,Ez⟩
def qa6:FnScope ["_law_script","_law_at","_law_k","_law_names","_law_kinds","_law_one","_law_two","_law_mine","_law_base","_law_opens","_law_still","_law_unit","_law_rule_here","_law_j"] ["_law_script","_law_at","_law_k","_law_names","_law_kinds"] (qaa qig):=⟨Z,Z,Z,Ez,Z,Ez,Ez⟩
def qjp:FnScope ["_law_script","_law_names","_law_kinds","_law_rules","_law_k"] ["_law_script","_law_names","_law_kinds"] (qaa qlt):=⟨Z,Z,Z,Ez,Z,Ez,Ez⟩
def qjq:FnScope ["_law_rules","_law_menu_here","_law_rule_here"] ["_law_rules"] (qaa qih):=⟨Z,Z,Z,Ez,Z,Ez,Ez⟩
def qcw:FnScope ["_law_script","_law_rules","_law_names","_law_first","_law_many","_law_menu_here","_law_stride","_law_acts_here","_law_k","_law_cell","_law_kind"] ["_law_script","_law_rules","_law_names","_law_first","_law_many"] (qaa qii):=⟨Z,Z,Z,Ez,Z,Ez,Ez⟩
def qee:FnScope ["_law_rules","_law_name","_law_bases","_law_rule_here","_law_chain_here"] ["_law_rules","_law_name"] (qaa qjl):=⟨Z,Z,Z,Ez,Z,Ez,Ez⟩
def qfp:FnScope ["_law_told","_law_chain_here","_law_named_here","_law_name","_law_account"] ["_law_told","_law_chain_here"] (qaa qgw):=⟨Z,Z,Z,Ez,Z,Ez,Ez⟩
def qhx:FnScope ["_law_told","_law_name","_law_named_here"] ["_law_told"] (qaa qjm):=⟨Z,Z,Z,Ez,Z,Ez,Ez⟩
def qfq:FnScope ["_law_rules","_law_chain_here","_law_kinds","_law_mine","_law_some"] ["_law_rules","_law_chain_here","_law_kinds"] (qaa qdo):=⟨Z,Z,Z,Ez,Z,Ez,Ez⟩
def ql1:FnScope ["self","rules","rule"] ["self","rules"] (qaa qjn):=⟨Z,Z,Z,Ez,Z,Ez,Ez⟩
def qm4:FnScope ["self","week","yearly"] ["self","week","yearly"] (qaa qc3):=⟨Z,Z,Z,Ez,Z,Ez,Ez⟩
def qj8:FnScope ["self","week","yearly","rows","row"] ["self","week","yearly","rows"] (qaa qba):=⟨Z,Z,Z,Ez,Z,Ez,Ez⟩
def qc5:FnScope ["_law_script","_law_names","_law_kinds","_law_rules","_law_week","_law_first","_law_acts_here","_law_book_here","_law_table","_law_told","_law_rule_here","_law_chain_here","_law_named_here","_law_idle","_law_some","_law_more","_law_tries","_law_lost","_law_other"] ["_law_script"] (qaa qmz):=⟨Z,Z,Z,Ez,Z,Ez,Ez⟩
seal PySem.Sem.wp
open Add Lay Mrg Tab Cal
abbrev Rw:=Row Str
noncomputable def enc (r:Rw):List V:=[.int r.1,.int r.2.1,.str r.2.2]
def use {p G R:Prop}(m:(p->G)->R)(l:p->G):R:=m l
def useH {p G:Hp->Prop}{R:Prop}(m:(∀x,p x->G x)->R)(l:∀x,p x->G x):R:=m l
def use2 {S T:Type}{p G:S->T->Prop}{R:Prop}(m:(∀x y,p x y->G x y)->R)(l:∀x y,p x y->G x y):R:=m l
def qcp {c A B:Prop}[Decidable c](a:c)(h:A):if decide c=true then A else B:=by rw[if_pos (decide_eq_true a)];exact h
def qbh {c A B:Prop}[Decidable c](a:¬c)(h:B):if decide c=true then A else B:=by rw[decide_eq_false a];exact h
def qqv {c A B:Prop}[Decidable c](a:c)(h:B):if (!decide c)=true then A else B:=by rw[decide_eq_true a];exact h
def qx {H:Hp}{p:Addr}{o:HO}(a:H p=none):Same H (upd H p o):=λb u e=>by rw[qr (qae e a)];exact e
def alc {H:Hp}{p:Addr}{o:HO}(a:H p=none):Same H (upd H p o)/\upd H p o p=some o:=⟨qx a,qk⟩
def fits {n:Nat}(h:n<=100000):n<=A6:=by rw[B3];lia
def qbm {xs:List V}(h:xs.length<=90000):xs.length<A6:=by rw[B3];lia
def qfr:([]:List V).length<=A6:=fits Uk
def qvl (x y:V):[x,y].length<=A6:=fits (show 2<=100000 by decide)
def qki (x y z:V):[x,y,z].length<=A6:=fits (show 3<=100000 by decide)
def spPlace:Sp:=λvs H Q _=>∃(p:Addr)(us:List V)(ts:List (List V))(es:List Int)(d:Int),vs=[.ref p,.int d]/\H p=some (.lst us)/\Tups H us ts/\(∀(i:Nat)(e:Int),es[i]?=some e->∃t:List V,ts[i]?=some t/\atI t 1=some (V.int e))/\ts.length=es.length/\es.Pairwise (· < ·)/\Q (.int (cnt es d:Nat)) H
def ql2 {rs:List Rw}{i:Nat}{e:Int}(h:(ends rs)[i]?=some e):∃t,(rs.map enc)[i]?=some t/\atI t 1=some (.int e):=by
 rw[Ai]at h |-;cases q:rs[i]? with|none=>rw[q]at h;cases h|some r=>rw[q]at h;cases h;exact⟨_,Z,Z⟩
def At (H:Hp)(p:Addr)(rs:List Rw):Prop:=∃us,H p=some (.lst us)/\Tups H us (rs.map enc)
def At.same {H H':Hp}{p:Addr}{rs:List Rw}(h:At H p rs)(s:Same H H'):At H' p rs:=by obtain⟨us,a,b⟩:=h;exact⟨us,s _ _ a,b.same s⟩
def spOver:Sp:=λvs H Q _=>∃(p:Addr)(rs:List Rw)(f l:Int)(w:Str),vs=[.ref p,.int f,.int l,.str w]/\At H p rs/\Dis rs/\f<=l/\rs.length<=1000/\∀q H',H q=none->Same H H'->At H' q (over rs f l w)->Q (.ref q) H'
def lenI {us:List V}{rs:List Rw}{n:Nat}(a:us.length=rs.length)(h:n<rs.length):(n:Int)<(us.length:Int):=Dy.mpr (a ▸ h)
def sn1 {us:List V}{v:V}(h:us.length<=1000):(us++[v]).length<=1200:=by rw[Af];exact A5 (DE h 1) Uk
def sn15 {us:List V}{v:V}(h:us.length<=1200):(us++[v]).length<=1500:=by rw[Af];exact A5 (DE h 1) Uk
def sn2 {us:List V}{v:V}(h:us.length<=1500):(us++[v]).length<=2000:=by rw[Af];exact A5 (DE h 1) Uk
def tn_lt {a b:Int}(h:a<b)(h0:0<b):a.toNat<b.toNat:=by lia
def mid {lo a:Int}(h0:0<=lo)(h:lo<a):∃j:Nat,(lo+a) / 2=(j:Int)/\lo<=(j:Int)/\(j:Int)<a:=⟨((lo+a) / 2).toNat,by lia⟩
noncomputable def qo2 {W:Type}(e:W->V)(r:Row W):List V:=[.int r.1,.int r.2.1,e r.2.2]
def AtG {W:Type}(e:W->V)(H:Hp)(p:Addr)(rs:List (Row W)):Prop:=∃us,H p=some (.lst us)/\Tups H us (rs.map (qo2 e))
def AtG.len {W:Type}{e:W->V}{H:Hp}{rs:List (Row W)}{us:List V}(t:Tups H us (rs.map (qo2 e))):us.length=rs.length:=by rw[t.length,Ab]
def AtG.row {W:Type}{e:W->V}{H:Hp}{rs:List (Row W)}{us:List V}(t:Tups H us (rs.map (qo2 e))){i:Nat}{r:Row W}(h:rs[i]?=some r):∃a,us[i]?=some (.ref a)/\H a=some (.tup (qo2 e r)):=t.get (by rw[Ai,h];rfl)
def qxl {W:Type}{e:W->V}{rs:List (Row W)}{i:Nat}{t:List V}(h:(rs.map (qo2 e))[i]?=some t):∃r,rs[i]?=some r/\t=qo2 e r:=by
 rw[Ai]at h;cases q:rs[i]? with|none=>rw[q]at h;cases h|some r=>rw[q]at h;cases h;exact⟨r,Z,Z⟩
def spJoin:Sp:=λvs H Q _=>∃(W:Type)(dq:DecidableEq W)(e:W->V)(p:Addr)(rs:List (Row W)),vs=[.ref p]/\(∀x y,e x=e y->x=y)/\(∀x y,scal (e x) (e y)=true)/\AtG e H p rs/\rs.length<=1000/\∀q H',H q=none->Same H H'->AtG e H' q (jn rs)->Q (.ref q) H'
def spOv:Sp:=λvs H Q _=>∃(p:Addr)(rs:List Rw),vs=[.ref p]/\At H p rs/\(∀r∈rs,r.1<=r.2.1)/\rs.length<=100/\∀q H',H q=none->Same H H'->At H' q (ov rs)->Q (.ref q) H'
def ql3 {vs:List V}{k:Int}{j:Nat}{v:V}(h:vs[j]?=some v)(e:k=(j:Int)):atI vs k=some v:=by rw[e];exact qbj h
def qqw (vs:List V)(b:Nat)(h:b<=vs.length):qp1 vs none (some (b:Int))=vs.take b:=by
 unfold qp1;have a:HT.sIx vs.length 0 none=0:=rfl;have c:HT.sIx vs.length vs.length (some (b:Int))=b:=by simp only[HT.sIx];split <;>lia
 rw[a,c];simp
def qxm (vs:List V)(b:Nat)(h:b<=vs.length):qp1 vs (some (b:Int)) none=vs.drop b:=by
 unfold qp1;have a:HT.sIx vs.length vs.length none=vs.length:=rfl;have c:HT.sIx vs.length 0 (some (b:Int))=b:=by simp only[HT.sIx];split <;>lia
 rw[a,c];rw[List.take_of_length_le (by rw[C6];lia)]
theorem qxn {es:List Int}{a b:Int}(h:a<=b):cnt es a<=cnt es b:=by
 induction es with
 |nil=>exact Am _
 |cons e es ih=>rw[qd4,qd4];split <;>split <;>lia
def qxo {rs:List Rw}{f l:Int}(w:Str)(h:Dis rs)(a:f<=l):(over rs f l w).length<=rs.length+3:=by
 have h1:(left rs f).length<=cnt (ends rs) f+1:=by
  rw[qjb f h,Af,Bv];cases rs[cnt (ends rs) f]? with
  |none=>exact Cu (DL _ _)
  |some r =>
   show min _ _+(if r.1<f then [(r.1,f-1,r.2.2)] else ([]:List (Row Str))).length<=_;split
   .exact C7 (DL _ _)
   .exact Cu (DL _ _)
 have h2:(right rs l).length<=rs.length-cnt (ends rs) (l+1)+1:=by
  rw[qhk l h];cases rs[cnt (ends rs) (l+1)]? with
  |none=>exact AU _
  |some r =>
   show (if r.1<=l then ((l+1,r.2.1,r.2.2):Rw)::rs.drop (cnt (ends rs) (l+1)+1) else rs.drop (cnt (ends rs) (l+1))).length<=_;split
   .rw[AD,C6];exact C7 (Nat.sub_le_sub_left (Cn _) _)
   .rw[C6];exact Cn _
 have h3:=qxn (es:=ends rs) (DW a);have b:=qop (ends rs) (l+1);rw[Ab]at b;unfold over;rw[Af,AD];lia
def qo3 {rs:List Rw}(h:∀r∈rs,r.1<=r.2.1):(lay rs).length<=3*rs.length:=by
 have step:∀(ss laid:List Rw),(∀r∈ss,r.1<=r.2.1)->Dis laid->(ss.foldl (λlaid r=>over laid r.1 r.2.1 r.2.2) laid).length<=laid.length+3*ss.length:=by
  intro ss
  induction ss with
  |nil=>intro laid _ _;exact Am _
  |cons r ss ih =>intro laid c a;have b:=c r Al;have:=ih (over laid r.1 r.2.1 r.2.2) (λs d=>c s (Az _ d)) (qqa _ a b);have:=qxo r.2.2 a b;rw[List.foldl_cons,AD];lia
 have:=step rs [] h ⟨(λ_ h=>absurd h AG),Eb⟩;simpa [lay] using this
def jn1_len {W:Type}[DecidableEq W](a:List (Row W))(r:Row W):(jn1 a r).length<=a.length+1:=by
 rcases BJ a with rfl|⟨rs,t,rfl⟩
 .exact Am _
 .rw[BK,qd6];split <;>simp
def qxp {W:Type}[DecidableEq W](rs:List (Row W)):(jn rs).length<=rs.length:=by
 have step:∀(ss a:List (Row W)),(ss.foldl jn1 a).length<=a.length+ss.length:=by
  intro ss
  induction ss with
  |nil=>intro a;exact Am _
  |cons r ss ih =>intro a;have:=ih (jn1 a r);have:=jn1_len a r;rw[List.foldl_cons,AD];lia
 have:=step rs [];simpa [jn] using this
def jn_snoc {W:Type}[DecidableEq W](rs:List (Row W))(r:Row W):jn (rs++[r])=jn1 (jn rs) r:=by unfold jn;rw[Ct];rfl
def qcx {α:Type}{xs:List α}{i:Nat}{x:α}(h:xs[i]?=some x):xs.take (i+1)=xs.take i++[x]:=by rw[B1,h];rfl
def qks {rs:List Rw}{i:Nat}{t:List V}(h:(rs.map enc)[i]?=some t):∃r,rs[i]?=some r/\t=enc r:=by
 rw[Ai]at h;cases q:rs[i]? with|none=>rw[q]at h;cases h|some r=>rw[q]at h;cases h;exact⟨r,Z,Z⟩
def At.len {H:Hp}{rs:List Rw}{us:List V}(t:Tups H us (rs.map enc)):us.length=rs.length:=by rw[t.length,Ab]
def At.row {H:Hp}{rs:List Rw}{us:List V}(t:Tups H us (rs.map enc)){i:Nat}{r:Rw}(h:rs[i]?=some r):∃a,us[i]?=some (.ref a)/\H a=some (.tup (enc r)):=t.get (by rw[Ai,h];rfl)
def qxq {rs:List Rw}(h:∀r∈rs,r.1<=r.2.1)(i:Nat):∀r∈rs.take i,r.1<=r.2.1:=λr a=>h r (DF a)
def qxr (us:List V)(x v:V):(us++[x]).set us.length v=us++[v]:=by simp
def qtj (us:List V)(x:V):ixN (us++[x]).length (-1)=some us.length:=by
 unfold ixN;rw[Af,AW,if_neg Uk,if_pos (by lia)]
 congr 1
 lia
def sp1 (g:Int->V):Sp:=λvs H Q _=>∃y:Int,vs=[.int y]/\Q (g y) H
def qvm:Sp:=λvs H Q _=>∃n:Int,vs=[.int n]/\0<=n/\Q (.int (n % 7+1)) H
def qxs:Sp:=λvs H Q _=>∃n:Int,vs=[.int n]/\0<=n/\∀p,H p=none->Q (.ref p) (upd H p (.tup [.int (yo (n / 7)),.int (n / 7-fw (yo (n / 7))+1),.int (n % 7+1)]))
def doy (n:Int):Int:=n-7*fw (yo (n / 7))
def qxt {n:Int}(h:0<=n):0<=doy n/\doy n<371:=by have h1:=lies (n / 7);have h2:=qie (yo (n / 7));have h3:=qny (yo (n / 7));unfold doy;lia
def doy_mod (n:Int):doy n % 7=n % 7:=by unfold doy;lia
def spDoy:Sp:=λvs H Q _=>∃n:Int,vs=[.int n]/\0<=n/\∀H',Same H H'->Q (.int (doy n)) H'
def spWd:Sp:=λvs H Q _=>∃n:Int,vs=[.int n]/\1<=n/\n<=7/\Q (.bl true) H
def spStr:Sp:=λvs H Q _=>∃f l m:Int,vs=[.int f,.int l,.int m]/\0<=f/\f<=l/\l<f+m/\Q (.bl true) H
def AtP (H:Hp)(p:Addr)(rs:List S2):Prop:=∃us,H p=some (.lst us)/\Tups H us (rs.map encP)
def AtP.same {H H':Hp}{p:Addr}{rs:List S2}(h:AtP H p rs)(s:Same H H'):AtP H' p rs:=by obtain⟨us,a,b⟩:=h;exact⟨us,s _ _ a,b.same s⟩
def spRefW:Sp:=λvs H Q _=>∃(p:Addr)(wk:List Int),vs=[.ref p]/\H p=some (.lst (wk.map V.int))/\OkW wk/\∀H',Same H H'->Q .non H'
def spYr:Sp:=λvs H Q _=>∃(a:Addr)(r:S2),vs=[.ref a]/\H a=some (.tup (encP r))/\0<=r.1/\r.1<=r.2/\r.2<r.1+30/\r.2<364/\Q (.bl true) H
def spRefY:Sp:=λvs H Q _=>∃(p:Addr)(yr:List S2),vs=[.ref p]/\AtP H p yr/\OkY yr/\∀H',Same H H'->Q .non H'
def OkR (r:Rw):Prop:=0<=r.1/\r.1<=r.2.1/\r.2.1<r.1+40/\(r.2.2=Aa "free" \/ r.2.2=Aa "open")
def spRw:Sp:=λvs H Q _=>∃(a:Addr)(r:Rw),vs=[.ref a]/\H a=some (.tup (enc r))/\OkR r/\Q (.bl true) H
def spRefR:Sp:=λvs H Q _=>∃(p:Addr)(rs:List Rw),vs=[.ref p]/\At H p rs/\rs.length<=12/\(∀r∈rs,OkR r)/\∀H',Same H H'->Q .non H'
def spFyw:Sp:=λvs H Q _=>∃(i:Int)(pw py:Addr)(wk:List Int)(yr:List S2),vs=[.int i,.ref pw,.ref py]/\H pw=some (.lst (wk.map V.int))/\AtP H py yr/\yr.length<=100/\∀H',Same H H'->Q (.bl (fy wk yr i)) H'
def spCu:Sp:=λvs H Q _=>∃(p:Addr)(bs:List Bool),vs=[.ref p]/\H p=some (.lst (bs.map V.bl))/\bs.length<=1000/\∀q H',H q=none->Same H H'->H' q=some (.lst ((cuL bs).map V.int))->Q (.ref q) H'
def dup {wk:List Int}{i:Nat}{x:Int}(nd:wk.Nodup)(h:wk[i]?=some x):(wk.take i).contains x=false:=by rw[Bool.eq_false_iff];intro z;rw[Bo]at z;obtain⟨j,a,e⟩:=C1 z;rw[Bv]at a;rw[Ed]at e;obtain⟨b,c⟩:=Ac.mp h;exact AZ.mp nd j i (A2 a (Nat.min_le_right _ _)) b (A2 a (DL _ _)) (by rw[e,c])
def qqx {rs:List S2}{i:Nat}{t:List V}(h:(rs.map encP)[i]?=some t):∃r,rs[i]?=some r/\t=encP r:=by
 rw[Ai]at h;cases q:rs[i]? with|none=>rw[q]at h;cases h|some r=>rw[q]at h;cases h;exact⟨r,Z,Z⟩
noncomputable abbrev pfs (a1 a2 a3:Addr):List (Str×V):=[(Aa "free_days",.ref a1),(Aa "open_days",.ref a2),(Aa "open_before",.ref a3)]
def put1 (f:Str)(u:V):qbc f u []=[(f,u)]:=rfl
def put2 {f g:Str}(u v:V)(h:f≠g):qbc g v [(f,u)]=[(f,u),(g,v)]:=by unfold qbc;rw[if_neg h];rfl
def put3 {f g e:Str}(u v x:V)(h:f≠e)(a:g≠e):qbc e x [(f,u),(g,v)]=[(f,u),(g,v),(e,x)]:=by show (if f=e then _ else (f,u)::(if g=e then _ else (g,v)::qbc e x []))=_;rw[if_neg h,if_neg a];rfl
def PatAt (C:Addr)(H:Hp)(p:Addr)(bs:List Bool):Prop:=∃(dx a1 a2 a3:Addr),H p=some (.ins C dx (pfs a1 a2 a3))/\H a1=some (.lst (bs.map V.bl))/\H a2=some (.lst ((odL bs).map V.int))/\H a3=some (.lst ((cuL bs).map V.int))/\bs.length=371
def PatAt.same {C:Addr}{H H':Hp}{p:Addr}{bs:List Bool}(h:PatAt C H p bs)(s:Same H H'):PatAt C H' p bs:=by obtain⟨j,a,g,e,c,b,d,f,i⟩:=h;exact⟨j,a,g,e,s _ _ c,s _ _ b,s _ _ d,s _ _ f,i⟩
theorem PatAt.upd {C:Addr}{H:Hp}{p d a c b z:Addr}{bs:List Bool}{o:HO}(e:H p=some (.ins C d (pfs a c b)))(k:H a=some (.lst (bs.map V.bl)))(i:H c=some (.lst ((odL bs).map V.int)))(l:H b=some (.lst ((cuL bs).map V.int)))(g:p≠z)(f:a≠z)(j:c≠z)(h:b≠z) :
  L2.upd H z o p=some (.ins C d (pfs a c b))/\L2.upd H z o a=some (.lst (bs.map V.bl))/\L2.upd H z o c=some (.lst ((odL bs).map V.int))/\L2.upd H z o b=some (.lst ((cuL bs).map V.int)) :=
 ⟨(qr g).trans e,(qr f).trans k,(qr j).trans i,(qr h).trans l⟩
def SameBut (x:Addr)(H H':Hp):Prop:=∀b o,b≠x->H b=some o->H' b=some o
def SameBut.of {x:Addr}{H H':Hp}(s:Same H H'):SameBut x H H':=λb o _ e=>s b o e
def SameBut.trans {x:Addr}{H d f:Hp}(a:SameBut x H d)(b:SameBut x d f):SameBut x H f:=λc o n e=>b c o n (a c o n e)
def SameBut.set {x:Addr}{H H':Hp}{o:HO}(a:SameBut x H H'):SameBut x H (upd H' x o):=λb u n e=>by rw[qr n];exact a b u n e
def SameBut.made {x d:Addr}{H H':Hp}{o u:HO}(a:SameBut x (upd (upd H d u) x o) H')(c:H x=none)(f:H d=none):Same H H':=λb v e =>
 a b v (qae e c) (by rw[qr (qae e c),qr (qae e f)];exact e)
def SameBut.free {x q:Addr}{H H':Hp}(b:SameBut x H H')(n:q≠x)(h:H' q=none):H q=none:=by
 cases e:H q with|none=>rfl|some o=>rw[b q o n e]at h;cases h
def Rest (x:Addr)(H H' H2:Hp):Prop:=∀b o,(H b=none\/b=x \/ ∃t,o=.tup t)->H' b=some o->H2 b=some o
theorem qvn {x:Addr}{H H' a:Hp}{us:List V}{ts:List (List V)}(r:Rest x H H' a)(t:Tups H' us ts):Tups a us ts:=by
 induction t with
 |nil=>exact .nil
 |cons h _ ih=>exact .cons (r _ _ (.inr (.inr ⟨_,Z⟩)) h) ih
def spPInit (a:Adr):Sp:=λvs H Q _=>∃(x dx pw py:Addr)(wk:List Int)(yr:List S2),vs=[.ref x,.ref pw,.ref py]/\H x=some (.ins a.kK dx [])/\H pw=some (.lst (wk.map V.int))/\AtP H py yr/\OkW wk/\OkY yr /\
 ∀H',SameBut x H H'->(∀H2,Rest x H H' H2->PatAt a.kK H2 x (fdL wk yr))->Q .non H'
def pby (bs:List Bool)(y:Int):Int:=y*opn bs 364+lb y*(opn bs 371-opn bs 364)
def qc6 (bs:List Bool)(n:Int):Int:=pby bs (yo (n / 7))+opn bs (doy n).toNat
def spPBy (a:Adr):Sp:=λvs H Q _=>∃(x:Addr)(bs:List Bool)(y:Int),vs=[.ref x,.int y]/\PatAt a.kK H x bs/\Q (.int (pby bs y)) H
def spPBef (a:Adr):Sp:=λvs H Q _=>∃(x:Addr)(bs:List Bool)(n:Int),vs=[.ref x,.int n]/\PatAt a.kK H x bs/\0<=n/\∀H',Same H H'->Q (.int (qc6 bs n)) H'
inductive SpOr (vs:List V) (H:Hp) (Q:VK):Prop where
 |non (e:vs=[.non]) (k:∀q,H q=none->Q (.ref q) (upd H q (.lst [])))
 |ref (p:Addr) (e:vs=[.ref p]) (k:Q (.ref p) H)
def spOr:Sp:=λvs H Q _=>SpOr vs H Q
def shf (bs:List Bool)(r:Rw)(e:Int):Int:=(if r.2.2=Aa "open" then e-r.1 else 0)-(qc6 bs e-qc6 bs r.1)
def shL (bs:List Bool)(rs:List Rw):List Int:=(Ar (rs.length+1)).map λk=>((rs.take k).map λr=>shf bs r (r.2.1+1)).sum
def qxu (bs:List Bool)(rs:List Rw){k:Nat}(h:k<=rs.length):(shL bs rs)[k]?=some ((rs.take k).map λr=>shf bs r (r.2.1+1)).sum:=by unfold shL;rw[Ai,Bb (by lia)];rfl
noncomputable abbrev tfs (p q z:Addr):List (Str×V):=[(Aa "pattern",.ref p),(Aa "rows",.ref q),(Aa "shifts",.ref z)]
def TabAt (Cp C:Addr)(H:Hp)(t:Addr)(bs:List Bool)(rs:List Rw):Prop:=∃(dx p q z:Addr),H t=some (.ins C dx (tfs p q z))/\PatAt Cp H p bs/\At H q rs/\H z=some (.lst ((shL bs rs).map V.int))
def TabAt.same {a C:Addr}{H H':Hp}{t:Addr}{bs:List Bool}{rs:List Rw}(h:TabAt a C H t bs rs)(s:Same H H'):TabAt a C H' t bs rs:=by obtain⟨f,p,q,z,d,b,c,e⟩:=h;exact⟨f,p,q,z,s _ _ d,b.same s,c.same s,s _ _ e⟩
def over_nn {rs:List Rw}{f l:Int}{w:Str}(h:∀r∈rs,0<=r.1)(c:0<=f):∀r∈over rs f l w,0<=r.1:=λr a=>by
 rcases Av.mp a with a|a
 .obtain⟨s,b,e⟩:=Cb.mp a;have:=h s b;split at e
  .injection e with e;subst e;exact this
  .cases e
 .rcases Aq.mp a with rfl|a
  .exact c
  .obtain⟨s,b,e⟩:=Cb.mp a;have:=h s b;split at e
   .injection e with e;subst e;show 0<=max s.1 (l+1);lia
   .cases e
def lay_nn {rs:List Rw}(h:∀r∈rs,0<=r.1):∀r∈lay rs,0<=r.1:=by
 have step:∀(ss laid:List Rw),(∀r∈ss,0<=r.1)->(∀r∈laid,0<=r.1)->∀r∈ss.foldl (λlaid r=>over laid r.1 r.2.1 r.2.2) laid,0<=r.1:=by
  intro ss
  induction ss with
  |nil=>intro laid _ a;exact a
  |cons r ss ih=>intro laid b a;exact ih _ (λs c=>b s (Az _ c)) (over_nn a (b r Al))
 exact step rs [] h λ_ h=>absurd h AG
def jn_nn {rs:List Rw}(h:∀r∈rs,0<=r.1):∀r∈jn rs,0<=r.1:=by
 have one:∀(a:List Rw)(r:Rw),(∀t∈a,0<=t.1)->0<=r.1->∀t∈jn1 a r,0<=t.1:=λa r b d=>by
  rcases BJ a with rfl|⟨rs,t,rfl⟩
  .intro z hz;have:z=r:=by simpa [jn1] using hz
   rw[this];exact d
  .rw[BK]at b |-;rw[qd6];intro z hz;split at hz
   .rcases Av.mp hz with hz|hz
    .exact b z (Bl _ hz)
    .rw[Ah.mp hz];exact b t (by simp)
   .rcases Av.mp hz with hz|hz
    .exact b z hz
    .rw[Ah.mp hz];exact d
 have step:∀(ss a:List Rw),(∀r∈ss,0<=r.1)->(∀r∈a,0<=r.1)->∀r∈ss.foldl jn1 a,0<=r.1:=by
  intro ss
  induction ss with
  |nil=>intro a _ b;exact b
  |cons r ss ih=>intro a c b;exact ih _ (λs e=>c s (Az _ e)) (one _ _ b (c r Al))
 exact step rs [] h λ_ h=>absurd h AG
def ov_nn {rs:List Rw}(h:∀r∈rs,0<=r.1):∀r∈ov rs,0<=r.1:=jn_nn (lay_nn h)
theorem qin {H H':Hp}{x C c:Addr}{fs:List (Str×V)}{us:List V}{ts:List (List V)}(b:SameBut x H H')(a:H x=some (.ins C c fs))(t:Tups H us ts):Tups H' us ts:=by
 induction t with
 |nil=>exact .nil
 |cons h _ ih=>exact .cons (b _ _ (λz=>by rw[z,a]at h;cases h) h) ih
def spShift (a:Adr):Sp:=λvs H Q _=>∃(x p q z y dx:Addr)(bs:List Bool)(r:Rw)(e:Int),vs=[.ref x,.ref y,.int e]/\H x=some (.ins a.kI dx (tfs p q z))/\PatAt a.kK H p bs/\H y=some (.tup (enc r))/\0<=r.1/\0<=e /\
 ∀H',Same H H'->Q (.int (shf bs r e)) H'
def OrP (H:Hp)(v:V)(yr:List S2):Prop:=(v=.non/\yr=[]) \/ ∃p,v=.ref p/\AtP H p yr
def OrR (H:Hp)(v:V)(rs:List Rw):Prop:=(v=.non/\rs=[]) \/ ∃p,v=.ref p/\At H p rs
def orP {H:Hp}{v:V}{yr:List S2}{Q:VK}(h:OrP H v yr)(k:∀p H1,Same H H1->AtP H1 p yr->Q (.ref p) H1):SpOr [v] H Q:=by
 rcases h with ⟨rfl,rfl⟩|⟨p,rfl,t⟩
 .exact .non rfl λq a=>k q _ (qx a) ⟨[],qk,.nil⟩
 .exact .ref p rfl (k p H (Same.refl H) t)
def orR {H:Hp}{v:V}{rs:List Rw}{Q:VK}(h:OrR H v rs)(k:∀p H1,Same H H1->At H1 p rs->Q (.ref p) H1):SpOr [v] H Q:=by
 rcases h with ⟨rfl,rfl⟩|⟨p,rfl,t⟩
 .exact .non rfl λq a=>k q _ (qx a) ⟨[],qk,.nil⟩
 .exact .ref p rfl (k p H (Same.refl H) t)
def OrR.but {x C e:Addr}{fs:List (Str×V)}{H H':Hp}{v:V}{rs:List Rw}(h:OrR H v rs)(c:H x=some (.ins C e fs))(b:SameBut x H H'):OrR H' v rs:=by
 rcases h with h|⟨p,rfl,us,a,d⟩
 .exact .inl h
 .exact .inr ⟨p,Z,us,b _ _ (λz=>by rw[z,c]at a;cases a) a,qin b c d⟩
theorem OrR.same {H H':Hp}{v:V}{rs:List Rw}(h:OrR H v rs)(s:Same H H'):OrR H' v rs:=by
 rcases h with h|⟨p,rfl,us,a,b⟩
 .exact .inl h
 .exact .inr ⟨p,Z,us,s _ _ a,b.same s⟩
def spTInit (a:Adr):Sp:=λvs H Q _=>∃(x dx pw:Addr)(vy vr:V)(wk:List Int)(yr:List S2)(rs:List Rw),vs=[.ref x,.ref pw,vy,vr]/\H x=some (.ins a.kI dx [])/\H pw=some (.lst (wk.map V.int))/\OrP H vy yr/\OrR H vr rs/\OkW wk/\OkY yr/\rs.length<=12/\(∀r∈rs,OkR r) /\
 ∀H',SameBut x H H'->(∀H2,Rest x H H' H2->TabAt a.kK a.kI H2 x (fdL wk yr) (ov rs))->Q .non H'
def tfr (bs:List Bool)(rs:List Rw)(n:Int):Bool:=match rs[cnt (ends rs) n]? with
 |some r=>if r.1<=n then decide (r.2.2=Aa "free") else bs.getD (doy n).toNat true
 |none=>bs.getD (doy n).toNat true
def opB {bs:List Bool}(hl:bs.length=371) : -(2 ^ 64)<opn bs 364/\opn bs 364<2 ^ 64:=by have:=qjd bs 364;lia
def opD {bs:List Bool}(hl:bs.length=371) : -(2 ^ 64)<opn bs 371-opn bs 364/\opn bs 371-opn bs 364<2 ^ 64:=by have:=qjd bs 364;have:=qjd bs 371;lia
noncomputable def cell (ns:List Int)(k:Int):Int:=ns.getD k.toNat 0
def qxv {a:List Int}{k:Int}(c:0<=k)(h:k<((a.map V.int).length:Int)):atI (a.map V.int) k=some (V.int (cell a k)):=by rw[Ab]at h;have b:k.toNat<a.length:=(Int.toNat_lt c).mpr h;refine ql3 (j:=k.toNat) ?_ (C2 c).symm;rw[Ai,Ad b];unfold cell;rw[Aj,Ad b];rfl
def qxw {a:List Int}{k:Int}(h:¬k<((a.map V.int).length:Int)):cell a k=0:=by rw[Ab]at h;unfold cell;rw[Aj,AI (Dh.mp (Bt (B8.mp h) (Int.self_le_toNat k)))];rfl
def spCell (K:Ag):Sp:=λvs H Q _=>∃(a:Addr)(ns:List Int)(k:Int),vs=[.ref a,.int k]/\SqL K H a (ns.map V.int)/\0<=k/\Q (.int (cell ns k)) H
def qsf {n y:Int}(h0:0<=n-7*fw y)(h1:n-7*fw y<7*wk y):doy n=n-7*fw y:=by have e:yo (n / 7)=y:=qti (by lia) (by rw[qie];lia);unfold doy;rw[e]
def lfr (wk:List Int)(yr:List S2)(rs:List Rw)(n:Int):Bool:=if qa8 (Aa "") rs n=Aa "" then fy wk yr (doy n) else decide (qa8 (Aa "") rs n=Aa "free")
def qtk {c A B:Prop}[Decidable c](a:¬c)(h:A):if (!decide c)=true then A else B:=by rw[decide_eq_false a];exact h
def inB_any (yr:List S2)(n:Int):inB yr n=yr.any λr=>decide (r.1<=n) && decide (n<=r.2):=by unfold inB;rfl
def fdL_doy {wk:List Int}{yr:List S2}{n:Int}(b:0<=n):(fdL wk yr).getD (doy n).toNat true=fy wk yr (doy n):=by obtain⟨a,d1⟩:=qxt b;unfold fdL;rw[Aj,Ai,Bb (by lia)];show fy wk yr ((doy n).toNat:Int)=_;rw[C2 a]
theorem tfr_lfr {wk:List Int}{yr:List S2}{rs:List Rw}{n:Int}(f:∀r∈rs,OkR r)(m:0<=n):tfr (fdL wk yr) (ov rs) n=lfr wk yr rs n:=by
 obtain⟨j,l⟩:=qwx λr i=>(f r i).2.1;have g:=λa=>(l a n).symm.trans (qnv a n (qhm j));have k:=qtd (λw=>w≠Aa "") n rs (Aa "free") Ez λs h=>by rcases (f s h).2.2.2 with z|z <;>rw[z] <;>decide +kernel
 unfold tfr lfr;rw[fdL_doy m];have b:=g (Aa "");have d:=g (Aa "free");cases e:(ov rs)[cnt (ends (ov rs)) n]? with
 |none =>rw[e]at b;rw[if_pos b]
 |some r =>
  rw[e]at b d;dsimp only at b d |-;by_cases c:r.1<=n
  .rw[if_pos c]at b d;rw[if_pos c,if_neg (by rw[b,<- d];exact k),b]
  .rw[if_neg c]at b;rw[if_neg c,if_pos b]
def rb {n:Nat}(h:n<=1000) : -2 ^ 62<=(n:Int)/\(n:Int)<2 ^ 62:=by lia
def useF {p G:Int->Prop}{R:Prop}(m:(∀F,p F->G F)->R)(l:∀F,p F->G F):R:=m l
def TabAt.ins {c C:Addr}{H:Hp}{t:Addr}{bs:List Bool}{rs:List Rw}(h:TabAt c C H t bs rs):∃a p q z,H t=some (.ins C a (tfs p q z)):=by obtain⟨a,p,q,z,b,_⟩:=h;exact⟨a,p,q,z,b⟩
def qjr {H:Hp}{x a C:Addr}(nx:H x=none)(nd:H a=none):Same H (upd (upd H a (.own x)) x (.ins C a [])):=λb u e=>by rw[qr (qae e nx),qr (qae e nd)];exact e
def okY0:OkY []:=⟨AU _,λ_ h=>absurd h AG⟩
def okR0:∀r∈([]:List Rw),OkR r:=λ_ h=>absurd h AG
def ov_ap {rs:List Rw}(a:∀r∈rs,OkR r):Ap (ov rs):=(qwx λr b=>(a r b).2.1).1
def qqy (bs:List Bool)(y:Int):pby bs (y+1)=pby bs y+opn bs 364+(wk y-52)*(opn bs 371-opn bs 364):=by
 have e:lb (y+1)=lb y+(wk y-52):=lb_up y;unfold pby
 rw[e,Int.add_mul,Int.add_mul,Int.one_mul];lia
def qio (bs:List Bool){n y:Int}(b:0<=n-7*fw y)(a:n-7*fw y<7*wk y):qc6 bs n=pby bs y+opn bs (n-7*fw y).toNat:=by have e:yo (n / 7)=y:=qti (by lia) (by rw[qie];lia);unfold qc6;rw[qsf b a,e]
def qgo {bs:List Bool}(hl:bs.length=371){k:Nat}(h:k<371):opn bs (k+1)=opn bs k+(if bs.getD k true=true then 0 else 1):=by
 have a:k<bs.length:=by lia
 rw[qlf (Ad a),Aj,Ad a];show (if bs[k]=true then _ else _)=opn bs k+(if bs[k]=true then 0 else 1);split <;>lia
def qjs {bs:List Bool}(d:bs.length=371){n:Int}(h:0<=n):qc6 bs (n+1)=qc6 bs n+(if bs.getD (doy n).toNat true=true then 0 else 1):=by
 have l1:=lies (n / 7);have fn:=qie (yo (n / 7));have w3:=qny (yo (n / 7));have a:0<=n-7*fw (yo (n / 7)):=by lia
 have b:n-7*fw (yo (n / 7))<7*wk (yo (n / 7)):=by lia
 have e:=qsf a b;rw[qio bs a b,e];generalize yo (n / 7)=y at *;have st:=qgo d (k:=(n-7*fw y).toNat) (by lia);by_cases c:n+1-7*fw y<7*wk y
 .rw[qio bs (n:=n+1) (y:=y) (by lia) c,show (n+1-7*fw y).toNat=(n-7*fw y).toNat+1 by lia,st];lia
 .have f:n+1-7*fw (y+1)=0:=by lia
  have wy:=qny (y+1);rw[qio bs (n:=n+1) (y:=y+1) (by lia) (by lia),f,qqy];have z:opn bs (0:Int).toNat=0:=by unfold opn;rfl
  rw[z];rcases (by lia:wk y=52\/wk y=53) with w|w
  .rw[show (n-7*fw y).toNat=363 by lia]at st |-;have st:opn bs 364=_:=st;rw[w,show (52:Int)-52=0 from Z,Es];lia
  .rw[show (n-7*fw y).toNat=370 by lia]at st |-;have st:opn bs 371=_:=st;rw[w,show (53:Int)-52=1 from Z,Int.one_mul];lia
def qn2 (bs:List Bool):qc6 bs 0=0:=by
 rw[qio bs (n:=0) (y:=0) Uk Uk];rw[show ((0:Int)-7*fw 0).toNat=0 by decide];have z:opn bs 0=0:=by unfold opn;rfl
 unfold pby
 rw[z,show lb 0=0 by decide,Es,Es];rfl
def tbR (bs:List Bool):List Rw->Int->Int
 | [],_=>0
 |r::rs,n=>if r.2.1<n then shf bs r (r.2.1+1)+tbR bs rs n else if r.1<n then shf bs r n else 0
def qa9 (bs:List Bool)(rs:List Rw)(n:Int):Int:=qc6 bs n+tbR bs rs n
def qtl {rs:List Rw}{r:Rw}{n:Int}(h:Dis (r::rs))(c:¬r.2.1<n):cnt (ends rs) n=0:=qic λe b=>by obtain⟨s,a,rfl⟩:=AS.mp b;have:=h.later a;show ¬s.2.1<n;lia
theorem qip (bs:List Bool)(n:Int):∀{rs:List Rw},Dis rs->((rs.take (cnt (ends rs) n)).map λr=>shf bs r (r.2.1+1)).sum+(match rs[cnt (ends rs) n]? with|some r=>if r.1<n then shf bs r n else 0|none=>0)=tbR bs rs n
 | [],_=>rfl
 |r::rs,h=>by
  have a:=qip bs n h.tail;show ((List.take (cnt (r.2.1::ends rs) n) (r::rs)).map λr=>shf bs r (r.2.1+1)).sum+(match (r::rs)[cnt (r.2.1::ends rs) n]? with|some r=>if r.1<n then shf bs r n else 0|none=>0)=if r.2.1<n then shf bs r (r.2.1+1)+tbR bs rs n else if r.1<n then shf bs r n else 0;rw[qd4];by_cases c:r.2.1<n
  .rw[if_pos c,if_pos c,<- a,List.take_succ_cons,Ba,List.sum_cons,Int.add_assoc];rfl
  .rw[if_neg c,if_neg c,qtl h c];exact Cq _
theorem qo4 {bs:List Bool}{n:Int}:∀{rs:List Rw},(∀r∈rs,n<=r.1)->(∀r∈rs,r.1<=r.2.1)->tbR bs rs n=0
 | [],_,_=>rfl
 |r::rs,h,h2=>by have a:=h r Al;have b:=h2 r Al;unfold tbR;rw[if_neg (by lia),if_neg (by lia)]
def qiq {bs:List Bool}{r:Rw}{rs:List Rw}{n:Int}(h:Dis (r::rs)):tfr bs (r::rs) n=if r.2.1<n then tfr bs rs n else if r.1<=n then decide (r.2.2=Aa "free") else bs.getD (doy n).toNat true:=by
 unfold tfr;show (match (r::rs)[cnt (r.2.1::ends rs) n]? with|some r=>_|none=>_)=_;rw[qd4];by_cases c:r.2.1<n
 .rw[if_pos c,if_pos c];rfl
 .rw[if_neg c,if_neg c,qtl h c];rfl
def qvo {w:Str}(h:w=Aa "free" \/ w=Aa "open"):(if w=Aa "open" then (1:Int) else 0)=if decide (w=Aa "free")=true then 0 else 1:=by
 rcases h with e|e <;>rw[e]
 .rw[if_neg Ez,if_pos Ez]
 .rw[if_pos Z,if_neg Ez]
def qxx {bs:List Bool}{r:Rw}(h:r.2.2=Aa "free" \/ r.2.2=Aa "open")(n:Int):qc6 bs (n+1)+shf bs r (n+1)=qc6 bs n+shf bs r n+(if decide (r.2.2=Aa "free")=true then 0 else 1):=by rw[<- qvo h];unfold shf;split <;>lia
def qn3 (bs:List Bool)(r:Rw):shf bs r r.1=0:=by unfold shf;split <;>lia
theorem qtm {bs:List Bool}(e:bs.length=371){n:Int}(f:0<=n):∀{rs:List Rw},Dis rs->(∀r∈rs,r.2.2=Aa "free" \/ r.2.2=Aa "open")->qa9 bs rs (n+1)=qa9 bs rs n+(if tfr bs rs n=true then 0 else 1)
 | [],_,_=>by have:=qjs e f;show qc6 bs (n+1)+0=qc6 bs n+0+(if bs.getD (doy n).toNat true=true then 0 else 1);lia
 |r::rs,h,hw=>by
  have l:=qtm e f h.tail λs d=>hw s (Az _ d);have ok:=h.ok r Al;have j:=hw r Al;have pst:=qjs e f;rw[qiq h];unfold qa9 at l |-;show qc6 bs (n+1)+(if r.2.1<n+1 then shf bs r (r.2.1+1)+tbR bs rs (n+1) else if r.1<n+1 then shf bs r (n+1) else 0)=qc6 bs n+(if r.2.1<n then shf bs r (r.2.1+1)+tbR bs rs n else if r.1<n then shf bs r n else 0)+_;by_cases c:r.2.1<n
  .rw[if_pos c,if_pos c,if_pos (by lia)];lia
  .rw[if_neg c,if_neg c];have st:=qxx (bs:=bs) j n;have b:(if r.1<n then shf bs r n else 0)=if r.1<=n then shf bs r n else 0:=by
    by_cases z:r.1<n
    .rw[if_pos z,if_pos (by lia)]
    .rw[if_neg z];by_cases i:r.1<=n
     .rw[if_pos i,show n=r.1 by lia,qn3]
     .rw[if_neg i]
   rw[b];by_cases g:r.2.1<n+1
   .have k:r.2.1=n:=by lia
    rw[if_pos g,qo4 (λs d=>by have:=(h.later d).1;lia) h.tail.ok,if_pos (show r.1<=n by lia),if_pos (show r.1<=n by lia),k];lia
   .rw[if_neg g];by_cases a:r.1<=n
    .rw[if_pos (show r.1<n+1 by lia),if_pos a,if_pos a];lia
    .rw[if_neg (show ¬r.1<n+1 by lia),if_neg a,if_neg a];lia
def qo5 {bs:List Bool}{rs:List Rw}(h:∀r∈rs,0<=r.1)(a:∀r∈rs,r.1<=r.2.1):qa9 bs rs 0=0:=by unfold qa9;rw[qn2,qo4 h a];rfl
def over_wd {P:Str->Prop}{rs:List Rw}{f l:Int}{w:Str}(h:∀r∈rs,P r.2.2)(c:P w):∀r∈over rs f l w,P r.2.2:=λr a=>by
 rcases Av.mp a with a|a
 .obtain⟨s,b,e⟩:=Cb.mp a;have:=h s b;split at e
  .injection e with e;subst e;exact this
  .cases e
 .rcases Aq.mp a with rfl|a
  .exact c
  .obtain⟨s,b,e⟩:=Cb.mp a;have:=h s b;split at e
   .injection e with e;subst e;exact this
   .cases e
def lay_wd {P:Str->Prop}{rs:List Rw}(h:∀r∈rs,P r.2.2):∀r∈lay rs,P r.2.2:=by
 have step:∀(ss laid:List Rw),(∀r∈ss,P r.2.2)->(∀r∈laid,P r.2.2)->∀r∈ss.foldl (λlaid r=>over laid r.1 r.2.1 r.2.2) laid,P r.2.2:=by
  intro ss
  induction ss with
  |nil=>intro laid _ a;exact a
  |cons r ss ih=>intro laid b a;exact ih _ (λs c=>b s (Az _ c)) (over_wd a (b r Al))
 exact step rs [] h λ_ h=>absurd h AG
def jn_wd {P:Str->Prop}{rs:List Rw}(h:∀r∈rs,P r.2.2):∀r∈jn rs,P r.2.2:=by
 have one:∀(a:List Rw)(r:Rw),(∀t∈a,P t.2.2)->P r.2.2->∀t∈jn1 a r,P t.2.2:=λa r b c=>by
  rcases BJ a with rfl|⟨rs,t,rfl⟩
  .intro z hz;have:z=r:=by simpa [jn1] using hz
   rw[this];exact c
  .rw[BK]at b |-;rw[qd6];intro z hz;split at hz
   .rcases Av.mp hz with hz|hz
    .exact b z (Bl _ hz)
    .rw[Ah.mp hz];exact c
   .rcases Av.mp hz with hz|hz
    .exact b z hz
    .rw[Ah.mp hz];exact c
 have step:∀(ss a:List Rw),(∀r∈ss,P r.2.2)->(∀r∈a,P r.2.2)->∀r∈ss.foldl jn1 a,P r.2.2:=by
  intro ss
  induction ss with
  |nil=>intro a _ b;exact b
  |cons r ss ih=>intro a d b;exact ih _ (λs e=>d s (Az _ e)) (one _ _ b (d r Al))
 exact step rs [] h λ_ h=>absurd h AG
def ov_wd {P:Str->Prop}{rs:List Rw}(h:∀r∈rs,P r.2.2):∀r∈ov rs,P r.2.2:=jn_wd (lay_wd h)
def tb_some {bs:List Bool}{rs:List Rw}{n:Int}{r:Rw}(h:Dis rs)(e:rs[cnt (ends rs) n]?=some r)(c:r.1<n):qc6 bs n+((rs.take (cnt (ends rs) n)).map λr=>shf bs r (r.2.1+1)).sum+shf bs r n=qa9 bs rs n:=by have z:=qip bs n h;rw[e]at z;dsimp only at z;rw[if_pos c]at z;unfold qa9;rw[<- z,Int.add_assoc]
def tb_late {bs:List Bool}{rs:List Rw}{n:Int}{r:Rw}(h:Dis rs)(e:rs[cnt (ends rs) n]?=some r)(c:¬r.1<n):qc6 bs n+((rs.take (cnt (ends rs) n)).map λr=>shf bs r (r.2.1+1)).sum=qa9 bs rs n:=by have z:=qip bs n h;rw[e]at z;dsimp only at z;rw[if_neg c,C5]at z;unfold qa9;rw[<- z]
def tb_none {bs:List Bool}{rs:List Rw}{n:Int}(h:Dis rs)(e:rs[cnt (ends rs) n]?=none):qc6 bs n+((rs.take (cnt (ends rs) n)).map λr=>shf bs r (r.2.1+1)).sum=qa9 bs rs n:=by have z:=qip bs n h;rw[e]at z;dsimp only at z;rw[C5]at z;unfold qa9;rw[<- z]
def spTBef (a:Adr):Sp:=λvs H Q _=>∃(x:Addr)(bs:List Bool)(rs:List Rw)(n:Int),vs=[.ref x,.int n]/\TabAt a.kK a.kI H x bs rs/\Ap rs/\(∀r∈rs,0<=r.1)/\0<=n/\∀H',Same H H'->Q (.int (qa9 bs rs n)) H'
def way (ns:List Int):Int:=cell ns 8 / 13 % 6
theorem qg0 {bs:List Bool}(a:bs.length=371):∀{n k:Nat},k<=n->n<=371->opn bs k<=opn bs n
 |0,k,h,_=>by rw[Nat.le_zero.mp h];exact Bp _
 |n+1,k,h,h2=>by
  by_cases e:k=n+1
  .rw[e];exact Bp _
  .have:=qg0 a (n:=n) (k:=k) (by lia) (by lia);have st:=qgo a (k:=n) (by lia);split at st <;>lia
def qqz (bs:List Bool):opn bs 0=0:=by unfold opn;rfl
theorem qtn {bs:List Bool}(a:bs.length=371){i:Int}(b:0<=i):∀{n:Nat},n<=371->i<opn bs n->∃w<n,opn bs w=i/\bs.getD w true=false
 |0,_,h=>by rw[qqz]at h;lia
 |n+1,hn,h=>by
  by_cases c:i<opn bs n
  .obtain⟨w,w1,d⟩:=qtn a b (n:=n) (by lia) c;exact⟨w,by lia,d⟩
  .have st:=qgo a (k:=n) (by lia);cases e:bs.getD n true with|true=>rw[e,if_pos Z]at st;lia|false=>rw[e,if_neg Uk]at st;exact⟨n,by lia,by lia,e⟩
theorem qxy {bs:List Bool}(a:bs.length=371):∀{n:Nat},n<=371->((((Ar n).filter λi=>!(bs.getD i true)).length:Nat):Int)=opn bs n
 |0,_=>by rw[qqz];rfl
 |n+1,h=>by
  have ih:=qxy a (n:=n) (by lia);have st:=qgo a (k:=n) (by lia);rw[By,Cc,Af];cases e:bs.getD n true with|true =>rw[e,if_pos Z]at st;have:([n].filter λi=>!(bs.getD i true))=[]:=Bw (by rw[e];decide);rw[this];simp only[DK];lia|false =>rw[e,if_neg Uk]at st;have:([n].filter λi=>!(bs.getD i true))=[n]:=Bx (by rw[e];rfl);rw[this];simp only[AW];lia
theorem od_at {bs:List Bool}(b:bs.length=371){w:Nat}(c:bs.getD w true=false):∀{n:Nat},n<=371->w<n->((Ar n).filter λi=>!(bs.getD i true))[(opn bs w).toNat]?=some w
 |0,_,h=>absurd h (B2 _)
 |n+1,hn,h=>by
  rw[By,Cc];by_cases e:w=n
  .subst e;have ll:=qxy b (n:=w) (by lia);have:([w].filter λi=>!(bs.getD i true))=[w]:=Bx (by rw[c];rfl);rw[this,AV (by lia),show (opn bs w).toNat-((Ar w).filter λi=>!(bs.getD i true)).length=0 by lia];rfl
  .have a:=od_at b c (n:=n) (by lia) (by lia);rw[AH (Ac.mp a).1];exact a
def odL_at {bs:List Bool}(a:bs.length=371){w:Nat}(h:w<371)(b:bs.getD w true=false):(odL bs)[(opn bs w).toNat]?=some (w:Int):=by unfold odL;rw[a,Ai,od_at a b (Am _) h];rfl
def qxz {bs:List Bool}(hl:bs.length=371)(y:Int):pby bs (y+1)=pby bs y+opn bs (7*wk y).toNat:=by
 rw[qqy];rcases (by have:=qny y;lia:wk y=52\/wk y=53) with w|w
 .rw[w,show (52:Int)-52=0 from Z,Es,show ((7:Int)*52).toNat=364 from Z,C5]
 .rw[w,show (53:Int)-52=1 from Z,Int.one_mul,show ((7:Int)*53).toNat=371 from Z];lia
def pby_lt {bs:List Bool}(b:bs.length=371)(ho:0<opn bs 364)(y:Int):pby bs y<pby bs (y+1):=by have a:=qny y;have m:=qg0 b (k:=364) (n:=(7*wk y).toNat) (by lia) (by lia);rw[qxz b];lia
def pby_17 (bs:List Bool)(k:Int):pby bs (17*k)=k*pby bs 17:=by
 have e:lb (17*k)=3*k:=by unfold lb;lia
 have a:lb 17=3:=by decide
 unfold pby
 rw[e,a,Int.mul_add,<- Int.mul_assoc,<- Int.mul_assoc,Int.mul_comm k 17,Int.mul_comm k 3]
def pby_17B {bs:List Bool}(c:bs.length=371)(ho:0<opn bs 364):0<pby bs 17/\pby bs 17<1073741824:=by
 have d:lb 17=3:=by decide
 have a:=qjd bs 364;have b:=qjd bs 371;have m:=qg0 c (k:=364) (n:=371) (by lia) (by lia);unfold pby
 rw[d];lia
def pn_day {bs:List Bool}(b:bs.length=371){m y:Int}(g:0<=y)(h1:pby bs y<=m)(h:m<pby bs (y+1)):∃w:Nat,(odL bs)[(m-pby bs y).toNat]?=some (w:Int)/\0<=7*fw y+(w:Int)/\bs.getD (doy (7*fw y+(w:Int))).toNat true=false/\qc6 bs (7*fw y+(w:Int))=m:=by
 rw[qxz b]at h;have a:=qny y;have f0:=fw_nn g;obtain⟨w,w1,f,e⟩:=qtn b (i:=m-pby bs y) (by lia) (n:=(7*wk y).toNat) (by lia) (by lia);have c:0<=7*fw y+(w:Int)-7*fw y:=by lia
 have d:7*fw y+(w:Int)-7*fw y<7*wk y:=by lia
 refine⟨w,?_,by lia,?_,?_⟩
 .rw[<- f];exact odL_at b (by lia) e
 .rw[qsf c d,show (7*fw y+(w:Int)-7*fw y).toNat=w by lia];exact e
 .rw[qio bs c d,show (7*fw y+(w:Int)-7*fw y).toNat=w by lia,f];lia
structure Cnt (f:Int->Int)(g:Int->Bool):Prop where
 st:∀n,0<=n->f (n+1)=f n+(if g n=true then 0 else 1)
theorem Cnt.mono {f:Int->Int}{g:Int->Bool}(c:Cnt f g){n:Int}(a:0<=n):∀k:Nat,f n<=f (n+k)
 |0=>by rw[Ej,C5];exact Bp _
 |k+1=>by have ih:=c.mono a k;have s:=c.st (n+k) (by lia);rw[show n+((k+1:Nat):Int)=n+k+1 by lia,s];split <;>lia
def Cnt.le {f:Int->Int}{g:Int->Bool}(c:Cnt f g){n m:Int}(a:0<=n)(h:n<=m):f n<=f m:=by
 have:=c.mono a (m-n).toNat
 rwa [show n+((m-n).toNat:Int)=m by lia]at this
def Cnt.lt {f:Int->Int}{g:Int->Bool}(c:Cnt f g){n m:Int}(a:0<=m)(h:f n<f m):n<m:=by
 by_cases z:n<m
 .exact z
 .have:=c.le a (B8.mp z);lia
def Cnt.ge {f:Int->Int}{g:Int->Bool}(c:Cnt f g){n d:Int}(a:0<=d)(o:g d=false)(h:f n<=f d):n<=d:=by
 by_cases z:n<=d
 .exact z
 .have s:=c.st d a;rw[o,if_neg Uk]at s;have:=c.le (n:=d+1) (m:=n) (by lia) (by lia);lia
def Cnt.free {f:Int->Int}{g:Int->Bool}(c:Cnt f g){n d e:Int}(j:0<=n)(h:f d=f n)(i:n<=e)(h2:e<d):g e=true:=by
 cases o:g e with|true=>rfl|false =>have s:=c.st e (by lia);rw[o,if_neg Uk]at s;have a:=c.le j i;have b:=c.le (n:=e+1) (m:=d) (by lia) (by lia);lia
def pcnt {bs:List Bool}(a:bs.length=371):Cnt (qc6 bs) (λn=>bs.getD (doy n).toNat true):=⟨λ_ h=>qjs a h⟩
def qx0 {bs:List Bool}{rs:List Rw}(a:bs.length=371)(b:Ap rs)(c:∀r∈rs,r.2.2=Aa "free" \/ r.2.2=Aa "open"):Cnt (qa9 bs rs) (tfr bs rs):=⟨λ_ h=>qtm a h (qhm b) c⟩
theorem ql4 {bs:List Bool}{n:Int}{suf:List Rw}:∀{pre:List Rw},(∀r∈pre,r.2.1<n)->tbR bs (pre++suf) n=(pre.map λr=>shf bs r (r.2.1+1)).sum+tbR bs suf n
 | [],_=>(Cq _).symm
 |r::pre,h=>by have b:=ql4 (bs:=bs) (suf:=suf) (pre:=pre) λs a=>h s (Az _ a);show (if r.2.1<n then shf bs r (r.2.1+1)+tbR bs (pre++suf) n else _)=_;rw[if_pos (h r Al),b,Ba,List.sum_cons,Int.add_assoc]
theorem qsg {bs:List Bool}{n:Int}{suf:List Rw}:∀{pre:List Rw},Dis (pre++suf)->(∀r∈pre,r.2.1<n)->tfr bs (pre++suf) n=tfr bs suf n
 | [],_,_=>rfl
 |r::pre,d,h=>by have b:=qsg (bs:=bs) (suf:=suf) (pre:=pre) d.tail λs a=>h s (Az _ a);show tfr bs (r::(pre++suf)) n=_;have d':Dis (r::(pre++suf)):=d;rw[qiq d',if_pos (h r Al),b]
def qo6 {bs:List Bool}{n:Int}{suf:List Rw}(h:∀r∈suf,n<=r.1)(ok:∀r∈suf,r.1<=r.2.1):tbR bs suf n=0:=qo4 h ok
def tf_gap {bs:List Bool}{n:Int}{suf:List Rw}(d:Dis suf)(h:∀r∈suf,n<r.1):tfr bs suf n=bs.getD (doy n).toNat true:=by
 cases suf with|nil=>rfl|cons r suf =>have a:=h r Al;have b:=d.ok r Al;rw[qiq d,if_neg (by lia),if_neg (by lia)]
theorem gap_day {bs:List Bool}{pre suf:List Rw}{m d lo:Int}(v:bs.length=371)(D:Dis (pre++suf))(h0:0<=lo)(k:∀r∈pre,r.2.1<lo)(j:∀r∈suf,lo<=r.1)(p:qa9 bs (pre++suf) lo<=m)(i:∀r∈suf,m<qa9 bs (pre++suf) r.1)
  (u:0<=d)(h:bs.getD (doy d).toNat true=false)(t:qc6 bs d=m-(pre.map λr=>shf bs r (r.2.1+1)).sum):tfr bs (pre++suf) d=false/\qa9 bs (pre++suf) d=m:=by
 have b:Dis suf:=⟨λr a=>D.ok r (A1 _ a),(B6.mp D.pw).2.1⟩;have P:=pcnt v;have c:∀n,lo<=n->(∀r∈suf,n<=r.1)->qa9 bs (pre++suf) n=qc6 bs n+(pre.map λr=>shf bs r (r.2.1+1)).sum:=λn w o=>by unfold qa9;rw[ql4 (λr a=>Bh (k r a) w),qo6 o b.ok,C5]
 rw[c lo (Bp _) j]at p;have f:lo<=d:=P.ge u h (by lia);have e:∀r∈suf,d<r.1:=λr a=>by
  have z:=i r a;cases suf with
  |nil=>cases a
  |cons s suf =>
   have l:=i s Al;have x:=j s Al;rw[c s.1 x (λq g=>by
    rcases Aq.mp g with rfl|g
    .exact Bp _
    .have:=(b.later g).1;have:=b.ok s Al;lia)]at l
   have ds:d<s.1:=P.lt (by lia) (by lia);rcases Aq.mp a with rfl|a
   .exact ds
   .have:=(b.later a).1;have:=b.ok s Al;lia
 refine⟨?_,?_⟩
 .rw[qsg D (λr a=>Bh (k r a) f),tf_gap b e];exact h
 .rw[c d f (λr a=>Dg (e r a)),t];lia
theorem row_day {bs:List Bool}{pre suf:List Rw}{r:Rw}{m:Int}(D:Dis (pre++r::suf))(o:r.2.2=Aa "free" \/ r.2.2=Aa "open")(b0:qa9 bs (pre++r::suf) r.1<=m)(b1:m<qa9 bs (pre++r::suf) (r.2.1+1)) :
  r.1<=r.1+m-qa9 bs (pre++r::suf) r.1/\tfr bs (pre++r::suf) (r.1+m-qa9 bs (pre++r::suf) r.1)=false/\qa9 bs (pre++r::suf) (r.1+m-qa9 bs (pre++r::suf) r.1)=m:=by
 have b:Dis (r::suf):=⟨λq a=>D.ok q (A1 _ a),(B6.mp D.pw).2.1⟩;have ok:=b.ok r Al;have h:∀n,r.1<=n->∀q∈pre,q.2.1<n:=λn z q a=>Bh ((B6.mp D.pw).2.2 q a r Al) z;have at0:qa9 bs (pre++r::suf) r.1=qc6 bs r.1+(pre.map λr=>shf bs r (r.2.1+1)).sum:=by
  unfold qa9;rw[ql4 (h _ (Bp _)),qo6 (λq a=>by
   rcases Aq.mp a with rfl|a
   .exact Bp _
   .have:=(b.later a).1;lia) b.ok,C5]
 have e:∀n,r.1<=n->n<=r.2.1+1->qa9 bs (pre++r::suf) n=qc6 bs n+((pre.map λr=>shf bs r (r.2.1+1)).sum+shf bs r n):=λn p z2=>by
  unfold qa9;rw[ql4 (h n p)];show _+(_+(if r.2.1<n then shf bs r (r.2.1+1)+tbR bs suf n else if r.1<n then shf bs r n else 0))=_;by_cases c:r.2.1<n
  .rw[if_pos c,qo6 (λq a=>by have:=(b.later a).1;lia) b.tail.ok,show r.2.1+1=n by lia,C5]
  .rw[if_neg c];by_cases j:r.1<n
   .rw[if_pos j]
   .rw[if_neg j,show n=r.1 by lia,qn3]
 have g:∀n,qc6 bs n+shf bs r n=qc6 bs r.1+(if r.2.2=Aa "open" then n-r.1 else 0):=λn=>by unfold shf;lia
 have d:r.2.2=Aa "open" := by
  rcases o with z|z
  .have k:=e (r.2.1+1) (by lia) (Bp _);have i:=g (r.2.1+1);rw[if_neg (by rw[z];decide +kernel)]at i;lia
  .exact z
 have k:=e (r.2.1+1) (by lia) (Bp _);have i:=g (r.2.1+1);rw[if_pos d]at i;have f:r.1<=r.1+m-qa9 bs (pre++r::suf) r.1:=by lia
 have n1:r.1+m-qa9 bs (pre++r::suf) r.1<=r.2.1:=by lia
 refine⟨f,?_,?_⟩
 .rw[qsg D (h _ f),qiq b,if_neg (by lia),if_pos f,d];exact decide_eq_false Ez
 .have l:=g (r.1+m-qa9 bs (pre++r::suf) r.1);rw[if_pos d]at l;rw[e _ f (by lia)];lia
theorem qto {js:List Nat}{c0:Int}(nd:js.Nodup):∀{is:List (Int×Int)},(∀i∈is,i.2<i.1+42)->is.length<js.length->∃j∈js,∀i∈is,¬(i.1<=c0+42*(j:Int)/\c0+42*(j:Int)<=i.2):=by
 intro is
 induction is generalizing js with
 |nil =>intro _ h;obtain⟨j,c⟩:=List.exists_mem_of_length_pos (CW (AU _) h);exact⟨j,c,λi n=>absurd n AG⟩
 |cons i is ih =>
  intro h s;have n:=h i Al;let p:Nat->Bool:=λj=>!(decide (i.1<=c0+42*(j:Int)) && decide (c0+42*(j:Int)<=i.2));have g:∀{j:Nat},p j=false->i.1<=c0+42*(j:Int)/\c0+42*(j:Int)<=i.2:=λ{j} z=>by have z:(!(decide (i.1<=c0+42*(j:Int)) && decide (c0+42*(j:Int)<=i.2)))=false:=z;rw[Bool.not_eq_false',BF,decide_eq_true_iff,decide_eq_true_iff]at z;exact z
  have l:∀{ks:List Nat},ks.Nodup->ks.length<=(ks.filter p).length+1:=λ{ks} f=>by
   induction ks with
   |nil=>exact AU _
   |cons k ks ik =>
    rw[Cz]at f;cases e:p k with
    |true =>rw[Bx e,AD,AD];have:=ik f.2;lia
    |false =>
     rw[Bw (by rw[e];decide),AD];have all:ks.filter p=ks:=List.filter_eq_self.mpr λj c=>by
      cases t:p j with
      |true=>rfl
      |false =>
       have a:=g e;have b:=g t;have:j=k:=by lia
       rw[this]at c;exact absurd c f.1
     rw[all];exact Am _
  have:=l nd;rw[AD]at s;obtain⟨j,c,r⟩:=ih (js:=js.filter p) (nd.filter p) (λq d=>h q (Az _ d)) (by lia);obtain⟨o,m⟩:=Bk.mp c;refine⟨j,o,λq d=>?_⟩;rcases Aq.mp d with rfl|d
  .intro z;have:p j=false:=by show (!(decide (q.1<=c0+42*(j:Int)) && decide (c0+42*(j:Int)<=q.2)))=false;rw[decide_eq_true z.1,decide_eq_true z.2];rfl
   rw[this]at m;cases m
  .exact r q d
theorem qtp:∀{xs ys:List Int},xs.Nodup->(∀x∈xs,x∈ys)->xs.length<=ys.length
 | [],_,_,_=>AU _
 |x::xs,ys,nd,h=>by rw[Cz]at nd;have b:=h x Al;have:=qtp (xs:=xs) (ys:=ys.erase x) nd.2 λy a=>(List.mem_erase_of_ne (λz:y=x=>nd.1 (by rw[<- z];exact a))).mpr (h y (Az _ a));rw[List.length_erase_of_mem b]at this;have p:0<ys.length:=List.length_pos_of_mem b;rw[AD];lia
def qtq {wk:List Int}(ok:OkW wk):∃w:Int,0<=w/\w<7/\wk.contains (w+1)=false:=by
 by_cases h:∃w:Int,0<=w/\w<7/\wk.contains (w+1)=false
 .exact h
 .exfalso;have all:∀x∈[(1:Int),2,3,4,5,6,7],x∈wk:=λx a=>by
   have b:1<=x/\x<=7:=by simp only[Aq,AG,or_false]at a;lia
   cases e:wk.contains x with|true=>exact Bo.mp e|false=>exact absurd ⟨x-1,by lia,by lia,by rw[show x-1+1=x by lia];exact e⟩ h
  have:=qtp Uk all;have:=ok.len;simp only[AD,DK]at *;lia
def qtr {wk:List Int}{yr:List S2}{i w:Int}(b:wk.contains (w+1)=false)(e:i % 7=w)(h:∀r∈yr,¬(r.1<=i/\i<=r.2)):fy wk yr i=false:=by unfold fy;rw[e,b,D9,inB_any,List.any_eq_false];intro r a;rw[BF,decide_eq_true_iff,decide_eq_true_iff];exact h r a
def qx1 {wk:List Int}{yr:List S2}(d:OkW wk)(c:OkY yr):0<opn (fdL wk yr) 364:=by
 obtain⟨w,w0,w1,o⟩:=qtq d;obtain⟨j,e,l⟩:=qto (js:=Ar 5) (c0:=w) Di (is:=yr) (λr m=>by have:=c.rng r m;lia) (by have:=c.len;rw[Aw];lia);have e:=AT.mp e;have f:=qfb wk yr;have h:=qtr (yr:=yr) (i:=w+42*(j:Int)) o (by lia) l;have hk:(w+42*(j:Int)).toNat<364:=by lia
 have g:(fdL wk yr).getD (w+42*(j:Int)).toNat true=false:=by unfold fdL;rw[Aj,Ai,Bb (by lia)];show fy wk yr ((w+42*(j:Int)).toNat:Int)=false;rw[C2 (by lia)];exact h
 have st:=qgo f (k:=(w+42*(j:Int)).toNat) (by lia);rw[g,if_neg Uk]at st;have a:=qg0 f (k:=(w+42*(j:Int)).toNat+1) (n:=364) (by lia) (by lia);have b:=qjd (fdL wk yr) (w+42*(j:Int)).toNat;lia
def qvp {rs:List Rw}{n:Int}(h:∀r∈rs,¬(r.1<=n/\n<=r.2.1)):qa8 (Aa "") rs n=Aa "" := by
 unfold qa8;have:∀(ss:List Rw)(a:Str),(∀r∈ss,¬(r.1<=n/\n<=r.2.1))->ss.foldl (λa r=>if r.1<=n/\n<=r.2.1 then r.2.2 else a) a=a:=by
  intro ss
  induction ss with
  |nil=>intro a _;rfl
  |cons r ss ih=>intro a z;rw[List.foldl_cons,if_neg (z r Al)];exact ih a λq b=>z q (Az _ b)
 exact this rs _ h
def qvq {wk:List Int}{yr:List S2}{rs:List Rw}(h:OkW wk)(f:OkY yr)(hl:rs.length<=12)(m:∀r∈rs,OkR r){n:Int}(h0:0<=n):∃e,n<=e/\e<=n+2000/\lfr wk yr rs e=false:=by
 obtain⟨w,w0,w1,y⟩:=qtq h;obtain⟨c0,c1,c2,c3⟩:∃c0:Int,n<=c0/\c0<=n+6/\c0 % 7=w:=⟨n+(w-n % 7) % 7,by lia,by lia,by lia⟩;let Y:=yo (c0 / 7);let is:List (Int×Int):=(rs.map λr=>(r.1,r.2.1))++(Ar 7).flatMap λ(k:Nat)=>yr.map λr=>(7*fw (Y+(k:Int))+r.1,7*fw (Y+(k:Int))+r.2);have t:is.length<48:=by
  have a:((Ar 7).flatMap λ(k:Nat)=>yr.map λr=>(7*fw (Y+(k:Int))+r.1,7*fw (Y+(k:Int))+r.2)).length=7*yr.length:=by rw[List.length_flatMap];simp only[Ab,List.map_const',Aw,List.sum_replicate_nat]
  have b:=f.len;show ((rs.map λr=>(r.1,r.2.1))++_).length<48;rw[Af,Ab,a];lia
 obtain⟨j,l,g⟩:=qto (js:=Ar 48) (c0:=c0) Di (is:=is) (λi q=>by
  rcases Av.mp q with z|z
  .obtain⟨r,d,rfl⟩:=AS.mp z;have:=(m r d).2.2.1;show r.2.1<r.1+42;lia
  .obtain⟨k,_,z⟩:=List.mem_flatMap.mp z;obtain⟨r,d,rfl⟩:=AS.mp z;have:=f.rng r d;show 7*fw (Y+(k:Int))+r.2<7*fw (Y+(k:Int))+r.1+42;lia) (by rw[Aw];exact t)
 have l:=AT.mp l;refine⟨c0+42*(j:Int),by lia,by lia,?_⟩;generalize ec:c0+42*(j:Int)=c at g;have s:∃k:Nat,k<7/\yo (c / 7)=Y+(k:Int):=by
  have u:=lies (c0 / 7);have v:=lies (c / 7);have:yo (c0 / 7)<=yo (c / 7)/\yo (c / 7)<yo (c0 / 7)+7:=by unfold fw at u v;lia
  exact⟨(yo (c / 7)-yo (c0 / 7)).toNat,by lia,by show yo (c / 7)=yo (c0 / 7)+_;lia⟩
 obtain⟨k,p,o⟩:=s;unfold lfr;rw[qvp (λr d z=>g (r.1,r.2.1) (Bl _ (AS.mpr ⟨r,d,Z⟩)) z),if_pos Z];refine qtr y (by rw[doy_mod];lia) λr d z=>?_;have x:doy c=c-7*fw (Y+(k:Int)):=by unfold doy;rw[o]
 rw[x]at z;exact g (7*fw (Y+(k:Int))+r.1,7*fw (Y+(k:Int))+r.2) (A1 _ (List.mem_flatMap.mpr ⟨k,AT.mpr p,AS.mpr ⟨r,d,Z⟩⟩)) ⟨by show _<=c;lia,by show c<=_;lia⟩
def lo (rs:List Rw):Nat->Int
 |0=>0
 |i+1=>match rs[i]? with|some r=>r.2.1+1|none=>0
def qts {rs:List Rw}{i:Nat}{r:Rw}(h:rs[i]?=some r):lo rs (i+1)=r.2.1+1:=by show (match rs[i]? with|some r=>r.2.1+1|none=>0)=_;rw[h]
theorem lo_ok {rs:List Rw}(D:Dis rs)(h:∀r∈rs,0<=r.1){i:Nat}(k:i<=rs.length):0<=lo rs i/\(∀r∈rs.take i,r.2.1<lo rs i)/\∀r∈rs.drop i,lo rs i<=r.1:=by
 cases i with
 |zero=>exact⟨Bp _,λr c=>absurd c (by rw[De];exact AG),λr c=>h r (by rwa [List.drop_zero]at c)⟩
 |succ i =>
  have d:i<rs.length:=k;have e:=Ad d;rw[qts e];have m:=Bj d;have a:=h _ m;have b:=D.ok _ m;have pw:=AZ.mp D.pw;refine⟨by lia,λr c=>?_,λr c=>?_⟩
  .obtain⟨j,g,f⟩:=C1 c;rw[Bv]at g;rw[Ed]at f;by_cases z:j=i
   .subst z;rw[<- f];lia
   .have:=pw j i (by lia) d (by lia);rw[f]at this;lia
  .obtain⟨j,g,f⟩:=C1 c;rw[C6]at g;rw[List.getElem_drop]at f;have:=pw i (i+1+j) d (by lia) (by lia);rw[f]at this;lia
theorem qtt {bs:List Bool}{rs:List Rw}{i:Nat}{m:Int}(b:bs.length=371)(g:Ap rs)(j:∀r∈rs,0<=r.1)(l:i<=rs.length)(q:qa9 bs rs (lo rs i)<=m)(k:∀r∈rs.drop i,m<qa9 bs rs r.1) :
  0<=m-((rs.take i).map λr=>shf bs r (r.2.1+1)).sum/\∀d,0<=d->bs.getD (doy d).toNat true=false->qc6 bs d=m-((rs.take i).map λr=>shf bs r (r.2.1+1)).sum->tfr bs rs d=false/\qa9 bs rs d=m:=by
 obtain⟨a,c,f⟩:=lo_ok (qhm g) j l;have D:=qhm g;have e:=CF i rs;refine⟨?_,λd t h s=>?_⟩
 .have z:qa9 bs (rs.take i++rs.drop i) (lo rs i)=qc6 bs (lo rs i)+((rs.take i).map λr=>shf bs r (r.2.1+1)).sum:=by
   unfold qa9
   rw[ql4 c,qo6 f (λr o=>D.ok r (List.mem_of_mem_drop o)),C5]
  rw[e]at z
  have p:=(pcnt b).le (n:=0) (m:=lo rs i) (Bp _) a
  rw[qn2]at p
  lia
 .have:=gap_day (pre:=rs.take i) (suf:=rs.drop i) (m:=m) (d:=d) (lo:=lo rs i) b (by rw[e];exact D) a c f (by rw[e];exact q) (by rw[e];exact k) t h s;rw[e]at this;exact this
def qvr {rs:List Rw}{i:Nat}{r:Rw}(D:Dis rs)(h:rs[i]?=some r):∀q∈rs.drop i,r.1<=q.1:=λq d=>by
 obtain⟨b,e⟩:=Ac.mp h;obtain⟨j,c,a⟩:=C1 d;rw[C6]at c;rw[List.getElem_drop]at a;by_cases z:j=0
 .subst z;rw[<- a,<- e];exact Bp _
 .have p:=AZ.mp D.pw i (i+j) b (by lia) (by lia);rw[a,e]at p;have:=D.ok r (A0 h);lia
theorem row_use {bs:List Bool}{rs:List Rw}{i:Nat}{r:Rw}{m:Int}(d:Ap rs)(h:rs[i]?=some r)(f:r.2.2=Aa "free" \/ r.2.2=Aa "open")(b:qa9 bs rs r.1<=m)(a:m<qa9 bs rs (r.2.1+1)) :
  r.1<=r.1+m-qa9 bs rs r.1/\tfr bs rs (r.1+m-qa9 bs rs r.1)=false/\qa9 bs rs (r.1+m-qa9 bs rs r.1)=m:=by
 obtain⟨c,e⟩:=Ac.mp h;have g:rs=rs.take i++r::rs.drop (i+1):=by rw[<- e,<- CH c,CF]
 have D:=qhm d;rw[g]at D b a |-;exact row_day D f b a
def cnt_one {f:Int->Int}{g:Int->Bool}(c:Cnt f g){d e:Int}(j:0<=d)(l:0<=e)(k:g d=false)(i:g e=false)(h:f d=f e):d=e:=by have a:=c.ge j k (n:=e) (by lia);have b:=c.ge l i (n:=d) (by lia);lia
def WdO (rs:List Rw):Prop:=∀r∈rs,r.2.2=Aa "free" \/ r.2.2=Aa "open"
def spYw (a:Adr):Sp:=λvs H Q _=>∃(x:Addr)(bs:List Bool)(m:Int),vs=[.ref x,.int m]/\PatAt a.kK H x bs/\0<=m/\0<opn bs 364/\∀y:Int,0<=y->pby bs y<=m->m<pby bs (y+1)->Q (.int y) H
def spPNth (a:Adr):Sp:=λvs H Q _=>∃(x:Addr)(bs:List Bool)(m:Int),vs=[.ref x,.int m]/\PatAt a.kK H x bs/\0<=m/\0<opn bs 364/\∀d:Int,0<=d->bs.getD (doy d).toNat true=false->qc6 bs d=m->Q (.int d) H
def spTNth (a:Adr):Sp:=λvs H Q _=>∃(x:Addr)(bs:List Bool)(rs:List Rw)(m:Int),vs=[.ref x,.int m]/\TabAt a.kK a.kI H x bs rs/\Ap rs/\(∀r∈rs,0<=r.1)/\WdO rs/\0<opn bs 364/\0<=m/\∀(d:Int)(H':Hp),Same H H'->0<=d->tfr bs rs d=false->qa9 bs rs d=m->Q (.int d) H'
def spTNext (a:Adr):Sp:=λvs H Q _=>∃(x:Addr)(bs:List Bool)(rs:List Rw)(n:Int),vs=[.ref x,.int n]/\TabAt a.kK a.kI H x bs rs/\Ap rs/\(∀r∈rs,0<=r.1)/\WdO rs/\0<opn bs 364/\0<=n/\∀(d:Int)(H':Hp),Same H H'->0<=d->tfr bs rs d=false->qa9 bs rs d=qa9 bs rs n->Q (.int d) H'
def wd_ov {rs:List Rw}(a:∀r∈rs,OkR r):WdO (ov rs):=ov_wd (P:=λw=>w=Aa "free" \/ w=Aa "open") λr b=>(a r b).2.2.2
abbrev kC (a:Adr):Three->Addr:=qcn a.kN a.kR a.kP
noncomputable abbrev kfs (tb:Addr):List (Str×V):=[(Aa "table",.ref tb)]
def spKInit (a:Adr):Sp:=λvs H Q _=>∃(i:Three)(x dx tb:Addr),vs=[.ref x,.ref tb]/\H x=some (.ins (kC a i) dx [])/\Q .non (upd H x (.ins (kC a i) dx (kfs tb)))
def qgp (g:Int->V):Sp:=λvs H Q _=>∃(x:Addr)(u:Int),vs=[.ref x,.int u]/\Q (g u) H
def qex (g:Int->Int->V):Sp:=λvs H Q _=>∃(x:Addr)(u v:Int),vs=[.ref x,.int u,.int v]/\Q (g u v) H
def qtu (a:Adr)(H:Hp)(x:Addr)(bs:List Bool)(rs:List Rw):Prop:=∃(dx tb:Addr),H x=some (.ins a.kP dx (kfs tb))/\TabAt a.kK a.kI H tb bs rs
structure TabOk (bs:List Bool)(rs:List Rw):Prop where
 hl:bs.length=371
 ap:Ap rs
 nn:∀r∈rs,0<=r.1
 wd:WdO rs
 op:0<opn bs 364
def qx2 (a:Adr):Sp:=λvs H Q _=>∃(x:Addr)(bs:List Bool)(rs:List Rw)(f l:Int),vs=[.ref x,.int f,.int l]/\qtu a H x bs rs/\TabOk bs rs/\0<=f/\∀H',Same H H'->Q (.int (if l<f then 0 else qa9 bs rs (l+1)-qa9 bs rs f)) H'
def ql5 (a:Adr):Sp:=λvs H Q _=>∃(x:Addr)(bs:List Bool)(rs:List Rw)(f m:Int),vs=[.ref x,.int f,.int m]/\qtu a H x bs rs/\TabOk bs rs/\0<=f/\1<=m/\∀(d:Int)(H':Hp),Same H H'->0<=d->tfr bs rs d=false->qa9 bs rs d=qa9 bs rs f+m-1->Q (.int d) H'
def qj9:Three->Str:=qcn (Aa "days") (Aa "weeks") (Aa "court")
def spKind (a:Adr):Sp:=λvs H Q _=>∃(i:Three)(tb:Addr),vs=[.str (qj9 i),.ref tb]/\∀(x dx:Addr)(H':Hp),Same H H'->H x=none->H' x=some (.ins (kC a i) dx (kfs tb))->Q (.ref x) H'
def ql6 {H:Hp}{x a C tb:Addr}(nx:H x=none)(nd:H a=none):Same H (upd (upd (upd H a (.own x)) x (.ins C a [])) x (.ins C a (kfs tb))):=λb u e=>by rw[qr (qae e nx)];exact qjr nx nd b u e
structure PartsOk (wk:List Int)(yr:List S2)(rs:List Rw):Prop where
 w:OkW wk
 y:OkY yr
 l:rs.length<=12
 r:∀r∈rs,OkR r
def PartsOk.tab {wk:List Int}{yr:List S2}{rs:List Rw}(h:PartsOk wk yr rs):TabOk (fdL wk yr) (ov rs):=⟨qfb wk yr,ov_ap h.r,ov_nn λr a=>(h.r r a).1,wd_ov h.r,qx1 h.w h.y⟩
def kf (bs:List Bool)(rs:List Rw):Three->Int->Bool:=qcn (λ_=>false) (λ_=>false) (tfr bs rs)
def kb (bs:List Bool)(rs:List Rw):Three->Int->Int:=qcn (λd=>d) (λd=>d) (qa9 bs rs)
def kcnt {bs:List Bool}{rs:List Rw}(ok:TabOk bs rs):∀i,Cnt (kb bs rs i) (kf bs rs i):=qf0 ⟨λ_ _=>rfl⟩ ⟨λ_ _=>rfl⟩ (qx0 ok.hl ok.ap ok.wd)
def KindAt (a:Adr)(H:Hp)(x:Addr)(i:Three)(bs:List Bool)(rs:List Rw):Prop:=∃(dx tb:Addr),H x=some (.ins (kC a i) dx (kfs tb))/\TabAt a.kK a.kI H tb bs rs
def KindAt.same {a:Adr}{H H':Hp}{x:Addr}{i:Three}{bs:List Bool}{rs:List Rw}(h:KindAt a H x i bs rs)(s:Same H H'):KindAt a H' x i bs rs:=by obtain⟨d,tb,b,c⟩:=h;exact⟨d,tb,s _ _ b,c.same s⟩
section
variable {a:Adr}{i:Three}{H:Hp}{x:Addr}{bs:List Bool}{rs:List Rw}{Q:VK}{E:XK}
def qx3 (f l:Int):(if l-f+1 > 0 then l-f+1 else 0)=if l<f then 0 else l+1-f:=by split <;>split <;>lia
theorem kin {f l:Int}(h:KindAt a H x i bs rs)(ok:TabOk bs rs)(d:0<=f)(k:∀H',Same H H'->Q (.int (if l<f then 0 else kb bs rs i (l+1)-kb bs rs i f)) H') :
  qcn (qex λf l=>.int (if l-f+1 > 0 then l-f+1 else 0)) (qex λf l=>.int (if l-f+1 > 0 then l-f+1 else 0)) (qx2 a) i [.ref x,.int f,.int l] H Q E:=by
 cases i with|a=>exact⟨x,f,l,Z,by show Q (.int (if l-f+1 > 0 then l-f+1 else 0)) H;rw[qx3];exact k H (Same.refl H)⟩|b=>exact⟨x,f,l,Z,by show Q (.int (if l-f+1 > 0 then l-f+1 else 0)) H;rw[qx3];exact k H (Same.refl H)⟩|c=>exact⟨x,bs,rs,f,l,Z,h,ok,d,k⟩
theorem qx4 {f m:Int}(h:KindAt a H x i bs rs)(ok:TabOk bs rs)(g:0<=f)(e:1<=m)(k:∀(d:Int) (H':Hp),Same H H'->0<=d->kf bs rs i d=false->kb bs rs i d=kb bs rs i f+m-1->Q (.int d) H') :
  qcn (qex λf m=>.int (f+m-1)) (qex λf m=>.int (f+m-1)) (ql5 a) i [.ref x,.int f,.int m] H Q E:=by
 cases i with|a=>exact⟨x,f,m,Z,k _ H (Same.refl H) (by lia) Z Z⟩|b=>exact⟨x,f,m,Z,k _ H (Same.refl H) (by lia) Z Z⟩|c=>exact⟨x,bs,rs,f,m,Z,h,ok,g,e,k⟩
def kfor {u:Int}(k:Q (.int (qcn u (7*u) u i)) H):qcn (qgp λu=>.int u) (qgp λu=>.int (7*u)) (qgp λu=>.int u) i [.ref x,.int u] H Q E:=by
 cases i with|a=>exact⟨x,u,Z,k⟩|b=>exact⟨x,u,Z,k⟩|c=>exact⟨x,u,Z,k⟩
end
noncomputable abbrev Pz:=Int×Option Int
noncomputable def inP (p:Pz)(d:Int):Bool:=decide (p.1<=d) && (match p.2 with|none=>true|some e=>decide (d<=e))
def stl (ps:List Pz)(d:Int):Bool:=ps.any λp=>inP p d
def Aft (p q:Pz):Prop:=∃e,p.2=some e/\e<q.1
structure PsOk (ps:List Pz):Prop where
 srt:ps.Pairwise Aft
 ok:∀p∈ps,0<=p.1/\∀e,p.2=some e->p.1<=e
def ql7 {F d:Int}:inP (F,none) d=decide (F<=d):=by unfold inP;exact Bool.and_true _
def qef {F e d:Int}:inP (F,some e) d=(decide (F<=d) && decide (d<=e)):=rfl
def qo7 {ps:List Pz}{p:Pz}{d:Int}(a:p∈ps)(h:inP p d=true):stl ps d=true:=CQ.mpr ⟨p,a,h⟩
theorem ql8 {ps:List Pz}{d:Int}(h:∀p∈ps,inP p d=false):stl ps d=false:=by
 cases e:stl ps d with
 |false=>rfl
 |true =>obtain⟨p,b,a⟩:=CQ.mp e;rw[h p b]at a;cases a
noncomputable def cn (g:Int->Bool)(n:Int):Int:=((((Ar n.toNat).filter λ(t:Nat)=>!g (t:Int)).length:Nat):Int)
def qgq (g:Int->Bool):Cnt (cn g) g:=⟨λn h=>by
 unfold cn;rw[show (n+1).toNat=n.toNat+1 by lia,By,Cc,Af];have e:((n.toNat:Nat):Int)=n:=by lia
 cases z:g n with
 |true =>rw[if_pos Z,Bw (by rw[e,z];decide)];simp
 |false =>rw[if_neg Uk,Bx (by rw[e,z];rfl)];simp⟩
theorem qq0 {f f':Int->Int}{g g':Int->Bool}(c:Cnt f g)(b:Cnt f' g'){a:Int}(i:0<=a):∀k:Nat,(∀d,a<=d->d<a+(k:Int)->g d=g' d)->f (a+(k:Int))-f a=f' (a+(k:Int))-f' a
 |0,_=>by rw[Ej,C5];lia
 |k+1,h=>by have ih:=qq0 c b i k λd e h2=>h d e (by lia);have s:=c.st (a+(k:Int)) (by lia);have s':=b.st (a+(k:Int)) (by lia);rw[h _ (by lia) (by lia)]at s;rw[show a+((k+1:Nat):Int)=a+(k:Int)+1 by lia];lia
def qo8 {f f':Int->Int}{g g':Int->Bool}(c:Cnt f g)(j:Cnt f' g'){a b:Int}(i:0<=a)(ab:a<=b)(h:∀d,a<=d->d<b->g d=g' d):f b-f a=f' b-f' a:=by
 have z:=qq0 c j i (b-a).toNat λd e h2=>h d e (by lia)
 rwa [show a+((b-a).toNat:Int)=b by lia]at z
theorem qx5 {f:Int->Int}{g:Int->Bool}(c:Cnt f g){a b:Int}(i:0<=a)(e:a<=b)(h:∀d,a<=d->d<b->g d=true):f b=f a:=by have z:=qo8 c (g':=λ_=>true) (f':=λ_=>0) ⟨λ_ _=>by rw[if_pos Z];rfl⟩ i e h;lia
def gst (g:Int->Bool)(ps:List Pz):Int->Bool:=λd=>g d || stl ps d
def qm5 (g:Int->Bool)(ps:List Pz)(s m:Int):Option Int->Prop
 |some d=>s<d/\gst g ps d=false/\cn (gst g ps) d=cn (gst g ps) (s+1)+m-1
 |none=>(∃F,(F,none)∈ps)/\∀d,s<d->cn (gst g ps) d<cn (gst g ps) (s+1)+m
theorem qjt {g:Int->Bool}{ps:List Pz}{s m:Int}(s0:0<=s){r a:Option Int}(h:qm5 g ps s m r)(h':qm5 g ps s m a):r=a:=by
 have C:=qgq (gst g ps);have b:∀{d},qm5 g ps s m (some d)->qm5 g ps s m none->False:=λ{d} ⟨h1,f,h3⟩ ⟨_,c⟩=>by have z:=c (d+1) (by lia);have st:=C.st d (by lia);rw[f,if_neg Uk]at st;lia
 cases r with
 |none =>
  cases a with|none=>rfl|some d=>exact(b h' h).elim
 |some d =>
  cases a with|none=>exact(b h h').elim|some e=>exact congrArg some (cnt_one C (by have:=h.1;lia) (by have:=h'.1;lia) h.2.1 h'.2.1 (by rw[h.2.2,h'.2.2]))
structure Go (g:Int->Bool)(ps:List Pz)(s m:Int)(i:Nat)(b L:Int):Prop where
 hb:s+1<=b
 hL:1<=L
 he:cn (gst g ps) b=cn (gst g ps) (s+1)+m-L
 hp:∀p∈ps.take i,∃e,p.2=some e/\e<b
structure Fin (f:Int->Int)(g:Int->Bool)(ps:List Pz)(s m b L:Int):Prop where
 hb:s+1<=b
 hL:1<=L
 he:cn (gst g ps) b=cn (gst g ps) (s+1)+m-L
 hn:∀d,b<=d->f d<=f b+L-1->stl ps d=false
def qq1 {f:Int->Int}{g:Int->Bool}{ps:List Pz}{s m b L d:Int}(C:Cnt f g)(s0:0<=s)(h:Fin f g ps s m b L)(k:0<=d)(c:g d=false)(dM:f d=f b+L-1):qm5 g ps s m (some d):=by
 have hb:=h.hb;have hL:=h.hL;have i:b<=d:=C.ge k c (by lia);have z:=qo8 (qgq (gst g ps)) C (a:=b) (b:=d) (by lia) i λe j h2=>by have:=C.le (n:=e) (m:=d) (by lia) (by lia);unfold gst;rw[h.hn e j (by lia),Eg]
 refine⟨by lia,?_,by rw[h.he]at z;lia⟩;unfold gst;rw[c,h.hn d i (by lia)];rfl
def qtv {α:Type}{l:List α}{i:Nat}{x y:α}(h:y∈l)(b:l[i]?=some x):y∈l.take i\/y=x\/y∈l.drop (i+1):=by
 obtain⟨a,rfl⟩:=Ac.mp b;rw[<- CF i l,CH a]at h;rcases Av.mp h with z|z
 .exact .inl z
 .rcases Aq.mp z with z|z
  .exact .inr (.inl z)
  .exact .inr (.inr z)
def qq2 {ps:List Pz}(h:ps.Pairwise Aft){i:Nat}{p q:Pz}(a:ps[i]?=some p)(c:q∈ps.drop (i+1)):Aft p q:=by obtain⟨b,rfl⟩:=Ac.mp a;have z:=h.sublist (List.drop_sublist i ps);rw[CH b]at z;exact(BO.mp z).1 q c
def qx6 {g:Int->Bool}{ps:List Pz}{s m b L d:Int}{i:Nat}{p:Pz}(ok:PsOk ps)(h:Go g ps s m i b L)(hp:ps[i]?=some p)(h1:b<=d)(h2:d<p.1):stl ps d=false:=by
 refine ql8 λq c=>?_;rcases qtv c hp with z|z|z
 .obtain⟨e,a,f⟩:=h.hp q z;obtain⟨F,o⟩:=q;simp only at a;subst a;rw[qef,decide_eq_false (show ¬d<=e by lia),Cs]
 .subst z;unfold inP;rw[decide_eq_false (show ¬q.1<=d by lia),CP]
 .obtain⟨e,a,f⟩:=qq2 ok.srt hp z;have:=(ok.ok p (A0 hp)).2 e a;unfold inP;rw[decide_eq_false (show ¬q.1<=d by lia),CP]
noncomputable def cin (f:Int->Int)(b l:Int):Int:=if l<b then 0 else f (l+1)-f b
theorem qx7 {f:Int->Int}{g:Int->Bool}{ps:List Pz}{s m b L:Int}{i:Nat}{p:Pz}(C:Cnt f g)(s0:0<=s)(ok:PsOk ps)(h:Go g ps s m i b L)(k:ps[i]?=some p) :
  0<=cin f b (p.1-1)/\∃B,b<=B/\p.1<=B/\(B=b\/B=p.1)/\cn (gst g ps) B=cn (gst g ps) b+cin f b (p.1-1):=by
 have hb:=h.hb;unfold cin;rw[show p.1-1+1=p.1 by lia];by_cases c:p.1-1<b
 .rw[if_pos c];exact⟨Bp _,b,Bp _,by lia,.inl Z,by lia⟩
 .rw[if_neg c];have z:=qo8 (qgq (gst g ps)) C (a:=b) (b:=p.1) (by lia) (by lia) λe d j=>by unfold gst;rw[qx6 ok h k d j,Eg]
  have:=C.le (n:=b) (m:=p.1) (by lia) (by lia);exact⟨by lia,p.1,by lia,Bp _,.inr Z,by lia⟩
def go_fin {f:Int->Int}{g:Int->Bool}{ps:List Pz}{s m b L:Int}{i:Nat}{p:Pz}(C:Cnt f g)(s0:0<=s)(ok:PsOk ps)(h:Go g ps s m i b L)(e:ps[i]?=some p)(c:L<=cin f b (p.1-1)):Fin f g ps s m b L:=by
 have hb:=h.hb;have hL:=h.hL;refine⟨hb,hL,h.he,λd a h2=>qx6 ok h e a ?_⟩;unfold cin at c;rw[show p.1-1+1=p.1 by lia]at c;by_cases z:p.1-1<b
 .rw[if_pos z]at c;lia
 .rw[if_neg z]at c;exact C.lt (by lia) (by lia)
def go_none {f:Int->Int}{g:Int->Bool}{ps:List Pz}{s m b L F:Int}{i:Nat}(C:Cnt f g)(o:0<=s)(ok:PsOk ps)(h:Go g ps s m i b L)(l:ps[i]?=some (F,none))(c:cin f b (F-1)<L):qm5 g ps s m none:=by
 have hb:=h.hb;have he:=h.he;have j:=A0 l;refine⟨⟨F,j⟩,λd hd=>?_⟩;obtain⟨c0,B,bB,p,_,e⟩:=qx7 C o ok h l;simp only at p e;have k:=qgq (gst g ps);by_cases z:d<=B
 .have:=k.le (n:=d) (m:=B) (by lia) z;lia
 .have:=qx5 k (a:=B) (b:=d) (by lia) (by lia) λx h1 h2=>by
   unfold gst
   rw[qo7 j (by rw[ql7];exact decide_eq_true (by lia)),Et]
  lia
def go_next {f:Int->Int}{g:Int->Bool}{ps:List Pz}{s m b L F e:Int}{i:Nat}(C:Cnt f g)(t:0<=s)(ok:PsOk ps)(h:Go g ps s m i b L)(hp:ps[i]?=some (F,some e))(c:cin f b (F-1)<L):Go g ps s m (i+1) (if e+1 > b then e+1 else b) (L-cin f b (F-1)):=by
 have hb:=h.hb;have he:=h.he;have k:=A0 hp;have l:=(ok.ok _ k).2 e rfl;simp only at l;obtain⟨c0,B,bB,u,q,n⟩:=qx7 C t ok h hp;simp only at u n q;have r:=qgq (gst g ps);have j:b<=(if e+1 > b then e+1 else b)/\e<(if e+1 > b then e+1 else b)/\B<=(if e+1 > b then e+1 else b)/\((if e+1 > b then e+1 else b)=e+1\/(if e+1 > b then e+1 else b)=B):=by split <;>lia
 generalize (if e+1 > b then e+1 else b)=b' at j |-;have:=qx5 r (a:=B) (b:=b') (by lia) j.2.2.1 λx h1 h2=>by unfold gst;rw[qo7 k (by rw[qef,decide_eq_true (show F<=x by lia),decide_eq_true (show x<=e by lia)];rfl),Et]
 refine⟨by lia,by lia,by lia,λp d=>?_⟩;rw[qcx hp]at d;rcases Av.mp d with z|z
 .obtain⟨x,o,x2⟩:=h.hp p z;exact⟨x,o,by lia⟩
 .rw[Ah.mp z];exact⟨e,Z,j.2.1⟩
def go_end {f:Int->Int}{g:Int->Bool}{ps:List Pz}{s m b L:Int}(h:Go g ps s m ps.length b L):Fin f g ps s m b L :=
 ⟨h.hb,h.hL,h.he,λd h1 _=>ql8 λq c=>by obtain⟨e,a,e2⟩:=h.hp q (by rw[Bq];exact c);obtain⟨F,o⟩:=q;simp only at a;subst a;rw[qef,decide_eq_false (show ¬d<=e by lia),Cs]⟩
def go_zero {g:Int->Bool}{ps:List Pz}{s m:Int}(b:1<=m):Go g ps s m 0 (s+1) m:=⟨Bp _,b,by lia,λp a=>by rw[De]at a;cases a⟩
def qsh {g:Int->Bool}{ps:List Pz}{F:Int}(a:(F,none)∈ps){x:Int}(h:F<=x):gst g ps x=true:=by unfold gst;rw[qo7 a (by rw[ql7];exact decide_eq_true h),Et]
theorem qx8 {g:Int->Bool}{ps:List Pz}{F e:Int}(a:(F,some e)∈ps){x:Int}(h:F<=x)(h':x<=e):gst g ps x=true:=by unfold gst;rw[qo7 a (by rw[qef,decide_eq_true h,decide_eq_true h'];rfl),Et]
noncomputable def oV:Option Int->V
 |some i=>.int i
 |none=>.non
def qkj (p:Pz):List V:=[.int p.1,oV p.2]
def AtQ (H:Hp)(p:Addr)(ps:List Pz):Prop:=∃us,H p=some (.lst us)/\Tups H us (ps.map qkj)
def AtQ.same {H H':Hp}{p:Addr}{ps:List Pz}(h:AtQ H p ps)(s:Same H H'):AtQ H' p ps:=by obtain⟨us,a,b⟩:=h;exact⟨us,s _ _ a,b.same s⟩
def qq3 {ps:List Pz}{i:Nat}{t:List V}(h:(ps.map qkj)[i]?=some t):∃p,ps[i]?=some p/\t=qkj p:=by
 rw[Ai]at h;cases e:ps[i]? with|none=>rw[e]at h;cases h|some p=>rw[e]at h;exact⟨p,Z,(AE h).symm⟩
def spFullD (a:Adr):Sp:=λvs H Q _=>∃(x pq:Addr)(i:Three)(s u:Int)(bs:List Bool)(rs:List Rw)(ps:List Pz),vs=[.ref x,.int s,.int u,.ref pq]/\KindAt a H x i bs rs/\TabOk bs rs/\AtQ H pq ps/\PsOk ps/\0<=s/\1<=u /\
 ∀(H':Hp)(r:Option Int),Same H H'->qm5 (kf bs rs i) ps s (qcn u (7*u) u i) r->Q (oV r) H'
theorem qq4 {u:Int}(h:1<=u):∀i:Three,1<=qcn u (7*u) u i
 |.a=>h
 |.b=>by show 1<=7*u;lia
 |.c=>h
def Fnt (ps:List Pz):Prop:=∀p∈ps,∃e,p.2=some e
def fit1 (x:V):[x].length<=A6:=fits (show 1<=100000 by decide)
theorem qq5 {H:Hp}:∀{us:List V}{as:List (List V)}{b:List V},Tups H us (as++[b])->∃vs c,us=vs++[.ref c]/\H c=some (.tup b)/\Tups H vs as
 |_,[],b,.cons h .nil=>⟨[],_,Z,h,.nil⟩
 |_,a::as,b,.cons h t=>by obtain⟨vs,c,e,d,f⟩:=qq5 (as:=as) t;exact⟨_::vs,c,by rw[e];rfl,d,.cons h f⟩
def qn4 {H:Hp}{us:List V}{a:List Pz}{p:Pz}(t:Tups H us ((a++[p]).map qkj)):∃vs c,us=vs++[.ref c]/\H c=some (.tup (qkj p))/\Tups H vs (a.map qkj):=by rw[Ax]at t;exact qq5 t
theorem qo9 (us:List V)(x:V):atI (us++[x]) (-1)=some x:=by unfold atI;rw[qtj,Option.bind_some,List.getElem?_concat_length]
def Due (g:Int->Bool)(ps:List Pz)(full:Int):Option Int->Prop
 |some d=>full<=d/\gst g ps d=false/\∀e,full<=e->e<d->gst g ps e=true
 |none=>(∃F,(F,none)∈ps)/\∀e,full<=e->gst g ps e=true
theorem qx9 {g:Int->Bool}{ps:List Pz}{a:Int}{r b:Option Int}(h:Due g ps a r)(h':Due g ps a b):r=b:=by
 cases r with
 |none =>
  cases b with|none=>rfl|some d=>have:=h.2 d h'.1;rw[h'.2.1]at this;cases this
 |some d =>
  cases b with
  |none=>have:=h'.2 d h.1;rw[h.2.1]at this;cases this
  |some e =>
   rcases (by lia:d<e\/d=e\/e<d) with z|z|z
   .have:=h'.2.2 d h.1 z;rw[h.2.1]at this;cases this
   .rw[z]
   .have:=h.2.2 e h'.1 z;rw[h'.2.1]at this;cases this
structure Gd (g:Int->Bool)(ps:List Pz)(full:Int)(j:Nat)(t:Int):Prop where
 hf:full<=t
 hg:g t=false
 hh:∀e,full<=e->e<t->gst g ps e=true
 hp:∀p∈ps.take j,∃e,p.2=some e/\e<t
def qya {g:Int->Bool}{ps:List Pz}{e:Int}(h:g e=true):gst g ps e=true:=by unfold gst;rw[h,Bool.true_or]
def gd_zero {f:Int->Int}{g:Int->Bool}{ps:List Pz}{a t:Int}(C:Cnt f g)(i:0<=a)(d:0<=t)(c:g t=false)(j:f t=f a):Gd g ps a 0 t :=
 ⟨C.ge d c (by lia),c,λe h k=>qya (C.free i j h k),λp b=>by rw[De]at b;cases b⟩
def gd_not {g:Int->Bool}{ps:List Pz}{a t:Int}{j:Nat}{p:Pz}(ok:PsOk ps)(h:Gd g ps a j t)(hp:ps[j]?=some p)(c:t<p.1):Due g ps a (some t):=by
 refine⟨h.hf,?_,h.hh⟩;unfold gst;rw[h.hg,D9];refine ql8 λq f=>?_;rcases qtv f hp with z|z|z
 .obtain⟨e,b,d⟩:=h.hp q z;obtain⟨F,o⟩:=q;simp only at b;subst b;rw[qef,decide_eq_false (show ¬t<=e by lia),Cs]
 .subst z;unfold inP;rw[decide_eq_false (by lia),CP]
 .obtain⟨e,b,d⟩:=qq2 ok.srt hp z;have:=(ok.ok p (A0 hp)).2 e b;unfold inP;rw[decide_eq_false (by lia),CP]
def gd_none {g:Int->Bool}{ps:List Pz}{a t F:Int}{j:Nat}(h:Gd g ps a j t)(d:ps[j]?=some (F,none))(c:F<=t):Due g ps a none:=by
 have b:=A0 d;refine⟨⟨F,b⟩,λe f=>?_⟩;by_cases z:e<t
 .exact h.hh e f z
 .exact qsh b (by lia)
def gd_over {g:Int->Bool}{ps:List Pz}{a t F e:Int}{j:Nat}(h:Gd g ps a j t)(hp:ps[j]?=some (F,some e))(c:e<t):Gd g ps a (j+1) t :=
 ⟨h.hf,h.hg,h.hh,λp b=>by
  rw[qcx hp]at b;rcases Av.mp b with z|z
  .exact h.hp p z
  .rw[Ah.mp z];exact⟨e,Z,c⟩⟩
def gd_leap {f:Int->Int}{g:Int->Bool}{ps:List Pz}{a t F e t':Int}{j:Nat}(C:Cnt f g)(f0:0<=a)(h:Gd g ps a j t)(hp:ps[j]?=some (F,some e))(c1:F<=t)(c2:t<=e)(q:0<=t')(c:g t'=false)(l:f t'=f (e+1)):Gd g ps a (j+1) t':=by
 have m:=A0 hp;have hf:=h.hf;have ge:e+1<=t':=C.ge q c (by lia);refine⟨by lia,c,λx d o=>?_,λp b=>?_⟩
 .by_cases z:x<t
  .exact h.hh x d z
  .by_cases k:x<=e
   .exact qx8 m (by lia) k
   .exact qya (C.free (n:=e+1) (by lia) l (by lia) o)
 .rw[qcx hp]at b;rcases Av.mp b with z|z
  .obtain⟨x,i,x2⟩:=h.hp p z;exact⟨x,i,by lia⟩
  .rw[Ah.mp z];exact⟨e,Z,by lia⟩
def gd_end {g:Int->Bool}{ps:List Pz}{a t:Int}(h:Gd g ps a ps.length t):Due g ps a (some t):=by refine⟨h.hf,?_,h.hh⟩;unfold gst;rw[h.hg,D9];refine ql8 λq c=>?_;obtain⟨e,b,e2⟩:=h.hp q (by rw[Bq];exact c);obtain⟨F,o⟩:=q;simp only at b;subst b;rw[qef,decide_eq_false (show ¬t<=e by lia),Cs]
def Lst (g tf:Int->Bool)(ps:List Pz)(s m:Int)(r:Option Int):Prop:=(qm5 g ps s m none/\r=none) \/ ∃f,qm5 g ps s m (some f)/\Due tf ps f r
def spFDue (a:Adr):Sp:=λvs H Q _=>∃(tb pq:Addr)(d:Int)(bs:List Bool)(rs:List Rw)(ps:List Pz),vs=[.ref tb,.int d,.ref pq]/\TabAt a.kK a.kI H tb bs rs/\TabOk bs rs/\AtQ H pq ps/\PsOk ps/\0<=d/\∀(H':Hp)(r:Option Int),Same H H'->Due (tfr bs rs) ps d r->Q (oV r) H'
def spLastD (a:Adr):Sp:=λvs H Q _=>∃(x pq:Addr)(i:Three)(s u:Int)(bs:List Bool)(rs:List Rw)(ps:List Pz),vs=[.ref x,.int s,.int u,.ref pq]/\KindAt a H x i bs rs/\TabOk bs rs/\AtQ H pq ps/\PsOk ps/\0<=s/\1<=u /\
 ∀(H':Hp)(r:Option Int),Same H H'->Lst (kf bs rs i) (tfr bs rs) ps s (qcn u (7*u) u i) r->Q (oV r) H'
def qyb {g i:Int->Bool}{ps:List Pz}{s m:Int}{r e:Option Int}(c:0<=s)(h:Lst g i ps s m r)(h':Lst g i ps s m e):r=e:=by
 rcases h with ⟨b,rfl⟩|⟨f,b,j⟩
 .rcases h' with ⟨_,rfl⟩|⟨f',a,_⟩
  .rfl
  .cases qjt c b a
 .rcases h' with ⟨a,rfl⟩|⟨f',a,d⟩
  .cases qjt c b a
  .cases qjt c b a;exact qx9 j d
def qcb (x:Str)(xs:List Str):inV (.str x) (xs.map V.str)=xs.contains x:=by
 unfold inV;rw[List.any_map,List.contains_eq_any_beq]
 congr 1
 funext y;show (y == x)=(x == y);rw[Cy,beq_iff_eq,beq_iff_eq];exact eq_comm
theorem qcg (xs:List Str):(xs.map V.str).all qbt=true:=by rw[List.all_map];exact Cf.mpr λ_ _=>rfl
noncomputable abbrev rlF (nm w o op b m u s pe pa pl py:V):List (Str×V):=[(Aa "name",nm),(Aa "who",w),(Aa "owes",o),(Aa "opens",op),(Aa "base",b),(Aa "many",m),(Aa "unit",u),(Aa "still",s),(Aa "ends",pe),(Aa "anew",pa),(Aa "longer",pl),(Aa "yields",py)]
abbrev rnF (rl cn pr ov dy b un pp pg:V):List (Str×V):=[(Aa "rule",rl),(Aa "counting",cn),(Aa "rows",pr),(Aa "over",ov),(Aa "day",dy),(Aa "base",b),(Aa "units",un),(Aa "pauses",pp),(Aa "grants",pg)]
noncomputable abbrev rn1 (a1:V):List (Str×V):=[(Aa "rule",a1)]
abbrev rn2 (a1 a2:V):List (Str×V):=rn1 a1++[(Aa "counting",a2)]
abbrev rn3 (a1 a2 a3:V):List (Str×V):=rn2 a1 a2++[(Aa "rows",a3)]
abbrev rn4 (a1 a2 a3 a4:V):List (Str×V):=rn3 a1 a2 a3++[(Aa "over",a4)]
abbrev rn5 (a1 a2 a3 a4 a5:V):List (Str×V):=rn4 a1 a2 a3 a4++[(Aa "day",a5)]
abbrev rn6 (a1 a2 a3 a4 a5 a6:V):List (Str×V):=rn5 a1 a2 a3 a4 a5++[(Aa "base",a6)]
abbrev rn7 (a1 a2 a3 a4 a5 a6 a7:V):List (Str×V):=rn6 a1 a2 a3 a4 a5 a6++[(Aa "units",a7)]
abbrev rn8 (a1 a2 a3 a4 a5 a6 a7 a8:V):List (Str×V):=rn7 a1 a2 a3 a4 a5 a6 a7++[(Aa "pauses",a8)]
abbrev rn9 (a1 a2 a3 a4 a5 a6 a7 a8 a9:V):List (Str×V):=rn8 a1 a2 a3 a4 a5 a6 a7 a8++[(Aa "grants",a9)]
noncomputable abbrev rq1 (a1:V):List (Str×V):=[(Aa "name",a1)]
abbrev rq2 (a1 a2:V):List (Str×V):=rq1 a1++[(Aa "who",a2)]
abbrev rq3 (a1 a2 a3:V):List (Str×V):=rq2 a1 a2++[(Aa "owes",a3)]
abbrev rq4 (a1 a2 a3 a4:V):List (Str×V):=rq3 a1 a2 a3++[(Aa "opens",a4)]
abbrev rq5 (a1 a2 a3 a4 a5:V):List (Str×V):=rq4 a1 a2 a3 a4++[(Aa "base",a5)]
abbrev rq6 (a1 a2 a3 a4 a5 a6:V):List (Str×V):=rq5 a1 a2 a3 a4 a5++[(Aa "many",a6)]
abbrev rq7 (a1 a2 a3 a4 a5 a6 a7:V):List (Str×V):=rq6 a1 a2 a3 a4 a5 a6++[(Aa "unit",a7)]
abbrev rq8 (a1 a2 a3 a4 a5 a6 a7 a8:V):List (Str×V):=rq7 a1 a2 a3 a4 a5 a6 a7++[(Aa "still",a8)]
abbrev rq9 (a1 a2 a3 a4 a5 a6 a7 a8 a9:V):List (Str×V):=rq8 a1 a2 a3 a4 a5 a6 a7 a8++[(Aa "ends",a9)]
abbrev qsi (a1 a2 a3 a4 a5 a6 a7 a8 a9 a10:V):List (Str×V):=rq9 a1 a2 a3 a4 a5 a6 a7 a8 a9++[(Aa "anew",a10)]
abbrev qq6 (a1 a2 a3 a4 a5 a6 a7 a8 a9 a10 a11:V):List (Str×V):=qsi a1 a2 a3 a4 a5 a6 a7 a8 a9 a10++[(Aa "longer",a11)]
abbrev qsj (a1 a2 a3 a4 a5 a6 a7 a8 a9 a10 a11 a12:V):List (Str×V):=qq6 a1 a2 a3 a4 a5 a6 a7 a8 a9 a10 a11++[(Aa "yields",a12)]
noncomputable abbrev R3:=Str×Int×Str
noncomputable def qm6 (r:R3):List V:=[.str r.1,.int r.2.1,.str r.2.2]
noncomputable def qq7 (r:Str×Int×Int):List V:=[.str r.1,.int r.2.1,.int r.2.2]
structure RD where
 owes:Str
 ends:List Str
 anew:List Str
 longer:List (Str×Int×Int)
 still:Option (Str×Str)
 many:Int
 unit:Three
structure RdOk (rd:RD):Prop where
 m1:1<=rd.many
 l:rd.longer.length<=100
 e:rd.ends.length<=100
 a:rd.anew.length<=100
 u:∀t∈rd.longer,0<=t.2.1
def StAt (H:Hp)(v:V):Option (Str×Str)->Prop
 |none=>v=.non
 |some s=>∃p,v=.ref p/\H p=some (.tup [.str s.1,.str s.2])
theorem StAt.same {H H':Hp}{v:V}{o:Option (Str×Str)}(h:StAt H v o)(z:Same H H'):StAt H' v o:=by
 cases o with
 |none=>exact h
 |some s=>obtain⟨p,a,b⟩:=h;exact⟨p,a,z _ _ b⟩
def RuleAt (a:Adr)(H:Hp)(rl:Addr)(rd:RD):Prop:=∃(dx pe pa pl:Addr)(nm w op b s py:V)(us:List V),H rl=some (.ins a.kE dx (rlF nm w (.str rd.owes) op b (.int rd.many) (.str (qj9 rd.unit)) s (.ref pe) (.ref pa) (.ref pl) py))/\StAt H s rd.still/\H pe=some (.lst (rd.ends.map V.str))/\H pa=some (.lst (rd.anew.map V.str))/\H pl=some (.lst us)/\Tups H us (rd.longer.map qq7)
theorem RuleAt.same {a:Adr}{H H':Hp}{c:Addr}{rd:RD}(h:RuleAt a H c rd)(z:Same H H'):RuleAt a H' c rd:=by obtain⟨o,n,k,pl,nm,w,g,b,s,i,us,f,m,l,j,d,e⟩:=h;exact⟨o,n,k,pl,nm,w,g,b,s,i,us,z _ _ f,m.same z,z _ _ l,z _ _ j,z _ _ d,e.same z⟩
noncomputable def qpa (o:Option (Str×Str))(k:Str):Str:=match o with
 |none=>Aa ""
 |some s=>if k=s.1 then Aa "still" else if k=s.2 then Aa "goes on" else Aa ""
def qa3 (rd:RD)(k:Str):Str:=if k=rd.owes\/rd.ends.contains k=true then Aa "ends" else if rd.anew.contains k=true then Aa "anew" else if (rd.longer.map (·.1)).contains k=true then Aa "longer" else qpa rd.still k
structure RS where
 rows:List R3
 over:Bool
 day:Int
 units:Int
 ps:List Pz
 gr:List (Key×V)
 bv:V
def gv (gr:List (Key×V))(k:Str):Int:=match qbf gr (.inr k) with
 |some (.int n)=>n
 |_=>0
structure StOk (st:RS)(c:Int):Prop where
 ps:PsOk st.ps
 d0:0<=st.day
 u1:1<=st.units
 pl:st.ps.length<=st.rows.length
 rl:st.rows.length<=400
 gl:st.gr.length<=st.rows.length
 gi:∀k v,qbf st.gr k=some v->∃n:Int,v=.int n
 cu:∀p∈st.ps,∀e,p.2=some e->e<c
 r0:st.rows≠[]
def need (i:Three)(u:Int):Int:=qcn u (7*u) u i
structure RunX (a:Adr)(B H:Hp)(x dx rl cn pr pp pg:Addr)(ur up:List V)(rd:RD)(st:RS)(bs:List Bool)(rs:List Rw):Prop where
 ne:pr≠pp
 hx:H x=some (.ins a.kA dx (rnF (.ref rl) (.ref cn) (.ref pr) (.bl st.over) (.int st.day) st.bv (.int st.units) (.ref pp) (.ref pg)))
 hr:H pr=some (.lst ur)
 tr:Tups H ur (st.rows.map qm6)
 hp:H pp=some (.lst up)
 tp:Tups H up (st.ps.map qkj)
 hg:H pg=some (.dK st.gr)
 rl:RuleAt a B rl rd
 kd:KindAt a B cn rd.unit bs rs
 sm:Same B H
 bx:B x=none
 br:B pr=none
 bp:B pp=none
 bg:B pg=none
def RunAt (a:Adr)(B H:Hp)(x:Addr)(S:List Addr)(rd:RD)(st:RS)(bs:List Bool)(rs:List Rw):Prop:=∃(dx rl cn pr pp pg:Addr)(ur up:List V),S=[x,pr,pp,pg]/\RunX a B H x dx rl cn pr pp pg ur up rd st bs rs
def qir {H:Hp}{x p C a:Addr}{fs:List (Str×V)}{l:List V}(h:H x=some (.ins C a fs))(h':H p=some (.lst l)):x≠p:=λz=>by rw[z,h']at h;cases h
def ne_id {H:Hp}{x p C a:Addr}{fs:List (Str×V)}{l:List (Key×V)}(h:H x=some (.ins C a fs))(h':H p=some (.dK l)):x≠p:=λz=>by rw[z,h']at h;cases h
def qtw {H:Hp}{x p:Addr}{fs:List V}{l:List (Key×V)}(h:H x=some (.lst fs))(h':H p=some (.dK l)):x≠p:=λz=>by rw[z,h']at h;cases h
theorem qq8 {H:Hp}{us:List V}{ts:List (List V)}{x C a:Addr}{fs:List (Str×V)}{o:HO}(t:Tups H us ts)(h:H x=some (.ins C a fs)):Tups (upd H x o) us ts:=by
 induction t with
 |nil=>exact .nil
 |cons e _ ih=>exact .cons ((qr λz=>by rw[z,h]at e;cases e).trans e) ih
theorem qq9 {H:Hp}{us:List V}{ts:List (List V)}{x:Addr}{l:List (Key×V)}{o:HO}(t:Tups H us ts)(h:H x=some (.dK l)):Tups (upd H x o) us ts:=by
 induction t with
 |nil=>exact .nil
 |cons e _ ih=>exact .cons ((qr λz=>by rw[z,h]at e;cases e).trans e) ih
section
variable {a:Adr}{B H H':Hp}{x dx rl cn pr pp pg:Addr}{ur up:List V}{rd:RD}{st:RS}{bs:List Bool}{rs:List Rw}
def RunX.same (h:RunX a B H x dx rl cn pr pp pg ur up rd st bs rs)(z:Same H H'):RunX a B H' x dx rl cn pr pp pg ur up rd st bs rs :=
 ⟨h.ne,z _ _ h.hx,z _ _ h.hr,h.tr.same z,z _ _ h.hp,h.tp.same z,z _ _ h.hg,h.rl,h.kd,h.sm.trans z,h.bx,h.br,h.bp,h.bg⟩
def RunX.setP (h:RunX a B H x dx rl cn pr pp pg ur up rd st bs rs){up':List V}{ps':List Pz}(t:Tups H up' (ps'.map qkj)):RunX a B (upd H pp (.lst up')) x dx rl cn pr pp pg ur up' rd {st with ps:=ps'} bs rs :=
 ⟨h.ne,(qr (qir h.hx h.hp)).trans h.hx,(qr h.ne).trans h.hr,h.tr.upd h.hp,qk,t.upd h.hp,(qr (B4 (qtw h.hp h.hg))).trans h.hg,h.rl,h.kd,qak h.sm h.bp,h.bx,h.br,h.bp,h.bg⟩
def RunX.setR (h:RunX a B H x dx rl cn pr pp pg ur up rd st bs rs){ur':List V}{rows':List R3}(t:Tups H ur' (rows'.map qm6)):RunX a B (upd H pr (.lst ur')) x dx rl cn pr pp pg ur' up rd {st with rows:=rows'} bs rs :=
 ⟨h.ne,(qr (qir h.hx h.hr)).trans h.hx,qk,t.upd h.hr,(qr (B4 h.ne)).trans h.hp,h.tp.upd h.hr,(qr (B4 (qtw h.hr h.hg))).trans h.hg,h.rl,h.kd,qak h.sm h.br,h.bx,h.br,h.bp,h.bg⟩
def RunX.setG (h:RunX a B H x dx rl cn pr pp pg ur up rd st bs rs){gr':List (Key×V)}:RunX a B (upd H pg (.dK gr')) x dx rl cn pr pp pg ur up rd {st with gr:=gr'} bs rs :=
 ⟨h.ne,(qr (ne_id h.hx h.hg)).trans h.hx,(qr (qtw h.hr h.hg)).trans h.hr,qq9 h.tr h.hg,(qr (qtw h.hp h.hg)).trans h.hp,qq9 h.tp h.hg,qk,h.rl,h.kd,qak h.sm h.bg,h.bx,h.br,h.bp,h.bg⟩
def RunX.setF (h:RunX a B H x dx rl cn pr pp pg ur up rd st bs rs){o':Bool}{u':Int}:RunX a B (upd H x (.ins a.kA dx (rnF (.ref rl) (.ref cn) (.ref pr) (.bl o') (.int st.day) st.bv (.int u') (.ref pp) (.ref pg)))) x dx rl cn pr pp pg ur up rd {st with over:=o',units:=u'} bs rs :=
 ⟨h.ne,qk,(qr (B4 (qir h.hx h.hr))).trans h.hr,qq8 h.tr h.hx,(qr (B4 (qir h.hx h.hp))).trans h.hp,qq8 h.tp h.hx,(qr (B4 (ne_id h.hx h.hg))).trans h.hg,h.rl,h.kd,qak h.sm h.bx,h.bx,h.br,h.bp,h.bg⟩
end
def KeepS (S:List Addr)(H H':Hp):Prop:=∀b o,b∉S->H b=some o->H' b=some o
def KeepS.of {S:List Addr}{H H':Hp}(s:Same H H'):KeepS S H H':=λb o _ e=>s b o e
def Fresh (H:Hp)(S S':List Addr):Prop:=∀b∈S',b∈S\/H b=none
def Fresh.refl {H:Hp}{S:List Addr}:Fresh H S S:=λ_ h=>.inl h
def KeepS.trans {S a:List Addr}{H c d:Hp}(g:KeepS S H c)(f:Fresh H S a)(h:KeepS a c d):KeepS S H d:=λb o n e=>h b o (λm=>by
 rcases f b m with z|z
 .exact n z
 .rw[z]at e;cases e) (g b o n e)
def RunAt.same {a:Adr}{B H H':Hp}{x:Addr}{S:List Addr}{rd:RD}{st:RS}{bs:List Bool}{rs:List Rw}(h:RunAt a B H x S rd st bs rs)(z:Same H H'):RunAt a B H' x S rd st bs rs:=by obtain⟨j,i,cn,f,e,d,g,b,c,h⟩:=h;exact⟨j,i,cn,f,e,d,g,b,c,h.same z⟩
theorem qeg {S:List Addr}{H:Hp}{p:Addr}{o:HO}(h:p∈S):KeepS S H (upd H p o):=λb u n e=>by rw[qr (λz:b=p=>n (by rw[z];exact h))];exact e
noncomputable def qa1 (ps:List Pz):Bool:=match ps.getLast? with
 |some (_,none)=>true
 |_=>false
noncomputable def ql9 (ps:List Pz)(d:Int):List Pz:=match ps.getLast? with
 |some (F,none)=>ps.dropLast++(if F<d then [(F,some (d-1))] else [])
 |_=>ps
noncomputable def under (s r:Option Int)(d:Int):Bool:=match s with|none=>false|some s=>decide (s<d) && (match r with|none=>true|some l=>decide (d<=l))
def qsk (rd:RD)(gr:List (Key×V))(k:Str):Option (Str×Int×Int):=rd.longer.find? λt=>decide (t.1=k) && decide (gv gr k<t.2.2)
def qbe (rd:RD)(st:RS)(s r:Option Int)(w:Str)(d:Int)(k:Str):Option RS :=
 if w=Aa "ends" then some {st with ps:=ql9 st.ps d,over:=true}
 else if under s r d=false then none
 else if w=Aa "anew" then some {st with day:=d,units:=rd.many,ps:=[],gr:=[],bv:=.non}
 else if w=Aa "longer" then (match qsk rd st.gr k with|none=>none|some t=>some {st with units:=st.units+t.2.1,gr:=qc8 st.gr (.inr k) (.int (gv st.gr k+1))})
 else if w=Aa "still" then (if qa1 st.ps=true then none else some {st with ps:=st.ps++[(d,none)]})
 else (if qa1 st.ps=true then some {st with ps:=ql9 st.ps d} else none)
def qbo (rd:RD)(st:RS)(s r:Option Int)(n:Str)(d:Int)(k:Str):RS×Bool :=
 if qa3 rd k=Aa "" \/ st.over=true then (st,false)
 else match qbe rd st s r (qa3 rd k) d k with
  |none=>(st,false)
  |some s=>({s with rows:=s.rows++[(n,d,qa3 rd k)]},true)
def qyc (a:Adr):Sp:=λvs H Q _=>∃(x dx:Addr)(nm w o op b m u s:V),vs=[.ref x,nm,w,o,op,b,m,u,s]/\H x=some (.ins a.kE dx []) /\
 ∀(H':Hp)(pe pa pl py:Addr),SameBut x H H'->H pe=none->H pa=none->H pl=none->H' x=some (.ins a.kE dx (rlF nm w o op b m u s (.ref pe) (.ref pa) (.ref pl) (.ref py)))->H' pe=some (.lst [])->H' pa=some (.lst [])->H' pl=some (.lst [])->pe≠pl->pa≠pl->pe≠pa->Q .non H'
def spStl (a:Adr):Sp:=λvs H Q _=>∃(rl:Addr)(k:Str)(rd:RD),vs=[.ref rl,.str k]/\RuleAt a H rl rd/\Q (.str (qpa rd.still k)) H
def spRole (a:Adr):Sp:=λvs H Q _=>∃(rl:Addr)(k:Str)(rd:RD),vs=[.ref rl,.str k]/\RuleAt a H rl rd/\RdOk rd/\∀H',Same H H'->Q (.str (qa3 rd k)) H'
theorem qyd {H:Hp}{x c d e:Addr}(f:H x=none)(i:H c=none)(g:H d=none)(h:H e=none):∀b∈[x,c,d,e],H b=none:=λb a=>by
 rcases Aq.mp a with z|a
 .rw[z];exact f
 .rcases Aq.mp a with z|a
  .rw[z];exact i
  .rcases Aq.mp a with z|a
   .rw[z];exact g
   .rw[Ah.mp a];exact h
def spSetO (a:Adr):Sp:=λvs H Q _=>∃(x dx rl:Addr)(cn pr ov bb:V)(fs:List (Str×V))(d:Int)(rd:RD),vs=[.ref x,.int d,bb]/\H x=some (.ins a.kA dx fs)/\(fs=[(Aa "rule",.ref rl),(Aa "counting",cn),(Aa "rows",pr),(Aa "over",ov)] \/ ∃dy b un pp pg,fs=rnF (.ref rl) cn pr ov dy b un pp pg)/\RuleAt a H rl rd/\rl≠x /\
 ∀(H':Hp)(pp pg:Addr),SameBut x H H'->H pp=none->H pg=none->H' x=some (.ins a.kA dx (rnF (.ref rl) cn pr ov (.int d) bb (.int rd.many) (.ref pp) (.ref pg)))->H' pp=some (.lst [])->H' pg=some (.dK [])->Q .non H'
def qye (a:Adr):Sp:=λvs H Q _=>∃(x dx rl tb:Addr)(n:Str)(d:Int)(rd:RD)(bs:List Bool)(rs:List Rw)(Hb:Hp)(bb:V),vs=[.ref x,.ref rl,.ref tb,.str n,.int d,bb]/\H x=some (.ins a.kA dx [])/\Same Hb H/\Hb x=none/\RuleAt a Hb rl rd/\TabAt a.kK a.kI Hb tb bs rs /\
 ∀(H':Hp)(S:List Addr)(cn:Addr)(o:HO),SameBut x H H'->(∀b∈S,b=x\/H b=none)->x∈S->H cn=none->cn∉S->RunAt a (upd Hb cn o) H' x S rd ⟨[(n,d,Aa "begins")],false,d,rd.many,[],[],bb⟩ bs rs->Q .non H'
def LsS (bs:List Bool)(rs:List Rw)(rd:RD)(st:RS):Option Int->Option Int->Prop
 |none,r=>r=none
 |some d,r=>Lst (kf bs rs rd.unit) (tfr bs rs) st.ps d (need rd.unit st.units) r
def BaseAt (a:Adr):Nat->Hp->V->Int->Option Int->Prop
 |0,_,v,d,s=>v=.non/\s=some d
 |n+1,H,v,d,s=>(v=.non/\s=some d) \/ ∃(x:Addr)(B:Hp)(S:List Addr)(rd:RD)(st:RS)(bs:List Bool)(rs:List Rw)(c:Int)(s':Option Int),v=.ref x/\RunAt a B H x S rd st bs rs/\TabOk bs rs/\StOk st c/\BaseAt a n H st.bv st.day s'/\LsS bs rs rd st s' s
noncomputable abbrev nB:Nat:=3
theorem BaseAt.same {a:Adr}{H H':Hp}(z:Same H H'):∀{n:Nat}{v:V}{d:Int}{s:Option Int},BaseAt a n H v d s->BaseAt a n H' v d s
 |0,_,_,_,h=>h
 |n+1,_,_,_,h=>by
  rcases h with h|⟨x,B,S,rd,st,bs,rs,c,g,f,k,j,i,b,e⟩
  .exact .inl h
  .exact .inr ⟨x,B,S,rd,st,bs,rs,c,g,f,k.same z,j,i,b.same z,e⟩
def qyf {g b:Int->Bool}{ps:List Pz}{s m l:Int}(h:Lst g b ps s m (some l)):s<l:=by
 rcases h with ⟨_,h⟩|⟨f,a,c⟩
 .cases h
 .have:=a.1;have:=c.1;lia
theorem qdk {a:Adr}{H:Hp}:∀{n:Nat}{v:V}{d x:Int},BaseAt a n H v d (some x)->0<=d->0<=x
 |0,_,_,_,h,hd=>by cases h.2;exact hd
 |n+1,_,_,_,h,hd=>by
  rcases h with h|⟨y,B,S,rd,st,bs,rs,c,f,h1,h2,h3,g,e,b⟩
  .cases h.2;exact hd
  .cases f with
   |none=>cases b
   |some z =>have:=qdk e g.d0;have:=qyf b;lia
def qe5 {bs:List Bool}{rs:List Rw}{rd:RD}{st:RS}{s r a:Option Int}(b:∀x,s=some x->0<=x)(h:LsS bs rs rd st s r)(h':LsS bs rs rd st s a):r=a:=by
 cases s with|none=>rw[h,h']|some d=>exact qyb (b d Z) h h'
def spSt (a:Adr)(n:Nat):Sp:=λvs H Q _=>∃(x:Addr)(B:Hp)(S:List Addr)(rd:RD)(st:RS)(bs:List Bool)(rs:List Rw)(s:Option Int),vs=[.ref x]/\RunAt a B H x S rd st bs rs/\BaseAt a n H st.bv st.day s/\∀H',Same H H'->Q (oV s) H'
def spOvr (a:Adr):Sp:=λvs H Q _=>∃(x:Addr)(B:Hp)(S:List Addr)(rd:RD)(st:RS)(bs:List Bool)(rs:List Rw),vs=[.ref x]/\RunAt a B H x S rd st bs rs/\Q (.bl st.over) H
def spHl (a:Adr):Sp:=λvs H Q _=>∃(x:Addr)(B:Hp)(S:List Addr)(rd:RD)(st:RS)(bs:List Bool)(rs:List Rw),vs=[.ref x]/\RunAt a B H x S rd st bs rs/\Q (.bl (qa1 st.ps)) H
def spLt (a:Adr)(n:Nat):Sp:=λvs H Q _=>∃(x:Addr)(B:Hp)(S:List Addr)(rd:RD)(st:RS)(bs:List Bool)(rs:List Rw)(c:Int)(s:Option Int),vs=[.ref x]/\RunAt a B H x S rd st bs rs/\TabOk bs rs/\StOk st c/\BaseAt a n H st.bv st.day s/\∀(H':Hp)(r:Option Int),Same H H'->LsS bs rs rd st s r->Q (oV r) H'
def spUw (a:Adr):Sp:=λvs H Q _=>∃(x:Addr)(B:Hp)(S:List Addr)(rd:RD)(st:RS)(bs:List Bool)(rs:List Rw)(c d:Int)(s r:Option Int),vs=[.ref x,.int d]/\RunAt a B H x S rd st bs rs/\TabOk bs rs/\StOk st c/\BaseAt a nB H st.bv st.day s/\LsS bs rs rd st s r/\∀H',Same H H'->Q (.bl (under s r d)) H'
def spGo (a:Adr):Sp:=λvs H Q _=>∃(x:Addr)(B:Hp)(S:List Addr)(rd:RD)(st:RS)(bs:List Bool)(rs:List Rw)(c d:Int),vs=[.ref x,.int d]/\RunAt a B H x S rd st bs rs/\StOk st c/\∀H',KeepS S H H'->RunAt a B H' x S rd {st with ps:=ql9 st.ps d} bs rs->Q (.bl (qa1 st.ps)) H'
def spFi (a:Adr):Sp:=λvs H Q _=>∃(x:Addr)(B:Hp)(S:List Addr)(rd:RD)(st:RS)(bs:List Bool)(rs:List Rw)(c d:Int),vs=[.ref x,.int d]/\RunAt a B H x S rd st bs rs/\StOk st c/\∀H',KeepS S H H'->RunAt a B H' x S rd {st with ps:=ql9 st.ps d,over:=true} bs rs->Q (.bl true) H'
def spAn (a:Adr):Sp:=λvs H Q _=>∃(x:Addr)(B:Hp)(S:List Addr)(rd:RD)(st:RS)(bs:List Bool)(rs:List Rw)(d:Int),vs=[.ref x,.int d]/\RunAt a B H x S rd st bs rs/\∀H' S',KeepS S H H'->Fresh H S S'->RunAt a B H' x S' rd {st with day:=d,units:=rd.many,ps:=[],gr:=[],bv:=.non} bs rs->Q (.bl true) H'
def spLe (a:Adr):Sp:=λvs H Q _=>∃(x:Addr)(B:Hp)(S:List Addr)(rd:RD)(st:RS)(bs:List Bool)(rs:List Rw)(c:Int)(k:Str),vs=[.ref x,.str k]/\RunAt a B H x S rd st bs rs/\StOk st c/\(qsk rd st.gr k=none->Q (.bl false) H) /\
 ∀H' t,KeepS S H H'->qsk rd st.gr k=some t->RunAt a B H' x S rd {st with units:=st.units+t.2.1,gr:=qc8 st.gr (.inr k) (.int (gv st.gr k+1))} bs rs->Q (.bl true) H'
def spHa (a:Adr):Sp:=λvs H Q _=>∃(x:Addr)(B:Hp)(S:List Addr)(rd:RD)(st:RS)(bs:List Bool)(rs:List Rw)(c d:Int),vs=[.ref x,.int d]/\RunAt a B H x S rd st bs rs/\StOk st c/\(qa1 st.ps=true->Q (.bl false) H)/\∀H',KeepS S H H'->qa1 st.ps=false->RunAt a B H' x S rd {st with ps:=st.ps++[(d,none)]} bs rs->Q (.bl true) H'
def spWk (a:Adr):Sp:=λvs H Q _=>∃(x:Addr)(B:Hp)(S:List Addr)(rd:RD)(st:RS)(bs:List Bool)(rs:List Rw)(c d:Int)(w k:Str)(s r:Option Int),vs=[.ref x,.str w,.int d,.str k]/\RunAt a B H x S rd st bs rs/\TabOk bs rs/\StOk st c/\BaseAt a nB H st.bv st.day s/\LsS bs rs rd st s r /\
 ∀H' S',KeepS S H H'->Fresh H S S'->(qbe rd st s r w d k=none->RunAt a B H' x S' rd st bs rs->Q (.bl false) H')/\∀s2,qbe rd st s r w d k=some s2->RunAt a B H' x S' rd s2 bs rs->Q (.bl true) H'
def spFe (a:Adr):Sp:=λvs H Q _=>∃(x:Addr)(B:Hp)(S:List Addr)(rd:RD)(st:RS)(bs:List Bool)(rs:List Rw)(c d:Int)(n k:Str)(s r:Option Int),vs=[.ref x,.str n,.int d,.str k]/\RunAt a B H x S rd st bs rs/\TabOk bs rs/\RdOk rd/\StOk st c/\BaseAt a nB H st.bv st.day s/\LsS bs rs rd st s r /\
 ∀H' S',KeepS S H H'->Fresh H S S'->RunAt a B H' x S' rd (qbo rd st s r n d k).1 bs rs->Q (.bl (qbo rd st s r n d k).2) H'
noncomputable def swd (o:Bool)(r:Option Int):Str:=if o=true then Aa "over" else if r=none then Aa "stands" else Aa "runs"
def spSw (a:Adr):Sp:=λvs H Q _=>∃(x:Addr)(B:Hp)(S:List Addr)(rd:RD)(st:RS)(bs:List Bool)(rs:List Rw)(r:Option Int),vs=[.ref x,oV r]/\RunAt a B H x S rd st bs rs/\Q (.str (swd st.over r)) H
def AtR (H:Hp)(p:Addr)(rows:List R3):Prop:=∃us,H p=some (.lst us)/\Tups H us (rows.map qm6)
def AtR.same {H H':Hp}{p:Addr}{rows:List R3}(h:AtR H p rows)(z:Same H H'):AtR H' p rows:=by obtain⟨us,a,b⟩:=h;exact⟨us,z _ _ a,b.same z⟩
def AccAt (H:Hp)(q p4 p6:Addr)(n:Str)(st:RS)(s r:Option Int):Prop:=H q=some (.tup [.str n,.str (swd st.over r),oV s,.int st.units,.ref p4,oV r,.ref p6])/\AtQ H p4 st.ps/\AtR H p6 st.rows
def spAc (a:Adr):Sp:=λvs H Q _=>∃(x:Addr)(B:Hp)(S:List Addr)(rd:RD)(st:RS)(bs:List Bool)(rs:List Rw)(c:Int)(s r:Option Int)(n w0:Str)(d0:Int)(rw:List R3),vs=[.ref x]/\RunAt a B H x S rd st bs rs/\TabOk bs rs/\StOk st c/\BaseAt a nB H st.bv st.day s/\LsS bs rs rd st s r/\st.rows=(n,d0,w0)::rw /\
 ∀(q p4 p6:Addr)(H':Hp),Same H H'->H q=none->H p4=none->H p6=none->AccAt H' q p4 p6 n st s r->Q (.ref q) H'
def qpb {ps:List Pz}(h:qa1 ps=true):∃a F,ps=a++[(F,none)]:=by
 rcases BJ ps with e|⟨a,p,e⟩
 .rw[e]at h;cases h
 .rw[BK]at e;subst e;obtain⟨F,o⟩:=p;cases o with|none=>exact⟨a,F,Z⟩|some x=>unfold qa1 at h;rw[DG]at h;cases h
def qra {a:List Pz}{F:Int}{o:Option Int}:qa1 (a++[(F,o)])=decide (oV o=V.non):=by unfold qa1;rw[DG];cases o <;>rfl
def qkt {a:List Pz}{F d:Int}:ql9 (a++[(F,none)]) d=a++(if F<d then [(F,some (d-1))] else []):=by unfold ql9;rw[DG];show (a++[(F,none)]).dropLast++_=_;rw[List.dropLast_concat]
def qis {ps:List Pz}{d:Int}(h:qa1 ps=false):ql9 ps d=ps:=by
 unfold ql9 qa1 at *;split at h
 .cases h
 .rfl
def last_ix (vs:List V)(x:V):(vs++[x])[(vs++[x]).length-1]?=some x:=by rw[Af,AW,DX,AV (Am _),Dx];rfl
def fit7 (f a c e d g b:V):[f,a,c,e,d,g,b].length<=A6:=BC (qnm (show 7<=1000 by decide))
theorem gv_get {gr:List (Key×V)}(h:∀k v,qbf gr k=some v->∃n:Int,v=.int n)(k:Str):(qbf gr (.inr k)).getD (.int 0)=.int (gv gr k):=by
 unfold gv;cases e:qbf gr (.inr k) with
 |none=>rfl
 |some v=>obtain⟨n,rfl⟩:=h _ _ e;rfl
def find_at {α:Type}{p:α->Bool}{l:List α}{i:Nat}{t:α}(h:(l.take i).find? p=none)(c:l[i]?=some t)(a:p t=true):l.find? p=some t:=by
 obtain⟨b,d⟩:=Ac.mp c;have e:l=l.take i++t::l.drop (i+1):=by rw[<- d,<- CH b,CF]
 rw[e,List.find?_append,h,C0,a];rfl
def qtx {α:Type}{p:α->Bool}{l:List α}{i:Nat}{t:α}(h:(l.take i).find? p=none)(b:l[i]?=some t)(a:p t=false):(l.take (i+1)).find? p=none:=by rw[qcx b,List.find?_append,h,C0,a];rfl
def qhy {rd:RD}{st s:RS}{a r:Option Int}{w k:Str}{d:Int}(h:qbe rd st a r w d k=some s):s.rows=st.rows:=by
 unfold qbe at h;split at h
 .cases h;rfl
 .split at h
  .cases h
  .split at h
   .cases h;rfl
   .split at h
    .split at h
     .cases h
     .cases h;rfl
    .split at h
     .split at h
      .cases h
      .cases h;rfl
     .split at h
      .cases h;rfl
      .cases h
noncomputable abbrev az:Str:=Aa "abcdefghijklmnopqrstuvwxyz"
def az_len:az.length=26:=Ez
def az_at:∀i:Nat,i<26->az.cps.toList[i]?=some (97+i):=Ez
def az_ix {x:Int}:atI az.cps.toList (x % 26)=some (97+(x % 26).toNat):=by obtain⟨j,hj⟩:∃j:Nat,x % 26=(j:Int):=⟨(x % 26).toNat,by lia⟩;rw[hj,BW];exact qbj (az_at j (by lia))
noncomputable def wsz (c:Int):Int:=1+c % 8
def qf1 (c k:Int):Int:=if c / 64 % 2=0 then wsz c else 1+k % wsz c
def qkk (c k:Int):Int:=if qf1 c k-1<c / 8 % wsz c then qf1 c k-1 else c / 8 % wsz c
def won (c k j:Int):Int:=if j=qkk c k then c / 64+7*j*j+k else c / 64+7*j*j
def wl (c k:Int)(n:Nat):List Nat:=(Ar n).map λ(j:Nat)=>97+(won c k (j:Int) % 26).toNat
def wdS (c:Int)(k:Nat):Str:=⟨(wl c (k:Int) (qf1 c (k:Int)).toNat).toArray⟩
def qsl (c:Int):1<=wsz c/\wsz c<=8:=by unfold wsz;lia
def qku (c k:Int):1<=qf1 c k/\qf1 c k<=8:=by
 have:=qsl c;unfold qf1;split
 .exact this
 .have:=BQ k (show wsz c≠0 by lia);have:=Cd k (show 0<wsz c by lia);lia
def wmin_in (c k:Int):0<=qkk c k/\qkk c k<qf1 c k:=by have h:=qsl c;have:=qku c k;have:=BQ (c / 8) (show wsz c≠0 by lia);unfold qkk;split <;>lia
def wl_succ (c k:Int)(n:Nat):wl c k (n+1)=wl c k n++[97+(won c k (n:Int) % 26).toNat]:=by unfold wl;rw[By,Ax];rfl
def qyg {x y:Str}(h:x.cps.toList=y.cps.toList):x=y:=by obtain⟨⟨x⟩⟩:=x;obtain⟨⟨y⟩⟩:=y;have h:x=y:=h;rw[h]
def qyh (l:List Nat)(x:Nat):(⟨l.toArray⟩:Str)++(⟨#[x]⟩:Str)=⟨(l++[x]).toArray⟩:=by refine qyg ?_;rw[Str.cps_append,Array.toList_append]
def qyi {c:Int}{k d:Nat}(hk:k<26)(hk':d<26)(e:wdS c k=wdS c d):k=d:=by
 have f:wl c (k:Int) (qf1 c (k:Int)).toNat=wl c (d:Int) (qf1 c (d:Int)).toNat:=by have:=congrArg (λs:Str=>s.cps.toList) e;simpa [wdS] using this
 have h:=congrArg Do f;unfold wl at h;rw[Ab,Ab,Aw,Aw]at h;have f1:=qku c (k:Int);have f2:=qku c (d:Int);have j:qf1 c (k:Int)=qf1 c (d:Int):=by lia
 have l:qkk c (k:Int)=qkk c (d:Int):=by unfold qkk;rw[j]
 have m1:=wmin_in c (k:Int);obtain⟨m,hm⟩:∃m:Nat,qkk c (k:Int)=(m:Int):=⟨(qkk c (k:Int)).toNat,by lia⟩;have g:∀q:Nat,qkk c (q:Int)=(m:Int)->m<(qf1 c (q:Int)).toNat->(wl c (q:Int) (qf1 c (q:Int)).toNat)[m]?=some (97+((c / 64+7*(m:Int)*(m:Int)+(q:Int)) % 26).toNat):=λq i n=>by unfold wl;rw[Ai,Bb n];show some (97+(won c (q:Int) (m:Int) % 26).toNat)=_;unfold won;rw[if_pos i.symm]
 have a:=g k hm (by lia);have b:=g d (l ▸ hm) (by lia);rw[f,b]at a;have a:=AE a;generalize c / 64+7*(m:Int)*(m:Int)=z at a;lia
def wds (c:Int)(m:Nat):List Str:=(Ar m).map (wdS c)
def qkv (c:Int)(m:Nat):(wds c m).length=m:=by unfold wds;rw[Ab,Aw]
def qyj (c:Int)(m:Nat):wds c (m+1)=wds c m++[wdS c m]:=by unfold wds;rw[By,Ax];rfl
def spWords:Sp:=λvs H Q _=>∃(c:Int)(m:Nat),vs=[.int c,.int (m:Int)]/\m<=26/\∀(q:Addr)(H':Hp),H q=none->Same H H'->H' q=some (.lst ((wds c m).map V.str))->Q (.ref q) H'
def far_at (c k:Int):atI [V.int (wsz c),V.int (1+k % wsz c)] (c / 64 % 2)=some (V.int (qf1 c k)):=by
 unfold qf1;rcases (by lia:c / 64 % 2=0\/c / 64 % 2=1) with e|e
 .rw[e,if_pos Z];rfl
 .rw[e,if_neg Uk];rfl
section
variable {K:Ag}
end
def qsm {H:Hp}{x a:Addr}{o u:HO}(nx:H x=none)(nd:H a=none):Same H (upd (upd H a u) x o):=λb v e=>by rw[qr (qae e nx),qr (qae e nd)];exact e
theorem qn5 {H H':Hp}{us:List V}{ts:List (List V)}(t:Tups H us ts)(k:∀b t,H b=some (.tup t)->H' b=some (.tup t)):Tups H' us ts:=by
 induction t with
 |nil=>exact .nil
 |cons e _ ih=>exact .cons (k _ _ e) ih
def StOk.mono {st:RS}{c d:Int}(h:StOk st c)(cd:c<=d):StOk st d:=⟨h.ps,h.d0,h.u1,h.pl,h.rl,h.gl,h.gi,λp a e b=>by have:=h.cu p a e b;lia,h.r0⟩
def stok_lo {st:RS}{c d u n:Int}{k nm:Str}(h:StOk st c)(cd:c<=d)(u0:0<=u)(hl:st.rows.length<400):StOk {st with units:=st.units+u,gr:=qc8 st.gr (.inr k) (.int n),rows:=st.rows++[(nm,d,Aa "longer")]} d:=by
 have h1:=h.pl;have h2:=h.gl;have h3:=qcu st.gr (.inr k) (V.int n);have hr:(st.rows++[(nm,d,Aa "longer")]).length=st.rows.length+1:=by rw[Af];rfl
 refine⟨h.ps,h.d0,by have:=h.u1;show 1<=st.units+u;lia,by show st.ps.length<=(st.rows++_).length;lia,by show (st.rows++_).length<=400;lia,by show (qc8 st.gr (.inr k) (V.int n)).length<=(st.rows++_).length;lia,λb v a=>?_,λp g e f=>by have:=h.cu p g e f;lia,λz=>by cases (Dz.mp z).2⟩;have a:qbf (qc8 st.gr (.inr k) (.int n)) b=some v:=a;rw[qk8]at a;split at a
 .cases a;exact⟨n,Z⟩
 .exact h.gi b v a
def need1 {u:Int}(h:1<=u)(i:Three):1<=need i u:=qq4 h i
def qsn (g:Int->Bool):Prop:=∀n,0<=n->∃e,n<=e/\e<=n+2000/\g e=false
def Ends (ps:List Pz)(E:Int):Prop:=∀p∈ps,∀e,p.2=some e->e<=E
def qn6 {ps:List Pz}{E d:Int}(b:Ends ps E)(h:E<d)(c:∀F,(F,none)∈ps->d<F):stl ps d=false:=ql8 λp a=>by
 obtain⟨F,o⟩:=p;cases o with|none=>rw[ql7];exact decide_eq_false (by have:=c F a;lia)|some e=>rw[qef,decide_eq_false (show ¬d<=e by have:=b _ a e Z;lia),Cs]
theorem qpc:∀(ps:List Pz)(s:Int),∃E,s<=E/\Ends ps E
 | [],s=>⟨s,Bp _,λ_ h=>absurd h AG⟩
 | (F,o)::ps,s=>by
  obtain⟨E,d,c⟩:=qpc ps s;cases o with
  |none =>
   refine⟨E,d,λp b e a=>?_⟩;rcases Aq.mp b with z|z
   .rw[z]at a;cases a
   .exact c p z e a
  |some x =>
   refine⟨if E<x then x else E,by split <;>lia,λp b e a=>?_⟩;rcases Aq.mp b with z|z
   .rw[z]at a;cases a;split <;>lia
   .have:=c p z e a;split <;>lia
theorem qty {g:Int->Bool}{ps:List Pz}{E B:Int}(b:qsn g)(E0:0<=E)(a:∀e,E<e->e<B->stl ps e=false):∀k:Nat,E+1+2001*(k:Int)<=B->∃d,E<d/\d<=E+1+2001*(k:Int)/\cn (gst g ps) (E+1)+(k:Int)<=cn (gst g ps) d
 |0,_=>⟨E+1,by lia,by lia,by lia⟩
 |k+1,h=>by
  obtain⟨d,h1,h2,h3⟩:=qty b E0 a k (by lia);obtain⟨e,c,e2,f⟩:=b d (by lia);have C:=qgq (gst g ps);have st:=C.st e (by lia);have i:gst g ps e=false:=by unfold gst;rw[f,a e (by lia) (by lia)];rfl
  rw[i,if_neg Uk]at st;have:=C.le (n:=d) (m:=e) (by lia) c;exact⟨e+1,by lia,by lia,by lia⟩
theorem qyk {G:Int->Bool}{s m:Int}(b:0<=s)(a:1<=m):∀k:Nat,cn G (s+1)+m<=cn G (s+1+(k:Int))->∃d,s<d/\G d=false/\cn G d=cn G (s+1)+m-1
 |0,h=>by rw[Ej,C5]at h;lia
 |k+1,h=>by
  by_cases z:cn G (s+1)+m<=cn G (s+1+(k:Int))
  .exact qyk b a k z
  .have st:=(qgq G).st (s+1+(k:Int)) (by lia);rw[show s+1+((k+1:Nat):Int)=s+1+(k:Int)+1 by lia,st]at h;cases e:G (s+1+(k:Int)) with|true=>rw[e,if_pos Z]at h;lia|false=>rw[e,if_neg Uk]at h;exact⟨_,by lia,e,by lia⟩
def full_ex {g:Int->Bool}{ps:List Pz}{s m:Int}(l:qsn g)(t:0<=s)(k:1<=m):∃r,qm5 g ps s m r:=by
 by_cases h:∃d,s<d/\cn (gst g ps) (s+1)+m<=cn (gst g ps) d
 .obtain⟨d,a,q⟩:=h;obtain⟨e,f,u,i⟩:=qyk t k (d-s-1).toNat (by rw[show s+1+((d-s-1).toNat:Int)=d by lia];exact q);exact⟨some e,f,u,i⟩
 .have b:∀d,s<d->cn (gst g ps) d<cn (gst g ps) (s+1)+m:=λd j=>Ep.mp λz=>h ⟨d,j,z⟩;refine⟨none,?_,b⟩;by_cases c:∃F,(F,none)∈ps
  .exact c
  .exfalso;obtain⟨E,E1,o⟩:=qpc ps s;obtain⟨d,d1,d2,d3⟩:=qty (B:=E+1+2001*(m.toNat:Int)) l (by lia) (λe a _=>qn6 o a λF p=>absurd ⟨F,p⟩ c) m.toNat (Bp _);have:=b d (by lia);have:=(qgq (gst g ps)).le (n:=s+1) (m:=E+1) (by lia) (by lia);lia
theorem qrb {G:Int->Bool}{f:Int}:∀k:Nat,(∀j,f<=j->j<f+(k:Int)->G j=true) \/ ∃d,f<=d/\G d=false/\∀e,f<=e->e<d->G e=true
 |0=>.inl λj a b=>by lia
 |k+1=>by
  rcases qrb (G:=G) (f:=f) k with h|h
  .cases e:G (f+(k:Int)) with
   |false=>exact .inr ⟨_,by lia,e,h⟩
   |true =>
    refine .inl λj a b=>?_;by_cases z:j<f+(k:Int)
    .exact h j a z
    .rw[show j=f+(k:Int) by lia];exact e
  .exact .inr h
def due_ex {g:Int->Bool}{ps:List Pz}{f:Int}(l:qsn g)(f0:0<=f):∃r,Due g ps f r:=by
 by_cases h:∃d,f<=d/\gst g ps d=false
 .obtain⟨d,j,o⟩:=h;rcases qrb (G:=gst g ps) (f:=f) ((d-f).toNat+1) with z|⟨e,b,i,a⟩
  .have:=z d j (by lia);rw[o]at this;cases this
  .exact⟨some e,b,i,a⟩
 .have all:∀e,f<=e->gst g ps e=true:=λe k=>by
   cases z:gst g ps e with|true=>rfl|false=>exact absurd ⟨e,k,z⟩ h
  refine⟨none,?_,all⟩
  by_cases c:∃F,(F,none)∈ps
  .exact c
  .exfalso;obtain⟨E,E1,m⟩:=qpc ps f;obtain⟨e,b,i,a⟩:=l (E+1) (by lia);have:=all e (by lia);unfold gst at this;rw[a,qn6 m (by lia) λF n=>absurd ⟨F,n⟩ c]at this;cases this
def qyl {wk:List Int}{yr:List S2}{rs:List Rw}(h:PartsOk wk yr rs):qsn (tfr (fdL wk yr) (ov rs)):=λn a=>by obtain⟨e,b,d,c⟩:=qvq h.w h.y h.l h.r a;exact⟨e,b,d,(tfr_lfr h.r (by lia)).trans c⟩
theorem qtz {wk:List Int}{yr:List S2}{rs:List Rw}(h:PartsOk wk yr rs):∀i:Three,qsn (kf (fdL wk yr) (ov rs) i)
 |.a=>λn _=>⟨n,Bp _,by lia,Z⟩
 |.b=>λn _=>⟨n,Bp _,by lia,Z⟩
 |.c=>qyl h
def wy:Three->Int:=qcn 1 0 2
def qym {ps:List Pz}(ok:PsOk ps)(h:qa1 ps=false):Fnt ps:=by
 rcases BJ ps with e|⟨qs,p,e⟩
 .rw[e];exact λ_ h=>absurd h AG
 .rw[BK]at e;subst e;obtain⟨F,o⟩:=p;obtain⟨_,_,b⟩:=B6.mp ok.srt;intro q c;rcases Av.mp c with z|z
  .obtain⟨e,a,_⟩:=b q z (F,o) (Ah.mpr Z);exact⟨e,a⟩
  .rw[Ah.mp z];cases o with|none=>rw[qra]at h;cases h|some x=>exact⟨x,Z⟩
def qyn {a:List Pz}{p:Pz}(ok:PsOk (a++[p])):PsOk a:=⟨(B6.mp ok.srt).1,λq b=>ok.ok q (Av.mpr (.inl b))⟩
theorem qt0 {ps:List Pz}{d:Int}(ok:PsOk ps):PsOk (ql9 ps d):=by
 cases b:qa1 ps with
 |false=>rw[qis b];exact ok
 |true =>
  obtain⟨qs,F,rfl⟩:=qpb b;rw[qkt];by_cases c:F<d
  .rw[if_pos c];obtain⟨f,_,i⟩:=B6.mp ok.srt;have l:=ok.ok (F,none) (Av.mpr (.inr (Ah.mpr Z)));refine⟨B6.mpr ⟨f,CS _ _,λp a q h=>?_⟩,λp a=>?_⟩
   .rw[Ah.mp h];exact i p a (F,none) (Ah.mpr Z)
   .rcases Av.mp a with z|z
    .exact ok.ok p (Av.mpr (.inl z))
    .rw[Ah.mp z];exact⟨l.1,λe g=>by cases g;show F<=d-1;lia⟩
  .rw[if_neg c,Br];exact qyn ok
def psok_op {ps:List Pz}{d:Int}(ok:PsOk ps)(h:qa1 ps=false)(f:∀p∈ps,∀e,p.2=some e->e<d)(c:0<=d):PsOk (ps++[(d,none)]):=by
 have fn:=qym ok h;refine⟨B6.mpr ⟨ok.srt,CS _ _,λp a q g=>?_⟩,λp a=>?_⟩
 .rw[Ah.mp g];obtain⟨e,b⟩:=fn p a;exact⟨e,b,f p a e b⟩
 .rcases Av.mp a with z|z
  .exact ok.ok p z
  .rw[Ah.mp z];exact⟨c,λe b=>nomatch b⟩
theorem qyo {ps:List Pz}{d:Int}:(ql9 ps d).length<=ps.length:=by
 cases a:qa1 ps with
 |false=>rw[qis a];exact Am _
 |true =>
  obtain⟨qs,F,rfl⟩:=qpb a;rw[qkt,Af,Af];split
  .exact Am _
  .simp
theorem go_cu {ps:List Pz}{c d:Int}(cd:c<=d)(f:∀p∈ps,∀e,p.2=some e->e<c):∀p∈ql9 ps d,∀e,p.2=some e->e<d:=λp a e b=>by
 cases g:qa1 ps with
 |false=>rw[qis g]at a;have:=f p a e b;lia
 |true =>
  obtain⟨qs,F,rfl⟩:=qpb g;rw[qkt]at a;rcases Av.mp a with z|z
  .have:=f p (Av.mpr (.inl z)) e b;lia
  .split at z
   .rw[Ah.mp z]at b;cases b;lia
   .cases z
def qpd {st:RS}{c d:Int}{ps':List Pz}{n w:Str}{o':Bool}(h:StOk st c)(a:PsOk ps')(hl:ps'.length<=st.ps.length+1)(b:∀p∈ps',∀e,p.2=some e->e<d)(hr:st.rows.length<400):StOk {st with ps:=ps',over:=o',rows:=st.rows++[(n,d,w)]} d:=by
 have e:(st.rows++[(n,d,w)]).length=st.rows.length+1:=by rw[Af];rfl
 have h1:=h.pl;have h2:=h.gl;exact⟨a,h.d0,h.u1,by show ps'.length<=(st.rows++_).length;lia,by show (st.rows++_).length<=400;lia,by show st.gr.length<=(st.rows++_).length;lia,h.gi,b,λz=>by cases (Dz.mp z).2⟩
def qyp {s r:Option Int}{d:Int}(h:under s r d=true):∃x,s=some x/\x<d/\∀l,r=some l->d<=l:=by
 cases s with|none=>cases h|some x =>unfold under at h;simp only[BF]at h;refine⟨x,Z,of_decide_eq_true h.1,λl e=>?_⟩;subst e;exact of_decide_eq_true h.2
def mask_ex (P:Addr->Prop)(H:Hp):∃F:Hp,(∀b,P b->F b=none)/\(∀b o,¬P b->H b=some o->F b=some o)/\Same F H:=by
 classical
 refine⟨λb=>if P b then none else H b,λb h=>if_pos h,λb o h e=>by show (if P b then none else H b)=_;rw[if_neg h];exact e,λb o e=>?_⟩
 have e:(if P b then none else H b)=some o:=e
 by_cases h:P b
 .rw[if_pos h]at e;cases e
 .rw[if_neg h]at e;exact e
def RunAt.rebase {a:Adr}{B c H:Hp}{x:Addr}{S:List Addr}{rd:RD}{st:RS}{bs:List Bool}{rs:List Rw}(h:RunAt a B H x S rd st bs rs)(d:Same B c)(f:Same c H)(n:∀b∈S,c b=none):RunAt a c H x S rd st bs rs:=by obtain⟨l,rl,cn,j,i,g,k,e,rfl,R⟩:=h;exact⟨l,rl,cn,j,i,g,k,e,Z,R.ne,R.hx,R.hr,R.tr,R.hp,R.tp,R.hg,R.rl.same d,R.kd.same d,f,n _ (by simp),n _ (by simp),n _ (by simp),n _ (by simp)⟩
def RunAt.but {a:Adr}{B H H':Hp}{x:Addr}{S:List Addr}{rd:RD}{st:RS}{bs:List Bool}{rs:List Rw}(Zq:Addr->Prop)(h:RunAt a B H x S rd st bs rs)(k:∀b o,¬Zq b->H b=some o->H' b=some o)(c:∀b∈S,¬Zq b)(g:∀b t,H b=some (.tup t)->¬Zq b)(i:∀b o,B b=some o->¬Zq b):RunAt a B H' x S rd st bs rs:=by obtain⟨p,rl,cn,m,l,j,n,f,rfl,R⟩:=h;have d:∀b t,H b=some (.tup t)->H' b=some (.tup t):=λb t e=>k b _ (g b t e) e;exact⟨p,rl,cn,m,l,j,n,f,Z,R.ne,k _ _ (c _ (by simp)) R.hx,k _ _ (c _ (by simp)) R.hr,qn5 R.tr d,k _ _ (c _ (by simp)) R.hp,qn5 R.tp d,k _ _ (c _ (by simp)) R.hg,R.rl,R.kd,λb o e=>k b o (i b o e) (R.sm b o e),R.bx,R.br,R.bp,R.bg⟩
def RunAt.ex {a:Adr}{B H:Hp}{x:Addr}{S:List Addr}{rd:RD}{st:RS}{bs:List Bool}{rs:List Rw}(h:RunAt a B H x S rd st bs rs):Same B H/\(∀b∈S,∃o,H b=some o/\∀t,o ≠ .tup t)/\∀b∈S,B b=none:=by
 obtain⟨dx,rl,cn,pr,pp,pg,ur,up,rfl,R⟩:=h;refine⟨R.sm,λb c=>?_,λb c=>?_⟩
 .rcases Aq.mp c with z|c
  .exact⟨_,by rw[z];exact R.hx,λ_ q=>by cases q⟩
  .rcases Aq.mp c with z|c
   .exact⟨_,by rw[z];exact R.hr,λ_ q=>by cases q⟩
   .rcases Aq.mp c with z|c
    .exact⟨_,by rw[z];exact R.hp,λ_ q=>by cases q⟩
    .exact⟨_,by rw[Ah.mp c];exact R.hg,λ_ q=>by cases q⟩
 .rcases Aq.mp c with z|c
  .rw[z];exact R.bx
  .rcases Aq.mp c with z|c
   .rw[z];exact R.br
   .rcases Aq.mp c with z|c
    .rw[z];exact R.bp
    .rw[Ah.mp c];exact R.bg
noncomputable def put {α:Type}(f:Nat->α)(i:Nat)(v:α):Nat->α:=λj=>if j=i then v else f j
def put_at {α:Type}{f:Nat->α}{i:Nat}{v:α}:put f i v i=v:=if_pos rfl
theorem qan {α:Type}{f:Nat->α}{i j:Nat}{v:α}(h:j≠i):put f i v j=f j:=if_neg h
structure WdN (nms:List Str)(bs:List (Option Nat))(rk:Nat->Nat):Prop where
 nd:nms.Nodup
 len:bs.length=nms.length
 sm:nms.length<=6
 ok:∀(k b:Nat),bs[k]?=some (some b)->b<nms.length/\rk b<rk k
 lo:∀k,rk k<7
noncomputable def nm (nms:List Str)(k:Nat):Str:=nms.getD k A8
noncomputable def bo (bs:List (Option Nat))(k:Nat):Option Nat:=bs.getD k none
def upW (nms:List Str)(bs:List (Option Nat))(tk:List Str):Nat->Nat->List Str
 |0,_=>[]
 |f+1,k=>if nm nms k∈tk then [] else nm nms k::(match bo bs k with|some b=>upW nms bs tk f b|none=>[])
def qit (nms:List Str)(bs:List (Option Nat))(i:Nat):List Str:=(Ar i).foldl (λtk k=>tk++(upW nms bs tk 7 k).reverse) []
def qju (nms:List Str)(bs:List (Option Nat))(i:Nat):qit nms bs (i+1)=qit nms bs i++(upW nms bs (qit nms bs i) 7 i).reverse:=by unfold qit;rw[By,Ct];rfl
theorem qpe (nms:List Str)(bs:List (Option Nat))(tk:List Str):∀f k,(upW nms bs tk f k).length<=f
 |0,_=>Am _
 |f+1,k=>by
  unfold upW;split
  .exact AU _
  .rw[AD];cases bo bs k with|none=>exact C7 (AU _)|some b=>exact C7 (qpe nms bs tk f b)
theorem qyq (nms:List Str)(bs:List (Option Nat))(i:Nat):(qit nms bs i).length<=7*i:=by
 induction i with
 |zero=>exact Am _
 |succ i ih =>rw[qju,Af,BU];have:=qpe nms bs (qit nms bs i) 7 i;lia
def qt1 {nms:List Str}{k:Nat}(h:k<nms.length):nms[k]?=some (nm nms k):=by unfold nm;rw[Aj,Ad h];rfl
def qyr {bs:List (Option Nat)}{k:Nat}(h:k<bs.length):bs[k]?=some (bo bs k):=by unfold bo;rw[Aj,Ad h];rfl
theorem qma {nms:List Str}(nd:nms.Nodup){j k:Nat}(b:j<nms.length)(c:k<nms.length)(e:nm nms j=nm nms k):j=k:=by have a:=qt1 b;rw[e,<- qt1 c]at a;exact(Ee b nd).mp a
def qjv (nms:List Str):Option Nat->V
 |none=>.non
 |some b=>.str (nm nms b)
def DicOk (kvs:List (Key×V))(nms:List Str)(bs:List (Option Nat)):Prop:=∀k<nms.length,qbf kvs (.inr (nm nms k))=some (qjv nms (bo bs k))
def spUnt:Sp:=λvs H Q _=>∃(x:Str)(d t:Addr)(kvs:List (Key×V))(nms:List Str)(bs:List (Option Nat))(rk:Nat->Nat)(tk:List Str)(k:Nat),vs=[.str x,.ref d,.ref t]/\H d=some (.dK kvs)/\H t=some (.lst (tk.map V.str))/\WdN nms bs rk/\k<nms.length/\x=nm nms k/\DicOk kvs nms bs /\
 ∀(q:Addr)(H':Hp),H q=none->Same H H'->H' q=some (.lst ((upW nms bs tk 7 k).map V.str))->Q (.ref q) H'
def RuN (C:Addr)(H:Hp)(v:V)(x:Str)(b:V):Prop:=∃(p dx:Addr)(fs:List (Str×V)),v=.ref p/\H p=some (.ins C dx fs)/\fs.lookup (Aa "name")=some (.str x)/\fs.lookup (Aa "base")=some b
def RuN.same {C:Addr}{H H':Hp}{v:V}{x:Str}{b:V}(h:RuN C H v x b)(k:Same H H'):RuN C H' v x b:=by obtain⟨p,d,fs,e,a,c⟩:=h;exact⟨p,d,fs,e,k _ _ a,c⟩
def qn7 (C:Addr)(H:Hp)(us:List V)(nms:List Str)(bs:List (Option Nat)):Prop:=us.length=nms.length/\∀(j:Nat)(y:V),us[j]?=some y->RuN C H y (nm nms j) (qjv nms (bo bs j))
def spHang (a:Adr):Sp:=λvs H Q _=>∃(pr:Addr)(us:List V)(nms:List Str)(bs:List (Option Nat))(rk:Nat->Nat),vs=[.ref pr]/\H pr=some (.lst us)/\qn7 a.kE H us nms bs/\WdN nms bs rk /\
 ∀(q:Addr)(H':Hp),H q=none->Same H H'->H' q=some (.lst ((qit nms bs nms.length).map V.str))->Q (.ref q) H'
def qt2 {kvs:List (Key×V)}{nms:List Str}{bs:List (Option Nat)}{i:Nat}(nd:nms.Nodup)(a:i<nms.length)(h:∀k<i,qbf kvs (.inr (nm nms k))=some (qjv nms (bo bs k))):∀k<i+1,qbf (qc8 kvs (.inr (nm nms i)) (qjv nms (bo bs i))) (.inr (nm nms k))=some (qjv nms (bo bs k)):=λk hk=>by
 rw[qk8];by_cases e:k=i
 .subst e;rw[if_pos Z]
 .rw[if_neg (λz=>e (qma nd (by lia) a (Da.inj z)))];exact h k (by lia)
def up_take {nms:List Str}{bs:List (Option Nat)}{tk:List Str}{f k:Nat}(h:¬nm nms k∈tk):upW nms bs tk (f+1) k=nm nms k::(match bo bs k with|some b=>upW nms bs tk f b|none=>[]):=by show (if nm nms k∈tk then [] else _)=_;rw[if_neg h]
def up_stop {nms:List Str}{bs:List (Option Nat)}{tk:List Str}{f k:Nat}(h:nm nms k∈tk):upW nms bs tk f k=[]:=by
 cases f with|zero=>rfl|succ f =>show (if nm nms k∈tk then [] else _)=_;rw[if_pos h]
noncomputable abbrev bfs (po pd:Addr):List (Str×V):=[(Aa "order",.ref po),(Aa "by_name",.ref pd)]
def BookAt (C:Addr)(H:Hp)(p:Addr)(nms ord:List Str)(us:List V):Prop:=∃(dx po pd:Addr)(kvs:List (Key×V)),H p=some (.ins C dx (bfs po pd))/\H po=some (.lst (ord.map V.str))/\H pd=some (.dK kvs)/\(kvs.map λkv=>kV kv.1)=nms.map V.str/\∀(j:Nat)(y:V),us[j]?=some y->qbf kvs (.inr (nm nms j))=some y
def BookAt.same {C:Addr}{H H':Hp}{p:Addr}{nms a:List Str}{us:List V}(h:BookAt C H p nms a us)(s:Same H H'):BookAt C H' p nms a us:=by obtain⟨i,f,c,kvs,b,g,e,d⟩:=h;exact⟨i,f,c,kvs,s _ _ b,s _ _ g,s _ _ e,d⟩
def spBInit (a:Adr):Sp:=λvs H Q _=>∃(x dx pr:Addr)(us:List V)(nms:List Str)(bs:List (Option Nat))(rk:Nat->Nat),vs=[.ref x,.ref pr]/\H x=some (.ins a.kO dx [])/\H pr=some (.lst us)/\qn7 a.kE H us nms bs/\WdN nms bs rk /\
 ∀H',SameBut x H H'->(∀H2,Rest x H H' H2->BookAt a.kO H2 x nms (qit nms bs nms.length) us)->Q .non H'
def spBHang (a:Adr):Sp:=λvs H Q _=>∃(x:Addr)(nms ord:List Str)(us:List V),vs=[.ref x]/\BookAt a.kO H x nms ord us/\∀q,H q=none->Q (.ref q) (upd H q (.lst (ord.map V.str)))
def spBRule (a:Adr):Sp:=λvs H Q _=>∃(x:Addr)(nms ord:List Str)(us:List V)(j:Nat)(y:V),vs=[.ref x,.str (nm nms j)]/\BookAt a.kO H x nms ord us/\us[j]?=some y/\Q y H
theorem bk_new {kvs:List (Key×V)}{nms:List Str}{i:Nat}(nd:nms.Nodup)(c:i<nms.length)(h:(kvs.map λa=>kV a.1)=(nms.take i).map V.str):qbf kvs (.inr (nm nms i))=none:=by
 cases e:qbf kvs (.inr (nm nms i)) with
 |none=>rfl
 |some v =>
  have m:=valV_in e;have p:V.str (nm nms i)∈(nms.take i).map V.str:=by rw[<- h];obtain⟨a,n,d⟩:=AS.mp m;exact AS.mpr ⟨a,n,by rw[d];rfl⟩
  obtain⟨y,o,g⟩:=AS.mp p;obtain⟨j,f,b⟩:=C1 o;rw[Bv]at f;rw[Ed]at b;have l:nm nms j=nm nms i:=by have:=qt1 (nms:=nms) (k:=j) (by lia);rw[Ad (by lia)]at this;rw[<- AE this,b];exact V.str.inj g
  have:=qma nd (by lia) c l;lia
def bk_keys {kvs:List (Key×V)}{nms:List Str}{i:Nat}(y:V)(nd:nms.Nodup)(b:i<nms.length)(h:(kvs.map λa=>kV a.1)=(nms.take i).map V.str):((qc8 kvs (.inr (nm nms i)) y).map λa=>kV a.1)=(nms.take (i+1)).map V.str:=by rw[qh9 y (bk_new nd b h),Ax,h,B1,qt1 b,Ax];rfl
def bk_get {kvs:List (Key×V)}{nms:List Str}{us:List V}{i:Nat}{y:V}(nd:nms.Nodup)(a:i<nms.length)(hl:us.length=nms.length)(b:us[i]?=some y)(h:∀(j:Nat) (z:V),j<i->us[j]?=some z->qbf kvs (.inr (nm nms j))=some z):∀(j:Nat)(z:V),j<i+1->us[j]?=some z->qbf (qc8 kvs (.inr (nm nms i)) y) (.inr (nm nms j))=some z:=λj z hj hz=>by
 rw[qk8];by_cases e:j=i
 .subst e;rw[if_pos Z];rw[b]at hz;exact hz
 .rw[if_neg (λq=>e (qma nd (by lia) a (Da.inj q)))];exact h j z (by lia) hz
noncomputable abbrev Act:=Str×Str×Int
noncomputable def qb4 (t:Act):List V:=[.str t.1,.str t.2.1,.int t.2.2]
structure TD where
 name:Str
 opens:Option Str
 base:Option Nat
 rd:RD
noncomputable abbrev ZZ:=Nat->List RS
noncomputable abbrev dRS:RS:=⟨[],false,0,0,[],[],.non⟩
theorem qys (bs:List Bool)(rs:List Rw)(rd:RD)(st:RS)(s:Option Int):∃r0:Option Int,∀r,(∀x,s=some x->0<=x)->LsS bs rs rd st s r->r0=r:=by
 by_cases h:∃r,(∀x,s=some x->0<=x)/\LsS bs rs rd st s r
 .obtain⟨r,b,a⟩:=h;exact⟨r,λr' _ c=>qe5 b a c⟩
 .exact⟨none,λr b a=>absurd ⟨r,b,a⟩ h⟩
noncomputable def lsC (bs:List Bool)(rs:List Rw)(rd:RD)(st:RS)(s:Option Int):Option Int:=Classical.choose (qys bs rs rd st s)
theorem qyt {bs:List Bool}{rs:List Rw}{rd:RD}{st:RS}{s r:Option Int}(a:∀x,s=some x->0<=x)(h:LsS bs rs rd st s r):lsC bs rs rd st s=r:=Classical.choose_spec (qys bs rs rd st s) r a h
def stF (bs:List Bool)(rs:List Rw)(ts:Nat->TD)(Zq:ZZ):Nat->Nat->RS->Option Int
 |0,_,st=>some st.day
 |n+1,i,st=>match st.bv,(ts i).base with
  |.int k,some b=>lsC bs rs (ts b).rd ((Zq b).getD k.toNat dRS) (stF bs rs ts Zq n b ((Zq b).getD k.toNat dRS))
  |_,_=>some st.day
noncomputable def qjw (x:Nat->Nat->Addr)(base:Option Nat)(v:V):V:=match v,base with
 |.int k,some b=>.ref (x b k.toNat)
 |_,_=>.non
def qgr {x:Nat->Nat->Addr}{base:Option Nat}:qjw x base .non=.non:=by unfold qjw;cases base <;>rfl
noncomputable abbrev wB (st:RS)(v:V):RS:={st with bv:=v}
def qyu {rd:RD}{st:RS}{s r:Option Int}{w k:Str}{d:Int}(f:V->V)(a:f .non=.non):qbe rd (wB st (f st.bv)) s r w d k=(qbe rd st s r w d k).map λq=>wB q (f q.bv):=by
 unfold qbe;split
 .rfl
 .split
  .rfl
  .split
   .show some _=some (wB _ (f .non));rw[a]
   .split
    .show (match qsk rd st.gr k with|none=>none|some t=>_)=_;cases qsk rd st.gr k <;>rfl
    .split
     .show (if qa1 st.ps=true then _ else _)=_;split <;>rfl
     .show (if qa1 st.ps=true then _ else _)=_;split <;>rfl
def feel_bv {rd:RD}{st:RS}{s r:Option Int}{n k:Str}{d:Int}(f:V->V)(a:f .non=.non):qbo rd (wB st (f st.bv)) s r n d k=(wB (qbo rd st s r n d k).1 (f (qbo rd st s r n d k).1.bv),(qbo rd st s r n d k).2):=by
 unfold qbo;show (if qa3 rd k=Aa "" \/ st.over=true then _ else _)=_;split
 .rfl
 .rw[qyu f a];cases qbe rd st s r (qa3 rd k) d k <;>rfl
def StOk.bv {st:RS}{c:Int}(h:StOk st c)(v:V):StOk (wB st v) c:=⟨h.ps,h.d0,h.u1,h.pl,h.rl,h.gl,h.gi,h.cu,h.r0⟩
def LsS.bv {bs:List Bool}{rs:List Rw}{rd:RD}{st:RS}{s r:Option Int}(h:LsS bs rs rd st s r)(v:V):LsS bs rs rd (wB st v) s r:=by cases s <;>exact h
theorem feel_ok {bs:List Bool}{rs:List Rw}{rd:RD}{st:RS}{s r:Option Int}{n k:Str}{c d:Int}(g:RdOk rd)(ok:StOk st c)(a:c<=d)(f:st.rows.length<400)(y:∀x,s=some x->0<=x):StOk (qbo rd st s r n d k).1 d:=by
 have cu:∀p∈st.ps,∀e,p.2=some e->e<d:=λp i e b=>by have:=ok.cu p i e b;lia
 unfold qbo;split
 .exact ok.mono a
 .unfold qbe;by_cases z:qa3 rd k=Aa "ends"
  .rw[if_pos z];exact qpd (st:=st) (o':=true) ok (qt0 ok.ps) (Cu qyo) (go_cu a ok.cu) f
  .rw[if_neg z];cases B:under s r d with
   |false=>rw[if_pos Z];exact ok.mono a
   |true =>
    rw[if_neg Uk];obtain⟨x,m,xd,rd'⟩:=qyp B;by_cases l:qa3 rd k=Aa "anew"
    .rw[if_pos l];have A:=y x m;have hr:(st.rows++[(n,d,qa3 rd k)]).length=st.rows.length+1:=by rw[Af];rfl
     exact⟨⟨.nil,λ_ h=>absurd h AG⟩,by show 0<=d;lia,g.m1,AU _,by show (st.rows++_).length<=400;lia,AU _,(λk v h=>by cases h),(λ_ h=>absurd h AG),λq=>by cases (Dz.mp q).2⟩
    .rw[if_neg l];by_cases j:qa3 rd k=Aa "longer"
     .rw[if_pos j];cases C:qsk rd st.gr k with|none=>exact ok.mono a|some t =>have D:=g.u t (List.mem_of_find?_eq_some C);have lo:=stok_lo (n:=gv st.gr k+1) (k:=k) (nm:=n) ok a D f;rw[<- j]at lo;exact lo
     .rw[if_neg j];by_cases o:qa3 rd k=Aa "still"
      .rw[if_pos o];cases w:qa1 st.ps with
       |true=>rw[if_pos Z];exact ok.mono a
       |false =>
        rw[if_neg Uk];have A:=y x m;refine qpd (st:=st) (o':=st.over) ok (psok_op ok.ps w cu (by lia)) (by rw[Af];exact Am _) (λp i e b=>?_) f;rcases Av.mp i with q|q
        .exact cu p q e b
        .rw[Ah.mp q]at b;cases b
      .rw[if_neg o];cases w:qa1 st.ps with|false=>rw[if_neg Uk];exact ok.mono a|true =>rw[if_pos Z];exact qpd (st:=st) (o':=st.over) ok (qt0 ok.ps) (Cu qyo) (go_cu a ok.cu) f
def qpf (l:List RS):Bool:=match l.getLast? with
 |some st=>!st.over
 |none=>false
noncomputable def fB (o:Option Nat)(f:Nat->Bool):Bool:=match o with
 |some b=>f b
 |none=>false
def opT (t:TD)(k:Str)(f:Nat->Bool):Bool:=decide (t.opens=some k) || fB t.base f
noncomputable def qg8 (t:TD)(ac:Act)(f:Nat->Bool)(Zq:ZZ):RS:=⟨[(ac.1,ac.2.2,Aa "begins")],false,ac.2.2,t.rd.many,[],[],match t.base with
 |some b=>if f b=true then .int (((Zq b).length-1:Nat):Int) else .non
 |none=>.non⟩
def qdu (bs:List Bool)(rs:List Rw)(ts:Nat->TD)(Zq:ZZ)(i:Nat)(ac:Act):List RS:=(Zq i).dropLast++[(qbo (ts i).rd ((Zq i).getD ((Zq i).length-1) dRS) (stF bs rs ts Zq 3 i ((Zq i).getD ((Zq i).length-1) dRS)) (lsC bs rs (ts i).rd ((Zq i).getD ((Zq i).length-1) dRS) (stF bs rs ts Zq 3 i ((Zq i).getD ((Zq i).length-1) dRS))) ac.1 ac.2.2 ac.2.1).1]
def tk (bs:List Bool)(rs:List Rw)(ts:Nat->TD)(Zq:ZZ)(ac:Act):Nat->ZZ×(Nat->Bool)
 |0=>(Zq,λ_=>false)
 |i+1=>if qpf ((tk bs rs ts Zq ac i).1 i)=true then (put (tk bs rs ts Zq ac i).1 i (qdu bs rs ts (tk bs rs ts Zq ac i).1 i ac),(tk bs rs ts Zq ac i).2)
  else if opT (ts i) ac.2.1 (tk bs rs ts Zq ac i).2=true then (put (tk bs rs ts Zq ac i).1 i ((tk bs rs ts Zq ac i).1 i++[qg8 (ts i) ac (tk bs rs ts Zq ac i).2 (tk bs rs ts Zq ac i).1]),put (tk bs rs ts Zq ac i).2 i true)
  else tk bs rs ts Zq ac i
def qb5 (bs:List Bool)(rs:List Rw)(ts:Nat->TD)(n:Nat)(acts:List Act):ZZ:=acts.foldl (λZq ac=>(tk bs rs ts Zq ac n).1) (λ_=>[])
def WfB (ts:Nat->TD)(Zq:ZZ)(i:Nat)(st:RS):Prop:=(st.bv=.non \/ ∃k:Nat,st.bv=.int (k:Int))/\∀k:Int,st.bv=.int k->∃b,(ts i).base=some b/\b<i/\0<=k/\k.toNat<(Zq b).length
structure PZ (n:Nat)(ts:Nat->TD)(Zq:ZZ)(D:Int)(N:Nat):Prop where
 ok:∀i<n,∀st∈Zq i,StOk st D
 wf:∀i<n,∀st∈Zq i,WfB ts Zq i st
 rl:∀i<n,(Zq i).length<=N/\∀st∈Zq i,st.rows.length<=N
 D0:0<=D
structure TsOk (n:Nat)(ts:Nat->TD):Prop where
 n4:n<=4
 rd:∀i<n,RdOk (ts i).rd
 ba:∀i<n,∀b,(ts i).base=some b->b<i
 nn:∀i<n,∀j<n,(ts i).name=(ts j).name->i=j
def qso (bs:List Bool)(rs:List Rw):Prop:=∀(rd:RD)(st:RS)(c:Int)(s:Option Int),StOk st c->(∀x,s=some x->0<=x)->∃r,LsS bs rs rd st s r
def lss_gt {bs:List Bool}{rs:List Rw}{rd:RD}{st:RS}{s:Option Int}{l:Int}(h:LsS bs rs rd st s (some l)):∃x,s=some x/\x<l:=by
 cases s with|none=>cases h|some x=>exact⟨x,Z,qyf h⟩
section
variable {n:Nat}{ts:Nat->TD}{Zq:ZZ}{D:Int}{N:Nat}{bs:List Bool}{rs:List Rw}
def qe6 {l:List RS}{j:Nat}(h:j<l.length):l.getD j dRS∈l:=by rw[Aj,Ad h];exact Bj h
theorem qsp (P:PZ n ts Zq D N)(ex:qso bs rs):∀(m i:Nat)(st:RS),i<n->StOk st D->WfB ts Zq i st->∀x,stF bs rs ts Zq m i st=some x->0<=x
 |0,i,st,_,ok,_,x,e=>by cases e;exact ok.d0
 |m+1,i,st,hi,ok,wf,x,e=>by
  rcases wf.1 with a|⟨k,a⟩
  .unfold stF at e;rw[a]at e;cases e;exact ok.d0
  .obtain⟨b,h,h2,h3,l⟩:=wf.2 _ a;unfold stF at e;rw[a,h]at e;have e:lsC bs rs (ts b).rd ((Zq b).getD (k:Int).toNat dRS) (stF bs rs ts Zq m b ((Zq b).getD (k:Int).toNat dRS))=some x:=e;have f:=qe6 l;have c:=P.ok b (by lia) _ f;have d:=qsp P ex m b _ (by lia) c (P.wf b (by lia) _ f);obtain⟨r,g⟩:=ex (ts b).rd _ D _ c d;rw[qyt d g]at e;subst e;obtain⟨y,j,lt⟩:=lss_gt g;have:=d y j;lia
def qyv (P:PZ n ts Zq D N)(ex:qso bs rs){m i:Nat}{st:RS}(c:i<n)(ok:StOk st D)(d:WfB ts Zq i st):LsS bs rs (ts i).rd st (stF bs rs ts Zq m i st) (lsC bs rs (ts i).rd st (stF bs rs ts Zq m i st)):=by have a:=qsp P ex m i st c ok d;obtain⟨r,b⟩:=ex (ts i).rd st D _ ok a;rw[qyt a b];exact b
end
structure WH (a:Adr)(B H:Hp)(n:Nat)(ts:Nat->TD)(Zq:ZZ)(x:Nat->Nat->Addr)(S:Nat->Nat->List Addr)(p:Nat->Addr)(L:Nat->Nat)(E:List Addr)(bs:List Bool)(rs:List Rw):Prop where
 sm:Same B H
 hl:∀i<n,H (p i)=some (.lst ((Ar (L i)).map λj=>.ref (x i j)))
 Ll:∀i<n,L i<=(Zq i).length
 R:∀i<n,∀j<(Zq i).length,RunAt a B H (x i j) (S i j) (ts i).rd (wB ((Zq i).getD j dRS) (qjw x (ts i).base ((Zq i).getD j dRS).bv)) bs rs
 sep:∀i<n,∀j<(Zq i).length,∀i'<n,∀j'<(Zq i').length,(i≠i'\/j≠j')->∀b∈S i j,b∉S i' j'
 pB:∀i<n,B (p i)=none
 pp:∀i<n,∀i'<n,i≠i'->p i≠p i'
 pS:∀i<n,∀i'<n,∀j<(Zq i').length,p i∉S i' j
 eB:∀c∈E,B c=none/\(∃o,H c=some o/\∀t,o ≠ .tup t)/\(∀i<n,c≠p i)/\∀i<n,∀j<(Zq i).length,c∉S i j
theorem qt3 {a:Adr}{B H:Hp}{n:Nat}{ts:Nat->TD}{Zq:ZZ}{x:Nat->Nat->Addr}{S:Nat->Nat->List Addr}{p:Nat->Addr}{L:Nat->Nat}{E:List Addr}{bs:List Bool}{rs:List Rw}{D:Int}{N:Nat}(W:WH a B H n ts Zq x S p L E bs rs)(P:PZ n ts Zq D N)(ex:qso bs rs)(tok:TabOk bs rs):∀(m i:Nat)(st:RS),i<n->i<=m->WfB ts Zq i st->BaseAt a m H (qjw x (ts i).base st.bv) st.day (stF bs rs ts Zq m i st):=by
 intro m
 induction m with
 |zero =>
  intro i st l o wf;rcases wf.1 with c|⟨k,c⟩
  .rw[c,qgr];exact⟨Z,Z⟩
  .obtain⟨b,_,q,_⟩:=wf.2 _ c;lia
 |succ m ih =>
  intro i st l o wf;rcases wf.1 with c|⟨k,c⟩
  .refine .inl ⟨by rw[c,qgr],?_⟩;unfold stF;rw[c]
  .obtain⟨b,g,q,h3,j⟩:=wf.2 _ c;have h:=qe6 j;have d:=P.ok b (by lia) _ h;have f:=P.wf b (by lia) _ h;refine .inr ⟨x b (k:Int).toNat,B,S b (k:Int).toNat,(ts b).rd,_,bs,rs,D,stF bs rs ts Zq m b ((Zq b).getD (k:Int).toNat dRS),?_,W.R b (by lia) _ j,tok,d.bv _,ih b _ (by lia) (by lia) f,?_⟩
   .rw[c,g];rfl
   .have:=(qyv P ex (m:=m) (by lia) d f).bv (qjw x (ts b).base ((Zq b).getD (k:Int).toNat dRS).bv);have e:stF bs rs ts Zq (m+1) i st=lsC bs rs (ts b).rd ((Zq b).getD (k:Int).toNat dRS) (stF bs rs ts Zq m b ((Zq b).getD (k:Int).toNat dRS)):=by rw[stF,c,g]
    rw[e];exact this
section
variable {a:Adr}{B H H':Hp}{n:Nat}{ts:Nat->TD}{Zq:ZZ}{x:Nat->Nat->Addr}{S:Nat->Nat->List Addr}{p:Nat->Addr}{L:Nat->Nat}{E:List Addr}{bs:List Bool}{rs:List Rw}
def WH.same (W:WH a B H n ts Zq x S p L E bs rs)(s:Same H H'):WH a B H' n ts Zq x S p L E bs rs :=
 ⟨W.sm.trans s,λi b=>s _ _ (W.hl i b),W.Ll,λi b j g=>(W.R i b j g).same s,W.sep,W.pB,W.pp,W.pS,λc h=>by obtain⟨d,⟨o,e,f⟩,k⟩:=W.eB c h;exact⟨d,⟨o,s _ _ e,f⟩,k⟩⟩
def WH.less (W:WH a B H n ts Zq x S p L E bs rs){E':List Addr}(h:∀c∈E',c∈E):WH a B H n ts Zq x S p L E' bs rs :=
 ⟨W.sm,W.hl,W.Ll,W.R,W.sep,W.pB,W.pp,W.pS,λc b=>W.eB c (h c b)⟩
def WH.more (W:WH a B H n ts Zq x S p L E bs rs){c:Addr}{o:HO}(f:H c=none)(l:∀t,o ≠ .tup t):WH a B (upd H c o) n ts Zq x S p L (c::E) bs rs:=by
 have s:=qx (o:=o) f;have b:=W.same s;refine⟨b.sm,b.hl,b.Ll,b.R,b.sep,b.pB,b.pp,b.pS,λd h=>?_⟩;rcases Aq.mp h with rfl|h
 .refine⟨W.sm.free f,⟨o,qk,l⟩,λi g z=>?_,λi g j k z=>?_⟩
  .rw[z,W.hl i g]at f;cases f
  .obtain⟨u,e,_⟩:=(W.R i g j k).ex.2.1 d z;rw[e]at f;cases f
 .exact b.eB d h
def WH.but (W:WH a B H n ts Zq x S p L E bs rs){c:Addr}(C:c∈E){o:HO}(s:∀t,o ≠ .tup t):WH a B (upd H c o) n ts Zq x S p L E bs rs:=by
 obtain⟨h,⟨u,r,G⟩,y,F⟩:=W.eB c C;have k:∀b o',b≠c->H b=some o'->upd H c o b=some o':=λb o' m e=>by rw[qr m];exact e
 refine⟨λb o' e=>k b o' (λz=>by rw[z,h]at e;cases e) (W.sm b o' e),λi f=>k _ _ (B4 (y i f)) (W.hl i f),W.Ll,λi f j g=>?_,W.sep,W.pB,W.pp,W.pS,λd w=>?_⟩
 .refine(W.R i f j g).but (λb=>b=c) (λb o' m e=>k b o' m e) (λb q z=>F i f j g (z ▸ q)) (λb t e z=>?_) (λb o' e z=>by rw[z,h]at e;cases e);rw[z,r]at e;exact G t (AE e)
 .obtain⟨l,⟨o',D,A⟩,v⟩:=W.eB d w;refine⟨l,?_,v⟩;by_cases z:d=c
  .rw[z];exact⟨o,qk,s⟩
  .exact⟨o',k d o' z D,A⟩
noncomputable def pu2 {α:Type}(f:Nat->Nat->α)(i j:Nat)(v:α):Nat->Nat->α:=λi' j'=>if i'=i/\j'=j then v else f i' j'
def qdr {α:Type}{f:Nat->Nat->α}{i j:Nat}{v:α}:pu2 f i j v i j=v:=if_pos ⟨Z,Z⟩
def qcc {α:Type}{f:Nat->Nat->α}{i j a b:Nat}{v:α}(h:a≠i\/b≠j):pu2 f i j v a b=f a b:=if_neg λz=>h.elim (λq=>q z.1) λq=>q z.2
def qpg {l:List RS}{q:RS}(h:l≠[]):(l.dropLast++[q]).length=l.length:=by have:=BH.mpr h;rw[Af,CI,AW];lia
def upd_get {l:List RS}{q:RS}{j:Nat}(h:l≠[])(hj:j<l.length):(l.dropLast++[q]).getD j dRS=if j=l.length-1 then q else l.getD j dRS:=by
 have:=BH.mpr h;by_cases z:j=l.length-1
 .rw[if_pos z,Aj,AV (by rw[CI];lia),CI,z,Dx];rfl
 .rw[if_neg z,Aj,AH (by rw[CI];lia),List.getElem?_dropLast,if_pos (by lia),Aj]
theorem WH.felt (W:WH a B H n ts Zq x S p L E bs rs){i:Nat}(I:i<n)(C:Zq i≠[]){M:List Addr}{q:RS}(K:KeepS (S i ((Zq i).length-1)) H H')(F:Fresh H (S i ((Zq i).length-1)) M)(R:RunAt a B H' (x i ((Zq i).length-1)) M (ts i).rd (wB q (qjw x (ts i).base q.bv)) bs rs) :
  WH a B H' n ts (put Zq i ((Zq i).dropLast++[q])) x (pu2 S i ((Zq i).length-1) M) p L E bs rs:=by
 have hp:=BH.mpr C;have J:(Zq i).length-1<(Zq i).length:=by lia
 obtain⟨x1,x2,X⟩:=(W.R i I _ J).ex;have len:∀d,(put Zq i ((Zq i).dropLast++[q]) d).length=(Zq d).length:=λd=>by
  by_cases z:d=i
  .subst z;rw[put_at,qpg C]
  .rw[qan z]
 have P:∀d<n,∀g<(Zq d).length,(d≠i\/g≠(Zq i).length-1)->RunAt a B H' (x d g) (S d g) (ts d).rd (wB ((Zq d).getD g dRS) (qjw x (ts d).base ((Zq d).getD g dRS).bv)) bs rs:=λd f g k T=>by refine(W.R d f g k).but (λb=>b∈S i ((Zq i).length-1)) K (λb s z=>W.sep d f g k i I _ J T b s z) (λb t e z=>?_) (λb o e z=>by rw[X b z]at e;cases e);obtain⟨o,V,nt⟩:=x2 b z;rw[e]at V;exact nt t (AE V).symm
 have u:∀b,(∃o,H b=some o)->b∉S i ((Zq i).length-1)->b∉M:=λb ⟨o,e⟩ n1 m=>by
  rcases F b m with z|z
  .exact n1 z
  .rw[z]at e;cases e
 refine⟨R.ex.1,λd f=>K _ _ (W.pS d f i I _ J) (W.hl d f),λd f=>by rw[len];exact W.Ll d f,λd f g k=>?_,λG v D y l r j h T b s=>?_,W.pB,W.pp,λd f l r j h=>?_,λc hc=>?_⟩
 .rw[len]at k;by_cases z:d=i
  .subst z;rw[put_at,upd_get C k];by_cases w:g=(Zq d).length-1
   .rw[if_pos w,w,qdr];exact R
   .rw[if_neg w,qcc (.inr w)];exact P d f g k (.inr w)
  .rw[qan z,qcc (.inl z)];exact P d f g k (.inl z)
 .rw[len]at y h;have A:∀d g,(d≠i\/g≠(Zq i).length-1)\/(d=i/\g=(Zq i).length-1):=λd g=>by lia
  rcases A G D with U|⟨rfl,rfl⟩
  .rw[qcc U]at s;rcases A l j with N|⟨rfl,rfl⟩
   .rw[qcc N];exact W.sep G v D y l r j h T b s
   .rw[qdr];obtain⟨o,e,_⟩:=(W.R G v D y).ex.2.1 b s;exact u b ⟨o,e⟩ (W.sep G v D y _ r _ h U b s)
  .rw[qdr]at s;rcases A l j with N|⟨rfl,rfl⟩
   .rw[qcc N];intro m;obtain⟨o,e,_⟩:=(W.R l r j h).ex.2.1 b m;exact u b ⟨o,e⟩ (W.sep l r j h _ v _ y N b m) s
   .lia
 .rw[len]at h;by_cases w:l=i/\j=(Zq i).length-1
  .obtain⟨rfl,rfl⟩:=w;rw[qdr];exact u _ ⟨_,W.hl d f⟩ (W.pS d f _ r _ h)
  .rw[qcc (by lia)];exact W.pS d f l r j h
 .obtain⟨v,⟨o,r,h3⟩,Y,Q⟩:=W.eB c hc;refine⟨v,⟨o,K _ _ (Q i I _ J) r,h3⟩,Y,λl O j h=>?_⟩;rw[len]at h;by_cases w:l=i/\j=(Zq i).length-1
  .obtain⟨rfl,rfl⟩:=w;rw[qdr];exact u _ ⟨_,r⟩ (Q _ O _ h)
  .rw[qcc (by lia)];exact Q l O j h
end
def qrc {l:List RS}{q:RS}{j:Nat}:(l++[q]).getD j dRS=if j=l.length then q else l.getD j dRS:=by
 rcases Nat.lt_trichotomy j l.length with h|h|h
 .rw[if_neg (by lia),Aj,AH h,Aj]
 .rw[if_pos h,Aj,AV (by lia),h,Dx];rfl
 .rw[if_neg (by lia),Aj,Aj,AI (by rw[Af,AW];lia),AI (by lia)]
section
variable {a:Adr}{B H H':Hp}{n:Nat}{ts:Nat->TD}{Zq:ZZ}{x:Nat->Nat->Addr}{S:Nat->Nat->List Addr}{p:Nat->Addr}{L:Nat->Nat}{E:List Addr}{bs:List Bool}{rs:List Rw}
def qt4 {i j:Nat}{v:Addr}{t:TD}{st:RS}{d:Nat}(c:WfB ts Zq d st)(e:ts d=t)(hj:(Zq i).length<=j):qjw (pu2 x i j v) t.base st.bv=qjw x t.base st.bv:=by
 rcases c.1 with a|⟨k,a⟩
 .rw[a,qgr,qgr]
 .obtain⟨b,f,h2,h3,h4⟩:=c.2 _ a;rw[<- e,a,f];show V.ref (pu2 x i j v b (k:Int).toNat)=V.ref (x b (k:Int).toNat);rw[qcc];by_cases z:b=i
  .subst z;exact .inr (by lia)
  .exact .inl z
theorem WH.begun (W:WH a B H n ts Zq x S p L E bs rs)(wf:∀i<n,∀st∈Zq i,WfB ts Zq i st){i:Nat}(hi:i<n){y cn:Addr}{o:HO}{M:List Addr}{q:RS}(s:Same H H')(F:∀b∈M,H b=none)(D:H cn=none)(nS:cn∉M)(wq:WfB ts Zq i q)
  (R:RunAt a (upd B cn o) H' y M (ts i).rd (wB q (qjw x (ts i).base q.bv)) bs rs):WH a (upd B cn o) H' n ts (put Zq i (Zq i++[q])) (pu2 x i (Zq i).length y) (pu2 S i (Zq i).length M) p L E bs rs:=by
 have X:B cn=none:=W.sm.free D;have sB:Same B (upd B cn o):=qx X;obtain⟨Q,x2,x3⟩:=R.ex;have len:∀d,(put Zq i (Zq i++[q]) d).length=if d=i then (Zq i).length+1 else (Zq d).length:=λd=>by
  by_cases z:d=i
  .subst z;rw[put_at,if_pos Z,Af,AW]
  .rw[qan z,if_neg z]
 have T:∀d<n,∀g<(Zq d).length,∀b∈S d g,b≠cn:=λd f g G b k z=>by obtain⟨u,e,_⟩:=(W.R d f g G).ex.2.1 b k;rw[z,D]at e;cases e
 have split:∀d g,g<(if d=i then (Zq i).length+1 else (Zq d).length)->(d=i/\g=(Zq i).length)\/(g<(Zq d).length/\(d≠i\/g≠(Zq i).length)):=λd g h=>by
  by_cases z:d=i
  .subst z;rw[if_pos Z]at h;by_cases w:g=(Zq d).length
   .exact .inl ⟨Z,w⟩
   .exact .inr ⟨by lia,.inr w⟩
  .rw[if_neg z]at h;exact .inr ⟨h,.inl z⟩
 refine⟨Q,λd f=>?_,λd f=>?_,λd f g G=>?_,λO J N P r t l v K b k=>?_,λd f=>?_,W.pp,λd f r t l v=>?_,λc hc=>?_⟩
 .rw[s _ _ (W.hl d f)]
  congr 2
  refine BI λj I=>?_
  have:=AT.mp I
  have:=W.Ll d f
  rw[qcc]
  by_cases z:d=i
  .subst z;exact .inr (by lia)
  .exact .inl z
 .have:=W.Ll d f;rw[len];split
  .rename_i z;subst z;lia
  .exact this
 .rw[len]at G;rcases split d g G with ⟨rfl,rfl⟩|⟨I,K⟩
  .rw[put_at,qrc,if_pos Z,qdr,qdr,qt4 wq Z (Am _)];exact R
  .have e:(put Zq i (Zq i++[q]) d).getD g dRS=(Zq d).getD g dRS:=by
    by_cases z:d=i
    .subst z;rw[put_at,qrc,if_neg (by lia)]
    .rw[qan z]
   rw[e,qcc K,qcc K,qt4 (wf d f _ (qe6 I)) Z (Am _)]
   refine((W.R d f g I).same s).rebase sB Q λb k=>?_
   rw[qr (T d f g I b k)]
   exact(W.R d f g I).ex.2.2 b k
 .rw[len]at P v;rcases split O N P with ⟨rfl,rfl⟩|⟨V,n1⟩
  .rw[qdr]at k;rcases split r l v with ⟨rfl,rfl⟩|⟨C,A⟩
   .lia
   .rw[qcc A];intro m;obtain⟨u,e,_⟩:=(W.R r t l C).ex.2.1 b m;rw[F b k]at e;cases e
  .rw[qcc n1]at k;rcases split r l v with ⟨rfl,rfl⟩|⟨C,A⟩
   .rw[qdr];intro m;obtain⟨u,e,_⟩:=(W.R O J N V).ex.2.1 b k;rw[F b m]at e;cases e
   .rw[qcc A];exact W.sep O J N V r t l C K b k
 .rw[qr (λz=>by have:=W.hl d f;rw[z,D]at this;cases this)];exact W.pB d f
 .rw[len]at v;rcases split r l v with ⟨rfl,rfl⟩|⟨C,A⟩
  .rw[qdr];intro m;have:=W.hl d f;rw[F _ m]at this;cases this
  .rw[qcc A];exact W.pS d f r t l C
 .obtain⟨J,⟨o',t,h3⟩,h4,Y⟩:=W.eB c hc;refine⟨?_,⟨o',s _ _ t,h3⟩,h4,λr U l v=>?_⟩
  .rw[qr (λz=>by rw[z,D]at t;cases t)];exact J
  .rw[len]at v;rcases split r l v with ⟨rfl,rfl⟩|⟨C,A⟩
   .rw[qdr];intro m;rw[F _ m]at t;cases t
   .rw[qcc A];exact Y r U l C
def WH.listed (W:WH a B H n ts Zq x S p L E bs rs){i:Nat}(g:i<n)(w:L i<(Zq i).length):WH a B (upd H (p i) (.lst ((Ar (L i+1)).map λj=>.ref (x i j)))) n ts Zq x S p (put L i (L i+1)) E bs rs:=by
 have k:∀b o',b≠p i->H b=some o'->upd H (p i) (.lst ((Ar (L i+1)).map λj=>.ref (x i j))) b=some o':=λb o' m e=>by rw[qr m];exact e
 refine⟨λb o' e=>k b o' (λz=>by rw[z,W.pB i g]at e;cases e) (W.sm b o' e),λf c=>?_,λf c=>?_,λf c j h=>?_,W.sep,W.pB,W.pp,W.pS,λd s=>?_⟩
 .by_cases z:f=i
  .subst z;rw[put_at,qk]
  .rw[qan z];exact k _ _ (W.pp f c i g z) (W.hl f c)
 .by_cases z:f=i
  .subst z;rw[put_at];exact w
  .rw[qan z];exact W.Ll f c
 .refine(W.R f c j h).but (λb=>b=p i) (λb o' m e=>k b o' m e) (λb r z=>W.pS i g f c j h (z ▸ r)) (λb t e z=>?_) (λb o' e z=>by rw[z,W.pB i g]at e;cases e);rw[z,W.hl i g]at e;cases e
 .obtain⟨q,⟨o',v,u⟩,l,o⟩:=W.eB d s;exact⟨q,⟨o',k d o' (l i g) v,u⟩,l,o⟩
end
theorem qvs {rd:RD}{st q:RS}{s r:Option Int}{w k:Str}{d:Int}(h:qbe rd st s r w d k=some q):q.bv=st.bv\/q.bv=.non:=by
 unfold qbe at h;split at h
 .cases h;exact .inl rfl
 .split at h
  .cases h
  .split at h
   .cases h;exact .inr rfl
   .split at h
    .cases e:qsk rd st.gr k with
     |none=>rw[e]at h;cases h
     |some t=>rw[e]at h;cases h;exact .inl rfl
    .split at h
     .split at h
      .cases h
      .cases h;exact .inl rfl
     .split at h
      .cases h;exact .inl rfl
      .cases h
theorem qyw {rd:RD}{st:RS}{s r:Option Int}{n k:Str}{d:Int}:(qbo rd st s r n d k).1.bv=st.bv\/(qbo rd st s r n d k).1.bv=.non:=by
 unfold qbo;split
 .exact .inl rfl
 .cases e:qbe rd st s r (qa3 rd k) d k with
  |none=>exact .inl rfl
  |some q =>show q.bv=st.bv\/q.bv=.non;exact qvs e
theorem qvt {rd:RD}{st:RS}{s r:Option Int}{n k:Str}{d:Int}:(qbo rd st s r n d k).1.rows=st.rows\/(qbo rd st s r n d k).1.rows=st.rows++[(n,d,qa3 rd k)]:=by
 unfold qbo;split
 .exact .inl rfl
 .cases e:qbe rd st s r (qa3 rd k) d k with
  |none=>exact .inl rfl
  |some q=>exact .inr (by show q.rows++_=_;rw[qhy e])
def WfB.mono {ts:Nat->TD}{Zq Z':ZZ}{i:Nat}{st:RS}(h:WfB ts Zq i st)(m:∀i,(Zq i).length<=(Z' i).length):WfB ts Z' i st:=⟨h.1,λk e=>by obtain⟨b,a,f,c,d⟩:=h.2 k e;exact⟨b,a,f,c,A2 d (m b)⟩⟩
theorem qka {bs:List Bool}{rs:List Rw}{ts:Nat->TD}{Zq:ZZ}{ac:Act}:∀{m i:Nat},m<=i->(tk bs rs ts Zq ac m).1 i=Zq i
 |0,i,_=>rfl
 |m+1,i,h=>by
  unfold tk;have a:=qka (bs:=bs) (rs:=rs) (ts:=ts) (Zq:=Zq) (ac:=ac) (m:=m) (i:=i) (by lia);split
  .show put _ m _ i=_;rw[qan (by lia),a]
  .split
   .show put _ m _ i=_;rw[qan (by lia),a]
   .exact a
def qmb {l:List RS}(h:qpf l=true):l≠[]:=λz=>by rw[z]at h;cases h
theorem qkw {bs:List Bool}{rs:List Rw}{ts:Nat->TD}{Zq:ZZ}{ac:Act}:∀{m i:Nat},((tk bs rs ts Zq ac m).2 i=true->i<m)/\((tk bs rs ts Zq ac m).1 i).length=(Zq i).length+(if (tk bs rs ts Zq ac m).2 i=true then 1 else 0)
 |0,i=>⟨λz=>(by cases z),Z⟩
 |m+1,i=>by
  obtain⟨b,a⟩:=qkw (bs:=bs) (rs:=rs) (ts:=ts) (Zq:=Zq) (ac:=ac) (m:=m) (i:=i);unfold tk;split
  .rename_i c;refine⟨λz=>CL (b z),?_⟩;show Do (put _ m _ i)=_;by_cases z:i=m
   .subst z;rw[put_at];unfold qdu;rw[qpg (qmb c)];exact a
   .rw[qan z];exact a
  .split
   .by_cases z:i=m
    .subst z;refine⟨λ_=>Ce _,?_⟩;show Do (put _ i _ i)=_+if put _ i true i=true then 1 else 0;rw[put_at,put_at,if_pos Z,Af,AW,qka (Am _)]
    .refine⟨λw=>?_,?_⟩
     .have w:put _ m true i=true:=w;rw[qan z]at w;exact CL (b w)
     .show Do (put _ m _ i)=_+if put _ m true i=true then 1 else 0;rw[qan z,qan z];exact a
   .exact⟨λz=>CL (b z),a⟩
theorem qt5 {bs:List Bool}{rs:List Rw}{n:Nat}{ts:Nat->TD}{Zq:ZZ}{ac:Act}{D:Int}{N:Nat}(T:TsOk n ts)(P:PZ n ts Zq D N)(ex:qso bs rs)(y:D<=ac.2.2)(B:N<300):∀{m:Nat},m<=n->PZ n ts (tk bs rs ts Zq ac m).1 ac.2.2 (N+1)
 |0,_=>⟨λi a st h=>(P.ok i a st h).mono y,P.wf,λi a=>⟨Cu (P.rl i a).1,λst h=>Cu ((P.rl i a).2 st h)⟩,Bt P.D0 y⟩
 |m+1,hm=>by
  have g:=qt5 (bs:=bs) (rs:=rs) (ac:=ac) T P ex y B (m:=m) (by lia);have t:=qka (bs:=bs) (rs:=rs) (ts:=ts) (Zq:=Zq) (ac:=ac) (Am m);have A:=λi=>qkw (bs:=bs) (rs:=rs) (ts:=ts) (Zq:=Zq) (ac:=ac) (m:=m) (i:=i);unfold tk;generalize tk bs rs ts Zq ac m=W at g t A |-;obtain⟨Y,f⟩:=W;dsimp only at g t A |-;split
  .rename_i c;have u:=qmb c;have hp:=BH.mpr u;have p:=qe6 (l:=Y m) (j:=(Y m).length-1) (by lia);have len:∀i,(put Y m (qdu bs rs ts Y m ac) i).length=(Y i).length:=λi=>by
    by_cases z:i=m
    .subst z;rw[put_at];unfold qdu;rw[qpg u]
    .rw[qan z]
   have o:∀i st,st∈put Y m (qdu bs rs ts Y m ac) i->st∈Y i\/(i=m/\st=(qbo (ts m).rd ((Y m).getD ((Y m).length-1) dRS) (stF bs rs ts Y 3 m ((Y m).getD ((Y m).length-1) dRS)) (lsC bs rs (ts m).rd ((Y m).getD ((Y m).length-1) dRS) (stF bs rs ts Y 3 m ((Y m).getD ((Y m).length-1) dRS))) ac.1 ac.2.2 ac.2.1).1):=λi st h=>by
    by_cases z:i=m
    .subst z;rw[put_at]at h;unfold qdu at h;rcases Av.mp h with h|h
     .exact .inl (List.dropLast_subset _ h)
     .exact .inr ⟨Z,Ah.mp h⟩
    .rw[qan z]at h;exact .inl h
   have rows:=(P.rl m (by lia)).2 _ (by rw[<- t];exact p);have E:=qsp g ex 3 m _ (by lia) (g.ok m (by lia) _ p) (g.wf m (by lia) _ p);refine⟨λi a st h=>?_,λi a st h=>?_,λi a=>⟨by rw[len];exact(g.rl i a).1,λst h=>?_⟩,g.D0⟩
   .rcases o i st h with h|⟨rfl,rfl⟩
    .exact g.ok i a st h
    .exact feel_ok (bs:=bs) (rs:=rs) (T.rd i a) (g.ok i a _ p) (Bp _) (by lia) E
   .rcases o i st h with h|⟨rfl,rfl⟩
    .exact(g.wf i a st h).mono λi=>Ci (len i).symm
    .have w:=(g.wf i a _ p).mono (Z':=put Y i (qdu bs rs ts Y i ac)) λi=>Ci (len i).symm;rcases qyw (rd:=(ts i).rd) (st:=(Y i).getD ((Y i).length-1) dRS) (s:=stF bs rs ts Y 3 i ((Y i).getD ((Y i).length-1) dRS)) (r:=lsC bs rs (ts i).rd ((Y i).getD ((Y i).length-1) dRS) (stF bs rs ts Y 3 i ((Y i).getD ((Y i).length-1) dRS))) (n:=ac.1) (k:=ac.2.1) (d:=ac.2.2) with e|e
     .unfold WfB;rw[e];exact w
     .exact⟨.inl e,λk z=>by rw[e]at z;cases z⟩
   .rcases o i st h with h|⟨rfl,rfl⟩
    .exact(g.rl i a).2 st h
    .rcases qvt (rd:=(ts i).rd) (st:=(Y i).getD ((Y i).length-1) dRS) (s:=stF bs rs ts Y 3 i ((Y i).getD ((Y i).length-1) dRS)) (r:=lsC bs rs (ts i).rd ((Y i).getD ((Y i).length-1) dRS) (stF bs rs ts Y 3 i ((Y i).getD ((Y i).length-1) dRS))) (n:=ac.1) (k:=ac.2.1) (d:=ac.2.2) with e|e
     .rw[e];lia
     .rw[e,Af,AW];lia
  .split
   .have len:∀i,(Y i).length<=(put Y m (Y m++[qg8 (ts m) ac f Y]) i).length:=λi=>by
     by_cases z:i=m
     .subst z;rw[put_at,Af];lia
     .rw[qan z];exact Am _
    have o:∀i st,st∈put Y m (Y m++[qg8 (ts m) ac f Y]) i->st∈Y i\/(i=m/\st=qg8 (ts m) ac f Y):=λi st h=>by
     by_cases z:i=m
     .subst z;rw[put_at]at h;rcases Av.mp h with h|h
      .exact .inl h
      .exact .inr ⟨Z,Ah.mp h⟩
     .rw[qan z]at h;exact .inl h
    refine⟨λi a st h=>?_,λi a st h=>?_,λi a=>⟨?_,λst h=>?_⟩,g.D0⟩
    .rcases o i st h with h|⟨rfl,rfl⟩
     .exact g.ok i a st h
     .exact⟨⟨.nil,λ_ h=>absurd h AG⟩,g.D0,(T.rd i a).m1,AU _,(by show 1<=400;decide),AU _,(λk v h=>by cases h),(λ_ h=>absurd h AG),λq=>by cases q⟩
    .rcases o i st h with h|⟨rfl,rfl⟩
     .exact(g.wf i a st h).mono len
     .refine⟨?_,λk e=>?_⟩
      .unfold qg8;dsimp only;cases (ts i).base with
       |none=>exact .inl rfl
       |some b =>
        dsimp only;split
        .exact .inr ⟨_,Z⟩
        .exact .inl rfl
      .unfold qg8 at e;dsimp only at e;cases x:(ts i).base with
       |none=>rw[x]at e;cases e
       |some b =>
        rw[x]at e;dsimp only at e;split at e
        .rename_i C;cases e;obtain⟨_,l⟩:=A b;have l:(Y b).length=(Zq b).length+1:=l.trans (by rw[if_pos (show (Y,f).snd b=true from C)]);refine⟨b,Z,T.ba i a b x,by lia,A2 ?_ (len b)⟩;rw[BW];lia
        .cases e
    .by_cases z:i=m
     .subst z;have:=(P.rl i a).1;show Do (put Y i _ i)<=_;rw[put_at,Af,AW,t];lia
     .show Do (put Y m _ i)<=_;rw[qan z];exact(g.rl i a).1
    .rcases o i st h with h|⟨rfl,rfl⟩
     .exact(g.rl i a).2 st h
     .show 1<=_;lia
   .exact g
noncomputable def lamPos:List Stmt->Pos
 | [.Return (some (.Call _ _ [⟨_,.Lambda _ _ _ p,_⟩] _)) _]=>p
 |_=>⟨0,0,0,0⟩
abbrev ioP:Pos:=lamPos (qaw qdn)
noncomputable abbrev ioQ:Str:=Aa "in_order.<locals>.<lambda>"
noncomputable def qm7 (t:Act):Int×Str:=(t.2.2,t.1)
noncomputable abbrev dA:Act:=(A8,A8,0)
def spIo (Pt:Addr):Sp:=λvs H Q _=>∃(p:Addr)(us:List V)(acts:List Act),vs=[.ref p]/\H p=some (.lst us)/\Tups H us (acts.map qb4)/\acts.length<64/\Lam.LamAt H Pt ioP ioQ /\
 ∀(q:Addr)(H':Hp)(us':List V)(acts':List Act),H q=none->SameBut Pt H H'->Lam.LamAt H' Pt ioP ioQ->acts'.Perm acts->(acts'.Pairwise λx y=>Lam.ltK (qm7 y) (qm7 x)=false)->H' q=some (.lst us')->Tups H' us' (acts'.map qb4)->Q (.ref q) H'
theorem qb1 {H H':Hp}{us:List V}{ts:List (List V)}(t:Tups H us ts)(k:∀b u,H b=some (.tup u)->H' b=some (.tup u)):Tups H' us ts:=by
 induction t with
 |nil=>exact .nil
 |cons h _ ih=>exact .cons (k _ _ h) ih
theorem qg1 {H:Hp}{us:List V}{ts:List (List V)}{p:Addr}{r:List V}(t:Tups H us ts)(h:H p=some (.tup r)):Tups H (us++[.ref p]) (ts++[r]):=by
 induction t with
 |nil=>exact .cons h .nil
 |cons e _ ih=>exact .cons e ih
theorem qmc {H:Hp}{us:List V}{b:List Act}(d:Tups H us (b.map qb4)):∀(js:List Nat),(∀i∈js,i<b.length)->Tups H (js.map λi=>us.getD i V.non) ((js.map λi=>b.getD i dA).map qb4)
 | [],_=>.nil
 |i::js,h=>by
  have c:=h i Al;obtain⟨a,f,e⟩:=d.get (i:=i) (r:=qb4 b[i]) (by simp[c]);have g:us.getD i V.non=.ref a:=by rw[Aj,f];rfl
  have l:b.getD i dA=b[i]:=by simp[c]
  rw[Ba,Ba,Ba,g,l];exact .cons e (qmc d js λj k=>h j (Az _ k))
def spIr (a:Adr):Sp:=λvs H Q _=>∃(l:Addr)(xs:List V)(b:Bool),vs=[.ref l]/\H l=some (.lst xs)/\xs.length<=1000/\((xs=[]/\b=false) \/ ∃(ys:List V)(y:Addr)(B:Hp)(S:List Addr)(rd:RD)(st:RS)(bs:List Bool)(rs:List Rw),xs=ys++[.ref y]/\RunAt a B H y S rd st bs rs/\b = !st.over)/\Q (.bl b) H
noncomputable def opV:Option Str->V
 |some o=>.str o
 |none=>.non
noncomputable def baV (ts:Nat->TD):Option Nat->V
 |some b=>.str (ts b).name
 |none=>.non
theorem opV_is (o:Option Str)(k:Str):scal (.str k) (opV o)=true/\decide (V.str k=opV o)=decide (o=some k):=by
 cases o with
 |none=>exact⟨Z,by rw[decide_eq_false (λz=>nomatch z),decide_eq_false (λz=>nomatch z)]⟩
 |some o =>
  refine⟨Z,?_⟩;show decide (V.str k=V.str o)=_;by_cases e:o=k
  .rw[decide_eq_true (by rw[e]),decide_eq_true (by rw[e])]
  .rw[decide_eq_false (λz=>e (V.str.inj z).symm),decide_eq_false (λz=>e (AE z))]
def RuleT (a:Adr)(H:Hp)(rl:Addr)(ts:Nat->TD)(i:Nat):Prop:=∃(dx pe pa pl:Addr)(w s py:V)(us:List V),H rl=some (.ins a.kE dx (rlF (.str (ts i).name) w (.str (ts i).rd.owes) (opV (ts i).opens) (baV ts (ts i).base) (.int (ts i).rd.many) (.str (qj9 (ts i).rd.unit)) s (.ref pe) (.ref pa) (.ref pl) py))/\StAt H s (ts i).rd.still/\H pe=some (.lst ((ts i).rd.ends.map V.str))/\H pa=some (.lst ((ts i).rd.anew.map V.str))/\H pl=some (.lst us)/\Tups H us ((ts i).rd.longer.map qq7)
def RuleT.at {a:Adr}{H:Hp}{b:Addr}{ts:Nat->TD}{i:Nat}(h:RuleT a H b ts i):RuleAt a H b (ts i).rd:=by obtain⟨n,m,j,pl,w,s,f,us,e,l,k,g,c,d⟩:=h;exact⟨n,m,j,pl,_,w,_,_,s,f,us,e,l,k,g,c,d⟩
def RuleT.same {a:Adr}{H H':Hp}{b:Addr}{ts:Nat->TD}{i:Nat}(h:RuleT a H b ts i)(z:Same H H'):RuleT a H' b ts i:=by obtain⟨n,m,j,pl,w,s,f,us,e,l,k,g,c,d⟩:=h;exact⟨n,m,j,pl,w,s,f,us,z _ _ e,l.same z,z _ _ k,z _ _ g,z _ _ c,d.same z⟩
def BookT (a:Adr)(H:Hp)(bk:Addr)(n:Nat)(ts:Nat->TD):Prop:=∃(nms:List Str)(us:List V),BookAt a.kO H bk nms ((Ar n).map λi=>(ts i).name) us/\∀i<n,∃(j:Nat)(rl:Addr),nm nms j=(ts i).name/\us[j]?=some (.ref rl)/\RuleT a H rl ts i
def BookT.same {a:Adr}{H H':Hp}{bk:Addr}{n:Nat}{ts:Nat->TD}(h:BookT a H bk n ts)(z:Same H H'):BookT a H' bk n ts:=by obtain⟨nms,us,b,f⟩:=h;exact⟨nms,us,b.same z,λi d=>by obtain⟨j,g,c,k,e⟩:=f i d;exact⟨j,g,c,k,e.same z⟩⟩
noncomputable def kvR (n:Nat)(ts:Nat->TD)(p:Nat->Addr):List (Key×V):=(Ar n).map λi=>(.inr (ts i).name,.ref (p i))
def qkx {n:Nat}{ts:Nat->TD}{p:Nat->Addr}:(kvR n ts p).length=n:=by unfold kvR;rw[Ab,Aw]
def qsq {n:Nat}{ts:Nat->TD}{p:Nat->Addr}{i:Nat}{a:Key×V}(e:(kvR n ts p)[i]?=some a):i<n/\a=(.inr (ts i).name,.ref (p i)):=by
 unfold kvR at e;rw[Ai]at e;by_cases h:i<n
 .rw[Bb h]at e;cases e;exact⟨h,Z⟩
 .rw[AI (by rw[Aw];lia)]at e;cases e
theorem qt6 {l:List (Key×V)}{k:Key}{v:V}(h:(k,v)∈l)(u:∀w,(k,w)∈l->w=v):qbf l k=some v:=by
 induction l with
 |nil=>cases h
 |cons p l ih =>
  by_cases e:p.1=k
  .rw[qb3 e];exact congrArg some (u p.2 (by rw[<- e];exact Al))
  .rw[qbu e];refine ih ((Aq.mp h).resolve_left λz=>e (by rw[<- z])) λw m=>u w (Az _ m)
def qg2 {n:Nat}{ts:Nat->TD}{p:Nat->Addr}(b:∀i<n,∀j<n,(ts i).name=(ts j).name->i=j){i:Nat}(a:i<n):qbf (kvR n ts p) (.inr (ts i).name)=some (.ref (p i)):=by refine qt6 (AS.mpr ⟨i,AT.mpr a,Z⟩) λw m=>?_;obtain⟨j,c,e⟩:=AS.mp m;injection e with e1 e2;rw[<- e2,b j (AT.mp c) i a (Da.inj e1)]
noncomputable def bgK (ts:Nat->TD)(y:Nat->Addr)(f:Nat->Bool)(m:Nat):List (Key×V):=((Ar m).filter f).map λi=>(.inr (ts i).name,.ref (y i))
theorem qph {l:List (Key×V)}{k:Key}(h:∀w,(k,w)∉l):qbf l k=none:=by
 induction l with
 |nil=>rfl
 |cons p l ih =>have e:¬p.1=k:=λz=>h p.2 (by rw[<- z];exact Al);rw[qbu e];exact ih λw m=>h w (Az _ m)
def qky {n m b:Nat}{ts:Nat->TD}{y:Nat->Addr}{f:Nat->Bool}(k:∀i<n,∀j<n,(ts i).name=(ts j).name->i=j)(hm:m<=n)(l:b<n):qbf (bgK ts y f m) (.inr (ts b).name)=if b<m/\f b=true then some (.ref (y b)) else none:=by
 have a:∀w,((Da (ts b).name:Key),w)∈bgK ts y f m->b<m/\f b=true/\w=.ref (y b):=λw h=>by obtain⟨j,d,e⟩:=AS.mp h;obtain⟨g,o⟩:=Bk.mp d;have d:=AT.mp g;injection e with e1 e2;have:j=b:=k j (by lia) b l (Da.inj e1);subst this;exact⟨d,o,e2.symm⟩
 by_cases c:b<m/\f b=true
 .rw[if_pos c];exact qt6 (AS.mpr ⟨b,Bk.mpr ⟨AT.mpr c.1,c.2⟩,Z⟩) λw h=>(a w h).2.2
 .rw[if_neg c];exact qph λw h=>c ⟨(a w h).1,(a w h).2.1⟩
def qyx {ts:Nat->TD}{y a:Nat->Addr}{f:Nat->Bool}{i:Nat}(h:f i=false)(c:∀j<i,a j=y j):bgK ts a f (i+1)=bgK ts y f i:=by unfold bgK;rw[By,Cc,Bw (by rw[h];decide),List.filter_nil,Br];exact BI λj b=>by rw[c j (AT.mp (Bk.mp b).1)]
def bgK_yes {ts:Nat->TD}{y b:Nat->Addr}{f:Nat->Bool}{i:Nat}(c:∀j<i,b j=y j):bgK ts b (put f i true) (i+1)=bgK ts y f i++[(.inr (ts i).name,.ref (b i))]:=by
 unfold bgK;rw[By,Cc,Bx put_at,List.filter_nil,Ax]
 congr 1
 have e:(Ar i).filter (put f i true)=(Ar i).filter f:=List.filter_congr λj a=>by rw[qan (AA (AT.mp a))]
 rw[e];exact BI λj a=>by rw[c j (AT.mp (Bk.mp a).1)]
def bgK_len {ts:Nat->TD}{y:Nat->Addr}{f:Nat->Bool}{m:Nat}:(bgK ts y f m).length<=m:=by unfold bgK;rw[Ab];exact A5 (BY _ _) (by rw[Aw];exact Am _)
section
variable {bs:List Bool}{rs:List Rw}{ts:Nat->TD}{Zq:ZZ}{ac:Act}{i:Nat}
theorem qrd:tk bs rs ts Zq ac (i+1)=if qpf ((tk bs rs ts Zq ac i).1 i)=true then (put (tk bs rs ts Zq ac i).1 i (qdu bs rs ts (tk bs rs ts Zq ac i).1 i ac),(tk bs rs ts Zq ac i).2)
  else if opT (ts i) ac.2.1 (tk bs rs ts Zq ac i).2=true then (put (tk bs rs ts Zq ac i).1 i ((tk bs rs ts Zq ac i).1 i++[qg8 (ts i) ac (tk bs rs ts Zq ac i).2 (tk bs rs ts Zq ac i).1]),put (tk bs rs ts Zq ac i).2 i true)
  else tk bs rs ts Zq ac i:=rfl
def tk_run (c:qpf (Zq i)=true):tk bs rs ts Zq ac (i+1)=(put (tk bs rs ts Zq ac i).1 i (qdu bs rs ts (tk bs rs ts Zq ac i).1 i ac),(tk bs rs ts Zq ac i).2):=by rw[qrd,if_pos (by rw[qka (Am i)];exact c)]
def tk_beg (c:¬qpf (Zq i)=true)(d:opT (ts i) ac.2.1 (tk bs rs ts Zq ac i).2=true):tk bs rs ts Zq ac (i+1)=(put (tk bs rs ts Zq ac i).1 i ((tk bs rs ts Zq ac i).1 i++[qg8 (ts i) ac (tk bs rs ts Zq ac i).2 (tk bs rs ts Zq ac i).1]),put (tk bs rs ts Zq ac i).2 i true):=by rw[qrd,if_neg (by rw[qka (Am i)];exact c),if_pos d]
def tk_no (c:¬qpf (Zq i)=true)(d:opT (ts i) ac.2.1 (tk bs rs ts Zq ac i).2=false):tk bs rs ts Zq ac (i+1)=tk bs rs ts Zq ac i:=by rw[qrd,if_neg (by rw[qka (Am i)];exact c),if_neg (by rw[d];decide)]
end
def runB_at {l:List RS}(h:l≠[]):qpf l = !(l.getD (l.length-1) dRS).over:=by have hp:=BH.mpr h;unfold qpf;rw[Dj,Aj,Ad (by lia)];rfl
def qre {l:Nat}(h:0<l)(f:Nat->Addr):((Ar l).map λj=>V.ref (f j))=((Ar (l-1)).map λj=>V.ref (f j))++[V.ref (f (l-1))]:=by obtain⟨k,rfl⟩:∃k,l=k+1:=⟨l-1,by lia⟩;rw[By,Ax];rfl
theorem newR_wf {ts:Nat->TD}{Y Zq:ZZ}{i:Nat}{ac:Act}{f:Nat->Bool}(g:∀b,(ts i).base=some b->b<i)(d:∀b,f b=true->(Y b).length=(Zq b).length+1):WfB ts Y i (qg8 (ts i) ac f Y):=by
 refine⟨?_,λk e=>?_⟩
 .unfold qg8;dsimp only;cases (ts i).base with
  |none=>exact .inl rfl
  |some b =>
   dsimp only;split
   .exact .inr ⟨_,Z⟩
   .exact .inl rfl
 .unfold qg8 at e;dsimp only at e;cases a:(ts i).base with
  |none=>rw[a]at e;cases e
  |some b =>
   rw[a]at e;dsimp only at e;split at e
   .rename_i c;cases e;have:=d b c;exact⟨b,Z,g b a,by lia,by rw[BW];lia⟩
   .cases e
theorem newR_bb {n i:Nat}{ts:Nat->TD}{Y Zq:ZZ}{ac:Act}{f:Nat->Bool}{x:Nat->Nat->Addr}(c:∀i<n,∀j<n,(ts i).name=(ts j).name->i=j)(d:i<n)(l:∀b,(ts i).base=some b->b<i)(m:∀b,f b=true->(Y b).length=(Zq b).length+1){H:Hp}{g:Addr}(a:H g=some (.dK (bgK ts (λj=>x j (Zq j).length) f i))) :
  ∃o:Option V,qqj H g (baV ts (ts i).base) o/\o.isSome=fB (ts i).base f/\o.getD .non=qjw x (ts i).base (qg8 (ts i) ac f Y).bv:=by
 unfold qg8;dsimp only;cases h:(ts i).base with
 |none=>exact⟨none,.inl ⟨Z,Z,_,.inl a⟩,Z,Z⟩
 |some b =>
  have lt:=l b h;refine⟨_,.inr (DGet.k (k:=.inr (ts b).name) a),?_,?_⟩
  .rw[qky c (BC d) (by lia)];show _=f b;cases e:f b with|true=>rw[if_pos ⟨lt,Z⟩];rfl|false=>rw[if_neg (λz=>nomatch z.2)];rfl
  .rw[qky c (BC d) (by lia)];show _=qjw x (some b) (if f b=true then V.int (((Y b).length-1:Nat):Int) else V.non);cases e:f b with|true =>rw[if_pos ⟨lt,Z⟩,if_pos Z];show V.ref (x b (Zq b).length)=V.ref (x b ((((Y b).length-1:Nat):Int)).toNat);rw[BW,m b e,DX]|false =>rw[if_neg (λz=>nomatch z.2),if_neg Uk];rfl
def spTake (a:Adr):Sp:=λvs H Q _=>∃(bk tb pd aa:Addr)(B:Hp)(n N:Nat)(ts:Nat->TD)(Zq:ZZ)(x:Nat->Nat->Addr)(S:Nat->Nat->List Addr)(p:Nat->Addr)(bs:List Bool)(rs:List Rw)(D:Int)(ac:Act),vs=[.ref bk,.ref tb,.ref pd,.ref aa]/\TsOk n ts/\BookT a B bk n ts/\TabAt a.kK a.kI B tb bs rs/\TabOk bs rs/\qso bs rs/\B aa=some (.tup (qb4 ac))/\H pd=some (.dK (kvR n ts p))/\WH a B H n ts Zq x S p (λi=>(Zq i).length) [pd] bs rs/\PZ n ts Zq D N/\D<=ac.2.2/\N<300 /\
 ∀(H' B':Hp)(x':Nat->Nat->Addr)(S':Nat->Nat->List Addr),Same B B'->H' pd=some (.dK (kvR n ts p))->WH a B' H' n ts (tk bs rs ts Zq ac n).1 x' S' p (λi=>((tk bs rs ts Zq ac n).1 i).length) [pd] bs rs->Q .non H'
noncomputable def nm0 (st:RS):Str:=(st.rows.headD (A8,0,A8)).1
def AccI (bs:List Bool)(rs:List Rw)(ts:Nat->TD)(Zq:ZZ)(i:Nat)(H:Hp)(l:Addr)(y p4 p6:Nat->Addr):Prop:=H l=some (.lst ((Ar (Zq i).length).map λj=>.ref (y j)))/\∀j<(Zq i).length,AccAt H (y j) (p4 j) (p6 j) (nm0 ((Zq i).getD j dRS)) ((Zq i).getD j dRS) (stF bs rs ts Zq 3 i ((Zq i).getD j dRS)) (lsC bs rs (ts i).rd ((Zq i).getD j dRS) (stF bs rs ts Zq 3 i ((Zq i).getD j dRS)))
def AccAt.same {H H':Hp}{q b a:Addr}{n:Str}{st:RS}{s r:Option Int}(h:AccAt H q b a n st s r)(z:Same H H'):AccAt H' q b a n st s r:=⟨z _ _ h.1,h.2.1.same z,h.2.2.same z⟩
def AccI.same {bs:List Bool}{rs:List Rw}{ts:Nat->TD}{Zq:ZZ}{i:Nat}{H H':Hp}{l:Addr}{y b a:Nat->Addr}(h:AccI bs rs ts Zq i H l y b a)(z:Same H H'):AccI bs rs ts Zq i H' l y b a:=⟨z _ _ h.1,λj c=>(h.2 j c).same z⟩
def ToldAt (bs:List Bool)(rs:List Rw)(ts:Nat->TD)(Zq:ZZ)(n:Nat)(H:Hp)(d:Addr)(q:Nat->Addr)(y p4 p6:Nat->Nat->Addr):Prop:=H d=some (.dK (kvR n ts q))/\∀i<n,AccI bs rs ts Zq i H (q i) (y i) (p4 i) (p6 i)
def ToldAt.same {bs:List Bool}{rs:List Rw}{ts:Nat->TD}{Zq:ZZ}{n:Nat}{H H':Hp}{d:Addr}{q:Nat->Addr}{y b a:Nat->Nat->Addr}(h:ToldAt bs rs ts Zq n H d q y b a)(z:Same H H'):ToldAt bs rs ts Zq n H' d q y b a:=⟨z _ _ h.1,λi c=>(h.2 i c).same z⟩
def NewT (H:Hp)(Zq:ZZ)(n:Nat)(d:Addr)(q:Nat->Addr)(y p4 p6:Nat->Nat->Addr):Prop:=H d=none/\∀i<n,H (q i)=none/\∀j<(Zq i).length,H (y i j)=none/\H (p4 i j)=none/\H (p6 i j)=none
def SepT (Zq:ZZ)(n:Nat)(q:Nat->Addr)(p4 p6:Nat->Nat->Addr):Prop:=∀i1<n,∀i2<n,(i1≠i2->q i1≠q i2)/\∀j<(Zq i2).length,q i1≠p4 i2 j/\q i1≠p6 i2 j
def qyy {Zq:ZZ}{i:Nat}{q:Nat->Addr}{n k:Nat->Nat->Addr}{e:Addr}{m l:Nat->Addr}(h:SepT Zq i q n k)(a:∀c<i,q c≠e/\(∀j<(Zq c).length,e≠n c j/\e≠k c j)/\∀j<(Zq i).length,q c≠m j/\q c≠l j)(b:∀j<(Zq i).length,e≠m j/\e≠l j):SepT Zq (i+1) (put q i e) (put n i m) (put k i l):=by
 intro c h1 f h2;by_cases o:c=i
 .subst o;rw[put_at];by_cases d:f=c
  .subst d;rw[put_at,put_at,put_at];exact⟨λz=>absurd Z z,b⟩
  .rw[qan d,qan d,qan d];obtain⟨g,r,_⟩:=a f (by lia);exact⟨λ_=>B4 g,r⟩
 .rw[qan o];by_cases d:f=i
  .subst d;rw[put_at,put_at,put_at];obtain⟨g,_,p⟩:=a c (by lia);exact⟨λ_=>g,p⟩
  .rw[qan d,qan d,qan d];exact h c (by lia) f (by lia)
noncomputable def ofl (l:List Addr)(H:Hp):Hp:=λb=>if b∈l then none else H b
def qjx {l:List Addr}{b:Addr}{H:Hp}{o:HO}(n:b∉l)(h:H b=some o):ofl l H b=some o:=by unfold ofl;rw[if_neg n];exact h
def qhz {l:List Addr}{b:Addr}{H:Hp}{o:HO}(e:ofl l H b=some o):b∉l/\H b=some o:=by
 unfold ofl at e;by_cases c:b∈l
 .rw[if_pos c]at e;cases e
 .rw[if_neg c]at e;exact⟨c,e⟩
def qgs {l a:List Addr}{H H':Hp}(h:∀b∈a,b∈l)(k:∀b o,b∉l->H b=some o->H' b=some o):Same (ofl l H) (ofl a H'):=λb o e=>by obtain⟨n,e⟩:=qhz e;exact qjx (λz=>n (h b z)) (k b o n e)
def qt7 {l:List Addr}{H H':Hp}(k:∀b o,b∉l->H b=some o->H' b=some o):Same (ofl l H) H':=λb o e=>by obtain⟨n,e⟩:=qhz e;exact k b o n e
def AccAt.ofL {H:Hp}{q f a:Addr}{l:List Addr}{n:Str}{st:RS}{s r:Option Int}(h:AccAt H q f a n st s r)(m:∀c∈l,∀t,H c≠some (.tup t))(u:f∉l)(i:a∉l):AccAt (ofl l H) q f a n st s r:=by have d:∀b t,H b=some (.tup t)->ofl l H b=some (.tup t):=λb t e=>qjx (λz=>m b z t e) e;obtain⟨j,⟨v,p,o⟩,⟨w,k,g⟩⟩:=h;exact⟨d _ _ j,⟨v,qjx u p,qb1 o d⟩,⟨w,qjx i k,qb1 g d⟩⟩
def KpT (H H':Hp):Prop:=∀b o,(∀t,o ≠ .tbl t)->H b=some o->H' b=some o
def KpT.of {H H':Hp}{a:Addr}{ps:Array Value}(h:H a=some (.tbl ps))(k:SameBut a H H'):KpT H H':=λb o n e=>k b o (λz=>by rw[z,h]at e;exact n ps (AE e).symm) e
section
variable {H H':Hp}(k:KpT H H')
include k
def qh0 {us:List V}{ts:List (List V)}(t:Tups H us ts):Tups H' us ts:=qb1 t λb u e=>k b _ (λ_ z=>nomatch z) e
theorem qyz {a:Adr}{bk:Addr}{n:Nat}{ts:Nat->TD}(h:BookT a H bk n ts):BookT a H' bk n ts:=by
 obtain⟨nms,us,⟨d,q,x,kvs,g,E,C,y⟩,f⟩:=h;refine⟨nms,us,⟨d,q,x,kvs,k _ _ (λ_ z=>nomatch z) g,k _ _ (λ_ z=>nomatch z) E,k _ _ (λ_ z=>nomatch z) C,y⟩,λi v=>?_⟩;obtain⟨j,F,m,G,d,I,B,pl,w,s,p,us,t,c,D,r,l,u⟩:=f i v;refine⟨j,F,m,G,d,I,B,pl,w,s,p,us,k _ _ (λ_ z=>nomatch z) t,?_,k _ _ (λ_ z=>nomatch z) D,k _ _ (λ_ z=>nomatch z) r,k _ _ (λ_ z=>nomatch z) l,qh0 k u⟩;cases e:(ts i).rd.still with
 |none=>rw[e]at c;exact c
 |some z=>rw[e]at c;obtain⟨b,o,A⟩:=c;exact⟨b,o,k _ _ (λ_ z=>nomatch z) A⟩
def tab_T {b C t:Addr}{bs:List Bool}{rs:List Rw}(h:TabAt b C H t bs rs):TabAt b C H' t bs rs:=by obtain⟨s,p,q,z,e,⟨a,c,r,g,m,l,j,d,f⟩,⟨us,n,i⟩,o⟩:=h;exact⟨s,p,q,z,k _ _ (λ_ z=>nomatch z) e,⟨a,c,r,g,k _ _ (λ_ z=>nomatch z) m,k _ _ (λ_ z=>nomatch z) l,k _ _ (λ_ z=>nomatch z) j,k _ _ (λ_ z=>nomatch z) d,f⟩,⟨us,k _ _ (λ_ z=>nomatch z) n,qh0 k i⟩,k _ _ (λ_ z=>nomatch z) o⟩
end
def qy0 {a:Adr}{B H:Hp}{x:Addr}{S:List Addr}{rd:RD}{st:RS}{bs:List Bool}{rs:List Rw}(h:RunAt a B H x S rd st bs rs):x∈S:=by obtain⟨dx,rl,cn,pr,pp,pg,ur,up,rfl,_⟩:=h;exact Al
def WH.inj {a:Adr}{B H:Hp}{n:Nat}{ts:Nat->TD}{Zq:ZZ}{x:Nat->Nat->Addr}{S:Nat->Nat->List Addr}{p:Nat->Addr}{L:Nat->Nat}{E:List Addr}{bs:List Bool}{rs:List Rw}(W:WH a B H n ts Zq x S p L E bs rs){i j b:Nat}(c:i<n)(f:j<(Zq i).length)(d:b<(Zq i).length)(e:x i j=x i b):j=b:=by
 by_cases z:j=b
 .exact z
 .exact absurd (e ▸ qy0 (W.R i c b d)) (W.sep i c j f i c b d (.inr z) _ (qy0 (W.R i c j f)))
def qiu (acts:List Act):Prop:=acts.Pairwise λx y=>Lam.ltK (qm7 y) (qm7 x)=false
def spHist (a:Adr)(Pt:Addr):Sp:=λvs H Q _=>∃(bk tb pa:Addr)(us:List V)(acts:List Act)(n:Nat)(ts:Nat->TD)(bs:List Bool)(rs:List Rw),vs=[.ref bk,.ref tb,.ref pa]/\TsOk n ts/\BookT a H bk n ts/\TabAt a.kK a.kI H tb bs rs/\TabOk bs rs/\qso bs rs/\H pa=some (.lst us)/\Tups H us (acts.map qb4)/\acts.length<=20/\(∀t∈acts,0<=t.2.2)/\Lam.LamAt H Pt ioP ioQ /\
 ∀(d:Addr)(H':Hp)(acts':List Act)(q:Nat->Addr)(y p4 p6:Nat->Nat->Addr),SameBut Pt H H'->Lam.LamAt H' Pt ioP ioQ->acts'.Perm acts->qiu acts'->ToldAt bs rs ts (qb5 bs rs ts n acts') n H' d q y p4 p6->NewT H (qb5 bs rs ts n acts') n d q y p4 p6->PZ n ts (qb5 bs rs ts n acts') (acts'.getLastD dA).2.2 acts'.length->SepT (qb5 bs rs ts n acts') n q p4 p6->Q (.ref d) H'
def qn8 {bs:List Bool}{rs:List Rw}{ts:Nat->TD}{n:Nat}{l:List Act}{ac:Act}:qb5 bs rs ts n (l++[ac])=(tk bs rs ts (qb5 bs rs ts n l) ac n).1:=by unfold qb5;rw[Ct];rfl
def sort_le {a:List Act}(h:qiu a){i j:Nat}{x y:Act}(b:i<j)(f:a[i]?=some x)(e:a[j]?=some y):x.2.2<=y.2.2:=by obtain⟨g,d⟩:=Ac.mp f;obtain⟨c,k⟩:=Ac.mp e;have:=AZ.mp h i j g c b;rw[d,k,Lam.ltK_no]at this;have:¬y.2.2<x.2.2:=λz=>this (.inl z);lia
noncomputable def uix (c:Int):Three:=if c % 3=0 then .a else if c % 3=1 then .b else .c
def uix_at (c:Int):atI [V.str (Aa "days"),V.str (Aa "weeks"),V.str (Aa "court")] (c % 3)=some (V.str (qj9 (uix c))):=by unfold uix;rcases (by lia:c % 3=0\/c % 3=1\/c % 3=2) with e|e|e <;>rw[e] <;>rfl
def qc7 (ns:List Int)(k:Int):Int:=(cell ns k+1+k*k)*48271 % 2147483647*(69621+2*k) % 2147483629
def qg3 (a:List Int)(k:Int):0<=qc7 a k/\qc7 a k<2147483629:=by unfold qc7;lia
def spMix (K:Ag):Sp:=λvs H Q _=>∃(l:Addr)(ns:List Int)(k:Int),vs=[.ref l,.int k]/\SqL K H l (ns.map V.int)/\0<=k/\k<=100/\Q (.int (qc7 ns k)) H
noncomputable def nwp (H H':Hp):Hp:=λb=>if H b=none then H' b else none
def qey {H H':Hp}{b:Addr}{o:HO}(n:H b=none)(e:H' b=some o):nwp H H' b=some o:=by unfold nwp;rw[if_pos n];exact e
def qmd {H H':Hp}{b:Addr}{o:HO}(e:nwp H H' b=some o):H b=none/\H' b=some o:=by
 unfold nwp at e;by_cases c:H b=none
 .rw[if_pos c]at e;exact⟨c,e⟩
 .rw[if_neg c]at e;cases e
def qy1 {H H' a:Hp}(k:∀b o,H b=none->H' b=some o->a b=some o):Same (nwp H H') a:=λb o e=>by obtain⟨c,d⟩:=qmd e;exact k b o c d
def qy2 {H J J':Hp}(s:Same J J'):Same (nwp H J) (nwp H J'):=λb o e=>by obtain⟨a,c⟩:=qmd e;exact qey a (s _ _ c)
def RuleB (a:Adr)(H:Hp)(rl:Addr)(t:TD)(bv:V):Prop:=∃(dx pe pa pl:Addr)(w s py:V)(us:List V),H rl=some (.ins a.kE dx (rlF (.str t.name) w (.str t.rd.owes) (opV t.opens) bv (.int t.rd.many) (.str (qj9 t.rd.unit)) s (.ref pe) (.ref pa) (.ref pl) py))/\StAt H s t.rd.still/\H pe=some (.lst (t.rd.ends.map V.str))/\H pa=some (.lst (t.rd.anew.map V.str))/\H pl=some (.lst us)/\Tups H us (t.rd.longer.map qq7)
def RuleB.same {a:Adr}{H H':Hp}{b:Addr}{t:TD}{bv:V}(h:RuleB a H b t bv)(z:Same H H'):RuleB a H' b t bv:=by obtain⟨m,l,i,pl,w,s,f,us,e,k,j,g,c,d⟩:=h;exact⟨m,l,i,pl,w,s,f,us,z _ _ e,k.same z,z _ _ j,z _ _ g,z _ _ c,d.same z⟩
def useS2 {p:Option V->Option V->Prop}{f:Option V->Option V->L2.St}{J:Hp}{k:L2.St->Hp->Prop}{R:Prop}(m:(∀x y,p x y->k (f x y) J)->R)(l:∀x y,p x y->k (f x y) J):R:=m l
def qt8 {p:Option V->Hp->Prop}{f:Option V->L2.St}{k:L2.St->Hp->Prop}{R:Prop}(m:(∀x J,p x J->k (f x) J)->R)(l:∀x J,p x J->k (f x) J):R:=m l
def gn2 {i:Nat}{k:L2.St->Hp->Prop}{v:V}{σ σ':L2.St}{H:Hp}(e:σ.set i (some v)=σ')(h:k σ' H):qbk i v σ H k:=by subst e;exact h
def as2 {i:Nat}{v:V}{D:L2.Ends}{σ σ':L2.St}{H:Hp}(e:σ.set i (some v)=σ')(h:D.nx σ' H):tAsg (tC v) (qbk i) D σ H:=by subst e;exact h
def tn2 {D:L2.Ends}{σ σ':L2.St}{H:Hp}(e:σ=σ')(h:D.nx σ' H):tNext D σ H:=by subst e;exact h
def qme {a:List Str}{j:Nat}(h:j<a.length):atI (a.map V.str) (j:Int)=some (.str (a.getD j A8)):=qbj (by rw[Ai,Aj,Ad h];rfl)
def qfs {a:List Str}{x:Int}(h0:0<=x)(h:x<a.length):atI (a.map V.str) x=some (.str (a.getD x.toNat A8)):=by obtain⟨j,rfl⟩:∃j:Nat,x=(j:Int):=⟨x.toNat,by lia⟩;rw[BW];exact qme (by lia)
theorem qmf {α β:Type}(f:Nat->α)(g:α->β)(i:Nat):((Ar (i+1)).map f).map g=((Ar i).map f).map g++[g (f i)]:=by rw[By,Ax,Ax];rfl
noncomputable def bvN (names:List Str):Option Nat->V
 |some b=>.str (names.getD b A8)
 |none=>.non
structure TdOk (names:List Str)(t:TD)(k:Nat):Prop where
 nm:t.name=names.getD k A8
 ba:∀b,t.base=some b->b<k
 op:t.base=none->∃o,t.opens=some o
 rd:RdOk t.rd
 ls:t.rd.ends.length<=2/\t.rd.anew.length<=2/\t.rd.longer.length<=2
def qbx (t:TD):List Str:=t.rd.owes::(t.rd.ends++t.rd.anew++t.rd.longer.map (·.1))++(t.opens.toList++(match t.rd.still with|some s=>[s.1,s.2] | none=>[]))
def KiT (kinds:List Str)(t:TD):Prop:=∀x∈qbx t,∃j,j<11/\x=kinds.getD j A8
def spRl55 (a:Adr)(K:Ag):Sp:=λvs H Q _=>∃(l pn pk:Addr)(ns:List Int)(names kinds:List Str)(k:Nat),vs=[.ref l,.int 4,.int (k:Int),.ref pn,.ref pk]/\SqL K H l (ns.map V.int)/\H pn=some (.lst (names.map V.str))/\names.length=26/\H pk=some (.lst (kinds.map V.str))/\11<=kinds.length/\k<4 /\
 ∀(x:Addr)(H':Hp)(t:TD),Same H H'->H x=none->TdOk names t k->KiT kinds t->RuleB a (nwp H H') x t (bvN names t.base)->Q (.ref x) H'
def RsL (a:Adr)(H:Hp)(us:List V)(Ts:List TD)(names:List Str):Prop:=us.length=Ts.length/\∀(j:Nat)(t:TD),Ts[j]?=some t->∃rl,us[j]?=some (.ref rl)/\RuleB a H rl t (bvN names t.base)
def RsL.same {a:Adr}{H H':Hp}{us:List V}{Ts:List TD}{names:List Str}(h:RsL a H us Ts names)(s:Same H H'):RsL a H' us Ts names:=⟨h.1,λj t e=>by obtain⟨c,b,d⟩:=h.2 j t e;exact⟨c,b,d.same s⟩⟩
def RsL.snoc {a:Adr}{H:Hp}{us:List V}{Ts:List TD}{names:List Str}{x:Addr}{t:TD}(h:RsL a H us Ts names)(r:RuleB a H x t (bvN names t.base)):RsL a H (us++[.ref x]) (Ts++[t]) names:=by
 refine⟨by rw[Af,Af,h.1];rfl,λj t' e=>?_⟩;by_cases c:j<Ts.length
 .rw[AH c]at e;obtain⟨d,b,f⟩:=h.2 j t' e;exact⟨d,by rw[AH (by rw[h.1];exact c)];exact b,f⟩
 .rw[AV (by lia)]at e;have:j-Ts.length=0:=by have:=(Ac.mp e).1;simpa using this
  rw[this]at e;cases e;exact⟨x,by rw[AV (by rw[h.1];lia),h.1,this];rfl,r⟩
def RsL.rev {a:Adr}{H:Hp}{us:List V}{Ts:List TD}{names:List Str}(h:RsL a H us Ts names):RsL a H us.reverse Ts.reverse names:=by refine⟨by rw[BU,BU,h.1],λj t e=>?_⟩;have b:=(Ac.mp e).1;rw[BU]at b;rw[CZ b]at e;obtain⟨d,c,f⟩:=h.2 _ t e;exact⟨d,by rw[CZ (by rw[h.1];exact b),h.1];exact c,f⟩
def md3 (x:Int):(x % 3).toNat<=2:=by lia
def md11 (x:Int):(x % 11).toNat<11:=by lia
def qy3 {c e:List Str}{n a b:Nat}(d:∀j<10,∃q,q<11/\e.getD j A8=c.getD q A8)(hn:n<=2)(h:a+b<10):∀x∈(Ar n).map (λq=>e.getD (a+b*q) A8),∃q,q<11/\x=c.getD q A8:=λx g=>by
 obtain⟨q,f,rfl⟩:=AS.mp g;have f:=AT.mp f;have:q=0\/q=1:=by lia
 rcases this with rfl|rfl
 .exact d _ (by lia)
 .exact d _ (by lia)
def ki_tri {a b:List Str}{n:Nat}{u v:Int}(c:∀j<10,∃q,q<11/\b.getD j A8=a.getD q A8)(hn:n<=2):∀x∈(Ar n).map (λq=>((b.getD (4+q) A8,u,v):Str×Int×Int)),∃q,q<11/\x.1=a.getD q A8:=λx e=>by obtain⟨q,d,rfl⟩:=AS.mp e;have d:=AT.mp d;exact c _ (by lia)
theorem ki_of {c f:List Str}{nm:Str}{o:Option Str}{b:Option Nat}{l n:List Str}{i:List (Str×Int×Int)}{g:Option (Str×Str)}{m:Int}{u:Three}(d:∀j<10,∃q,q<11/\f.getD j A8=c.getD q A8)(k:∀z,o=some z->z=f.getD 0 A8)(h:∀z,g=some z->z.1=f.getD 6 A8/\z.2=f.getD 7 A8)
  (r:∀x∈l,∃q,q<11/\x=c.getD q A8)(s:∀x∈n,∃q,q<11/\x=c.getD q A8)(w:∀x∈i,∃q,q<11/\x.1=c.getD q A8):KiT c ⟨nm,o,b,⟨f.getD 1 A8,l,n,i,g,m,u⟩⟩:=by
 intro x a;unfold qbx at a;dsimp only at a;rcases Av.mp a with a|a
 .rcases Aq.mp a with rfl|a
  .exact d 1 Uk
  .rcases Av.mp a with a|a
   .rcases Av.mp a with a|a
    .exact r x a
    .exact s x a
   .obtain⟨y,t,rfl⟩:=AS.mp a;exact w y t
 .rcases Av.mp a with a|a
  .rw[k x (by simpa using a)];exact d 0 Uk
  .cases e:g with
   |none=>rw[e]at a;cases a
   |some z =>
    rw[e]at a;obtain⟨p,v⟩:=h z e;simp at a;rcases a with rfl|rfl
    .rw[p];exact d 6 Uk
    .rw[v];exact d 7 Uk
def spBk55 (a:Adr)(K:Ag):Sp:=λvs H Q _=>∃(l pn pk:Addr)(ns:List Int)(names kinds:List Str),vs=[.ref l,.ref pn,.ref pk]/\SqL K H l (ns.map V.int)/\H pn=some (.lst (names.map V.str))/\names.length=26/\H pk=some (.lst (kinds.map V.str))/\11<=kinds.length /\
 ∀(pr:Addr)(H':Hp)(us:List V)(Ts:List TD)(rv:Bool),H pr=none->Same H H'->1<=Ts.length->Ts.length<=4->(∀k t,Ts[k]?=some t->TdOk names t k)->(∀t∈Ts,KiT kinds t)->H' pr=some (.lst us)->RsL a (ofl [pr] H') us (if rv=true then Ts.reverse else Ts) names->Q (.ref pr) H'
def spMe55 (a:Adr):Sp:=λvs H Q _=>∃(pr:Addr)(us:List V)(Ts:List TD)(names:List Str),vs=[.ref pr]/\H pr=some (.lst us)/\RsL a H us Ts names/\Ts.length<=4/\(∀t∈Ts,t.rd.ends.length<=2/\t.rd.anew.length<=2/\t.rd.longer.length<=2) /\
 ∀(q:Addr)(H':Hp),H q=none->Same H H'->H' q=some (.lst ((Ts.flatMap qbx).map V.str))->Q (.ref q) H'
def qvu {t:TD}(h:t.rd.ends.length<=2/\t.rd.anew.length<=2/\t.rd.longer.length<=2):(qbx t).length<=10:=by
 unfold qbx;have h1:t.opens.toList.length<=1:=by cases t.opens <;>simp
 have h2:(match t.rd.still with|some s=>[s.1,s.2] | none=>([]:List Str)).length<=2:=by cases t.rd.still <;>simp
 rw[Af,Af,AD,Af,Af,Ab];lia
theorem qrf {Ts:List TD}(h:∀t∈Ts,t.rd.ends.length<=2/\t.rd.anew.length<=2/\t.rd.longer.length<=2):(Ts.flatMap qbx).length<=10*Ts.length:=by
 induction Ts with
 |nil=>exact Am _
 |cons t Ts ih =>have:=ih λx a=>h x (Az _ a);have:=qvu (h t Al);rw[List.flatMap_cons,Af,AD];lia
def str23 {s:Int}(h1:1<=s)(h2:s<=22){i j:Nat}(b:i<23)(d:j<23)(e:((i:Int)*s+s / 2) % 23=((j:Int)*s+s / 2) % 23):i=j:=by
 have c:((Ar 23).all λs=>(Ar 23).all λi=>(Ar 23).all λj=>s == 0 || (i*s+s / 2) % 23 != (j*s+s / 2) % 23 || i == j)=true:=Ez;obtain⟨t,rfl⟩:∃t:Nat,s=(t:Int):=⟨s.toNat,by lia⟩;have e:(i*t+t / 2) % 23=(j*t+t / 2) % 23:=by exact_mod_cast e
 have a:=Cf.mp (Cf.mp (Cf.mp c t (AT.mpr (by lia))) i (AT.mpr b)) j (AT.mpr d);rw[e]at a;simp at a;lia
def qiv {names:List Str}(nd:names.Nodup){i j:Nat}(a:i<names.length)(b:j<names.length)(e:names.getD i A8=names.getD j A8):i=j:=by rw[Aj,Aj,Ad a,Ad b]at e;exact(List.getElem_inj nd).mp e
def NmA (names:List Str)(s:Int)(acts:List Act):Prop:=∀(j:Nat)(t:Act),acts[j]?=some t->t.1=names.getD (((j:Int)*s+s / 2) % 23).toNat A8
def nma_nd {names:List Str}{s:Int}{a:List Act}(ln:names.length=26)(nd:names.Nodup)(b:1<=s)(f:s<=22)(l:a.length<=20)(h:NmA names s a):(a.map (·.1)).Nodup:=by rw[BD,Cj,AZ];intro i j c g hij e;have d:=h i a[i] (Ad c);have k:=h j a[j] (Ad g);rw[d,k]at e;have:=qiv nd (by lia) (by lia) e;have:=str23 b f (i:=i) (j:=j) (by lia) (by lia) (by lia);lia
def spAc55 (a:Adr)(K:Ag):Sp:=λvs H Q _=>∃(l pr pn:Addr)(ns:List Int)(names:List Str)(us:List V)(Ts:List TD)(first:Int)(many:Nat),vs=[.ref l,.ref pr,.ref pn,.int first,.int (many:Int)]/\SqL K H l (ns.map V.int)/\H pr=some (.lst us)/\RsL a H us Ts names/\1<=Ts.length/\Ts.length<=4/\(∀t∈Ts,t.rd.ends.length<=2/\t.rd.anew.length<=2/\t.rd.longer.length<=2)/\(∃t∈Ts,∃o,t.opens=some o)/\H pn=some (.lst (names.map V.str))/\names.length=26/\names.Nodup/\0<=first/\many<=20 /\
 ∀(q:Addr)(H':Hp)(uA:List V)(acts:List Act)(s:Int),H q=none->Same H H'->H' q=some (.lst uA)->Tups (nwp H H') uA (acts.map qb4)->acts.length=many->1<=s->s<=22->NmA names s acts->(∀t∈acts,first<=t.2.2)->Q (.ref q) H'
def Pq (Zq:ZZ)(n:Nat)(p4 p6:Nat->Nat->Addr)(b:Addr):Prop:=∃i,i<n/\∃j,j<(Zq i).length/\(b=p4 i j\/b=p6 i j)
section
variable {H J J':Hp}{Zq:ZZ}{n:Nat}{d:Addr}{kvs:List (Key×V)}{q:Nat->Addr}{p4 p6:Nat->Nat->Addr}{L:Nat->List V}{N m:Nat}
end
theorem lst_ex {g b:Int->Bool}{ps:List Pz}{s m:Int}(e:qsn g)(j:qsn b)(h:0<=s)(c:1<=m):∃r,Lst g b ps s m r:=by
 obtain⟨d,a⟩:=full_ex (ps:=ps) e h c;cases d with
 |none=>exact⟨none,.inl ⟨a,Z⟩⟩
 |some f =>obtain⟨r,i⟩:=due_ex (ps:=ps) j (f:=f) (by have:=a.1;lia);exact⟨r,.inr ⟨f,a,i⟩⟩
def ls_ex55 {wk:List Int}(a:PartsOk wk [] []):qso (fdL wk []) (ov []):=λrd st c s ok b=>by
 cases s with|none=>exact⟨none,Z⟩|some d=>exact lst_ex (qtz a rd.unit) (qtz a .c) (b d Z) (need1 ok.u1 _)
def qpi (K:Ag)(Pt:Addr):Sp:=λvs H Q _=>∃(a:Addr)(ns:List Int),vs=[.ref a]/\SqL K H a (ns.map V.int)/\ns.length<=63/\H Pt=some (.tbl #[])/\∀H',Q (.bl true) H'
def str_ext' {x y:Str}(h:x.cps.toList=y.cps.toList):x=y:=by obtain⟨a⟩:=x;obtain⟨b⟩:=y;have:a=b:=Array.toList_inj.mp h;rw[this]
def ltK_eq {a b:Int×Str}(c:Lam.ltK a b=false)(d:Lam.ltK b a=false):a.2=b.2:=by
 rw[Lam.ltK_no]at c d;have e:a.1=b.1:=by have:=λz=>c (.inl z);have:=λz=>d (.inl z);lia
 exact str_ext' (List.le_antisymm (Ew.mp λz=>d (.inr ⟨e.symm,z⟩)) (Ew.mp λz=>c (.inr ⟨e,z⟩)))
theorem qmg:∀{l m:List Act},l.Perm m->(l.map (·.1)).Nodup->qiu l->qiu m->l=m
 | [],m,p,_,_,_=>p.nil_eq
 |x::l,[],p,_,_,_=>by have:=p.length_eq;cases this
 |x::l,y::m,p,nd,hl,hm=>by
  have e:x=y:=by
   by_cases z:x=y
   .exact z
   .exfalso;have f:x∈m:=by
     rcases Aq.mp (p.mem_iff.mp (Al (a:=x) (l:=l))) with h|h
     .exact absurd h z
     .exact h
    have b:y∈l:=by
     rcases Aq.mp (p.mem_iff.mpr (Al (a:=y) (l:=m))) with h|h
     .exact absurd h.symm z
     .exact h
    have c:=(BO.mp hl).1 y b;have g:=(BO.mp hm).1 x f;have d:y.1=x.1:=ltK_eq c g;rw[Ba,Cz]at nd;exact nd.1 (d ▸ List.mem_map_of_mem b)
  subst e;rw[Ba,Cz]at nd;rw[qmg (p.cons_inv) nd.2 (BO.mp hl).2 (BO.mp hm).2]
inductive GoodI (bs:List (Option Nat)) (n:Nat):List Nat->Prop
 |nil:GoodI bs n []
 |snoc {l:List Nat} {k:Nat}:GoodI bs n l->k<n->k∉l->(∀b,bo bs k=some b->b∈l)->GoodI bs n (l++[k])
theorem GoodI.lt {bs:List (Option Nat)}{n:Nat}{l:List Nat}(h:GoodI bs n l):∀k∈l,k<n:=by
 induction h with
 |nil=>exact λk h=>absurd h AG
 |snoc _ hk _ _ ih =>
  intro x a;rcases Av.mp a with h|h
  .exact ih x h
  .rw[Ah.mp h];exact hk
theorem GoodI.nd {bs:List (Option Nat)}{n:Nat}{l:List Nat}(h:GoodI bs n l):l.Nodup:=by
 induction h with
 |nil=>exact .nil
 |snoc _ _ hn _ ih =>refine List.nodup_append.mpr ⟨ih,CS _ _,λa c b d z=>?_⟩;rw[Ah.mp d]at z;exact hn (z ▸ c)
theorem GoodI.base {bs:List (Option Nat)}{n:Nat}{l:List Nat}(h:GoodI bs n l):∀(i k b:Nat),l[i]?=some k->bo bs k=some b->∃j,j<i/\l[j]?=some b:=by
 induction h with
 |nil=>intro i k b e;cases e
 | @snoc l k0 _ _ _ hb ih =>
  intro i k b a f;by_cases c:i<l.length
  .rw[AH c]at a;obtain⟨j,d,o⟩:=ih i k b a f;exact⟨j,d,by rw[AH (by lia)];exact o⟩
  .rw[AV (by lia)]at a;have m:i-l.length=0:=by have:=(Ac.mp a).1;simpa using this
   rw[m]at a;cases a;obtain⟨j,d⟩:=Bc (hb b f);have g:=(Ac.mp d).1;exact⟨j,by lia,by rw[AH g];exact d⟩
def qy4 {nms:List Str}{bs:List (Option Nat)}{b:Nat->Nat}(f:WdN nms bs b){l:List Nat}(c:∀k∈l,k<nms.length){k:Nat}(d:k<nms.length)(h:nm nms k∈l.map (nm nms)):k∈l:=by obtain⟨j,a,e⟩:=AS.mp h;rw[<- qma f.nd (c j a) d e];exact a
theorem qt9 {nms:List Str}{bs:List (Option Nat)}{d:Nat->Nat}(i:WdN nms bs d){l:List Nat}(g:GoodI bs nms.length l):∀(f k:Nat),k<nms.length->d k<f->∃e:List Nat,(upW nms bs (l.map (nm nms)) f k).reverse=e.map (nm nms)/\GoodI bs nms.length (l++e)/\k∈l++e/\∀x∈e,d x<=d k
 |0,k,_,h=>absurd h (B2 _)
 |f+1,k,hk,h=>by
  unfold upW;by_cases c:nm nms k∈l.map (nm nms)
  .rw[if_pos c];refine⟨[],Z,by rw[Br];exact g,by rw[Br];exact qy4 i g.lt hk c,λx a=>absurd a AG⟩
  .rw[if_neg c];have n:k∉l:=λz=>c (List.mem_map_of_mem z);cases m:bo bs k with
   |none=>exact⟨[k],Z,g.snoc hk n (λb e=>by rw[m]at e;cases e),by simp,λx a=>by rw[Ah.mp a];exact Am _⟩
   |some b =>
    obtain⟨q,b2⟩:=i.ok k b (by rw[qyr (by rw[i.len];exact hk),m]);obtain⟨e,p,s,r,o⟩:=qt9 i g f b q (by lia);refine⟨e++[k],?_,?_,by simp,λx a=>?_⟩
    .show (nm nms k::upW nms bs (l.map (nm nms)) f b).reverse=_;rw[Dc,p,Ax];rfl
    .rw[<- List.append_assoc];refine s.snoc hk (λz=>?_) (λb' j=>by rw[m]at j;cases j;exact r);rcases Av.mp z with z|z
     .exact n z
     .have:=o k z;lia
    .rcases Av.mp a with z|z
     .have:=o x z;lia
     .rw[Ah.mp z];exact Am _
theorem qrg {nms:List Str}{bs:List (Option Nat)}{b:Nat->Nat}(a:WdN nms bs b):∀i,i<=nms.length->∃l:List Nat,qit nms bs i=l.map (nm nms)/\GoodI bs nms.length l/\∀k<i,k∈l
 |0,_=>⟨[],Z,.nil,λk h=>absurd h (B2 _)⟩
 |i+1,hi=>by
  obtain⟨l,d,j,g⟩:=qrg a i (by lia);obtain⟨e,c,m,f,_⟩:=qt9 a j 7 i (by lia) (a.lo i);refine⟨l++e,by rw[qju,d,c,Ax],m,λk hk=>?_⟩;by_cases z:k=i
  .rw[z];exact f
  .exact Bl _ (g k (by lia))
def qy5 {n:Nat}{l:List Nat}(nd:l.Nodup)(lt:∀k∈l,k<n)(all:∀k<n,k∈l):l.Perm (Ar n):=(List.perm_ext_iff_of_nodup nd Di).mpr λk=>⟨λh=>AT.mpr (lt k h),λh=>all k (AT.mp h)⟩
noncomputable def fR (rv:Bool)(n j:Nat):Nat:=if rv=true then n-1-j else j
def qci {rv:Bool}{n j:Nat}(h:j<n):fR rv n j<n:=by unfold fR;split <;>lia
def qn9 {rv:Bool}{n j:Nat}(h:j<n):fR rv n (fR rv n j)=j:=by unfold fR;split <;>lia
def qy6 {rv:Bool}{n i j:Nat}(a:i<n)(b:j<n)(e:fR rv n i=fR rv n j):i=j:=by rw[<- qn9 (rv:=rv) a,e,qn9 b]
def nmF (names:List Str)(rv:Bool)(n:Nat):List Str:=(Ar n).map λj=>names.getD (fR rv n j) A8
def bsF (T:Nat->TD)(rv:Bool)(n:Nat):List (Option Nat):=(Ar n).map λj=>((T (fR rv n j)).base).map (fR rv n)
def rkF (rv:Bool)(n j:Nat):Nat:=if j<n then fR rv n j else 0
section
variable {names:List Str}{T:Nat->TD}{rv:Bool}{n:Nat}
def qft:(nmF names rv n).length=n:=by unfold nmF;rw[Ab,Aw]
def qh1 {j:Nat}(h:j<n):nm (nmF names rv n) j=names.getD (fR rv n j) A8:=by unfold nm nmF;rw[Aj,Ai,Bb h];rfl
def qpj {j:Nat}(h:j<n):bo (bsF T rv n) j=((T (fR rv n j)).base).map (fR rv n):=by unfold bo bsF;rw[Aj,Ai,Bb h];rfl
def wd_F (p:∀k<n,TdOk names (T k) k)(n4:n<=4)(ln:names.length=26)(nd:names.Nodup):WdN (nmF names rv n) (bsF T rv n) (rkF rv n):=by
 refine⟨?_,by unfold bsF;rw[qft,Ab,Aw],by rw[qft];lia,λk b e=>?_,λk=>?_⟩
 .unfold nmF;rw[BD,Cj,AZ];intro i j g l hij e;rw[Aw]at g l;rw[CD,CD]at e;have o:=qci (rv:=rv) g;have f2:=qci (rv:=rv) l;have:=qy6 g l (qiv nd (by lia) (by lia) e);lia
 .have f:k<n:=by
   have:=(Ac.mp e).1
   unfold bsF at this
   rw[Ab,Aw]at this
   exact this
  have a:=qpj (T:=T) (rv:=rv) f
  unfold bo at a
  rw[Aj,e]at a
  cases m:(T (fR rv n k)).base with
  |none=>rw[m]at a;cases a
  |some c =>
   rw[m]at a;cases a;have q:=(p _ (qci f)).ba c m;have o:=qci (rv:=rv) f;have d:c<n:=by lia
   rw[qft];refine⟨qci d,?_⟩;unfold rkF;rw[if_pos (qci d),if_pos f,qn9 d];exact q
 .unfold rkF;split
  .rename_i h;have:=qci (rv:=rv) h;lia
  .decide
def tsF (T:Nat->TD)(rv:Bool)(n:Nat)(l:List Nat)(i:Nat):TD:={T (fR rv n (l.getD i 0)) with base:=((T (fR rv n (l.getD i 0))).base).map λb=>l.idxOf (fR rv n b)}
def qy7 {l:List Nat}(nd:l.Nodup){j k:Nat}(e:l[j]?=some k):l.idxOf k=j:=by obtain⟨a,rfl⟩:=Ac.mp e;exact nd.idxOf_getElem j a
def ts_F (p:∀k<n,TdOk names (T k) k)(y:n<=4)(ln:names.length=26)(nd:names.Nodup){l:List Nat}(g:GoodI (bsF T rv n) n l)(ll:l.length=n):TsOk n (tsF T rv n l)/\∀i<n,(tsF T rv n l i).name=names.getD (fR rv n (l.getD i 0)) A8/\baV (tsF T rv n l) (tsF T rv n l i).base=bvN names (T (fR rv n (l.getD i 0))).base:=by
 have at':∀i<n,l[i]?=some (l.getD i 0)/\l.getD i 0<n:=λi a=>by
  have e:l[i]?=some (l.getD i 0):=by rw[Aj,Ad (by lia)];rfl
  exact⟨e,g.lt _ (A0 e)⟩
 have o:∀i<n,∀b,(T (fR rv n (l.getD i 0))).base=some b->b<n/\∃j,j<i/\l[j]?=some (fR rv n b):=λi a b e=>by obtain⟨v,q⟩:=at' i a;have:=(p _ (qci q)).ba b e;have w:=qci (rv:=rv) q;exact⟨by lia,g.base i _ (fR rv n b) v (by rw[qpj q,e];rfl)⟩
 have d:∀i<n,(tsF T rv n l i).name=names.getD (fR rv n (l.getD i 0)) A8:=λi a=>(p _ (qci (at' i a).2)).nm;refine⟨⟨y,λi a=>(p _ (qci (at' i a).2)).rd,λi a b e=>?_,λi a j f e=>?_⟩,λi a=>⟨d i a,?_⟩⟩
 .change ((T (fR rv n (l.getD i 0))).base).map _=some b at e;cases h:(T (fR rv n (l.getD i 0))).base with
  |none=>rw[h]at e;cases e
  |some c =>rw[h]at e;cases e;obtain⟨_,j,f,m⟩:=o i a c h;show l.idxOf (fR rv n c)<i;rw[qy7 g.nd m];exact f
 .rw[d i a,d j f]at e;obtain⟨u,t⟩:=at' i a;obtain⟨r,s⟩:=at' j f;have w:=qci (rv:=rv) t;have f2:=qci (rv:=rv) s;have:=qy6 t s (qiv nd (by lia) (by lia) e);rw[<- this,<- u]at r;exact((Ee (by lia) g.nd).mp r.symm)
 .show baV (tsF T rv n l) (((T (fR rv n (l.getD i 0))).base).map λb=>l.idxOf (fR rv n b))=_;cases h:(T (fR rv n (l.getD i 0))).base with
  |none=>rfl
  |some c =>obtain⟨x,j,f,m⟩:=o i a c h;show V.str (tsF T rv n l (l.idxOf (fR rv n c))).name=.str (names.getD c A8);rw[qy7 g.nd m,d j (by lia),Aj (l:=l),m];show V.str (names.getD (fR rv n (fR rv n c)) A8)=_;rw[qn9 x]
def RsL.rules {a:Adr}{H:Hp}{us:List V}(m:us.length=n)(l:∀j<n,∃d,us[j]?=some (.ref d)/\RuleB a H d (T (fR rv n j)) (bvN names (T (fR rv n j)).base))(g:∀k<n,TdOk names (T k) k):qn7 a.kE H us (nmF names rv n) (bsF T rv n):=by
 refine⟨by rw[m,qft],λj v e=>?_⟩;have b:j<n:=by have:=(Ac.mp e).1;lia
 obtain⟨d,f,p,pe,pa,pl,w,s,py,ul,i,_⟩:=l j b;rw[e]at f;cases f;refine⟨d,p,_,Z,i,by rw[qh1 b,<- (g _ (qci b)).nm];rfl,?_⟩;rw[qpj b];have:qjv (nmF names rv n) (((T (fR rv n j)).base).map (fR rv n))=bvN names (T (fR rv n j)).base:=by
  cases o:(T (fR rv n j)).base with
  |none=>rfl
  |some c =>
   have:=(g _ (qci b)).ba c o;have f1:=qci (rv:=rv) b;have h:c<n:=by lia
   show V.str (nm (nmF names rv n) (fR rv n c))=_;rw[qh1 (qci h),qn9 h];rfl
 rw[this];rfl
def book_F {a:Adr}{H:Hp}{us:List V}{bk:Addr}(t:∀k<n,TdOk names (T k) k)(z:n<=4)(r:names.length=26)(nd:names.Nodup)(u:∀j<n,∃c,us[j]?=some (.ref c)/\RuleB a H c (T (fR rv n j)) (bvN names (T (fR rv n j)).base)){l:List Nat}(h:GoodI (bsF T rv n) n l)(y:l.length=n)(o:BookAt a.kO H bk (nmF names rv n) (l.map (nm (nmF names rv n))) us):BookT a H bk n (tsF T rv n l):=by
 obtain⟨t1,f⟩:=ts_F (rv:=rv) t z r nd h y;have lt:∀i<n,l[i]?=some (l.getD i 0)/\l.getD i 0<n:=λi b=>by
  have e:l[i]?=some (l.getD i 0):=by rw[Aj,Ad (by lia)];rfl
  exact⟨e,h.lt _ (A0 e)⟩
 refine⟨nmF names rv n,us,?_,λi b=>?_⟩
 .have:((Ar n).map λi=>(tsF T rv n l i).name)=l.map (nm (nmF names rv n)):=by
   refine Ck λi=>?_
   rw[Ai,Ai]
   by_cases b:i<n
   .obtain⟨g,d⟩:=lt i b;rw[Bb b,g];show some (tsF T rv n l i).name=some (nm (nmF names rv n) (l.getD i 0));rw[(f i b).1,qh1 d]
   .rw[AI (by rw[Aw];lia),AI (by lia)];rfl
  rw[this]
  exact o
 .obtain⟨g,d⟩:=lt i b;obtain⟨c,q,B,A,v,pl,w,s,p,m,x⟩:=u _ d;refine⟨l.getD i 0,c,by rw[qh1 d,(f i b).1],q,B,A,v,pl,w,s,p,m,?_⟩;rw[(f i b).2];exact x
end
def qg4 {n:Nat}{H:Hp}{v:V}(h:qbt v=true):DkV n H v v:=by
 cases n with|zero=>exact⟨Z,h⟩|succ n=>exact .inl ⟨Z,h⟩
def qua {H:Hp}{p q:Addr}{us d:List V}{ts:List (List V)}(o:H p=some (.lst us))(m:H q=some (.lst d))(t:Tups H us ts)(t':Tups H d ts)(n:∀r∈ts,∀v∈r,qbt v=true):DkV 2 H (.ref p) (.ref q):=by refine .inr ⟨p,q,us,d,Z,Z,.inl ⟨o,m⟩,by rw[t.length,t'.length],λi x y ex h=>?_⟩;obtain⟨a,r,rfl,f,l⟩:=t.get' ex;obtain⟨b,r',rfl,c,k⟩:=t'.get' h;rw[f]at c;cases c;refine .inr ⟨a,b,r,r,Z,Z,.inr ⟨l,k⟩,Z,λj x y e g=>?_⟩;rw[e]at g;cases g;exact qg4 (n r (A0 f) x (A0 e))
def qy8 (o:Option Int):qbt (oV o)=true:=by cases o <;>rfl
def encQ_fl {ps:List Pz}:∀r∈ps.map qkj,∀v∈r,qbt v=true:=λr b v a=>by
 obtain⟨t,_,rfl⟩:=AS.mp b;unfold qkj at a;simp at a;rcases a with rfl|rfl
 .rfl
 .exact qy8 _
def encR_fl {ps:List R3}:∀r∈ps.map qm6,∀v∈r,qbt v=true:=λr b v a=>by obtain⟨t,_,rfl⟩:=AS.mp b;unfold qm6 at a;simp at a;rcases a with rfl|rfl|rfl <;>rfl
theorem dk_acc {H:Hp}{q g f e c d:Addr}{n:Str}{st:RS}{s r:Option Int}(h:AccAt H q g f n st s r)(h':AccAt H e c d n st s r):DkV 3 H (.ref q) (.ref e):=by
 obtain⟨j,⟨u4,z,l⟩,⟨u6,v,A⟩⟩:=h;obtain⟨m,⟨w4,u,t⟩,⟨w6,p,w⟩⟩:=h';have k:DkV 2 H (.ref g) (.ref c):=qua z u l t encQ_fl;have o:DkV 2 H (.ref f) (.ref d):=qua v p A w encR_fl;refine .inr ⟨q,e,_,_,Z,Z,.inr ⟨j,m⟩,Z,λi x y a b=>?_⟩
 match i,a,b with
 |0,a,b=>cases a;cases b;exact qg4 rfl
 |1,a,b=>cases a;cases b;exact qg4 rfl
 |2,a,b=>cases a;cases b;exact qg4 (qy8 s)
 |3,a,b=>cases a;cases b;exact qg4 rfl
 |4,a,b=>cases a;cases b;exact k
 |5,a,b=>cases a;cases b;exact qg4 (qy8 r)
 |6,a,b=>cases a;cases b;exact o
 |i+7,a,b=>cases a
structure Tc where
 d:Addr
 q:Nat->Addr
 y:Nat->Nat->Addr
 p4:Nat->Nat->Addr
 p6:Nat->Nat->Addr
def Cel (Zq:ZZ)(n:Nat)(c:Tc)(b:Addr):Prop:=b=c.d\/(∃i,i<n/\b=c.q i)\/Pq Zq n c.p4 c.p6 b
section
variable {bs:List Bool}{rs:List Rw}{ts:Nat->TD}{Zq:ZZ}{n:Nat}{H H':Hp}{c:Tc}{d:Addr}{q:Nat->Addr}{y p4 p6:Nat->Nat->Addr}
abbrev TdA (bs:List Bool)(rs:List Rw)(ts:Nat->TD)(Zq:ZZ)(n:Nat)(H:Hp)(c:Tc):Prop:=ToldAt bs rs ts Zq n H c.d c.q c.y c.p4 c.p6
def told_kp (h:TdA bs rs ts Zq n H c)(k:∀b o,(Cel Zq n c b \/ ∃t,o=.tup t)->H b=some o->H' b=some o):TdA bs rs ts Zq n H' c:=by have f:∀b u,H b=some (.tup u)->H' b=some (.tup u):=λb u e=>k b _ (.inr ⟨u,Z⟩) e;refine⟨k _ _ (.inl (.inl Z)) h.1,λi a=>⟨k _ _ (.inl (.inr (.inl ⟨i,a,Z⟩))) (h.2 i a).1,λj d=>?_⟩⟩;obtain⟨l,⟨r,p,q⟩,⟨m,s,g⟩⟩:=(h.2 i a).2 j d;exact⟨f _ _ l,⟨r,k _ _ (.inl (.inr (.inr ⟨i,a,j,d,.inl Z⟩))) p,qb1 q f⟩,⟨m,k _ _ (.inl (.inr (.inr ⟨i,a,j,d,.inr Z⟩))) s,qb1 g f⟩⟩
def cel_ex (h:TdA bs rs ts Zq n H c){b:Addr}(d:Cel Zq n c b):(∃kv,H b=some (.dK kv)) \/ ∃u,H b=some (.lst u):=by
 rcases d with rfl|⟨i,a,rfl⟩|⟨i,a,j,f,d⟩
 .exact .inl ⟨_,h.1⟩
 .exact .inr ⟨_,(h.2 i a).1⟩
 .obtain⟨h1,⟨u4,e,h3⟩,⟨u6,g,h5⟩⟩:=(h.2 i a).2 j f;rcases d with rfl|rfl
  .exact .inr ⟨_,e⟩
  .exact .inr ⟨_,g⟩
variable {B J J':Hp}{pT Pt:Addr}{cs:List Tc}{ps:Array Value}
def cel_ne (h:TdA bs rs ts Zq n H c)(d:H Pt=some (.tbl ps)){b:Addr}{o:HO}(a:Cel Zq n c b \/ ∃t,o=.tup t)(e:H b=some o):b≠Pt:=λz=>by
 rw[z,d]at e;rcases a with a|⟨t,rfl⟩
 .rw[z]at a;rcases cel_ex h a with ⟨u,q⟩|⟨u,q⟩ <;>rw[d]at q <;>cases q
 .cases e
end
section
variable {names:List Str}{T:Nat->TD}{rv:Bool}{n:Nat}
end
def rules_T {a:Adr}{H H':Hp}{us:List V}{nms:List Str}{bs:List (Option Nat)}(k:KpT H H')(h:qn7 a.kE H us nms bs):qn7 a.kE H' us nms bs:=⟨h.1,λj y e=>by obtain⟨p,f,fs,b,d,c⟩:=h.2 j y e;exact⟨p,f,fs,b,k _ _ (λ_ z=>nomatch z) d,c⟩⟩
def KpT.l {H H':Hp}{b:Addr}{u:List V}(k:KpT H H')(e:H b=some (.lst u)):H' b=some (.lst u):=k b _ (λ_ z=>nomatch z) e
noncomputable def wkF (c:Int)(n:Nat):List Int:=(Ar n).map λ(j:Nat)=>1+(c / 7+(j:Int)) % 7
def wk_ok (c:Int){n:Nat}(h:n<=6):OkW (wkF c n):=by
 refine⟨by unfold wkF;rw[Ab,Aw];exact h,?_,λw d=>?_⟩
 .unfold wkF;refine Cj.mpr (Di.imp_of_mem λ{i j} a b f e=>f ?_);have:=AT.mp a;have:=AT.mp b;lia
 .obtain⟨j,_,rfl⟩:=AS.mp d;lia
def wds_nd {c:Int}:(wds c 26).Nodup:=by unfold wds;rw[BD,Cj,AZ];intro i j a b hij e;rw[Aw]at a b;rw[CD,CD]at e;have:=qyi (by lia) (by lia) e;lia
noncomputable def nmR (l:List RS):List Str:=l.flatMap λst=>st.rows.map (·.1)
theorem qy9 {rd:RD}{st:RS}{s r:Option Int}{n k:Str}{d:Int}:(qbo rd st s r n d k).1=st\/(qbo rd st s r n d k).1.rows=st.rows++[(n,d,qa3 rd k)]:=by
 unfold qbo;split
 .exact .inl rfl
 .cases e:qbe rd st s r (qa3 rd k) d k with
  |none=>exact .inl rfl
  |some q=>exact .inr (by show q.rows++_=_;rw[qhy e])
def qsr {l:List RS}(h:l≠[]):l.dropLast++[l.getD (l.length-1) dRS]=l:=by have hp:=BH.mpr h;rw[Aj,Ad (by lia),Option.getD_some,<- List.getLast_eq_getElem h];exact List.dropLast_concat_getLast h
def qiw {l m:List RS}:nmR (l++m)=nmR l++nmR m:=List.flatMap_append
def qpk {q:RS}:nmR [q]=q.rows.map (·.1):=by unfold nmR;simp
def nmR_upd {l:List RS}(h:l≠[]){q:RS}{x:R3}(e:q.rows=(l.getD (l.length-1) dRS).rows++[x]):nmR (l.dropLast++[q])=nmR l++[x.1]:=by
 conv=>rhs;rw[<- qsr h]
 rw[qiw,qiw,qpk,qpk,e,Ax,List.append_assoc];rfl
section
variable {bs:List Bool}{rs:List Rw}{ts:Nat->TD}{Zq Z':ZZ}{n:Nat}{ac:Act}
def feelL_nm {i:Nat}(h:Zq i≠[]):qdu bs rs ts Zq i ac=Zq i\/nmR (qdu bs rs ts Zq i ac)=nmR (Zq i)++[ac.1]:=by
 unfold qdu;rcases qy9 (rd:=(ts i).rd) (st:=(Zq i).getD ((Zq i).length-1) dRS) (s:=stF bs rs ts Zq 3 i ((Zq i).getD ((Zq i).length-1) dRS)) (r:=lsC bs rs (ts i).rd ((Zq i).getD ((Zq i).length-1) dRS) (stF bs rs ts Zq 3 i ((Zq i).getD ((Zq i).length-1) dRS))) (n:=ac.1) (d:=ac.2.2) (k:=ac.2.1) with e|e
 .rw[e,qsr h];exact .inl rfl
 .exact .inr (nmR_upd h e)
def qfu {m i:Nat}(h:i≠m):(tk bs rs ts Zq ac (m+1)).1 i=(tk bs rs ts Zq ac m).1 i/\(tk bs rs ts Zq ac (m+1)).2 i=(tk bs rs ts Zq ac m).2 i:=by
 rw[qrd];split
 .exact⟨qan h,Z⟩
 .split
  .exact⟨qan h,qan h⟩
  .exact⟨Z,Z⟩
theorem qub:∀(m i:Nat),(tk bs rs ts Zq ac m).1 i=Zq i\/nmR ((tk bs rs ts Zq ac m).1 i)=nmR (Zq i)++[ac.1]
 |0,i=>.inl rfl
 |m+1,i=>by
  by_cases c:i=m
  .subst c;have a:=qka (bs:=bs) (rs:=rs) (ts:=ts) (Zq:=Zq) (ac:=ac) (Am i);rw[qrd];split
   .rename_i c;show put _ i _ i=_\/nmR (put _ i _ i)=_;rw[put_at];have:=feelL_nm (bs:=bs) (rs:=rs) (ts:=ts) (ac:=ac) (Zq:=(tk bs rs ts Zq ac i).1) (i:=i) (qmb c);rw[a]at this;exact this
   .split
    .refine .inr ?_;show nmR (put _ i _ i)=_;rw[put_at,qiw,a];rfl
    .exact .inl a
  .rw[(qfu c).1];exact qub m i
def qss (ts:Nat->TD)(C:Nat->Prop):Prop:=∀i b,C i->(ts i).base=some b->C b
def EqC (C:Nat->Prop)(Zq Z':ZZ):Prop:=∀i,C i->Zq i=Z' i
theorem qst {C:Nat->Prop}(a:qss ts C)(e:EqC C Zq Z'):∀(m i:Nat)(st:RS),C i->stF bs rs ts Zq m i st=stF bs rs ts Z' m i st
 |0,_,_,_=>rfl
 |m+1,i,st,hi=>by
  unfold stF;cases d:(ts i).base with
  |none=>cases st.bv <;>rfl
  |some b =>
   have c:=a i b hi d;cases st.bv <;>try rfl
   rename_i k;show lsC bs rs (ts b).rd ((Zq b).getD k.toNat dRS) (stF bs rs ts Zq m b ((Zq b).getD k.toNat dRS))=lsC bs rs (ts b).rd ((Z' b).getD k.toNat dRS) (stF bs rs ts Z' m b ((Z' b).getD k.toNat dRS));rw[e b c,qst a e m b _ c]
theorem tk_eq {C:Nat->Prop}(f:qss ts C)(e:EqC C Zq Z'):∀m,EqC C (tk bs rs ts Zq ac m).1 (tk bs rs ts Z' ac m).1/\∀i,C i->(tk bs rs ts Zq ac m).2 i=(tk bs rs ts Z' ac m).2 i
 |0=>⟨e,λ_ _=>rfl⟩
 |m+1=>by
  obtain⟨g,j⟩:=tk_eq f e m;have k:C m->(tk bs rs ts Zq ac (m+1)).1 m=(tk bs rs ts Z' ac (m+1)).1 m/\(tk bs rs ts Zq ac (m+1)).2 m=(tk bs rs ts Z' ac (m+1)).2 m:=λa=>by
   have l:=g m a;have p:qdu bs rs ts (tk bs rs ts Zq ac m).1 m ac=qdu bs rs ts (tk bs rs ts Z' ac m).1 m ac:=by unfold qdu;rw[l,qst f g 3 m _ a]
   have q:opT (ts m) ac.2.1 (tk bs rs ts Zq ac m).2=opT (ts m) ac.2.1 (tk bs rs ts Z' ac m).2:=by
    unfold opT fB;cases h:(ts m).base with|none=>rfl|some b=>dsimp only;rw[j b (f m b a h)]
   have o:qg8 (ts m) ac (tk bs rs ts Zq ac m).2 (tk bs rs ts Zq ac m).1=qg8 (ts m) ac (tk bs rs ts Z' ac m).2 (tk bs rs ts Z' ac m).1:=by
    unfold qg8;cases h:(ts m).base with|none=>rfl|some b=>dsimp only;rw[j b (f m b a h),g b (f m b a h)]
   rw[qrd,qrd (Zq:=Z'),l,p,q,o];have n:=j m a;split
   .exact⟨put_at.trans put_at.symm,n⟩
   .split
    .exact⟨put_at.trans put_at.symm,put_at.trans put_at.symm⟩
    .exact⟨l,n⟩
  refine⟨λi d=>?_,λi d=>?_⟩
  .by_cases c:i=m
   .subst c;exact(k d).1
   .rw[(qfu c).1,(qfu c).1];exact g i d
  .by_cases c:i=m
   .subst c;exact(k d).2
   .rw[(qfu c).2,(qfu c).2];exact j i d
def feel_no {rd:RD}{st:RS}{s r:Option Int}{n k:Str}{d:Int}(h:qa3 rd k=Aa ""):(qbo rd st s r n d k).1=st:=by unfold qbo;rw[if_pos (.inl h)]
theorem qpl {C:Nat->Prop}(e:qss ts C)(d:∀i,C i->qa3 (ts i).rd ac.2.1=Aa "" /\ (ts i).opens≠some ac.2.1):∀m i,C i->(tk bs rs ts Zq ac m).1 i=Zq i/\(tk bs rs ts Zq ac m).2 i=false
 |0,_,_=>⟨Z,Z⟩
 |m+1,i,hi=>by
  by_cases c:i=m
  .subst c;have a:=λb f=>qpl e d i b f;have g:=(a i hi).1;rw[qrd];split
   .rename_i c;refine⟨?_,(a i hi).2⟩;show put _ i _ i=_;rw[put_at];unfold qdu;rw[feel_no (d i hi).1,qsr (qmb c),g]
   .rw[if_neg]
    .exact a i hi
    .unfold opT;rw[decide_eq_false (d i hi).2];cases f:(ts i).base with|none=>simp[fB]|some b=>simp[fB,(a b (e i b hi f)).2]
  .rw[(qfu c).1,(qfu c).2];exact qpl e d m i hi
def fdH (bs:List Bool)(rs:List Rw)(ts:Nat->TD)(n:Nat)(Zq:ZZ)(L:List Act):ZZ:=L.foldl (λZq ac=>(tk bs rs ts Zq ac n).1) Zq
def qgt {L:List Act}:fdH bs rs ts n Zq (ac::L)=fdH bs rs ts n (tk bs rs ts Zq ac n).1 L:=rfl
def fdH_app {L M:List Act}:fdH bs rs ts n Zq (L++M)=fdH bs rs ts n (fdH bs rs ts n Zq L) M:=Ct
theorem qkz {C:Nat->Prop}(c:qss ts C)(f:Act->Bool):∀(L:List Act)(Zq Z':ZZ),EqC C Zq Z'->(∀P ac R,L=P++ac::R->f ac=false->EqC C (tk bs rs ts (fdH bs rs ts n Zq P) ac n).1 (fdH bs rs ts n Zq P))->EqC C (fdH bs rs ts n Zq L) (fdH bs rs ts n Z' (L.filter f))
 | [],_,_,e,_=>e
 |ac::L,Zq,Z',e,h=>by
  have g:∀P a R,L=P++a::R->f a=false->EqC C (tk bs rs ts (fdH bs rs ts n (tk bs rs ts Zq ac n).1 P) a n).1 (fdH bs rs ts n (tk bs rs ts Zq ac n).1 P):=λP a R j b=>h (ac::P) a R (by rw[j];rfl) b;rw[qgt];cases b:f ac with|true =>rw[Bx b,qgt];exact qkz c f L _ _ (tk_eq c e n).1 g|false =>rw[Bw (by rw[b];decide)];refine qkz c f L _ _ (λi d=>?_) g;exact(h [] ac L Z b i d).trans (e i d)
theorem quc {x:Str}{i:Nat}:∀(L:List Act)(Zq:ZZ),x∈nmR (Zq i)->x∈nmR (fdH bs rs ts n Zq L i)
 | [],_,h=>h
 |ac::L,Zq,h=>by
  rw[qgt];refine quc L _ ?_;rcases qub (bs:=bs) (rs:=rs) (ts:=ts) (Zq:=Zq) (ac:=ac) n i with e|e
  .rw[e];exact h
  .rw[e];exact Bl _ h
def nm_idle {L P R:List Act}{i:Nat}(a:L=P++ac::R)(h:ac.1∉nmR (fdH bs rs ts n Zq L i)):(tk bs rs ts (fdH bs rs ts n Zq P) ac n).1 i=fdH bs rs ts n Zq P i:=by
 rcases qub (bs:=bs) (rs:=rs) (ts:=ts) (Zq:=fdH bs rs ts n Zq P) (ac:=ac) n i with e|e
 .exact e
 .refine absurd ?_ h;rw[a,fdH_app,qgt];refine quc R _ ?_;rw[e];exact A1 _ Al
theorem nm_nd {i:Nat}:∀(L:List Act)(Zq:ZZ),(nmR (Zq i)++L.map (·.1)).Nodup->(nmR (fdH bs rs ts n Zq L i)).Nodup/\∀x∈nmR (fdH bs rs ts n Zq L i),x∈nmR (Zq i)++L.map (·.1)
 | [],Zq,h=>by rw[List.map_nil,Br]at h |-;exact⟨h,λx a=>a⟩
 |ac::L,Zq,h=>by
  rw[qgt];rw[Ba]at h |-;have d:nmR ((tk bs rs ts Zq ac n).1 i)++L.map (·.1)=nmR (Zq i)++L.map (·.1)\/nmR ((tk bs rs ts Zq ac n).1 i)++L.map (·.1)=nmR (Zq i)++ac.1::L.map (·.1):=by
   rcases qub (bs:=bs) (rs:=rs) (ts:=ts) (Zq:=Zq) (ac:=ac) n i with e|e
   .exact .inl (by rw[e])
   .exact .inr (by rw[e,List.append_assoc];rfl)
  have f:(nmR (Zq i)++L.map (·.1)).Sublist (nmR (Zq i)++ac.1::L.map (·.1)):=List.Sublist.append_left (List.sublist_cons_self _ _) _;rcases d with e|e
  .obtain⟨b,c⟩:=nm_nd L (tk bs rs ts Zq ac n).1 (by rw[e];exact h.sublist f);exact⟨b,λx a=>f.subset (by rw[<- e];exact c x a)⟩
  .obtain⟨b,c⟩:=nm_nd L (tk bs rs ts Zq ac n).1 (by rw[e];exact h);exact⟨b,λx a=>by rw[<- e];exact c x a⟩
def qvv {t:TD}{k:Str}(h:k∉qbx t):qa3 t.rd k=Aa "" /\ t.opens≠some k:=by
 unfold qbx at h;rw[Av,Av,Aq,Av,Av]at h;have c:k≠t.rd.owes:=λz=>h (.inl (.inl z));have g:k∉t.rd.ends:=λz=>h (.inl (.inr (.inl (.inl z))));have d:k∉t.rd.anew:=λz=>h (.inl (.inr (.inl (.inr z))));have f:k∉t.rd.longer.map (·.1):=λz=>h (.inl (.inr (.inr z)));have b:k∉t.opens.toList:=λz=>h (.inr (.inl z));have a:k∉(match t.rd.still with|some s=>[s.1,s.2] | none=>([]:List Str)):=λz=>h (.inr (.inr z));refine⟨?_,λz=>b (by rw[z];simp)⟩;unfold qa3;rw[if_neg (λz=>z.elim c λq=>g (Bo.mp q)),if_neg (λq=>d (Bo.mp q)),if_neg (λq=>f (Bo.mp q))];unfold qpa;cases e:t.rd.still with|none=>rfl|some s =>rw[e]at a;simp at a;dsimp only;rw[if_neg (λz=>a.1 z),if_neg (λz=>a.2 z)]
end
def dk_acci {bs:List Bool}{rs:List Rw}{ts:Nat->TD}{Zq Z':ZZ}{i:Nat}{H:Hp}{l b:Addr}{y p n k c d:Nat->Addr}(f:Zq i=Z' i)(o:∀st,stF bs rs ts Zq 3 i st=stF bs rs ts Z' 3 i st)(h:AccI bs rs ts Zq i H l y p n)(h':AccI bs rs ts Z' i H b k c d):DkV 4 H (.ref l) (.ref b):=by
 have g:AccI bs rs ts Zq i H b k c d:=⟨by rw[f];exact h'.1,λj a=>by rw[o,f];exact h'.2 j (by rw[<- f];exact a)⟩;refine .inr ⟨l,b,_,_,Z,Z,.inl ⟨h.1,g.1⟩,by rw[Ab,Ab],λj x y e m=>?_⟩;have a:j<(Zq i).length:=by have:=(Ac.mp e).1;rw[Ab,Aw]at this;exact this
 rw[Ai,Bb a]at e m;cases e;cases m;exact dk_acc (h.2 j a) (g.2 j a)
def AccI.kp {bs:List Bool}{rs:List Rw}{ts:Nat->TD}{Zq:ZZ}{i:Nat}{H H':Hp}{l:Addr}{y f d:Nat->Addr}(h:AccI bs rs ts Zq i H l y f d)(k:∀b o,((∃u,o=.lst u) \/ ∃t,o=.tup t)->H b=some o->H' b=some o):AccI bs rs ts Zq i H' l y f d:=by have c:∀b u,H b=some (.lst u)->H' b=some (.lst u):=λb u e=>k b _ (.inl ⟨u,Z⟩) e;have a:∀b u,H b=some (.tup u)->H' b=some (.tup u):=λb u e=>k b _ (.inr ⟨u,Z⟩) e;refine⟨c _ _ h.1,λj n=>?_⟩;obtain⟨m,⟨s,r,q⟩,⟨v,p,g⟩⟩:=h.2 j n;exact⟨a _ _ m,⟨s,c _ _ r,qb1 q a⟩,⟨v,c _ _ p,qb1 g a⟩⟩
theorem qpm {Zq:ZZ}{n:Nat}(hz:∀i<n,(nmR (Zq i)).length<=20):∀(l:List Nat),(∀i∈l,i<n)->(l.flatMap λi=>nmR (Zq i)).length<=20*l.length
 | [],_=>Am _
 |i::l,h=>by have:=qpm hz l λj a=>h j (Az _ a);have:=hz i (h i Al);rw[List.flatMap_cons,Af,AD];lia
def nmR_take {l:List RS}{j:Nat}(a:j<l.length):nmR (l.take (j+1))=nmR (l.take j)++(l.getD j dRS).rows.map (·.1):=by rw[B1,Ad a,qiw,Aj,Ad a];show _++nmR [l[j]]=_;rw[qpk];rfl
def nmR_le {l:List RS}{j:Nat}:(nmR (l.take j)).length<=(nmR l).length:=by
 conv=>rhs;rw[<- CF j l,qiw,Af]
 lia
def qrh {l:List Str}(h:l.Nodup):(Sts.onceL l).length=l.length:=((List.perm_ext_iff_of_nodup (Sts.onceL_nd l) h).mpr λz=>Sts.onceL_mem l z).length_eq
theorem qri {a:Adr}{H:Hp}{names:List Str}(p:V->Bool)(f:TD->Bool):∀{us:List V}{Ts:List TD},RsL a H us Ts names->(∀(j:Nat)(t:TD)(v:V),Ts[j]?=some t->us[j]?=some v->p v=f t)->RsL a H (us.filter p) (Ts.filter f) names
 | [],[],h,_=>h
 | [],t::Ts,h,_=>by have:=h.1;cases this
 |v::us,[],h,_=>by have:=h.1;cases this
 |v::us,t::Ts,h,e=>by
  have d:=qri p f (us:=us) (Ts:=Ts) ⟨Nat.succ.inj h.1,λj t' b=>h.2 (j+1) t' b⟩ λj t' k l o=>e (j+1) t' k l o;have g:=e 0 t v rfl rfl;cases c:p v with
  |false =>rw[Bw (by rw[c];decide),Bw (by rw[<- g,c];decide)];exact d
  |true =>
   rw[Bx c,Bx (by rw[<- g,c])];obtain⟨n,i,m⟩:=h.2 0 t rfl;cases i;refine⟨congrArg Nat.succ d.1,λj t' b=>?_⟩;cases j with|zero=>cases b;exact⟨n,Z,m⟩|succ j=>exact d.2 j t' b
def qud {H H':Hp}{d:Addr}{kvs:List (Key×V)}(s:Same H H')(h:Rd H d (.dK kvs)):Rd H' d (.dK kvs):=by
 rcases h with h|⟨o,h⟩
 .exact .inl (s _ _ h)
 .exact .inr ⟨o,s _ _ h⟩
def que {bs:List Bool}{rs:List Rw}{ts:Nat->TD}{n:Nat}{L:List Act}:qb5 bs rs ts n L=fdH bs rs ts n (λ_=>[]) L:=rfl
section
variable {bs:List Bool}{rs:List Rw}{ts:Nat->TD}{n:Nat}{C:Nat->Prop}{acts due a2:List Act}
def qoa (d:qss ts C)(k:due.Perm acts)(h:qiu due)(nd:(acts.map (·.1)).Nodup)(f:Act->Bool)(j:∀t,f t=false->∀i,C i->t.1∉nmR (qb5 bs rs ts n due i))(a:a2.Perm (acts.filter f))(g:qiu a2):EqC C (qb5 bs rs ts n due) (qb5 bs rs ts n a2):=by
 have e:a2=due.filter f:=by refine qmg (a.trans (k.symm.filter f)) ?_ g (h.sublist List.filter_sublist);rw[(a.map (·.1)).nodup_iff];exact nd.sublist (List.filter_sublist.map _)
 rw[e,que,que];refine qkz d f due _ _ (λ_ _=>rfl) λP ac R l b i c=>?_;exact nm_idle l (j ac b i c)
def qvw (o:qss ts C)(x:due.Perm acts)(A:qiu due)(nd:(acts.map (·.1)).Nodup){m:Act}(g:∀t∈acts,t.1≠m.1)(v:∀i,C i->m.2.1∉qbx (ts i))(j:a2.Perm (acts++[m]))(u:qiu a2):EqC C (qb5 bs rs ts n due) (qb5 bs rs ts n a2):=by
 have e:due=a2.filter λt=>decide (t.1≠m.1):=by
  refine(qmg ?_ ?_ (u.sublist List.filter_sublist) A).symm
  .refine(j.filter _).trans ?_;rw[Cc,List.filter_eq_self.mpr (λt f=>decide_eq_true (g t f)),Bw (by simp),List.filter_nil,Br];exact x.symm
  .have p:((acts++[m]).map (·.1)).Nodup:=by
    rw[Ax]
    refine List.nodup_append.mpr ⟨nd,by simp,λa r b k z=>?_⟩
    obtain⟨t,f,rfl⟩:=AS.mp r
    simp at k
    exact g t f (z.trans k)
   have:=(j.map (·.1)).nodup_iff.mpr p
   exact this.sublist (List.filter_sublist.map _)
 have d:EqC C (fdH bs rs ts n (λ_=>[]) a2) (fdH bs rs ts n (λ_=>[]) (a2.filter λt=>decide (t.1≠m.1))):=by
  refine qkz o _ a2 _ _ (λ_ _=>rfl) λP ac R w l i c=>?_;have s:ac=m:=by
   have q:ac.1=m.1:=by simpa using l
   have y:ac∈acts++[m]:=j.mem_iff.mp (by rw[w];simp);rcases Av.mp y with h|h
   .exact absurd q (g ac h)
   .exact Ah.mp h
  subst s;exact(qpl o (λi c=>qvv (v i c)) n i c).1
 rw[<- e]at d;intro i c;exact(d i c).symm
end
noncomputable def pA (J:Hp)(g:Act->Bool):V->Bool
 |.ref b=>match J b with
  |some (.tup [.str x,.str k,.int d])=>g (x,k,d)
  |_=>false
 |_=>false
def quf {J:Hp}{g:Act->Bool}{b:Addr}{t:Act}(e:J b=some (.tup (qb4 t))):pA J g (.ref b)=g t:=by show (match J b with|some (.tup [.str x,.str k,.int d])=>g (x,k,d)|_=>false)=_;rw[e];rfl
theorem qjy {J:Hp}{g:Act->Bool}{us:List V}{a:List Act}(t:Tups J us (a.map qb4)):Tups J (us.filter (pA J g)) ((a.filter g).map qb4):=by
 induction a generalizing us with
 |nil=>cases t;exact .nil
 |cons x a ih =>
  rw[Ba]at t;cases t with
  |cons h t' =>
   have e:=quf (g:=g) h;cases b:g x with|true =>rw[Bx (by rw[e,b]),Bx b,Ba];exact .cons h (ih t')|false =>rw[Bw (by rw[e,b];decide),Bw (by rw[b];decide)];exact ih t'
def qix {J:Hp}{us:List V}{a:List Act}(t:Tups J us (a.map qb4)){v:V}(f:v∈us):∃(b:Addr)(x:Act),v=.ref b/\x∈a/\J b=some (.tup (qb4 x)):=by
 obtain⟨j,d⟩:=Bc f;obtain⟨b,r,rfl,c,e⟩:=t.get' d;rw[Ai]at c;cases ex:a[j]? with|none=>rw[ex]at c;cases c|some x=>rw[ex]at c;cases c;exact⟨b,x,Z,A0 ex,e⟩
theorem rsl_T {a:Adr}{H H':Hp}{us:List V}{Ts:List TD}{names:List Str}(k:KpT H H')(h:RsL a H us Ts names):RsL a H' us Ts names:=⟨h.1,λj t e=>by
 obtain⟨v,d,y,x,r,pl,w,s,m,f,p,c,u,o,g,n⟩:=h.2 j t e;refine⟨v,d,y,x,r,pl,w,s,m,f,k _ _ (λ_ z=>nomatch z) p,?_,k.l u,k.l o,k.l g,qh0 k n⟩;cases e:t.rd.still with
 |none=>rw[e]at c;exact c
 |some z=>rw[e]at c;obtain⟨b,i,q⟩:=c;exact⟨b,i,k _ _ (λ_ z=>nomatch z) q⟩⟩
section
variable {names:List Str}{T:Nat->TD}{rv:Bool}{n:Nat}
theorem encN_F (d:∀k<n,TdOk names (T k) k){j:Nat}(a:j<n):qjv (nmF names rv n) (bo (bsF T rv n) j)=bvN names (T (fR rv n j)).base:=by
 rw[qpj a];cases e:(T (fR rv n j)).base with
 |none=>rfl
 |some c =>
  have:=(d _ (qci a)).ba c e;have f1:=qci (rv:=rv) a;have b:c<n:=by lia
  show V.str (nm (nmF names rv n) (fR rv n c))=_;rw[qh1 (qci b),qn9 b];rfl
def link_F (b:∀k<n,TdOk names (T k) k)(m:n<=4)(o:names.length=26)(nd:names.Nodup){l:List Nat}(a:GoodI (bsF T rv n) n l)(g:l.length=n):∀i<n,∃j,j<n/\l[i]?=some j/\(tsF T rv n l i).name=nm (nmF names rv n) j/\baV (tsF T rv n l) (tsF T rv n l i).base=qjv (nmF names rv n) (bo (bsF T rv n) j)/\qbx (tsF T rv n l i)=qbx (T (fR rv n j)):=λi d=>by
 obtain⟨t1,h⟩:=ts_F (rv:=rv) b m o nd a g;have e:l[i]?=some (l.getD i 0):=by rw[Aj,Ad (by lia)];rfl
 have lt:=a.lt _ (A0 e);obtain⟨c,f⟩:=h i d;exact⟨l.getD i 0,lt,e,by rw[c,qh1 lt],by rw[f,encN_F b lt],Z⟩
end
def chain_cl {ts:Nat->TD}{n:Nat}{nms:List Str}{bs:List (Option Nat)}{m:Nat->Nat}{ks:List Nat}(r:TsOk n ts)(t:WdN nms bs m)(en:nms.length=n)(o:∀i<n,∃j,j<n/\(ts i).name=nm nms j/\baV ts (ts i).base=qjv nms (bo bs j))(d:∀k∈ks,k<nms.length/\∀b,bo bs k=some b->b∈ks):qss ts λi=>i<n/\(ts i).name∈ks.map (nm nms):=λi b ⟨g,l⟩ f=>by
 obtain⟨j,hj,p,a⟩:=o i g;have hb':=r.ba i g b f;rw[p]at l;have s:=qy4 t (λk h=>(d k h).1) (by lia) l;rw[f]at a;cases e:bo bs j with|none=>rw[e]at a;cases a|some c =>rw[e]at a;have q:(ts b).name=nm nms c:=V.str.inj a;exact⟨by lia,by rw[q];exact List.mem_map_of_mem ((d j s).2 c e)⟩
def wds_nd12 {c:Int}:(wds c 12).Nodup:=by unfold wds;rw[BD,Cj,AZ];intro i j a b hij e;rw[Aw]at a b;rw[CD,CD]at e;have:=qyi (by lia) (by lia) e;lia
def start19 {vs:List Str}{v:V}(h:vs.length=19):L2.start vs [v]=[some v,none,none,none,none,none,none,none,none,none,none,none,none,none,none,none,none,none,none]:=by unfold L2.start;rw[h];rfl
def eqA_nm {t x:Act}(h:qfz (qb4 t) (qb4 x)=true):t.1=x.1:=by have a:(eqV (.str t.1) (.str x.1) && qfz [.str t.2.1,.int t.2.2] [.str x.2.1,.int x.2.2])=true:=h;have b:=(Bool.and_eq_true_iff.mp a).1;exact eq_of_beq b
def TryOk (bs:List Bool)(rs:List Rw)(ts:Nat->TD)(n:Nat)(Zq:ZZ)(C:Nat->Prop)(ptr:Addr)(J:Hp)(v:V):Prop:=∃(po:Addr)(uo:List V)(ao:List Act),v=.ref po/\po≠ptr/\J po=some (.lst uo)/\Tups J uo (ao.map qb4)/\ao.length<=20/\(∀t∈ao,0<=t.2.2)/\∀a2:List Act,a2.Perm ao->qiu a2->EqC C Zq (qb5 bs rs ts n a2)
def TryOk.kp {bs:List Bool}{rs:List Rw}{ts:Nat->TD}{n:Nat}{Zq:ZZ}{C:Nat->Prop}{a:Addr}{J J':Hp}{v:V}(h:TryOk bs rs ts n Zq C a J v){i:List V}(p:J a=some (.lst i))(k:∀b o,((∃u,o=.lst u) \/ ∃t,o=.tup t)->b≠a->J b=some o->J' b=some o):TryOk bs rs ts n Zq C a J' v:=by obtain⟨g,j,q,f,c,m,l,d⟩:=h;exact⟨g,j,q,f,c,k _ _ (.inl ⟨_,Z⟩) c m,qb1 l (λb u e=>k b _ (.inr ⟨u,Z⟩) (λz=>by rw[z,p]at e;cases e) e),d⟩
def spCh56 (a:Adr):Sp:=λvs H Q _=>∃(pr:Addr)(us:List V)(nms:List Str)(bs:List (Option Nat))(rk:Nat->Nat)(i:Nat),vs=[.ref pr,.str (nm nms i)]/\H pr=some (.lst us)/\qn7 a.kE H us nms bs/\WdN nms bs rk/\i<nms.length /\
 ∀(q:Addr)(H':Hp)(ks:List Nat),H q=none->Same H H'->H' q=some (.lst ((ks.map (nm nms)).map V.str))->ks.length<=7->i∈ks->(∀k∈ks,k<nms.length/\∀b,bo bs k=some b->b∈ks)->Q (.ref q) H'
def ToldR (bs:List Bool)(rs:List Rw)(ts:Nat->TD)(Zq:ZZ)(n:Nat)(H:Hp)(d:Addr)(q:Nat->Addr)(y p4 p6:Nat->Nat->Addr):Prop:=Rd H d (.dK (kvR n ts q))/\∀i<n,AccI bs rs ts Zq i H (q i) (y i) (p4 i) (p6 i)
def spNa56:Sp:=λvs H Q _=>∃(d pc:Addr)(bs:List Bool)(rs:List Rw)(ts:Nat->TD)(Zq:ZZ)(n:Nat)(q:Nat->Addr)(y p4 p6:Nat->Nat->Addr)(is:List Nat),vs=[.ref d,.ref pc]/\ToldR bs rs ts Zq n H d q y p4 p6/\TsOk n ts/\H pc=some (.lst ((is.map λi=>(ts i).name).map V.str))/\(∀i∈is,i<n)/\is.length<=7/\(∀i<n,(nmR (Zq i)).length<=20) /\
 ∀(q':Addr)(H':Hp),H q'=none->Same H H'->H' q'=some (.lst ((is.flatMap λi=>nmR (Zq i)).map V.str))->Q (.ref q') H'
def spAl56:Sp:=λvs H Q _=>∃(d:Addr)(bs:List Bool)(rs:List Rw)(ts:Nat->TD)(Zq:ZZ)(n:Nat)(q:Nat->Addr)(y p4 p6:Nat->Nat->Addr),vs=[.ref d]/\ToldAt bs rs ts Zq n H d q y p4 p6/\TsOk n ts/\(∀i<n,(nmR (Zq i)).Nodup/\(nmR (Zq i)).length<=20)/\∀H',Same H H'->Q (.bl true) H'
def spSt56 (a:Adr):Sp:=λvs H Q _=>∃(pr pc pk:Addr)(us:List V)(Ts:List TD)(names chn kinds:List Str),vs=[.ref pr,.ref pc,.ref pk]/\H pr=some (.lst us)/\RsL a H us Ts names/\Ts.length<=4/\(∀t∈Ts,t.rd.ends.length<=2/\t.rd.anew.length<=2/\t.rd.longer.length<=2)/\H pc=some (.lst (chn.map V.str))/\H pk=some (.lst (kinds.map V.str))/\kinds.length<=40 /\
 ∀(q:Addr)(H':Hp),H q=none->Same H H'->H' q=some (.lst ((kinds.filter λk=>!((Ts.filter λt=>decide (t.name∈chn)).flatMap qbx).contains k).map V.str))->Q (.ref q) H'
section
variable {P:AK}{w:World}{K:Ag}{mg:Str->Option Value}{base:Heap}{a:Adr}
set_option maxHeartbeats 4000000
theorem qeh (T:Txt K mg a):FnOk P w K mg base CX0 1 a.bJ a.mS ["self","table"] (spKInit a):=by
 refine T.fF.fn.ok qlv (λvs H Q E h=>?_) (λcdv A outer s H vs Q E hr h=>?_)
 .obtain⟨_,_,_,_,rfl,_⟩:=h
  all_goals rfl
 .obtain⟨i,x,dx,tb,rfl,d,k⟩:=h;refine⟨_,(qj (qaz (pv 0) (pv 1) Z)),?_⟩;cases i with|a=>exact(nmc Z (nmc Z ⟨_,_,_,_,Z,d,T.bH,qp T.yB Uk,Uk,k⟩))|b=>exact(nmc Z (nmc Z ⟨_,_,_,_,Z,d,T.bM,qp T.sZ Uk,Uk,k⟩))|c=>exact(nmc Z (nmc Z ⟨_,_,_,_,Z,d,T.gG,qp T.gZ Uk,Uk,k⟩))
theorem okKindOf (T:Txt K mg a):FnOk P w K mg base CX0 3 a.rC a.t9 ["unit","table"] (spKind a):=by
 refine T.dN.fn.ok qxj (λvs H Q E h=>?_) (λcdv A outer s H vs Q E e h=>?_)
 .obtain⟨_,_,rfl,_⟩:=h
  all_goals rfl
 .obtain⟨i,tb,rfl,k⟩:=h;refine⟨_,(qf (qz (qt qcm (pv 0) zf (qaf _)) (qj (qo (qek T.yK (qeh T) (e.mono Uk) Z T.zT T.fF.bd .nil qac (qd (pv 1) qg qe)))) qag)
   (qf (qz (qt qcm (pv 0) zf (qaf _)) (qj (qo (qek T.KA (qeh T) (e.mono Uk) Z T.K8 T.fF.bd .nil qac (qd (pv 1) qg qe)))) qag)
   (qj (qo (qek T.zP (qeh T) (e.mono Uk) Z T.yO T.fF.bd .nil qac (qd (pv 1) qg qe)))))),?_⟩
  cases i with|a=>exact(nmc Z ⟨Z,(nmc Z (qbh Ez (nmc Z ⟨Z,(nmc Z (qbh Ez (nmc Z (λx d nx nd f=>⟨.a,x,d,_,Z,qk,Z,k x d _ (ql6 nx nd) nx qk⟩))))⟩)))⟩)|b=>exact(nmc Z ⟨Z,(nmc Z (qcp Z (nmc Z (λx d nx nd f=>⟨.b,x,d,_,Z,qk,Z,k x d _ (ql6 nx nd) nx qk⟩))))⟩)|c=>exact(nmc Z ⟨Z,(nmc Z (qbh Ez (nmc Z ⟨Z,(nmc Z (qcp Z (nmc Z (λx d nx nd f=>⟨.c,x,d,_,Z,qk,Z,k x d _ (ql6 nx nd) nx qk⟩))))⟩)))⟩)
theorem qg5 (T:Txt K mg a):FnOk P w K mg base CX0 1 a.rJ a.mJ ["thing"] (sp1 λ_=>.bl true):=by
 refine T.kZ.fn.ok qvg (λvs H Q E h=>?_) (λcdv A outer s H vs Q E hr h=>?_)
 .obtain⟨_,rfl,_⟩:=h
  all_goals rfl
 .obtain⟨y,rfl,k⟩:=h;refine⟨_,(qj (qo (qhf (zc qia (by rfl) T.bY qcq (qd (pv 0) (qd (qkm (v:=.ty "int") Z T.yT qxh Z) qg qe) qe)) (qf2 (qv9 (zc qia (by rfl) T.bY qcq (qd (pv 0) (qd (qkm (v:=.ty "bool") Z T.zQ qvf Z) qg qe) qe))))))),?_⟩;exact(nmc Z ⟨_,_,_,_,Z,.int _,qp5,(nmc Z (qdm (nmc Z ⟨_,_,_,_,Z,.int _,qoo,(nmc Z k)⟩)))⟩)
theorem qhb (T:Txt K mg a):FnOk P w K mg base CX0 2 a.tE a.mQ ["first","last","most"] spStr:=by
 refine T.gL.fn.ok qm0 (λvs H Q E h=>?_) (λcdv A outer s H vs Q E b h=>?_)
 .obtain⟨_,_,_,rfl,_⟩:=h
  all_goals rfl
 .obtain⟨f,l,m,rfl,e,c,d,k⟩:=h;refine⟨_,(qf (qz (qdz (PW.pt (qdy (zd (zb (qg5 T) (b.mono Uk) Z T.kZ.mgx T.kZ.fn.kp T.kZ.bd .nil qac (qd (pv 0) qg qe))) (qdf (zd (zb (qg5 T) (b.mono Uk) Z T.kZ.mgx T.kZ.fn.kp T.kZ.bd .nil qac (qd (pv 1) qg qe))))))) (qj (qo qck)) qag)
   (qj (qo (qu2 qf4 qf4 qdl qi (pv 0) (pv 1) (qv qah (pv 0) (pv 2)))))),?_⟩
  refine(nmc Z (nmc Z (nmc Z (qdm (nmc Z (nmc Z (nmc Z (qce ?_))))))));refine(nmc Z (iic Z Z (nmc Z (qcp e (nmc Z (iic Z Z (nmc Z (qcp c (nmc Z (nmc Z (iic Z Z (iic Z Z ?_))))))))))));show Q (.bl (decide (l<f+m))) H;rw[decide_eq_true d];exact k
theorem qpn (T:Txt K mg a):FnOk P w K mg base CX0 1 a.pO a.tP ["stretches","day"] spPlace:=by
 refine T.gF.fn.ok qgy (λvs H Q E h=>?_) (λcdv A outer s H vs Q E hr h=>?_)
 .obtain⟨_,_,_,_,_,rfl,_⟩:=h
  all_goals rfl
 .obtain⟨p,us,ts,es,d,rfl,U,R,he,hl,W,k⟩:=h;refine⟨_,(qf (qu (i:=2) qgy.nd Z (Au Z) qi)
   (qf (qu (i:=3) qgy.nd Z (Au Z) (zc qbs (by rfl) T.kX qbv (qd (pv 0) qg qe)))
   (qf (qh4 A7 (qt qdl (pv 2) (pv 3) (qaf _)) (qf (qu (i:=4) qgy.nd Z (Au Z) (qv qav (qv qah (pv 2) (pv 3)) qi))
   (qj (qz (qt qdl (zo zp (zo zq (pv 0) (pv 4) (λ_ _=>rfl)) qi (λ_ _=>rfl)) (pv 1) (qaf _)) (qj (qu (i:=2) qgy.nd Z (Au Z) (qv qah (pv 4) qi))) (qj (qu (i:=3) qgy.nd Z (Au Z) (pv 4)))))))
   (qj (qo (pv 2)))))),?_⟩
  have I:=R.length.trans hl;refine(nmc Z ⟨_,_,Z,.inl ⟨_,SqL.of U,Z⟩,?_⟩);refine⟨λm σ' H'=>H'=H/\∃(lo b:Int)(v:Option V),σ'=[some (.ref p),some (.int d),some (.int lo),some (.int b),v]/\m=(b-lo).toNat/\0<=lo/\lo<=b/\b<=es.length/\(∀(i:Nat)(e:Int),es[i]?=some e->(i:Int)<lo->e<d)/\(∀(i:Nat)(e:Int),es[i]?=some e->b<=(i:Int)->¬e<d), 
   ⟨_,Z,0,(us.length:Int),none,Z,Z,Bp _,DY _,Eu (congrArg (λn:Nat=>(n:Int)) I),λi e _ z=>absurd z (B8.mpr (DY i)),λi e z c=>absurd (Dh.mp c) (Nat.not_le.mpr (I ▸ (Ac.mp z).1))⟩,?_⟩
  rintro m σ' H' ⟨rfl,lo,b,v,rfl,rfl,C,h1,G,S,O⟩;refine(nmc Z (nmc Z (iic Z Z (nmc Z ?_))));refine qb2 (λc=>?_) (λc=>?_)
  .have B:lo<b:=of_decide_eq_true c;refine⟨λσ2 N=>N=H'/\∃(g l:Int)(v:Option V),σ2=[some (.ref p),some (.int d),some (.int g),some (.int l),v]/\l-g<b-lo/\0<=g/\g<=l/\l<=es.length/\(∀(i:Nat)(e:Int),es[i]?=some e->(i:Int)<g->e<d)/\(∀(i:Nat)(e:Int),es[i]?=some e->l<=(i:Int)->¬e<d),?_,?_⟩
   .rintro σ2 N ⟨rfl,g,l,v2,rfl,X,g1,g2,g3,g4,g5⟩;exact⟨_,tn_lt X (Int.sub_pos.mpr B),Z,g,l,v2,Z,Z,g1,g2,g3,g4,g5⟩
   .refine(nmc Z (nmc Z (iic Z Z (icc Z Z ⟨Uk,Uk⟩ ?_))));obtain⟨j,M,J,D⟩:=mid C B;have r:j<es.length:=Dy.mp (Bh D G);have F:es[j]?=some (es[j]'r):=Ad _;obtain⟨t,t1,t2⟩:=he j _ F;obtain⟨a,Y,a2⟩:=R.get t1;dsimp only[];generalize (lo+b) / 2=mid at M |-;subst M;have L:∀{i:Nat}{e:Int},es[i]?=some e->(i<j->e<es[j]'r)/\(j<i->es[j]'r<e):=λ{i e} z=>by obtain⟨zi,ze⟩:=Ac.mp z;subst ze;exact⟨λq=>AZ.mp W i j _ _ q,λq=>AZ.mp W j i _ _ q⟩
    refine(nmc Z (nmc Z (lxo (U) ((qbj Y)) (txo (a2) t2 (nmc Z (iic Z Z (nmc Z ?_)))))));refine qb2 (λe=>?_) (λe=>?_)
    .have o:=of_decide_eq_true e;refine(nmc Z (iic Z Z ⟨Z,(j:Int)+1,b,_,Z,Int.sub_lt_sub_left (Int.lt_add_one_of_le J) b,DY (j+1),D,G,λi x f q=>?_,O⟩));by_cases z:i=j
     .subst z;rw[F]at f;cases f;exact o
     .exact CJ ((L f).1 (Nat.lt_of_le_of_ne (Dh.mp (DD q)) z)) o
    .have o:¬es[j]'r<d:=λz=>e (decide_eq_true z);refine(nmc Z ⟨Z,lo,(j:Int),_,Z,Int.sub_lt_sub_right D lo,C,J,Dh.mpr (BC r),S,λi x f q=>?_⟩);by_cases z:i=j
     .subst z;rw[F]at f;cases f;exact o
     .exact λy=>o (CJ ((L f).2 (Nat.lt_of_le_of_ne (Dh.mp q) (B4 z))) y)
  .have B:¬lo<b:=λz=>c (decide_eq_true z);have u:(lo.toNat:Int)=lo:=C2 C;have e:(cnt es d:Nat)=lo.toNat:=qr1 (Dh.mp (Bt (Eu u) (Bt h1 G))) (λi x f q=>S i x f (Bh (Dy.mpr q) (Eu u))) λi x f q=>O i x f (Bt (B8.mp B) (Bt (Eu u.symm) (Dh.mpr q)));refine(nmc Z ?_);show Q (.int lo) H';rw[<- u,<- e];exact k
theorem okJoined (T:Txt K mg a):FnOk P w K mg base CX0 1 a.rK a.rM ["laid"] spJoin:=by
 refine T.bZ.fn.ok qgk (λvs H Q E h=>?_) (λcdv A outer s H vs Q E hr h=>?_)
 .obtain⟨_,_,_,_,_,rfl,_⟩:=h
  all_goals rfl
 .obtain⟨W,dq,j,p,rs,rfl,inj,sc,⟨us,Y,X⟩,hl,k⟩:=h;refine⟨_,(qf (qu (i:=1) qgk.nd Z (Au Z) (zg qg))
   (qf (qa2 A7 Z (qap (pv 0)) (qeq Z (qar (qad (i:=2) qgk.nd Z (Au Z)) (qar (qad (i:=3) qgk.nd Z (Au Z)) (qar (qad (i:=4) qgk.nd Z (Au Z)) qdg)))) (qj (qz (PW.pt (qdy (qwc (pv 1) (λ_=>rfl)) (qdy (qt qcm (zo zp (zo zq (pv 1) (qf3 qd1 qi) (λ_ _=>rfl)) qi (λ_ _=>rfl)) (pv 4) (qaf _)) (qdf (qt qcm (qv qah (zo zp (zo zq (pv 1) (qf3 qd1 qi) (λ_ _=>rfl)) qi (λ_ _=>rfl)) qi) (pv 2) (qaf _)))))) (qj (ps_asg (zh (qd (zo zp (zo zq (pv 1) (qf3 qd1 qi) (λ_ _=>rfl)) qi (λ_ _=>rfl)) (qd (pv 3) (qd (pv 4) qg qe) qe) zm)) (pg_sub (pv 1) (qf3 qd1 qi) qwh))) (qj (qy (qca A3 AB AC qao (pv 1) (qd (zh (qd (pv 2) (qd (pv 3) (qd (pv 4) qg qe) qe) qe)) qg zn)))))))
   (qj (qo (pv 1))))),?_⟩
  refine⟨qfr,λq M=>?_⟩;have lu:=AtG.len X;refine(nmc Z ⟨_,Z,⟨_,SqL.of (qx M _ _ Y)⟩,qa5 (K:=K) (a:=p) (xs:=us) (λi σ H'=>Same H H'/\∃(q:Addr)(J I L:Option V),σ=[some (.ref p),some (.ref q),J,I,L]/\H q=none/\AtG j H' q (jn (rs.take i)))
   ⟨qx M,q,none,none,none,Z,M,[],qk,.nil⟩ (λi σ H' _ h=>SqL.of (h.1 _ _ Y)) ?_ ?_⟩)
  .rintro i x σ H' hx ⟨v,D,J,I,L,rfl,l,y,n,d⟩;obtain⟨a,t,rfl,h1,h2⟩:=X.get' hx;obtain⟨r,h3,rfl⟩:=qxl h1;have O:y.length<=1000:=A5 (Ci (AtG.len d)) (A5 (qxp (rs.take i)) (A5 (DH _ _) hl));refine⟨_,_,Z,SqT.of (v _ _ h2),Z,_,_,Z,_,_,Z,_,_,Z,Z,?_⟩;have js:rs.take (i+1)=rs.take i++[r]:=qcx h3;have u:=jn_snoc (rs.take i) r;rw[<- js]at u;apply use (p:=jn1 (jn (rs.take i)) r=jn (rs.take i)++[r])
   .intro m;rcases BJ (jn (rs.take i)) with e|⟨ts,t,e⟩
    .have N:y=[]:=DI (by rw[AtG.len d,e];rfl);refine(nmc Z ⟨false,.inl ⟨_,SqL.of n,by rw[N];rfl⟩,qce (qce ?_)⟩);exact m (by rw[e];rfl)
    .rw[BK]at e;rw[e]at d;obtain⟨S,b,N,hb⟩:∃(S:List V)(b:Addr),y=S++[.ref b]/\H' b=some (.tup (qo2 j t)):=by have G:=AtG.len d;rw[Af,AW]at G;obtain⟨b,U,R⟩:=AtG.row d (i:=ts.length) (r:=t) (by simp);refine⟨y.take ts.length,b,?_,R⟩;rw[<- qcx U,List.take_of_length_le (Ci G)]
     have c:=n;rw[N]at c d;refine(nmc Z ⟨true,.inl ⟨_,SqL.of c,by simp⟩,qdm (nmc Z (nmc Z (lxo (c) (qd2 _ _) (txo (hb) Z (nmc Z ⟨sc _ _,(nmc Z ?_)⟩)))))⟩);by_cases C:t.2.2=r.2.2
     .refine qcp (congrArg j C) (nmc Z (nmc Z (lxo (c) (qd2 _ _) (txo (hb) Z (iic Z Z (nmc Z ⟨Z,(nmc Z ?_)⟩))))));by_cases B:t.2.1+1=r.1
      .refine qcp (congrArg V.int B) (nmc Z (nmc Z (lxo (c) (qd2 _ _) (txo (hb) Z (nmc Z (nmc Z ⟨qki _ _ _,λq2 f=>(nmc Z (nmc Z ⟨_,_,_,_,Z,Z,qx f _ _ c,qtj _ _,?_⟩))⟩))))));have g:=qx (o:=.tup [V.int t.1,V.int r.2.1,j r.2.2]) f;rw[qxr];refine⟨qak (v.trans g) l,D,_,_,_,Z,l,_,qk,?_⟩;rw[u,e,qd6,if_pos ⟨C,B⟩,Ax];rw[Ax]at d;exact((d.same g).setLast (qk (o:=.tup (qo2 j (t.1,r.2.1,r.2.2))))).upd (g _ _ c)
      .refine qbh (λz=>B (V.int.inj z)) ?_;exact m (by rw[e,qd6,if_neg (λz=>B z.2)])
     .refine qbh (λz=>C (inj _ _ z)) (qce ?_);exact m (by rw[e,qd6,if_neg (λz=>C z.1)])
   .intro ej;refine(nmc Z ⟨.inl ⟨Z,_,SqL.of n⟩,(nmc Z (nmc Z (nmc Z ⟨qki _ _ _,λq2 f=>⟨_,_,_,Z,Z,qx f _ _ n,qbm (A5 O Uk),?_⟩⟩)))⟩);have g:=qx (o:=.tup [V.int r.1,V.int r.2.1,j r.2.2]) f;refine⟨qak (v.trans g) l,D,_,_,_,Z,l,_,qk,?_⟩;rw[u,ej,Ax];exact((d.same g).snoc (qk (o:=.tup (qo2 j r)))).upd (g _ _ n)
  .rintro σ H' ⟨v,D,J,I,L,rfl,l,F⟩;rw[lu,Bq]at F;exact(nmc Z (k D H' l v F))
theorem qsu (T:Txt K mg a):FnOk P w K mg base CX0 2 a.tZ a.tL ["laid","first","last","word"] spOver:=by
 refine T.bS.fn.ok qeb (λvs H Q E h=>?_) (λcdv A outer s H vs Q E hr h=>?_)
 .obtain⟨_,_,_,_,_,rfl,_⟩:=h
  all_goals rfl
 .obtain⟨p,rs,f,l,j,rfl,⟨us,c,I⟩,ad,hfl,hl,k⟩:=h;refine⟨_,(qf (qu (i:=4) qeb.nd Z (Au Z) (zb (qpn T) (hr.mono Uk) Z T.gF.mgx T.gF.fn.kp T.gF.bd .nil qac (qd (pv 0) (qd (pv 1) qg qe) qe)))
   (qf (qu (i:=5) qeb.nd Z (Au Z) (zb (qpn T) (hr.mono Uk) Z T.gF.mgx T.gF.fn.kp T.gF.bd .nil qac (qd (pv 0) (qd (qv qah (pv 2) qi) qg zl) qe)))
   (qf (qu (i:=6) qeb.nd Z (Au Z) (qk5 qol (pv 0) qoh (qoi (pv 4))))
   (qf (qz (PW.pt (qdy (qt qdl (pv 4) (zc qbs (by rfl) T.kX qbv (qd (pv 0) qg qe)) (qaf _)) (qdf (qt qdl (zo zp (zo zq (pv 0) (pv 4) (λ_ _=>rfl)) qi (λ_ _=>rfl)) (pv 1) (qaf _))))) (qj (qy (qca A3 AB AC qao (pv 6) (qd (zh (qd (zo zp (zo zq (pv 0) (pv 4) (λ_ _=>rfl)) qi (λ_ _=>rfl)) (qd (qv qbr (pv 1) qi) (qd (zo zp (zo zq (pv 0) (pv 4) (λ_ _=>rfl)) qi (λ_ _=>rfl)) qg zm) zl) zm)) qg zn)))) qag)
   (qf (qy (qca A3 AB AC qao (pv 6) (qd (zh (qd (pv 1) (qd (pv 2) (qd (pv 3) qg qe) qe) qe)) qg zn)))
   (qf (qz (PW.pt (qdy (qt qdl (pv 5) (zc qbs (by rfl) T.kX qbv (qd (pv 0) qg qe)) (qaf _)) (qdf (qt qf4 (zo zp (zo zq (pv 0) (pv 5) (λ_ _=>rfl)) qi (λ_ _=>rfl)) (pv 2) (qaf _))))) (qf (qy (qca A3 AB AC qao (pv 6) (qd (zh (qd (qv qah (pv 2) qi) (qd (zo zp (zo zq (pv 0) (pv 5) (λ_ _=>rfl)) qi (λ_ _=>rfl)) (qd (zo zp (zo zq (pv 0) (pv 5) (λ_ _=>rfl)) qi (λ_ _=>rfl)) qg zm) zm) zl)) qg zn)))
   (qj (qk1 (i:=5) qeb.nd Z (Au Z) qi qrr))) qag)
   (qj (qo (qv qk7 (pv 6) (qk5 qol (pv 0) (qoi (pv 5)) qoh)))))))))),?_⟩
  have x:=At.len I;have up:=qtb ad;have el:(rs.map enc).length=(ends rs).length:=by rw[Ab,Ab]
  refine(nmc Z (nmc Z ⟨_,_,_,_,_,Z,c,I,λi e h=>ql2 h,el,up,?_⟩));refine(nmc Z (nmc Z (iic Z Z ⟨_,_,_,_,_,Z,c,I,λi e h=>ql2 h,el,up,?_⟩)));have hb:=qop (ends rs) f;rw[Ab]at hb;refine(nmc Z (nmc Z ⟨_,Z,_,_,Z,SqL.of c,λq hq=>?_⟩));rw[qqw us (cnt (ends rs) f) (x ▸ hb)];have b:=qx (o:=.lst (us.take (cnt (ends rs) f))) hq;have Y:=qjb f ad;have v:(us.take (cnt (ends rs) f)).length<=1000:=A5 (DH _ _) (x ▸ hl);have U:Tups (upd H q (.lst (us.take (cnt (ends rs) f)))) (us.take (cnt (ends rs) f)) ((rs.take (cnt (ends rs) f)).map enc):=by rw[List.map_take];exact(I.same b).take _
  have B:=qk (H:=H) (a:=q) (o:=.lst (us.take (cnt (ends rs) f)));generalize upd H q (.lst (us.take (cnt (ends rs) f)))=H0 at b U B |-;generalize us.take (cnt (ends rs) f)=u0 at U B v;apply useH (p:=λ(n:Hp)=>Same H n/\∃g:List V,n q=some (.lst g)/\Tups n g ((left rs f).map enc)/\g.length<=1200)
  .intro G;refine(nmc Z (nmc Z ⟨_,_,Z,.inl ⟨_,SqL.of (b _ _ c),Z⟩,(iic Z Z (nmc Z ?_))⟩));by_cases cb:cnt (ends rs) f<rs.length
   .obtain⟨r1,hr1⟩:∃r1,rs[cnt (ends rs) f]?=some r1:=⟨_,Ad cb⟩;obtain⟨a1,ae,M⟩:=At.row I hr1;rw[hr1]at Y;refine qcp (lenI x cb) (nmc Z (nmc Z (lxo (b _ _ c) (qbj ae) (txo (b _ _ M) Z (nmc Z (iic Z Z (nmc Z ?_)))))));by_cases cf:r1.1<f
    .refine qcp cf (nmc Z ⟨.inl ⟨Z,_,SqL.of B⟩,(nmc Z (nmc Z (lxo (b _ _ c) (qbj ae) (txo (b _ _ M) Z (nmc Z (iic Z Z (nmc Z (nmc Z (lxo (b _ _ c) (qbj ae) (txo (b _ _ M) Z ⟨qki _ _ _,λt af=>⟨_,_,_,Z,Z,qx af _ _ B,qbm (A5 v Uk),?_⟩⟩))))))))))⟩);have z1:=qx (o:=.tup [V.int r1.1,V.int (f-1),V.str r1.2.2]) af;have s1:Same H (upd (upd H0 t (.tup [V.int r1.1,V.int (f-1),V.str r1.2.2])) q (.lst (u0++[.ref t]))):=qak (b.trans z1) hq;have L:=qk (H:=upd H0 t (.tup [V.int r1.1,V.int (f-1),V.str r1.2.2])) (a:=q) (o:=.lst (u0++[.ref t]));have t1:Tups (upd (upd H0 t (.tup [V.int r1.1,V.int (f-1),V.str r1.2.2])) q (.lst (u0++[.ref t]))) (u0++[.ref t]) ((left rs f).map enc):=by rw[show left rs f=rs.take (cnt (ends rs) f)++[((r1.1,f-1,r1.2.2):Rw)] by rw[Y];exact congrArg _ (if_pos cf),Ax];exact((U.same z1).snoc (qk (o:=.tup (enc (r1.1,f-1,r1.2.2))))).upd (z1 _ _ B)
     generalize upd (upd H0 t (.tup [V.int r1.1,V.int (f-1),V.str r1.2.2])) q (.lst (u0++[.ref t]))=n at s1 L t1 |-;exact G n ⟨s1,_,L,t1,sn1 v⟩
    .refine qbh cf ?_;exact G H0 ⟨b,_,B,by rw[show left rs f=rs.take (cnt (ends rs) f) by rw[Y];show _++(if r1.1<f then _ else [])=_;rw[if_neg cf,Br]];exact U,A5 v Uk⟩
   .rw[AI (D7.mp cb)]at Y;refine qbh (λz=>cb (Dy.mp (x ▸ z))) (qce ?_);exact G H0 ⟨b,_,B,by rw[show left rs f=rs.take (cnt (ends rs) f) by rw[Y];exact Br _];exact U,A5 v Uk⟩
  .rintro n ⟨s1,g,L,t1,l1⟩;refine(nmc Z ⟨.inl ⟨Z,_,SqL.of L⟩,(nmc Z (nmc Z (nmc Z ⟨qki _ _ _,λd ai=>⟨_,_,_,Z,Z,qx ai _ _ L,qbm (A5 l1 Uk),?_⟩⟩)))⟩);have z2:=qx (o:=.tup [V.int f,V.int l,V.str j]) ai;have m:Same H (upd (upd n d (.tup [V.int f,V.int l,V.str j])) q (.lst (g++[.ref d]))):=qak (s1.trans z2) hq;have y:=qk (H:=upd n d (.tup [V.int f,V.int l,V.str j])) (a:=q) (o:=.lst (g++[.ref d]));have t2:Tups (upd (upd n d (.tup [V.int f,V.int l,V.str j])) q (.lst (g++[.ref d]))) (g++[.ref d]) ((left rs f++[((f,l,j):Rw)]).map enc):=by rw[Ax];exact((t1.same z2).snoc (qk (o:=.tup (enc (f,l,j))))).upd (z2 _ _ L)
   generalize upd (upd n d (.tup [V.int f,V.int l,V.str j])) q (.lst (g++[.ref d]))=H2 at m y t2 |-;have W:(g++[V.ref d]).length<=1500:=sn15 l1;generalize g++[V.ref d]=u2 at y t2 W |-;apply use2 (p:=λ(J:Hp)(N:Nat)=>Same H J/\∃(u3:List V)(X:List Rw),J q=some (.lst u3)/\Tups J u3 (X.map enc)/\u3.length<=2000/\over rs f l j=X++rs.drop N/\N<=rs.length)
   .intro C;refine(nmc Z (nmc Z ⟨_,_,Z,.inl ⟨_,SqL.of (m _ _ c),Z⟩,(iic Z Z (nmc Z ?_))⟩));have r:=qhk l ad;by_cases D:cnt (ends rs) (l+1)<rs.length
    .obtain⟨r2,hr2⟩:∃r2,rs[cnt (ends rs) (l+1)]?=some r2:=⟨_,Ad D⟩;obtain⟨a2,O,S⟩:=At.row I hr2;rw[hr2]at r;dsimp only at r;refine qcp (lenI x D) (nmc Z (nmc Z (lxo (m _ _ c) (qbj O) (txo (m _ _ S) Z (nmc Z (iic Z Z (nmc Z ?_)))))));by_cases cl:r2.1<=l
     .refine qcp cl (nmc Z ⟨.inl ⟨Z,_,SqL.of y⟩,(nmc Z (iic Z Z (nmc Z (nmc Z (lxo (m _ _ c) (qbj O) (txo (m _ _ S) Z (nmc Z (nmc Z (lxo (m _ _ c) (qbj O) (txo (m _ _ S) Z ⟨qki _ _ _,λu aj=>⟨_,_,_,Z,Z,qx aj _ _ y,qbm (A5 W Uk),?_⟩⟩))))))))))⟩);have z3:=qx (o:=.tup [V.int (l+1),V.int r2.2.1,V.str r2.2.2]) aj;have F:Same H (upd (upd H2 u (.tup [V.int (l+1),V.int r2.2.1,V.str r2.2.2])) q (.lst (u2++[.ref u]))):=qak (m.trans z3) hq;have h3:=qk (H:=upd H2 u (.tup [V.int (l+1),V.int r2.2.1,V.str r2.2.2])) (a:=q) (o:=.lst (u2++[.ref u]));have t3:Tups (upd (upd H2 u (.tup [V.int (l+1),V.int r2.2.1,V.str r2.2.2])) q (.lst (u2++[.ref u]))) (u2++[.ref u]) (((left rs f++[(f,l,j)])++[((l+1,r2.2.1,r2.2.2):Rw)]).map enc):=by rw[Ax];exact((t2.same z3).snoc (qk (o:=.tup (enc (l+1,r2.2.1,r2.2.2))))).upd (z3 _ _ y)
      generalize upd (upd H2 u (.tup [V.int (l+1),V.int r2.2.1,V.str r2.2.2])) q (.lst (u2++[.ref u]))=J at F h3 t3 |-;rw[if_pos cl]at r;have ov:over rs f l j=((left rs f++[(f,l,j)])++[((l+1,r2.2.1,r2.2.2):Rw)])++rs.drop (cnt (ends rs) (l+1)+1):=by unfold over;rw[r];simp
      have hN:cnt (ends rs) (l+1)+1<=rs.length:=D;refine(nmc Z (iic Z Z ?_));dsimp only[];rw[show ((cnt (ends rs) (l+1):Nat):Int)+1=((cnt (ends rs) (l+1)+1:Nat):Int) from Z];generalize cnt (ends rs) (l+1)+1=N at ov hN |-;exact C J N ⟨F,_,_,h3,t3,sn2 W,ov,hN⟩
     .rw[if_neg cl]at r;refine qbh cl ?_;exact C H2 (cnt (ends rs) (l+1)) ⟨m,_,_,y,t2,A5 W Uk,by unfold over;rw[r];simp,BC D⟩
    .rw[AI (D7.mp D)]at r;dsimp only at r;refine qbh (λz=>D (Dy.mp (x ▸ z))) (qce ?_);have ah:=qop (ends rs) (l+1);rw[Ab]at ah;exact C H2 (cnt (ends rs) (l+1)) ⟨m,_,_,y,t2,A5 W Uk,by unfold over;rw[r,List.drop_of_length_le (D7.mp D)];simp,ah⟩
   .rintro J N ⟨F,u3,X,h3,t3,l3,ov,hN⟩;refine(nmc Z (nmc Z (nmc Z ⟨_,Z,_,_,Z,SqL.of (F _ _ c),λq5 ak=>?_⟩)));dsimp only[];rw[qxm us N (x ▸ hN)];have R:=qx (o:=.lst (us.drop N)) ak;refine⟨_,_,_,_,Z,Z,R _ _ h3,qk,fits (by rw[C6];exact A5 (Nat.add_le_add l3 (A5 (Nat.sub_le _ _) (x ▸ hl))) Uk),λq6 ag=>?_⟩;have s6:=qx (o:=.lst (u3++us.drop N)) ag;refine k q6 _ (F.free (R.free ag)) ((F.trans R).trans s6) ⟨_,qk,?_⟩;have tt:=((t3.same (R.trans s6)).app ((I.same ((F.trans R).trans s6)).drop N));rw[<- List.map_drop,<- Ax]at tt;rw[ov];exact tt
theorem qvx (T:Txt K mg a):FnOk P w K mg base CX0 3 a.mH a.mM ["rows"] spOv:=by
 refine T.fE.fn.ok qdw (λvs H Q E h=>?_) (λcdv A outer s H vs Q E f h=>?_)
 .obtain⟨_,_,rfl,_⟩:=h
  all_goals rfl
 .obtain⟨p,rs,rfl,⟨us,D,y⟩,ok,B,k⟩:=h;refine⟨_,(qf (qu (i:=1) qdw.nd Z (Au Z) (zg qg))
   (qf (qa2 A7 Z (qap (pv 0)) (qeq Z (qar (qad (i:=2) qdw.nd Z (Au Z)) (qar (qad (i:=3) qdw.nd Z (Au Z)) (qar (qad (i:=4) qdw.nd Z (Au Z)) qdg)))) (qj (qu (i:=1) qdw.nd Z (Au Z) (zb (qsu T) (f.mono Uk) Z T.bS.mgx T.bS.fn.kp T.bS.bd .nil qac (qd (pv 1) (qd (pv 2) (qd (pv 3) (qd (pv 4) qg qe) qe) qe) qe)))))
   (qj (qo (zb (okJoined T) (f.mono Uk) Z T.bZ.mgx T.bZ.fn.kp T.bZ.bd .nil qac (qd (pv 1) qg qe)))))),?_⟩
  refine⟨qfr,λq o=>?_⟩;have M:=At.len y;refine(nmc Z ⟨_,Z,⟨_,SqL.of (qx o _ _ D)⟩,qa5 (K:=K) (a:=p) (xs:=us) (λi σ H'=>Same H H'/\∃(q:Addr)(l j m:Option V),σ=[some (.ref p),some (.ref q),l,j,m]/\H q=none/\At H' q (lay (rs.take i)))
   ⟨qx o,q,none,none,none,Z,o,[],qk,.nil⟩ (λi σ H' _ h=>SqL.of (h.1 _ _ D)) ?_ ?_⟩)
  .rintro i x σ H' I ⟨d,O,l,j,m,rfl,L,c⟩;obtain⟨a,t,rfl,G,N⟩:=y.get' I;obtain⟨r,C,rfl⟩:=qks G;have g:=qxq ok i;have J:=(qww g).1;have b:=qo3 g;have f:=ok r (A0 C);refine⟨_,_,Z,SqT.of (d _ _ N),Z,_,_,Z,_,_,Z,_,_,Z,Z,?_⟩;refine(nmc Z (nmc Z (nmc Z (nmc Z ⟨_,_,_,_,_,Z,c,J,f,A5 b (A5 (DO 3 (A5 (DH _ _) B)) Uk),λu F v n e=>?_⟩))));refine⟨d.trans n,u,_,_,_,Z,d.free v,?_⟩;rw[qcx C,qwv];exact e
  .rintro σ H' ⟨d,O,l,j,m,rfl,L,c⟩;rw[M,Bq]at c;have b:=qo3 ok;exact(nmc Z ⟨_,_,V.str,_,_,Z,λ_ _ z=>V.str.inj z,λ_ _=>rfl,c,A5 b (A5 (DO 3 B) Uk),λu F v n e=>k u F (d.free v) (d.trans n) e⟩)
theorem qen (T:Txt K mg a):FnOk P w K mg base CX0 1 a.gP a.dD ["self","units"] (qgp λu=>.int u):=by
 refine T.mE.fn.ok qij (λvs H Q E h=>?_) (λcdv A outer s H vs Q E hr h=>?_)
 .obtain⟨_,_,rfl,_⟩:=h
  all_goals rfl
 .obtain⟨x,u,rfl,k⟩:=h;refine⟨_,(qj (qo (pv 1))),?_⟩;exact(nmc Z k)
theorem qmh (T:Txt K mg a):FnOk P w K mg base CX0 1 a.bO a.lQ ["self","units"] (qgp λu=>.int (7*u)):=by
 refine T.yD.fn.ok qlw (λvs H Q E h=>?_) (λcdv A outer s H vs Q E hr h=>?_)
 .obtain⟨_,_,rfl,_⟩:=h
  all_goals rfl
 .obtain⟨x,u,rfl,k⟩:=h;refine⟨_,(qj (qo (qv qbl (qby (v:=.int 7) Z T.yZ.choose_spec ⟨_,Z⟩) (pv 1)))),?_⟩;exact(nmc Z (iic Z Z ⟨.inl ⟨Uk,Uk⟩,k⟩))
theorem qfx (T:Txt K mg a):FnOk P w K mg base CX0 1 a.gW a.fD ["self","first","many"] (qex λf m=>.int (f+m-1)):=by
 refine T.mC.fn.ok qkg (λvs H Q E h=>?_) (λcdv A outer s H vs Q E hr h=>?_)
 .obtain⟨_,_,_,rfl,_⟩:=h
  all_goals rfl
 .obtain⟨x,u,v,rfl,k⟩:=h;refine⟨_,(qj (qo (qv qbr (qv qah (pv 1) (pv 2)) qi))),?_⟩;exact(nmc Z (nmc Z (iic Z Z (iic Z Z k))))
theorem qiy (T:Txt K mg a):FnOk P w K mg base CX0 1 a.mZ a.tR ["year"] (sp1 λy=>.int ((3*y+14) / 17)):=by
 refine T.gJ.fn.ok qo0 (λvs H Q E h=>?_) (λcdv A outer s H vs Q E hr h=>?_)
 .obtain⟨_,rfl,_⟩:=h
  all_goals rfl
 .obtain⟨y,rfl,k⟩:=h;refine⟨_,(qj (qo (qv qav (qv qah (qv qbl qi (pv 0)) qi) qi))),?_⟩;exact(nmc Z (icc Z Z (mulL Uk Uk) (iic Z Z (icc Z Z ⟨Uk,Uk⟩ k))))
theorem qbp (T:Txt K mg a):FnOk P w K mg base CX0 2 a.lR a.nY ["self","year"] (spPBy a):=by
 refine T.bI.fn.ok qdt (λvs H Q E h=>?_) (λcdv A outer s H vs Q E f h=>?_)
 .obtain⟨_,_,_,rfl,_⟩:=h
  all_goals rfl
 .obtain⟨x,bs,y,rfl,g,k⟩:=h;refine⟨_,(qf (qu (i:=2) qdt.nd Z (Au Z) (qv qbr (zo zq (qab (pv 0) Z) (qby (v:=.int 371) Z T.fT.choose_spec ⟨_,Z⟩) (λ_ _=>rfl)) (zo zq (qab (pv 0) Z) (qby (v:=.int 364) Z T.m9.choose_spec ⟨_,Z⟩) (λ_ _=>rfl))))
   (qj (qo (qv qah (qv qbl (pv 1) (zo zq (qab (pv 0) Z) (qby (v:=.int 364) Z T.m9.choose_spec ⟨_,Z⟩) (λ_ _=>rfl))) (qv qbl (zb (qiy T) (f.mono Uk) Z T.gJ.mgx T.gJ.fn.kp T.gJ.bd .nil qac (qd (pv 1) qg qe)) (pv 2)))))),?_⟩
  obtain⟨dx,a1,a2,a3,c,e1,e2,d,b⟩:=g;have l:atI ((cuL bs).map V.int) 371=some (.int (opn bs 371)):=ql3 (j:=371) (by rw[Ai,qr4 bs (by rw[b];decide)];rfl) rfl;have e:atI ((cuL bs).map V.int) 364=some (.int (opn bs 364)):=ql3 (j:=364) (by rw[Ai,qr4 bs (by rw[b];decide)];rfl) rfl;refine(nmc Z (flc (c) (T.kQ) (qp T.gD Uk) (rfl) (lxo (d) l (nmc Z (flc (c) (T.kQ) (qp T.gD Uk) (rfl) (lxo (d) e (iic Z Z ?_)))))));exact(nmc Z (nmc Z (flc (c) (T.kQ) (qp T.gD Uk) (rfl) (lxo (d) e (iic Z Z ⟨.inr (opB b),(nmc Z (nmc Z (nmc Z (iic Z Z ⟨.inr (opD b),(iic Z Z k)⟩))))⟩)))))
theorem qiz (T:Txt K mg a):FnOk P w K mg base CX0 3 a.hG a.xP ["self","many"] (spYw a):=by
 refine T.xQ.fn.ok qc4 (λvs H Q E h=>?_) (λcdv A outer s H vs Q E j h=>?_)
 .obtain⟨_,_,_,rfl,_⟩:=h
  all_goals rfl
 .obtain⟨x,bs,m,rfl,l,B,n,k⟩:=h;refine⟨_,(qf (qu (i:=2) qc4.nd Z (Au Z) (qv qbl (qby (v:=.int 17) Z T.yA.choose_spec ⟨_,Z⟩) (qv qav (pv 1) (qal (pv 0) T.kQ T.fC (qbp T) (j.mono Uk) T.bI.bd .nil qac (qd (qby (v:=.int 17) Z T.yA.choose_spec ⟨_,Z⟩) qg qe)))))
   (qf (qh4 A7 (qt qf4 (qal (pv 0) T.kQ T.fC (qbp T) (j.mono Uk) T.bI.bd .nil qac (qd (qv qah (pv 2) qi) qg zl)) (pv 1) (qaf _)) (qj (qk1 (i:=2) qc4.nd Z (Au Z) qi qrr)))
   (qj (qo (pv 2))))),?_⟩
  have b:=l;obtain⟨dx,a1,a2,a3,e,e1,e2,e3,p⟩:=l;have tb:=pby_17B p n;refine(nmc Z (nmc Z ⟨_,_,_,Z,e,Z,_,_,_,Z,b,(iic Z Z ⟨⟨tb.1,tb.2⟩,(iic Z Z ⟨.inl ⟨Uk,Uk⟩,?_⟩)⟩)⟩));have q0:0<=m / pby bs 17:=Int.ediv_nonneg B (Dg tb.1);have o:pby bs (17*(m / pby bs 17))<=m:=by rw[pby_17];exact Int.ediv_mul_le m (Int.ne_of_gt tb.1)
  dsimp only[];have f:0<=17*(m / pby bs 17):=by lia
  generalize 17*(m / pby bs 17)=y0 at o f |-;refine⟨λz σ' H'=>H'=H/\∃y:Int,σ'=[some (.ref x),some (.int m),some (.int y)]/\z=(m-pby bs y).toNat/\0<=y/\pby bs y<=m,⟨_,Z,y0,Z,Z,f,o⟩,?_⟩;rintro z σ' H' ⟨rfl,y,rfl,rfl,q,r⟩;refine(nmc Z ⟨_,_,_,Z,e,Z,(nmc Z (iic Z Z ⟨_,_,_,Z,b,(nmc Z (iic Z Z (nmc Z (qb2 (λc=>?_) (λc=>?_)))))⟩))⟩)
  .have d:pby bs (y+1)<=m:=of_decide_eq_true c;have lt:=pby_lt p n y;exact⟨λσ2 g=>g=H'/\σ2=[some (.ref x),some (.int m),some (.int (y+1))],λσ2 g ⟨u,t⟩=>⟨(m-pby bs (y+1)).toNat,by lia,u,y+1,t,Z,by lia,d⟩,(nmc Z (iic Z Z ⟨Z,Z⟩))⟩
  .have d:¬pby bs (y+1)<=m:=λz=>c (decide_eq_true z);exact(nmc Z (k y q r (Ep.mp d)))
theorem qkb (T:Txt K mg a):FnOk P w K mg base CX0 2 a.rT a.sM ["year"] (sp1 λy=>.int (fw y)):=by
 refine T.gM.fn.ok qqo (λvs H Q E h=>?_) (λcdv A outer s H vs Q E b h=>?_)
 .obtain⟨_,rfl,_⟩:=h
  all_goals rfl
 .obtain⟨y,rfl,k⟩:=h;refine⟨_,(qj (qo (qv qah (qv qbl qi (pv 0)) (zb (qiy T) (b.mono Uk) Z T.gJ.mgx T.gJ.fn.kp T.gJ.bd .nil qac (qd (pv 0) qg qe))))),?_⟩;exact(nmc Z (icc Z Z (mulL Uk Uk) (nmc Z (nmc Z (iic Z Z k)))))
theorem qi0 (T:Txt K mg a):FnOk P w K mg base CX0 4 a.m4 a.rS ["self","many"] (spPNth a):=by
 refine T.l6.fn.ok qik (λvs H Q E h=>?_) (λcdv A outer s H vs Q E d h=>?_)
 .obtain⟨_,_,_,rfl,_⟩:=h
  all_goals rfl
 .obtain⟨x,bs,m,rfl,e,v,p,k⟩:=h;refine⟨_,(qf (qu (i:=2) qik.nd Z (Au Z) (qal (pv 0) T.kQ T.zN (qiz T) (d.mono Uk) T.xQ.bd .nil qac (qd (pv 1) qg qe)))
   (qj (qo (qv qah (qv qbl qi (zb (qkb T) (d.mono Uk) Z T.gM.mgx T.gM.fn.kp T.gM.bd .nil qac (qd (pv 2) qg qe))) (zo zq (qab (pv 0) Z) (qv qbr (pv 1) (qal (pv 0) T.kQ T.fC (qbp T) (d.mono Uk) T.bI.bd .nil qac (qd (pv 2) qg qe))) (λ_ _=>rfl)))))),?_⟩
  have b:=e;obtain⟨dx,a1,a2,a3,c,e1,t,e3,q⟩:=e;refine(nmc Z ⟨_,_,_,Z,c,Z,(nmc Z ⟨_,_,_,Z,b,v,p,λy l f o=>?_⟩)⟩);obtain⟨w,r,u,n,g⟩:=pn_day q l f o;exact(nmc Z ⟨_,Z,(iic Z Z ⟨.inl ⟨Uk,Uk⟩,(nmc Z (flc (c) (T.kQ) (qp T.gD Uk) (rfl) (nmc Z (nmc Z ⟨_,_,_,Z,c,Z,(nmc Z ⟨_,_,_,Z,b,(iic Z Z (lxo (t) (ql3 (j:=(m-pby bs y).toNat) (by rw[Ai,r];rfl) (C2 (Int.sub_nonneg_of_le f)).symm) (iic Z Z (k _ u n g))))⟩)⟩))))⟩)⟩)
theorem qrj (T:Txt K mg a):FnOk P w K mg base CX0 1 a.sY a.xG ["week"] (sp1 λy=>.int (yo y)):=by
 refine T.gX.fn.ok qxk (λvs H Q E h=>?_) (λcdv A outer s H vs Q E hr h=>?_)
 .obtain⟨_,rfl,_⟩:=h
  all_goals rfl
 .obtain⟨y,rfl,k⟩:=h;refine⟨_,(qj (qo (qv qav (qv qah (qv qbl qi (pv 0)) qi) qi))),?_⟩;exact(nmc Z (icc Z Z (mulL Uk Uk) (iic Z Z (icc Z Z ⟨Uk,Uk⟩ k))))
theorem qvy (T:Txt K mg a):FnOk P w K mg base CX0 2 a.y9 a.xM ["day"] qvm:=by
 refine T.dB.fn.ok qvh (λvs H Q E h=>?_) (λcdv A outer s H vs Q E b h=>?_)
 .obtain⟨_,rfl,_⟩:=h
  all_goals rfl
 .obtain⟨n,rfl,c,k⟩:=h;refine⟨_,(qf (qz (qdz (PW.pt (qdy (zd (zb (qg5 T) (b.mono Uk) Z T.kZ.mgx T.kZ.fn.kp T.kZ.bd .nil qac (qd (pv 0) qg qe))) (qdf (qt op_ge (pv 0) qi (qaf _)))))) (qj qe0) qag)
   (qj (qo (qv qah (qv qas (pv 0) qi) qi)))),?_⟩
  refine(nmc Z (nmc Z (nmc Z (qdm (nmc Z (iic Z Z (nmc Z (iteNS c ?_))))))));exact(nmc Z (icc Z Z (pos Uk) (iic Z Z k)))
theorem okDateOf (T:Txt K mg a):FnOk P w K mg base CX0 3 a.tN a.mT ["day"] qxs:=by
 refine T.dL.fn.ok qil (λvs H Q E h=>?_) (λcdv A outer s H vs Q E b h=>?_)
 .obtain⟨_,rfl,_⟩:=h
  all_goals rfl
 .obtain⟨n,rfl,d,k⟩:=h;refine⟨_,(qf (qu (i:=1) qil.nd Z (Au Z) (zb (qvy T) (b.mono Uk) Z T.dB.mgx T.dB.fn.kp T.dB.bd .nil qac (qd (pv 0) qg qe)))
   (qf (qu (i:=2) qil.nd Z (Au Z) (qv qav (pv 0) qi))
   (qf (qu (i:=3) qil.nd Z (Au Z) (zb (qrj T) (b.mono Uk) Z T.gX.mgx T.gX.fn.kp T.gX.bd .nil qac (qd (pv 2) qg qe)))
   (qj (qo (zh (qd (pv 3) (qd (qv qah (qv qbr (pv 2) (zb (qkb T) (b.mono Uk) Z T.gM.mgx T.gM.fn.kp T.gM.bd .nil qac (qd (pv 3) qg qe))) qi) (qd (pv 1) qg qe) zl) qe))))))),?_⟩
  exact(nmc Z ⟨_,Z,d,(nmc Z (icc Z Z ⟨Uk,Uk⟩ (nmc Z (nmc Z (nmc Z (nmc Z (nmc Z (nmc Z (iic Z Z (iic Z Z (nmc Z ⟨qki _ _ _,λp c=>k p c⟩)))))))))))⟩)
theorem qrk (T:Txt K mg a):FnOk P w K mg base CX0 4 a.pP a.tG ["day"] spDoy:=by
 refine T.dO.fn.ok qj7 (λvs H Q E h=>?_) (λcdv A outer s H vs Q E c h=>?_)
 .obtain⟨_,rfl,_⟩:=h
  all_goals rfl
 .obtain⟨n,rfl,f,k⟩:=h;refine⟨_,(qf (qu (i:=1) qj7.nd Z (Au Z) (zb (okDateOf T) (c.mono Uk) Z T.dL.mgx T.dL.fn.kp T.dL.bd .nil qac (qd (pv 0) qg qe)))
   (qj (qo (qv qbr (qv qah (qv qbl qi (qv qbr (zo zp (pv 1) qi (λ_ _=>rfl)) qi)) (zo zp (pv 1) qi (λ_ _=>rfl))) qi)))),?_⟩
  refine(nmc Z ⟨_,Z,f,λp d=>?_⟩);have b:=k _ (qx (o:=.tup [V.int (yo (n / 7)),V.int (n / 7-fw (yo (n / 7))+1),V.int (n % 7+1)]) d);refine(nmc Z (txo (qk) Z (iic Z Z (icc Z Z (mulL Uk Uk) (nmc Z (txo (qk) Z (iic Z Z (iic Z Z ?_))))))));have e:7*(n / 7-fw (yo (n / 7))+1-1)+(n % 7+1)-1=doy n:=by unfold doy;lia
  show Q (.int (7*(n / 7-fw (yo (n / 7))+1-1)+(n % 7+1)-1)) _;rw[e];exact b
theorem qds (T:Txt K mg a):FnOk P w K mg base CX0 5 a.fL a.mF ["self","day"] (spPBef a):=by
 refine T.fA.fn.ok qfw (λvs H Q E h=>?_) (λcdv A outer s H vs Q E b h=>?_)
 .obtain⟨_,_,_,rfl,_⟩:=h
  all_goals rfl
 .obtain⟨x,bs,n,rfl,d,g,k⟩:=h;refine⟨_,(qf (qu (i:=2) qfw.nd Z (Au Z) (zb (qrj T) (b.mono Uk) Z T.gX.mgx T.gX.fn.kp T.gX.bd .nil qac (qd (qv qav (pv 1) qi) qg zl)))
   (qj (qo (qv qah (qal (pv 0) T.kQ T.fC (qbp T) (b.mono Uk) T.bI.bd .nil qac (qd (pv 2) qg qe)) (zo zq (qab (pv 0) Z) (zb (qrk T) (b.mono Uk) Z T.dO.mgx T.dO.fn.kp T.dO.bd .nil qac (qd (pv 1) qg qe)) (λ_ _=>rfl)))))),?_⟩
  have f:=d;obtain⟨dx,a1,a2,a3,c,e1,e2,m,o⟩:=d;obtain⟨e,l⟩:=qxt g;refine(nmc Z (icc Z Z ⟨Uk,Uk⟩ (nmc Z ?_)));refine(nmc Z ⟨_,_,_,Z,c,Z,(nmc Z ⟨_,_,_,Z,f,(nmc Z (flc (c) (T.kQ) (qp T.gD Uk) (rfl) (nmc Z ⟨_,Z,g,λH' s=>?_⟩)))⟩)⟩);exact(lxo (s _ _ m) (ql3 (j:=(doy n).toNat) (by rw[Ai,qr4 bs (by rw[o];exact BC ((Int.toNat_lt e).mpr l))];rfl) (C2 e).symm) (iic Z Z (k H' s)))
theorem qi1 (T:Txt K mg a):FnOk P w K mg base CX0 6 a.fU a.xX ["self","row","end"] (spShift a):=by
 refine T.lJ.fn.ok qfk (λvs H Q E h=>?_) (λcdv A outer s H vs Q E n h=>?_)
 .obtain⟨_,_,_,_,_,_,_,_,_,rfl,_⟩:=h
  all_goals rfl
 .obtain⟨x,p,q,z,y,dx,bs,r,e,rfl,o,l,t,C,u,k⟩:=h;refine⟨_,(qf (qu (i:=3) qfk.nd Z (Au Z) (qv qbr (qal (qab (pv 0) Z) T.kQ T.hV (qds T) (n.mono Uk) T.fA.bd .nil qac (qd (pv 2) qg qe)) (qal (qab (pv 0) Z) T.kQ T.hV (qds T) (n.mono Uk) T.fA.bd .nil qac (qd (zo zp (pv 1) qi (λ_ _=>rfl)) qg zm))))
   (qf (qu (i:=4) qfk.nd Z (Au Z) (qcl (qt qcm (zo zp (pv 1) qi (λ_ _=>rfl)) zf (qaf _)) (qv qbr (pv 2) (zo zp (pv 1) qi (λ_ _=>rfl))) qi))
   (qj (qo (qv qbr (pv 4) (pv 3)))))),?_⟩
  have f:=l;obtain⟨dp,a1,a2,a3,m,_⟩:=l;refine(nmc Z (flc (o) (T.kM) (qp T.kW Uk) (rfl) ⟨_,_,_,Z,m,Z,(nmc Z ⟨_,_,_,Z,f,u,λH1 b=>?_⟩)⟩));refine(nmc Z (flc (b _ _ o) (T.kM) (qp T.kW Uk) (rfl) ⟨_,_,_,Z,b _ _ m,Z,(nmc Z (txo (b _ _ t) Z ⟨_,_,_,Z,f.same b,C,λB v=>?_⟩))⟩));have j:=b.trans v;have g:=j _ _ t;refine(iic Z Z (nmc Z (txo (g) Z ⟨Z,(nmc Z ?_)⟩)));have d:=k B j;unfold shf at d;by_cases c:r.2.2=Aa "open"
  .rw[if_pos c]at d;exact qcp (congrArg V.str c) (nmc Z (nmc Z (txo (g) Z (iic Z Z (nmc Z (nmc Z (iic Z Z d)))))))
  .rw[if_neg c]at d;exact qbh (λz=>c (V.str.inj z)) (nmc Z (nmc Z (iic Z Z d)))
theorem qb7 (T:Txt K mg a):FnOk P w K mg base CX0 7 a.fO a.nR ["self","day"] (spTBef a):=by
 refine T.gU.fn.ok qdi (λvs H Q E h=>?_) (λcdv A outer s H vs Q E v h=>?_)
 .obtain⟨_,_,_,_,rfl,_⟩:=h
  all_goals rfl
 .obtain⟨x,bs,rs,n,rfl,O,R,J,I,k⟩:=h;refine⟨_,(qf (qu (i:=2) qdi.nd Z (Au Z) (zb (qpn T) (v.mono Uk) Z T.gF.mgx T.gF.fn.kp T.gF.bd .nil qac (qd (qab (pv 0) Z) (qd (pv 1) qg qe) qam)))
   (qf (qu (i:=3) qdi.nd Z (Au Z) (qv qah (qal (qab (pv 0) Z) T.kQ T.hV (qds T) (v.mono Uk) T.fA.bd .nil qac (qd (pv 1) qg qe)) (zo zq (qab (pv 0) Z) (pv 2) (λ_ _=>rfl))))
   (qf (qz (PW.pt (qdy (qt qdl (pv 2) (zc qbs (by rfl) T.kX qbv (qd (qab (pv 0) Z) qg qam)) (qaf _)) (qdf (qt qdl (zo zp (zo zq (qab (pv 0) Z) (pv 2) (λ_ _=>rfl)) qi (λ_ _=>rfl)) (pv 1) (qaf _))))) (qj (qk1 (i:=3) qdi.nd Z (Au Z) (qal (pv 0) T.kM T.r9 (qi1 T) (v.mono Uk) T.lJ.bd .nil qac (qd (zo zq (qab (pv 0) Z) (pv 2) (λ_ _=>rfl)) (qd (pv 1) qg qe) zm)) qrr)) qag)
   (qj (qo (pv 3)))))),?_⟩
  obtain⟨dx,p,q,z,c,u,⟨us,j,m⟩,hz⟩:=O;have g:=qhm R;have D:=At.len m;have F:=qop (ends rs) n;rw[Ab]at F;refine(nmc Z (flc (c) (T.kM) (qp T.kW Uk) (rfl) (nmc Z ⟨_,_,_,_,_,Z,j,m,λi e h=>ql2 h,by rw[Ab,Ab],qtb g,?_⟩)));have d:=u;obtain⟨dp,a1,a2,a3,L,_⟩:=u;refine(nmc Z (flc (c) (T.kM) (qp T.kW Uk) (rfl) ⟨_,_,_,Z,L,Z,(nmc Z ⟨_,_,_,Z,d,I,λG f=>?_⟩)⟩));have c:=f _ _ c;have j:=f _ _ j;have m:=m.same f;have hz:=f _ _ hz;have d:=d.same f;refine(nmc Z (flc (c) (T.kM) (qp T.kW Uk) (rfl) (nmc Z (lxo (hz) (qbj (by rw[Ai,qxu bs rs F];rfl)) (iic Z Z ?_)))));refine(nmc Z (nmc Z (flc (c) (T.kM) (qp T.kW Uk) (rfl) ⟨_,_,Z,.inl ⟨_,SqL.of j,Z⟩,(iic Z Z (nmc Z ?_))⟩)));by_cases o:cnt (ends rs) n<rs.length
  .obtain⟨r,hr'⟩:∃r,rs[cnt (ends rs) n]?=some r:=⟨_,Ad o⟩;obtain⟨b,B,y⟩:=At.row m hr';refine qcp (lenI D o) (nmc Z (flc (c) (T.kM) (qp T.kW Uk) (rfl) (nmc Z (lxo (j) (qbj B) (txo (y) Z (nmc Z (iic Z Z (nmc Z ?_))))))));by_cases t:r.1<n
   .refine qcp t (nmc Z (nmc Z ⟨_,_,_,Z,c,Z,(nmc Z (flc (c) (T.kM) (qp T.kW Uk) (rfl) (nmc Z (lxo (j) (qbj B) (nmc Z ⟨_,_,_,_,_,_,_,_,_,Z,c,d,y,J r (A0 hr'),I,λN M=>(iic Z Z (nmc Z ?_))⟩)))))⟩));have C:=k N (f.trans M);rw[<- tb_some g hr' t]at C;exact C
   .have l:=k G f;rw[<- tb_late g hr' t]at l;exact qbh t (nmc Z l)
  .have l:=k G f;rw[<- tb_none g (AI (D7.mp o))]at l;exact qbh (λz=>o (Dy.mp (D ▸ z))) (qce (nmc Z l))
theorem qmi (T:Txt K mg a):FnOk P w K mg base CX0 8 a.fS a.sH ["self","many"] (spTNth a):=by
 refine T.lA.fn.ok qfl (λvs H Q E h=>?_) (λcdv A outer s H vs Q E N h=>?_)
 .obtain⟨_,_,_,_,rfl,_⟩:=h
  all_goals rfl
 .obtain⟨x,bs,rs,m,rfl,hx,g,B,hw,ho,h0,k⟩:=h;refine⟨_,(qf (qa2 A7 Z (qkr Z T.dY (qd (qab (pv 0) Z) qg qam)) (qeq Z (qar (qad (i:=2) qfl.nd Z (Au Z)) (qar (qad (i:=3) qfl.nd Z (Au Z)) qdg))) (qf (qu (i:=4) qfl.nd Z (Au Z) (qal (pv 0) T.kM T.gY (qb7 T) (N.mono Uk) T.gU.bd .nil qac (qd (zo zp (pv 3) qi (λ_ _=>rfl)) qg zm)))
   (qf (qz (qt qdl (pv 1) (pv 4) (qaf _)) (qj (qo (qal (qab (pv 0) Z) T.kQ T.xE (qi0 T) (N.mono Uk) T.l6.bd .nil qac (qd (qv qbr (pv 1) (zo zq (qab (pv 0) Z) (pv 2) (λ_ _=>rfl))) qg zl)))) qag)
   (qj (qz (qt qdl (pv 1) (qal (pv 0) T.kM T.gY (qb7 T) (N.mono Uk) T.gU.bd .nil qac (qd (qv qah (zo zp (pv 3) qi (λ_ _=>rfl)) qi) qg zl)) (qaf _)) (qj (qo (qv qbr (qv qah (zo zp (pv 3) qi (λ_ _=>rfl)) (pv 1)) (pv 4)))) qag)))))
   (qj (qo (qal (qab (pv 0) Z) T.kQ T.xE (qi0 T) (N.mono Uk) T.l6.bd .nil qac (qd (qv qbr (pv 1) (zo zq (qab (pv 0) Z) (qf3 qd1 qi) (λ_ _=>rfl))) qg zl))))),?_⟩
  have U:=hx;obtain⟨dx,p,q,z,n,S,⟨us,hq,hu⟩,hz⟩:=hx;have ad:=qhm g;have lu:=At.len hu;have I:=S;obtain⟨dp,a1,a2,a3,p1,_,_,_,W⟩:=S;have C:=qx0 W g hw;refine(nmc Z (flc (n) (T.kM) (qp T.kW Uk) (rfl) ⟨_,_,Z,hq,qid (K:=K) (a:=q) (xs:=us) (λi σ H'=>Same H H'/\qa9 bs rs (lo rs i)<=m/\∃v2 v3 Y:Option V,σ=[some (.ref x),some (.int m),v2,v3,Y]) ⟨Same.refl H,by rw[show lo rs 0=0 from Z,qo5 B g.ok];exact h0,none,none,none,Z⟩ (λi σ H' _ h=>SqL.of (h.1 _ _ hq)) ?_ ?_⟩))
  .rintro i y t σ H' hy ⟨j,O,v2,v3,Y,rfl⟩ hn;obtain⟨b,t1,rfl,g1,X⟩:=hu.get' hy;obtain⟨r,v,rfl⟩:=qks g1;have hi:i<rs.length:=(Ac.mp v).1;have M:=B r (A0 v);have rk:=g.ok r (A0 v);have G:=j.trans (qx (o:=.tup [V.int (i:Int),V.ref b]) hn);refine⟨_,_,Z,SqT.of qk,Z,_,_,Z,_,_,Z,Z,?_⟩;generalize upd H' t _=H1 at G |-;refine(nmc Z ⟨_,_,_,Z,G _ _ n,Z,(nmc Z (txo (G _ _ X) Z ⟨_,_,_,_,Z,U.same G,g,B,M,λH2 z2=>?_⟩))⟩);have f:=G.trans z2;refine(nmc Z (nmc Z (iic Z Z (nmc Z (qb2 (λc=>?_) (λc=>?_))))))
   .have c':m<qa9 bs rs r.1:=of_decide_eq_true c;obtain⟨D,l⟩:=qtt W g B (BC hi) O λs L=>Bh c' (C.le M (qvr ad v s L));exact(nmc Z (flc ((f _ _ n)) (T.kM) (qp T.kW Uk) (rfl) ⟨_,_,_,Z,f _ _ p1,Z,(nmc Z (nmc Z (flc ((f _ _ n)) (T.kM) (qp T.kW Uk) (rfl) (nmc Z (lxo (f _ _ hz) (qbj (by rw[Ai,qxu bs rs (BC hi)];rfl)) (iic Z Z ⟨_,_,_,Z,I.same f,D,ho,λd u F J=>k d H2 f u (l d u F J).1 (l d u F J).2⟩))))))⟩))
   .have c':qa9 bs rs r.1<=m:=B8.mp λz=>c (decide_eq_true z);refine(nmc Z (nmc Z ⟨_,_,_,Z,f _ _ n,Z,(nmc Z (txo (f _ _ X) Z (iic Z Z ⟨_,_,_,_,Z,U.same f,g,B,DW (Bt M rk),λH3 z3=>?_⟩)))⟩));have s3:=f.trans z3;refine(iic Z Z (nmc Z (qb2 (λe=>?_) (λe=>?_))))
    .obtain⟨D,l,u2⟩:=row_use g v (hw r (A0 v)) c' (of_decide_eq_true e);exact(nmc Z (txo (s3 _ _ X) Z (nmc Z (iic Z Z (nmc Z (iic Z Z (k _ H3 s3 (Bt M D) l u2)))))))
    .exact⟨s3,by rw[qts v];exact B8.mp λz=>e (decide_eq_true z),_,_,_,Z⟩
  .rintro σ H' ⟨j,O,v2,v3,Y,rfl⟩;rw[lu]at O;obtain⟨D,l⟩:=qtt W g B (Am _) O λs L=>by rw[List.drop_length]at L;cases L
   have el:(shL bs rs).map V.int=((Ar rs.length).map λk=>V.int ((rs.take k).map λr=>shf bs r (r.2.1+1)).sum)++[V.int ((rs.take rs.length).map λr=>shf bs r (r.2.1+1)).sum]:=by unfold shL;rw[By,Ax,Ax,Cr];rfl
   have R:=j _ _ hz;rw[el]at R;exact(nmc Z (flc ((j _ _ n)) (T.kM) (qp T.kW Uk) (rfl) ⟨_,_,_,Z,j _ _ p1,Z,(nmc Z (nmc Z (flc ((j _ _ n)) (T.kM) (qp T.kW Uk) (rfl) (nmc Z (lxo (R) (qd2 _ _) (iic Z Z ⟨_,_,_,Z,I.same j,D,ho,λd u F J=>k d H' j u (l d u F J).1 (l d u F J).2⟩))))))⟩))
theorem qjz (T:Txt K mg a):FnOk P w K mg base CX0 9 a.bN a.fZ ["self","first","many"] (ql5 a):=by
 refine T.xB.fn.ok qjo (λvs H Q E h=>?_) (λcdv A outer s H vs Q E c h=>?_)
 .obtain⟨_,_,_,_,_,rfl,_⟩:=h
  all_goals rfl
 .obtain⟨x,bs,rs,f,m,rfl,⟨dx,tb,g,b⟩,ok,j,h1,k⟩:=h;refine⟨_,(qj (qo (qal (qab (pv 0) Z) T.kM T.mV (qmi T) (c.mono Uk) T.lA.bd .nil qac (qd (qv qbr (qv qah (qal (qab (pv 0) Z) T.kM T.gY (qb7 T) (c.mono Uk) T.gU.bd .nil qac (qd (pv 1) qg qe)) (pv 2)) qi) qg zl)))),?_⟩;obtain⟨_,_,_,_,i⟩:=b.ins;have t:=(qx0 ok.hl ok.ap ok.wd).le (n:=0) (m:=f) (Bp _) j;rw[qo5 ok.nn ok.ap.ok]at t;refine(nmc Z (flc (g) (T.gG) (qp T.gZ Uk) (rfl) ⟨_,_,_,Z,i,Z,(nmc Z (flc (g) (T.gG) (qp T.gZ Uk) (rfl) ⟨_,_,_,Z,i,Z,(nmc Z ⟨_,_,_,_,Z,b,ok.ap,ok.nn,j,λH1 e=>(nmc Z (iic Z Z (iic Z Z ⟨_,_,_,_,Z,b.same e,ok.ap,ok.nn,ok.wd,ok.op,by lia,λd p o r l q=>k d p (e.trans o) r l q⟩)))⟩)⟩))⟩))
theorem qdv (T:Txt K mg a):FnOk P w K mg base CX0 1 a.gQ a.dS ["self","first","last"] (qex λf l=>.int (if l-f+1 > 0 then l-f+1 else 0)):=by
 refine T.lW.fn.ok qg7 (λvs H Q E h=>?_) (λcdv A outer s H vs Q E hr h=>?_)
 .obtain⟨_,_,_,rfl,_⟩:=h
  all_goals rfl
 .obtain⟨x,u,v,rfl,k⟩:=h;refine⟨_,(qj (qo (zc (qi6 Z) (by rfl) T.fN qlu (qd qi (qd (qv qah (qv qbr (pv 2) (pv 1)) qi) qg zl) ql)))),?_⟩;exact(nmc Z (nmc Z (iic Z Z (iic Z Z ⟨_,_,Z,k⟩))))
theorem qgu (T:Txt K mg a):FnOk P w K mg base CX0 8 a.bG a.lI ["self","first","last"] (qx2 a):=by
 refine T.rW.fn.ok qgl (λvs H Q E h=>?_) (λcdv A outer s H vs Q E g h=>?_)
 .obtain⟨_,_,_,_,_,rfl,_⟩:=h
  all_goals rfl
 .obtain⟨x,bs,rs,f,l,rfl,⟨dx,tb,i,e⟩,ok,p,k⟩:=h;refine⟨_,(qf (qz (qt qdl (pv 2) (pv 1) (qaf _)) (qj (qo qi)) qag)
   (qj (qo (qv qbr (qal (qab (pv 0) Z) T.kM T.gY (qb7 T) (g.mono Uk) T.gU.bd .nil qac (qd (qv qah (pv 2) qi) qg zl)) (qal (qab (pv 0) Z) T.kM T.gY (qb7 T) (g.mono Uk) T.gU.bd .nil qac (qd (pv 1) qg qe)))))),?_⟩
  obtain⟨_,_,_,_,j⟩:=e.ins;refine(nmc Z (nmc Z (iic Z Z (nmc Z (qb2 (λc=>?_) (λc=>?_))))))
  .have b:=k H (Same.refl H);rw[if_pos (of_decide_eq_true c)]at b;exact b
  .have o:¬l<f:=λz=>c (decide_eq_true z);refine(nmc Z (flc (i) (T.gG) (qp T.gZ Uk) (rfl) ⟨_,_,_,Z,j,Z,(nmc Z (iic Z Z ⟨_,_,_,_,Z,e,ok.ap,ok.nn,by lia,λH1 d=>(nmc Z (flc ((d _ _ i)) (T.gG) (qp T.gZ Uk) (rfl) ⟨_,_,_,Z,d _ _ j,Z,(nmc Z ⟨_,_,_,_,Z,e.same d,ok.ap,ok.nn,p,λn m=>(iic Z Z ?_)⟩)⟩))⟩))⟩));have b:=k n (d.trans m);rw[if_neg o]at b;exact b
theorem qvz (T:Txt K mg a):FnOk P w K mg base CX0 10 a.sQ a.xI ["kind","start","units","pauses"] (spFullD a):=by
 refine T.dR.fn.ok qcv (λvs H Q E h=>?_) (λcdv A outer s H vs Q E n h=>?_)
 .obtain⟨_,_,_,_,_,_,_,_,rfl,_⟩:=h
  all_goals rfl
 .obtain⟨x,pq,i,st,u,bs,rs,ps,rfl,D,tok,hq,ok,B,u1,k⟩:=h;refine⟨_,(qf (qu (i:=4) qcv.nd Z (Au Z) (qlg (ι:=Three) (C:=(qcn a.kN a.kR a.kP)) (f:=(qcn a.gP a.bO a.gP)) (fd:=(qcn a.dD a.lQ a.dD)) (ps:=(qcn (["self","units"]:List Str) (["self","units"]:List Str) (["self","units"]:List Str))) (sp:=(qcn (qgp λu=>.int u) (qgp λu=>.int (7*u)) (qgp λu=>.int u))) (k:=(qcn 1 1 1)) (pv 0) (qf0 T.bH T.bM T.gG) (qf0 T.zZ T.yM T.yL) (qf0 (qen T) (qmh T) (qen T)) (qf0 (n.mono Uk) (n.mono Uk) (n.mono Uk)) (qf0 T.mE.bd T.yD.bd T.mE.bd) .nil qac (qd (pv 2) qg qe)))
   (qf (qu (i:=5) qcv.nd Z (Au Z) (qv qah (pv 1) qi))
   (qf (qa2 A7 Z (qap (pv 3)) (qeq Z (qar (qad (i:=6) qcv.nd Z (Au Z)) (qar (qad (i:=7) qcv.nd Z (Au Z)) qdg))) (qf (qu (i:=8) qcv.nd Z (Au Z) (qlg (ι:=Three) (C:=(qcn a.kN a.kR a.kP)) (f:=(qcn a.gQ a.gQ a.bG)) (fd:=(qcn a.dS a.dS a.lI)) (ps:=(qcn (["self","first","last"]:List Str) (["self","first","last"]:List Str) (["self","first","last"]:List Str))) (sp:=(qcn (qex λf l=>.int (if l-f+1 > 0 then l-f+1 else 0)) (qex λf l=>.int (if l-f+1 > 0 then l-f+1 else 0)) (qx2 a))) (k:=(qcn 1 1 8)) (pv 0) (qf0 T.bH T.bM T.gG) (qf0 T.zG T.zK T.zH) (qf0 (qdv T) (qdv T) (qgu T)) (qf0 (n.mono Uk) (n.mono Uk) (n.mono Uk)) (qf0 T.lW.bd T.lW.bd T.rW.bd) .nil qac (qd (pv 5) (qd (qv qbr (pv 6) qi) qg zl) qe)))
   (qf (qz (qt op_ge (pv 8) (pv 4) (qaf _)) (qj qpw) qag)
   (qf (qz (qt qb9 (pv 7) qau (qaf _)) (qj (qo qau)) qag)
   (qf (qk1 (i:=4) qcv.nd Z (Au Z) (pv 8) ip_sub)
   (qj (qu (i:=5) qcv.nd Z (Au Z) (zc (qi6 Z) (by rfl) T.fN qlu (qd (pv 5) (qd (qv qah (pv 7) qi) qg zl) qe)))))))))
   (qj (qo (qlg (ι:=Three) (C:=(qcn a.kN a.kR a.kP)) (f:=(qcn a.gW a.gW a.bN)) (fd:=(qcn a.fD a.fD a.fZ)) (ps:=(qcn (["self","first","many"]:List Str) (["self","first","many"]:List Str) (["self","first","many"]:List Str))) (sp:=(qcn (qex λf m=>.int (f+m-1)) (qex λf m=>.int (f+m-1)) (ql5 a))) (k:=(qcn 1 1 9)) (pv 0) (qf0 T.bH T.bM T.gG) (qf0 T.zC T.K4 T.zF) (qf0 (qfx T) (qfx T) (qjz T)) (qf0 (n.mono Uk) (n.mono Uk) (n.mono Uk)) (qf0 T.mC.bd T.mC.bd T.xB.bd) .nil qac (qd (pv 5) (qd (pv 4) qg qe) qe))))))),?_⟩
  obtain⟨I,tb,G,ht⟩:=id D;obtain⟨us,J,ty⟩:=hq;have y:=kcnt tok i;have m1:=qq4 u1 i;have lu:us.length=ps.length:=by rw[ty.length,Ab]
  refine(nmc Z ⟨i,x,I,_,Z,G,Z,(nmc Z (kfor (nmc Z (iic Z Z (nmc Z ?_)))))⟩);refine⟨_,Z,⟨_,SqL.of J⟩,qa5 (K:=K) (a:=pq) (xs:=us) (λj σ H'=>Same H H'/\∃(b L:Int)(v6 M O:Option V),σ=[some (.ref x),some (.int st),some (.int u),some (.ref pq),some (.int L),some (.int b),v6,M,O]/\Go (kf bs rs i) ps st (qcn u (7*u) u i) j b L)
   ⟨Same.refl H,_,_,none,none,none,Z,go_zero m1⟩ (λj σ H' _ h=>SqL.of (h.1 _ _ J)) ?_ ?_⟩
  .rintro j v σ H' ad ⟨p,b,L,v6,M,O,rfl,q⟩;obtain⟨c,t,rfl,h1,Y⟩:=ty.get' ad;obtain⟨⟨F,o⟩,X,rfl⟩:=qq3 h1;have Y:=p _ _ Y;have hb:=q.hb;refine⟨_,_,Z,SqT.of Y,Z,_,_,Z,_,_,Z,Z,?_⟩;refine(nmc Z ⟨i,x,I,_,Z,p _ _ G,Z,(nmc Z (nmc Z (iic Z Z (kin (D.same p) tok (by lia) λH2 s2=>?_))))⟩);have r:=p.trans s2;refine(nmc Z (nmc Z (iic Z Z (nmc Z (qb2 (λc=>?_) (λc=>?_))))))
   .have g:=go_fin y B ok q X (of_decide_eq_true c);exact(nmc Z ⟨i,x,I,_,Z,r _ _ G,Z,(nmc Z (nmc Z (qx4 (D.same r) tok (by have:=g.hb;lia) g.hL λd S R W N U=>k S (some d) (r.trans R) (qq1 y B g W N U))))⟩)
   .have c':cin (kb bs rs i) b (F-1)<L:=Ep.mp λz=>c (decide_eq_true z);cases o with|none=>exact(nmc Z ⟨Z,(nmc Z (qcp Z (k _ none r (go_none y B ok q X c'))))⟩)|some e=>exact(nmc Z ⟨Z,(nmc Z (qbh (λz=>nomatch z) (nmc Z (nmc Z (iic Z Z (nmc Z (nmc Z (iic Z Z ⟨_,_,Z,r,_,_,_,_,_,Z,go_next y B ok q X c'⟩))))))))⟩)
  .rintro σ H' ⟨p,b,L,v6,M,O,rfl,q⟩;rw[lu]at q;have g:=go_end (f:=kb bs rs i) q;exact(nmc Z ⟨i,x,I,_,Z,p _ _ G,Z,(nmc Z (nmc Z (qx4 (D.same p) tok (by have:=g.hb;lia) g.hL λd S R W N U=>k S (some d) (p.trans R) (qq1 y B g W N U))))⟩)
theorem qfy (T:Txt K mg a):FnOk P w K mg base CX0 9 a.lE a.xY ["self","day"] (spTNext a):=by
 refine T.mD.fn.ok qkh (λvs H Q E h=>?_) (λcdv A outer s H vs Q E i h=>?_)
 .obtain⟨_,_,_,_,rfl,_⟩:=h
  all_goals rfl
 .obtain⟨x,bs,rs,n,rfl,l,e,g,r,C,t,k⟩:=h;refine⟨_,(qj (qo (qal (pv 0) T.kM T.mV (qmi T) (i.mono Uk) T.lA.bd .nil qac (qd (qal (pv 0) T.kM T.gY (qb7 T) (i.mono Uk) T.gU.bd .nil qac (qd (pv 1) qg qe)) qg zj)))),?_⟩;have c:=l;obtain⟨dx,p,q,z,f,_⟩:=l;refine(nmc Z ⟨_,_,_,Z,f,Z,(nmc Z ⟨_,_,_,Z,f,Z,(nmc Z ⟨_,_,_,_,Z,c,e,g,t,λH1 j=>?_⟩)⟩)⟩);obtain⟨dp,a1,a2,a3,p1,p2,p3,p4,hl⟩:∃dp a1 a2 a3,H p=some (.ins a.kK dp (pfs a1 a2 a3))/\H a1=some (.lst (bs.map V.bl))/\H a2=some (.lst ((odL bs).map V.int))/\H a3=some (.lst ((cuL bs).map V.int))/\bs.length=371:=by obtain⟨_,p',_,_,b,B,_⟩:=c;rw[f]at b;injection b with b;injection b with _ _ b;injection b with b _;injection b with _ b;injection b with b;subst b;exact B
  have o:=(qx0 hl e r).le (n:=0) (m:=n) (Bp _) t;rw[qo5 g e.ok]at o;exact⟨_,_,_,_,Z,c.same j,e,g,r,C,o,λd y v F u D=>k d y (j.trans v) F u D⟩
theorem qsv (T:Txt K mg a):FnOk P w K mg base CX0 10 a.mW a.tQ ["table","day","pauses"] (spFDue a):=by
 refine T.dQ.fn.ok qec (λvs H Q E h=>?_) (λcdv A outer s H vs Q E C h=>?_)
 .obtain⟨_,_,_,_,_,_,rfl,_⟩:=h
  all_goals rfl
 .obtain⟨tb,B,d,bs,rs,ps,rfl,u,tok,O,ok,x,k⟩:=h;refine⟨_,(qf (qu (i:=3) qec.nd Z (Au Z) (qal (pv 0) T.kM T.pQ (qfy T) (C.mono Uk) T.mD.bd .nil qac (qd (pv 1) qg qe)))
   (qf (qa2 A7 Z (qap (pv 2)) (qeq Z (qar (qad (i:=4) qec.nd Z (Au Z)) (qar (qad (i:=5) qec.nd Z (Au Z)) qdg))) (qf (qz (qt qdl (pv 3) (pv 4) (qaf _)) (qj qpw) qag)
   (qf (qz (qt qb9 (pv 5) qau (qaf _)) (qj (qo qau)) qag)
   (qj (qz (qt qf4 (pv 3) (pv 5) (qaf _)) (qj (qu (i:=3) qec.nd Z (Au Z) (qal (pv 0) T.kM T.pQ (qfy T) (C.mono Uk) T.mD.bd .nil qac (qd (qv qah (pv 5) qi) qg zl)))) qag)))))
   (qj (qo (pv 3))))),?_⟩
  obtain⟨_,_,_,_,G⟩:=u.ins;obtain⟨us,L,ty⟩:=O;have I:=qx0 tok.hl tok.ap tok.wd;have R:us.length=ps.length:=by rw[ty.length,Ab]
  refine(nmc Z ⟨_,_,_,Z,G,Z,(nmc Z ⟨_,_,_,_,Z,u,tok.ap,tok.nn,tok.wd,tok.op,x,λt H1 b n p m=>?_⟩)⟩);refine(nmc Z ⟨_,Z,⟨_,SqL.of (b _ _ L)⟩,qa5 (K:=K) (a:=B) (xs:=us) (λj σ H'=>Same H H'/\∃(t:Int)(q r:Option V),σ=[some (.ref tb),some (.int d),some (.ref B),some (.int t),q,r]/\Gd (tfr bs rs) ps d j t)
   ⟨b,t,none,none,Z,gd_zero I x n p m⟩ (λj σ H' _ h=>SqL.of (h.1 _ _ L)) ?_ ?_⟩)
  .clear n p m;rintro j v σ H' D ⟨b,t,q,r,rfl,f⟩;obtain⟨c,t,rfl,M,y⟩:=ty.get' D;obtain⟨⟨F,o⟩,l,rfl⟩:=qq3 M;have y:=b _ _ y;have hf:=f.hf;refine⟨_,_,Z,SqT.of y,Z,_,_,Z,_,_,Z,Z,?_⟩;refine(nmc Z (nmc Z (iic Z Z (nmc Z (qb2 (λc=>?_) (λc=>?_))))))
   .exact(nmc Z (k _ (some _) b (gd_not ok f l (of_decide_eq_true c))))
   .have J:F<=_:=B8.mp λz=>c (decide_eq_true z);cases o with
    |none=>exact(nmc Z ⟨Z,(nmc Z (qcp Z (k _ none b (gd_none f l J))))⟩)
    |some e =>
     have e0:=(ok.ok _ (A0 l)).2 e rfl;refine(nmc Z ⟨Z,(nmc Z (qbh (λz=>nomatch z) (nmc Z (nmc Z (iic Z Z (nmc Z (qb2 (λg=>?_) (λg=>?_))))))))⟩)
     .have g:=of_decide_eq_true g;exact(nmc Z ⟨_,_,_,Z,b _ _ G,Z,(nmc Z (iic Z Z ⟨_,_,_,_,Z,u.same b,tok.ap,tok.nn,tok.wd,tok.op,by lia,λt' H2 N n p m=>⟨b.trans N,_,_,_,Z,gd_leap I x f l J g n p m⟩⟩))⟩)
     .exact⟨b,_,_,_,Z,gd_over f l (Ep.mp λz=>g (decide_eq_true z))⟩
  .rintro σ H' ⟨b,t,q,r,rfl,f⟩;rw[R]at f;exact(nmc Z (k _ (some t) b (gd_end f)))
theorem qg6 (T:Txt K mg a):FnOk P w K mg base CX0 11 a.mI a.nJ ["kind","start","units","pauses"] (spLastD a):=by
 refine T.kY.fn.ok qnz (λvs H Q E h=>?_) (λcdv A outer s H vs Q E g h=>?_)
 .obtain⟨_,_,_,_,_,_,_,_,rfl,_⟩:=h
  all_goals rfl
 .obtain⟨x,e,i,st,u,bs,rs,ps,rfl,d,tok,j,ok,v,n,k⟩:=h;refine⟨_,(qf (qu (i:=4) qnz.nd Z (Au Z) (zb (qvz T) (g.mono Uk) Z T.dR.mgx T.dR.fn.kp T.dR.bd .nil qac (qd (pv 0) (qd (pv 1) (qd (pv 2) (qd (pv 3) qg qe) qe) qe) qe)))
   (qf (qz (qt qb9 (pv 4) qau (qaf _)) (qj (qo qau)) qag)
   (qj (qo (zb (qsv T) (g.mono Uk) Z T.dQ.mgx T.dQ.fn.kp T.dQ.bd .nil qac (qd (qab (pv 0) Z) (qd (pv 4) (qd (pv 3) qg qe) qe) qam)))))),?_⟩
  obtain⟨dx,tb,o,q⟩:=id d;refine(nmc Z (nmc Z (nmc Z (nmc Z ⟨x,e,i,st,u,bs,rs,ps,Z,d,tok,j,ok,v,n,λH1 t c b=>?_⟩))));cases t with|none=>exact(nmc Z ⟨Z,(nmc Z (qcp Z (k _ none c (.inl ⟨b,Z⟩))))⟩)|some f =>have f0:=b.1;exact(nmc Z ⟨Z,(nmc Z (qbh (λz=>nomatch z) (nmc Z ⟨_,_,_,_,_,Z,c _ _ o,qf0 (p:=λi=>Cls K (kC a i)) T.bH T.bM T.gG i,qf0 (p:=λi=>NoAttr K (kC a i) (Aa "table")) (qp T.yB Uk) (qp T.sZ Uk) (qp T.gZ Uk) i,Z,(nmc Z (nmc Z ⟨tb,e,f,bs,rs,ps,Z,q.same c,tok,j.same c,ok,by lia,λH2 r m l=>k _ r (c.trans m) (.inr ⟨f,b,l⟩)⟩))⟩)))⟩)
theorem qv0 (T:Txt K mg a){cL y:Addr}(hcl:a.bL.code=.ref cL)(LF:Lam.LamF mg base cL y):FnOk P w K mg base CX0 4 a.sR a.bL ["acts"] (spIo y):=by
 refine Lam.okT T.bX.fn hcl qvi (λvs H Q E h=>?_) (λcdv ad A outer s H vs Q E hr h=>?_)
 .obtain⟨_,_,_,rfl,_⟩:=h
  all_goals rfl
 .obtain⟨p,us,d,rfl,hp,X,hl,hL,k⟩:=h;refine⟨_,(qj (qo (Lam.pe_sortLamT (N:=["act"]) (js:=[none]) (XN:=["acts"]) (xs:=qaa qdn) Z (hr.mono Uk) (by rfl) T.nH (qd (pv 0) qg qe) LF ad Z Z Ez Z Z Ez Z Z Z (λ_ _ _ _ _=>rfl) (λ_ _ _ _ _ _=>(zh (qd (zo (qib (K:=K) Z) (pv 0) qi (λ_ _=>rfl)) (qd (zo (qib (K:=K) Z) (pv 0) qi (λ_ _=>rfl)) qg zm) zm)))))),?_⟩;have S:=X.length;rw[Ab]at S;refine(nmc Z ⟨p,us,Z,SqL.of hp,by lia,hL,λO c' kp D M C B=>?_⟩);obtain⟨ps,L⟩:=hL.tbl;have ae:Tups O us (d.map qb4):=qb1 X λb t e=>kp b _ (λz=>by rw[z,L]at e;cases e) e;have nkP:C≠y:=λz=>by rw[z,D]at B;cases B
  refine⟨λi H'=>Same O H'/\∃m,H' C=some (.lst m)/\Tups H' m ((d.take i).map λt=>Lam.encK (qm7 t)),⟨qx B,[],qk,.nil⟩,λi x H' hx W=>?_,λH' W=>?_⟩
  .obtain⟨g,m,v,l⟩:=W;have I:i<d.length:=by have:=(Ac.mp hx).1;lia
   obtain⟨b,eb,qb⟩:=ae.get (i:=i) (r:=qb4 d[i]) (by rw[Ai,Ad I];rfl);rw[hx]at eb;cases eb;have e3:=g _ _ qb;refine⟨g _ _ M,(nmc Z (txo (e3) Z (nmc Z (txo (e3) Z ⟨qvl _ _,λt Y=>?_⟩))))⟩;obtain⟨st,et⟩:=alc (o:=.tup [V.int d[i].2.2,V.str d[i].1]) Y;have lk:=l.length;rw[Ab,Bv]at lk;refine⟨m,st _ _ v,qbm (by lia),?_,_,qk,?_⟩
   .exact λb o e=>by rw[qr (qae e B)];exact st _ _ (g _ _ e)
   .rw[B1,Ad I,Ax];refine qg1 (qb1 l λc u e=>?_) ?_
    .rw[qr (λz=>by rw[z,v]at e;cases e)];exact st _ _ e
    .rw[qr (λz=>by rw[z,v]at Y;cases Y)];exact et
  .obtain⟨g,m,v,l⟩:=W;rw[S,Bq]at l;refine⟨m,d.map qm7,v,by rw[Cr];exact l,by rw[Ab];lia,λG q pp pw f=>?_⟩;have F:∀j∈G,j<d.length:=λj U=>by have:=AT.mp (pp.mem_iff.mp U);lia
   have nqk:q≠C:=λz=>by rw[z,v]at f;cases f
   have s3:Same O (upd (upd H' C (.lst [])) q (.lst (G.map λi=>us.getD i V.non))):=λb o e=>by rw[qr (qae (g _ _ e) f),qr (qae e B)];exact g _ _ e
   have R:∀b t,H b=some (.tup t)->b≠y:=λb t e z=>by rw[z,L]at e;cases e
   have J:SameBut y H (upd (upd H' C (.lst [])) q (.lst (G.map λi=>us.getD i V.non))):=λb o n e=>s3 _ _ (kp b o n e);have af:H q=none:=by
    by_cases z:q=y
    .rw[z]at f;rw[g _ _ D]at f;cases f
    .cases e:H q with
     |none=>rfl
     |some o=>rw[g _ _ (kp q o z e)]at f;cases f
   refine k q _ _ (G.map λi=>d.getD i dA) af J (Lam.LamAt.same (.inr ⟨c',D,M⟩) s3) ?_ ?_ qk ?_
   .have:=pp.map λi=>d.getD i dA;rw[S,qr3]at this;exact this
   .rw[Cj]at pw |-;refine pw.imp_of_mem λ{i j} I U h=>?_;have ei:(d.map qm7).getD i Lam.kDf=qm7 (d.getD i dA):=by simp[F i I]
    have ej:(d.map qm7).getD j Lam.kDf=qm7 (d.getD j dA):=by simp[F j U]
    rw[ei,ej]at h;exact h
   .exact qmc (qb1 X λb t e=>J b _ (R b t e) e) G F
theorem qm8 (T:Txt K mg a):FnOk P w K mg base CX0 1 a.fP a.mU ["self"] (spBHang a):=by
 refine T.nQ.fn.ok qm1 (λvs H Q E h=>?_) (λcdv A outer s H vs Q E hr h=>?_)
 .obtain⟨_,_,_,_,rfl,_⟩:=h
  all_goals rfl
 .obtain⟨x,nms,ord,us,rfl,c,k⟩:=h;refine⟨_,(qj (qo (qi8 qe7 (by rfl) T.bT qgx (qd (qab (pv 0) Z) qg qam)))),?_⟩;obtain⟨dx,po,pd,kvs,b,e,h3,h4,h5⟩:=c;exact(nmc Z (flc (b) (T.gI) (qp T.bC Uk) (rfl) ⟨_,_,Z,.inl (SqL.of e),λl d=>k l d⟩))
theorem qpo (T:Txt K mg a):FnOk P w K mg base CX0 1 a.hZ a.mN ["self","name"] (spBRule a):=by
 refine T.tS.fn.ok qo1 (λvs H Q E h=>?_) (λcdv A outer s H vs Q E d h=>?_)
 .obtain⟨_,_,_,_,_,_,rfl,_⟩:=h
  all_goals rfl
 .obtain⟨x,nms,ord,us,j,y,rfl,f,l,k⟩:=h;refine⟨_,(qf (qz (qv8 (quv (qch d) (pv 1) (qab (pv 0) Z))) (qj qe0) qag)
   (qj (qo (qc0 (qch d) (qab (pv 0) Z) (pv 1) (λ_ _=>rfl))))),?_⟩
  obtain⟨dx,po,b,kvs,c,h2,i,h4,e⟩:=f;have g:DGet H b (.str (nm nms j)) (some y):=e j y l ▸ DGet.k (k:=.inr (nm nms j)) i;exact(nmc Z (nmc Z (flc (c) (T.gI) (qp T.bC Uk) (rfl) ⟨b,_,Z,g,(nmc Z (qce (nmc Z (flc (c) (T.gI) (qp T.bC Uk) (rfl) (nmc Z ⟨b,_,Z,g,k⟩)))))⟩)))
theorem qrl (T:Txt K mg a):FnOk P w K mg base CX0 1 a.lP a.nD ["self"] (spOvr a):=by
 refine T.xR.fn.ok qqp (λvs H Q E h=>?_) (λcdv A outer s H vs Q E hr h=>?_)
 .obtain⟨_,_,_,_,_,_,_,rfl,_⟩:=h
  all_goals rfl
 .obtain⟨x,B,S,rd,st,bs,rs,rfl,b,k⟩:=h;refine⟨_,(qj (qo (qab (pv 0) Z))),?_⟩;obtain⟨dx,rl,cn,pr,pp,pg,ur,up,rfl,R⟩:=id b;exact(nmc Z (flc (R.hx) (T.k8) (qp T.kD Uk) (rfl) k))
theorem qrm (T:Txt K mg a):FnOk P w K mg base CX0 2 a.xA a.yC ["runs"] (spIr a):=by
 refine T.dU.fn.ok qqq (λvs H Q E h=>?_) (λcdv A outer s H vs Q E e h=>?_)
 .obtain⟨_,_,_,rfl,_⟩:=h
  all_goals rfl
 .obtain⟨l,xs,b,rfl,c,hl,d,k⟩:=h;refine⟨_,(qj (qo (qhf (qej qpx (zc qbs (by rfl) T.kX qbv (qd (pv 0) qg qe)) qi (qaf _)) (qf2 (qv9 (qbd (zo zq (pv 0) (qf3 qd1 qi) (λ_ _=>rfl)) T.k8 T.K9 (qrl T) (e.mono Uk) T.xR.bd .nil qac)))))),?_⟩;refine(nmc Z ⟨_,_,Z,.inl ⟨_,SqL.of c,Z⟩,(iic Z Z ?_)⟩);rcases d with ⟨rfl,rfl⟩|⟨ys,y,B,S,rd,st,bs,rs,rfl,R,rfl⟩
  .exact⟨_,Z,qce k⟩
  .obtain⟨dy,rly,cny,pry,ppy,pgy,ury,upy,eS,Y⟩:=id R;have hn:((ys++[V.ref y]).length:Int)=(ys.length:Int)+1:=by rw[Af];rfl
   refine⟨_,Z,?_⟩;rw[if_pos (decide_eq_true (by lia))];exact(nmc Z ⟨_,Z,(lxo (c) (qo9 _ _) ⟨_,_,_,Z,Y.hx,Z,y,B,S,rd,st,bs,rs,Z,R,_,Z,k⟩)⟩)
theorem qi2 (T:Txt K mg a):FnOk P w K mg base CX0 1 a.hU a.nV ["self","kind"] (spStl a):=by
 refine T.pY.fn.ok qim (λvs H Q E h=>?_) (λcdv A outer s H vs Q E hr h=>?_)
 .obtain⟨_,_,_,rfl,_⟩:=h
  all_goals rfl
 .obtain⟨rl,d,rd,rfl,l,k⟩:=h;refine⟨_,(qf (qz (qt qb9 (qab (pv 0) Z) qau (qaf _)) (qj (qo zf)) qag)
   (qf (qz (qt qcm (pv 1) (zo zp (qab (pv 0) Z) qi (λ_ _=>rfl)) (qaf _)) (qj (qo zf)) qag)
   (qj (qo (qcl (qt qcm (pv 1) (zo zp (qab (pv 0) Z) qi (λ_ _=>rfl)) (qaf _)) zf zf))))),?_⟩
  obtain⟨dx,pe,pa,pl,nm',w1,op,b1,s1,py,us,f,i,h3,h4,h5,h6⟩:=l;cases e:rd.still with
  |none =>rw[e]at i k;cases i;exact(nmc Z (flc (f) (T.kG) (qp T.kH Uk) (rfl) ⟨Z,(nmc Z (qcp Z k))⟩))
  |some z =>
   obtain⟨j,g⟩:=z;rw[e]at i k;obtain⟨p,rfl,m⟩:=i;refine(nmc Z (flc (f) (T.kG) (qp T.kH Uk) (rfl) ⟨Z,(nmc Z (qbh (λz=>nomatch z) (nmc Z (nmc Z (flc (f) (T.kG) (qp T.kH Uk) (rfl) (txo (m) Z ⟨Z,(nmc Z (qb2 (λc=>?_) (λc=>?_)))⟩))))))⟩))
   .have c:=V.str.inj (of_decide_eq_true c);rw[show qpa (some (j,g)) d=Aa "still" by unfold qpa;simp only;rw[if_pos c]]at k;exact k
   .have c:¬d=j:=λq=>c (decide_eq_true (congrArg V.str q));refine(nmc Z (nmc Z (flc (f) (T.kG) (qp T.kH Uk) (rfl) (txo (m) Z ⟨Z,(nmc Z (qb2 (λb=>?_) (λb=>?_)))⟩))))
    .have b:=V.str.inj (of_decide_eq_true b);rw[show qpa (some (j,g)) d=Aa "goes on" by unfold qpa;simp only;rw[if_neg c,if_pos b]]at k;exact k
    .have b:¬d=g:=λq=>b (decide_eq_true (congrArg V.str q));rw[show qpa (some (j,g)) d=Aa "" by unfold qpa;simp only;rw[if_neg c,if_neg b]]at k;exact k
theorem qsw (T:Txt K mg a):FnOk P w K mg base CX0 2 a.fM a.xD ["self","kind"] (spRole a):=by
 refine T.rQ.fn.ok qsb (λvs H Q E h=>?_) (λcdv A outer s H vs Q E U h=>?_)
 .obtain⟨_,_,_,rfl,_⟩:=h
  all_goals rfl
 .obtain⟨rl,d,rd,rfl,C,ok,k⟩:=h;refine⟨_,(qf (qz (PW.pt (qh3 (qt qcm (pv 1) (qab (pv 0) Z) (qaf _)) (qhe (qt qct (pv 1) (qab (pv 0) Z) (by with_unfolding_all rfl))))) (qj (qo zf)) qag)
   (qf (qz (qt qct (pv 1) (qab (pv 0) Z) (by with_unfolding_all rfl)) (qj (qo zf)) qag)
   (qf (qz (qt qct (pv 1) (qc1 (N:=["row"]) (js:=[none]) (XN:=["self","kind"]) (xs:=qaa qgv) Z Z Z Ez (qap (qab (pv 0) Z)) (λ_ _ _ _ _ _=>(qad (i:=0) (show BD (["row"]:List Str) from by decide +kernel) Z (Au Z) (CG Z))) (λ_ _ _ _ _ _=>qel) (λ_ _ _ _ _ _=>(zo (qib (K:=K) Z) (pv 0) qi (λ_ _=>rfl)))) (by with_unfolding_all rfl)) (qj (qo zf)) qag)
   (qj (qo (qal (pv 0) T.kG T.KG (qi2 T) (U.mono Uk) T.pY.bd .nil qac (qd (pv 1) qg qe))))))),?_⟩
  have M:=C;obtain⟨dx,pe,pa,pl,nm',w1,op,b1,s1,py,us,m,h2,Y,X,J,D⟩:=id C;apply use (p:=¬(d=rd.owes\/rd.ends.contains d=true))
  .intro O;have B:d=rd.owes\/rd.ends.contains d=true->Q (.str (Aa "ends")) H:=λz=>by have:=k H (Same.refl H);unfold qa3 at this;rw[if_pos z]at this;exact this
   refine(nmc Z (nmc Z (flc (m) (T.kG) (qp T.kH Uk) (rfl) ⟨Z,(nmc Z (qb2 (λc=>qdm (B (.inl (V.str.inj (of_decide_eq_true c))))) (λc=>(nmc Z (nmc Z (flc (m) (T.kG) (qp T.kH Uk) (rfl) ⟨_,_,Z,.inl (SqL.of Y),Z,qcg _,(nmc Z ?_)⟩))))))⟩)));show if inV (.str d) (rd.ends.map V.str)=true then _ else _;rw[qcb];exact qb2 (λe=>B (.inr e)) (λe=>O λz=>by
    rcases z with z|z
    .exact c (decide_eq_true (congrArg V.str z))
    .exact e z)
  .intro I;refine(nmc Z (nmc Z (flc (m) (T.kG) (qp T.kH Uk) (rfl) ⟨_,_,Z,.inl (SqL.of X),Z,qcg _,(nmc Z ?_)⟩)));show if inV (.str d) (rd.anew.map V.str)=true then _ else _;rw[qcb];refine qb2 (λe=>?_) (λe=>?_)
   .have:=k H (Same.refl H);unfold qa3 at this;rw[if_neg I,if_pos e]at this;exact this
   .have lu:us.length=rd.longer.length:=by rw[D.length,Ab]
    have hll:=ok.l;refine(nmc Z (nmc Z (flc (m) (T.kG) (qp T.kH Uk) (rfl) ⟨_,Z,⟨_,SqL.of J⟩,?_⟩)));let f:V->V:=λv=>match v with
     |.ref b=>match H b with
      |some (.tup [.str y,.int _,.int _])=>.str y
      |_=>.non
     |_=>.non
    refine qe2 f (λσ'=>∃v,σ'=[v]) (qbg (K:=K) (SqL.of J)) (fits (by lia)) ⟨none,Z⟩ (λv σ' H' RR S sm s4 q=>?_) qb8 λp5 L=>?_
    .obtain⟨v0,rfl⟩:=s4;obtain⟨j,W⟩:=Bc S;obtain⟨b,t,rfl,g,x⟩:=D.get' W;rw[Ai]at g;cases u:rd.longer[j]? with
     |none=>rw[u]at g;cases g
     |some r =>
      rw[u]at g;cases g;have R:f (.ref b)=.str r.1:=by show (match H b with|some (.tup [.str y,.int _,.int _])=>V.str y|_=>.non)=_;rw[x];rfl
      have q:=q [some (.ref b)] ⟨_,Z⟩;rw[R]at q;exact(nmc Z (txo (sm _ _ x) Z q))
    have F:us.map f=(rd.longer.map (·.1)).map V.str:=by
     refine Ck λj=>?_;rw[Ai,Ai,Ai];cases u:rd.longer[j]? with
     |none=>rw[AI (by rw[lu];exact Dk.mp u)];rfl
     |some r =>obtain⟨b,g,x⟩:=D.get (i:=j) (r:=qq7 r) (by rw[Ai,u];rfl);rw[g];show some (match H b with|some (.tup [.str y,.int _,.int _])=>V.str y|_=>.non)=_;rw[x];rfl
    have n:=qx (o:=.lst (us.map f)) L;refine⟨_,_,Z,.inl (SqL.of qk),Z,by rw[F];exact qcg _,(nmc Z ?_)⟩;show if inV (.str d) (us.map f)=true then _ else _;rw[F,qcb];rw[F]at n;refine qb2 (λG=>?_) (λG=>?_)
    .have:=k _ n;unfold qa3 at this;rw[if_neg I,if_neg e,if_pos G]at this;exact this
    .have:=k _ n;unfold qa3 at this;rw[if_neg I,if_neg e,if_neg G]at this;exact(nmc Z ⟨_,_,_,Z,n _ _ m,Z,(nmc Z ⟨rl,d,rd,Z,M.same n,this⟩)⟩)
theorem qhc (T:Txt K mg a):FnOk P w K mg base CX0 1 a.fY a.nN ["self"] (spHl a):=by
 refine T.lZ.fn.ok qm2 (λvs H Q E h=>?_) (λcdv A outer s H vs Q E hr h=>?_)
 .obtain⟨_,_,_,_,_,_,_,rfl,_⟩:=h
  all_goals rfl
 .obtain⟨x,B,S,rd,st,bs,rs,rfl,f,k⟩:=h;refine⟨_,(qj (qo (qhf (qej qpx (zc qbs (by rfl) T.kX qbv (qd (qab (pv 0) Z) qg qam)) qi (qaf _)) (qf2 (qej qb9 (zo zp (zo zq (qab (pv 0) Z) (qf3 qd1 qi) (λ_ _=>rfl)) qi (λ_ _=>rfl)) qau (qaf _)))))),?_⟩;obtain⟨dx,rl,cn,pr,pp,pg,ur,d,rfl,R⟩:=id f;refine(nmc Z (flc (R.hx) (T.k8) (qp T.kD Uk) (rfl) ⟨_,_,Z,.inl ⟨_,SqL.of R.hp,Z⟩,(iic Z Z (nmc Z ?_))⟩));rcases BJ st.ps with e|⟨qs,p,e⟩
  .have g:d=[]:=DI (by rw[R.tp.length,Ab,e];rfl);rw[e]at k;subst g;exact qce k
  .rw[BK]at e;obtain⟨F,o⟩:=p;have tp:=R.tp;rw[e]at tp k;obtain⟨vs,c,b,i,tv⟩:=qn4 tp;rw[qra]at k;refine qcp (by rw[b,Af,AW];lia) (nmc Z (flc (R.hx) (T.k8) (qp T.kD Uk) (rfl) ⟨_,Z,(lxo (R.hp) ((b ▸ qo9 vs _)) (txo (i) Z ⟨Z,k⟩))⟩))
theorem qob (T:Txt K mg a):FnOk P w K mg base CX0 2 a.lB a.rL ["self","day"] (spGo a):=by
 refine T.hJ.fn.ok qn0 (λvs H Q E h=>?_) (λcdv A outer s H vs Q E N h=>?_)
 .obtain⟨_,_,_,_,_,_,_,_,_,rfl,_⟩:=h
  all_goals rfl
 .obtain⟨x,B,S,rd,st,bs,rs,c,d,rfl,t,ok,k⟩:=h;refine⟨_,(qf (qz (qdz (zd (qbd (pv 0) T.k8 T.pE (qhc T) (N.mono Uk) T.lZ.bd .nil qac))) (qj (qo qck)) qag)
   (qf (qu (i:=2) qn0.nd Z (Au Z) (zo zp (qwk A3 PySem.F.slot_list_pop PySem.F.type_list_pop mt_pop (qab (pv 0) Z)) qi (λ_ _=>rfl)))
   (qf (qz (qt qdl (pv 2) (pv 1) (qaf _)) (qj (qy (qca A3 AB AC qao (qab (pv 0) Z) (qd (zh (qd (pv 2) (qd (qv qbr (pv 1) qi) qg zl) qe)) qg zn)))) qag)
   (qj (qo qck))))),?_⟩
  obtain⟨J,rl,cn,v,j,u,G,M,rfl,R⟩:=id t;refine(nmc Z ⟨_,_,_,Z,R.hx,Z,x,B,_,rd,st,bs,rs,Z,t,(nmc Z ?_)⟩);cases p:qa1 st.ps with
  |false =>rw[p,qis p]at k;exact qdm (k H (KeepS.of (Same.refl H)) t)
  |true =>
   obtain⟨m,F,e⟩:=qpb p;have tp:=R.tp;rw[e]at tp;obtain⟨vs,c1,q,y,D⟩:=qn4 tp;rw[p,e,qkt]at k;refine qce (nmc Z (flc (R.hx) (T.k8) (qp T.kD Uk) (rfl) ⟨.inl ⟨Z,_,SqL.of R.hp⟩,_,_,_,Z,Z,R.hp,(q ▸ last_ix vs _),?_⟩));have O:M.dropLast=vs:=by rw[q,List.dropLast_concat]
   rw[O];have g:=R.setP (up':=vs) (ps':=m) D;have C:KeepS [x,v,j,u] H (upd H j (.lst vs)):=qeg (by simp);have r:=(qr (o:=.lst vs) (λz=>by rw[z,R.hp]at y;cases y)).trans y;generalize upd H j _=H1 at g C r |-;refine(txo (r) Z (nmc Z (nmc Z (iic Z Z (nmc Z (qb2 (λf=>?_) (λf=>?_)))))))
   .have f:=of_decide_eq_true f;rw[if_pos f]at k;refine(nmc Z (flc (g.hx) (T.k8) (qp T.kD Uk) (rfl) ⟨.inl ⟨Z,_,SqL.of g.hp⟩,(nmc Z (nmc Z (iic Z Z ⟨qvl _ _,λL I=>?_⟩)))⟩));dsimp only[];obtain⟨l,U⟩:=alc (o:=.tup (qkj (F,some (d-1)))) I;have ll:=ok.pl;have lr:=ok.rl;have lq:m.length+1=st.ps.length:=by rw[e,Af];rfl
    have lv:vs.length=m.length:=by rw[D.length,Ab]
    refine⟨_,_,_,Z,Z,l _ _ g.hp,qbm (by lia),?_⟩;have R2:=(g.same l).setP (up':=vs++[.ref L]) (ps':=m++[(F,some (d-1))]) (by rw[Ax];exact(g.tp.same l).snoc U);exact k _ (λb o n e=>qeg (by simp) b o n (l _ _ (C b o n e))) ⟨J,rl,cn,v,j,u,G,_,Z,R2⟩
   .have f:¬F<d:=λz=>f (decide_eq_true z);rw[if_neg f,Br]at k;exact k _ C ⟨J,rl,cn,v,j,u,G,vs,Z,g⟩
theorem qrn (T:Txt K mg a):FnOk P w K mg base CX0 3 a.l9 a.nZ ["self","day"] (spFi a):=by
 refine T.pN.fn.ok qqr (λvs H Q E h=>?_) (λcdv A outer s H vs Q E v h=>?_)
 .obtain⟨_,_,_,_,_,_,_,_,_,rfl,_⟩:=h
  all_goals rfl
 .obtain⟨x,B,S,rd,st,bs,rs,c,d,rfl,p,ok,k⟩:=h;refine⟨_,(qf (qy (qal (pv 0) T.k8 T.xO (qob T) (v.mono Uk) T.hJ.bd .nil qac (qd (pv 1) qg qe)))
   (qf (qaz (pv 0) qck Z)
   (qj (qo qck)))),?_⟩
  obtain⟨dx,rl,cn,l,j,i,ur,up,rfl,R⟩:=id p;refine(nmc Z ⟨_,_,_,Z,R.hx,Z,(nmc Z ⟨x,B,_,rd,st,bs,rs,c,d,Z,p,ok,λH1 y z=>?_⟩)⟩);obtain⟨q,f,g,pr1,pp1,pg1,m,r,u,t⟩:=z;cases u;refine(nmc Z ⟨_,_,_,_,Z,t.hx,T.k8,qp T.kD Uk,(show 9<1000 by decide),?_⟩);rw[show qbc (Aa "over") (.bl true) (rnF (.ref f) (.ref g) (.ref l) (.bl st.over) (.int st.day) st.bv (.int st.units) (.ref j) (.ref i))=rnF (.ref f) (.ref g) (.ref l) (.bl true) (.int st.day) st.bv (.int st.units) (.ref j) (.ref i) by with_unfolding_all rfl];exact k _ (λb o n e=>qeg (by simp) b o n (y b o n e)) ⟨q,f,g,l,j,i,m,r,Z,t.setF (o':=true) (u':=st.units)⟩
theorem qmj (T:Txt K mg a):FnOk P w K mg base CX0 1 a.bA a.bQ ["self"] (spSt a 0):=by
 refine T.gE.fn.ok qdj (λvs H Q E h=>?_) (λcdv A outer s H vs Q E hr h=>?_)
 .obtain⟨_,_,_,_,_,_,_,_,rfl,_⟩:=h
  all_goals rfl
 .obtain⟨x,B,S,rd,st,bs,rs,s,rfl,c,b,k⟩:=h;refine⟨_,(qj (qo (qcl (qt qb9 (qab (pv 0) Z) qau (qaf _)) (qab (pv 0) Z) qwt))),?_⟩;obtain⟨dx,rl,cn,pr,pp,pg,ur,up,rfl,R⟩:=id c;obtain⟨d,rfl⟩:=b;exact(nmc Z (flc (R.hx) (T.k8) (qp T.kD Uk) (rfl) ⟨Z,(nmc Z (qcp d (nmc Z (flc (R.hx) (T.k8) (qp T.kD Uk) (rfl) (k H (Same.refl H))))))⟩))
theorem qm9 (T:Txt K mg a):FnOk P w K mg base CX0 12 a.bD a.bK ["self"] (spLt a 0):=by
 refine T.gH.fn.ok qbn (λvs H Q E h=>?_) (λcdv A outer s H vs Q E f h=>?_)
 .obtain⟨_,_,_,_,_,_,_,_,_,rfl,_⟩:=h
  all_goals rfl
 .obtain⟨x,B,S,rd,st,bs,rs,c,s,rfl,g,tok,ok,e,k⟩:=h;refine⟨_,(qf (qu (i:=1) qbn.nd Z (Au Z) (qbd (pv 0) T.k8 T.bE (qmj T) (f.mono Uk) T.gE.bd .nil qac))
   (qf (qz (qt qb9 (pv 1) qau (qaf _)) (qj (qo qau)) qag)
   (qj (qo (zb (qg6 T) (f.mono Uk) Z T.kY.mgx T.kY.fn.kp T.kY.bd .nil qac (qd (qab (pv 0) Z) (qd (pv 1) (qd (qab (pv 0) Z) (qd (qab (pv 0) Z) qg qam) qam) qe) qam)))))),?_⟩
  obtain⟨dx,rl,cn,pr,l,pg,ur,j,rfl,R⟩:=id g;refine(nmc Z ⟨_,_,_,Z,R.hx,Z,x,B,_,rd,st,bs,rs,s,Z,g,e,λm b=>?_⟩);have R:=R.same b;cases s with|none=>exact(nmc Z ⟨Z,(nmc Z (qcp Z (k m none b Z)))⟩)|some d =>refine(nmc Z ⟨Z,(nmc Z (qbh (λz=>nomatch z) ?_))⟩);exact(nmc Z (flc (R.hx) (T.k8) (qp T.kD Uk) (rfl) (nmc Z (nmc Z (flc (R.hx) (T.k8) (qp T.kD Uk) (rfl) (nmc Z (flc (R.hx) (T.k8) (qp T.kD Uk) (rfl) ⟨cn,l,rd.unit,d,st.units,bs,rs,st.ps,Z,R.kd.same R.sm,tok,⟨j,R.hp,R.tp⟩,ok.ps,qdk e ok.d0,ok.u1,λH' r s lst=>k H' r (b.trans s) lst⟩)))))))
theorem qmk (T:Txt K mg a):FnOk P w K mg base CX0 13 a.bA a.bQ ["self"] (spSt a 1):=by
 refine T.gE.fn.ok qdj (λvs H Q E h=>?_) (λcdv A outer s H vs Q E q h=>?_)
 .obtain⟨_,_,_,_,_,_,_,_,rfl,_⟩:=h
  all_goals rfl
 .obtain⟨x,B,S,rd,st,bs,rs,s,rfl,r,p,k⟩:=h;refine⟨_,(qj (qo (qcl (qt qb9 (qab (pv 0) Z) qau (qaf _)) (qab (pv 0) Z) (qbd (qab (pv 0) Z) T.k8 T.bP (qm9 T) (q.mono Uk) T.gH.bd .nil qac)))),?_⟩;obtain⟨dx,rl,cn,pr,pp,pg,ur,up,rfl,R⟩:=id r;rcases p with ⟨b,rfl⟩|⟨y,o,D,i,d,f,g,C,n,b,l,u,j,c,m⟩
  .exact(nmc Z (flc (R.hx) (T.k8) (qp T.kD Uk) (rfl) ⟨Z,(nmc Z (qcp b (nmc Z (flc (R.hx) (T.k8) (qp T.kD Uk) (rfl) (k H (Same.refl H))))))⟩))
  .obtain⟨dy,rly,cny,pry,ppy,pgy,ury,upy,eS,Y⟩:=id l;refine(nmc Z (flc (R.hx) (T.k8) (qp T.kD Uk) (rfl) ⟨Z,(nmc Z (qbh (by rw[b];exact λz=>nomatch z) (nmc Z (flc (R.hx) (T.k8) (qp T.kD Uk) (rfl) ⟨_,_,_,b,Y.hx,Z,y,o,D,i,d,f,g,C,n,(by rw[b];rfl),l,u,j,c,λF r1 t v=>?_⟩))))⟩));obtain rfl:=qe5 (λx e=>qdk (e ▸ c) j.d0) v m;exact k F t
theorem qna (T:Txt K mg a):FnOk P w K mg base CX0 14 a.bD a.bK ["self"] (spLt a 1):=by
 refine T.gH.fn.ok qbn (λvs H Q E h=>?_) (λcdv A outer s H vs Q E f h=>?_)
 .obtain⟨_,_,_,_,_,_,_,_,_,rfl,_⟩:=h
  all_goals rfl
 .obtain⟨x,B,S,rd,st,bs,rs,c,s,rfl,g,tok,ok,e,k⟩:=h;refine⟨_,(qf (qu (i:=1) qbn.nd Z (Au Z) (qbd (pv 0) T.k8 T.bE (qmk T) (f.mono Uk) T.gE.bd .nil qac))
   (qf (qz (qt qb9 (pv 1) qau (qaf _)) (qj (qo qau)) qag)
   (qj (qo (zb (qg6 T) (f.mono Uk) Z T.kY.mgx T.kY.fn.kp T.kY.bd .nil qac (qd (qab (pv 0) Z) (qd (pv 1) (qd (qab (pv 0) Z) (qd (qab (pv 0) Z) qg qam) qam) qe) qam)))))),?_⟩
  obtain⟨dx,rl,cn,pr,l,pg,ur,j,rfl,R⟩:=id g;refine(nmc Z ⟨_,_,_,Z,R.hx,Z,x,B,_,rd,st,bs,rs,s,Z,g,e,λm b=>?_⟩);have R:=R.same b;cases s with|none=>exact(nmc Z ⟨Z,(nmc Z (qcp Z (k m none b Z)))⟩)|some d =>refine(nmc Z ⟨Z,(nmc Z (qbh (λz=>nomatch z) ?_))⟩);exact(nmc Z (flc (R.hx) (T.k8) (qp T.kD Uk) (rfl) (nmc Z (nmc Z (flc (R.hx) (T.k8) (qp T.kD Uk) (rfl) (nmc Z (flc (R.hx) (T.k8) (qp T.kD Uk) (rfl) ⟨cn,l,rd.unit,d,st.units,bs,rs,st.ps,Z,R.kd.same R.sm,tok,⟨j,R.hp,R.tp⟩,ok.ps,qdk e ok.d0,ok.u1,λH' r s lst=>k H' r (b.trans s) lst⟩)))))))
theorem qml (T:Txt K mg a):FnOk P w K mg base CX0 15 a.bA a.bQ ["self"] (spSt a 2):=by
 refine T.gE.fn.ok qdj (λvs H Q E h=>?_) (λcdv A outer s H vs Q E q h=>?_)
 .obtain⟨_,_,_,_,_,_,_,_,rfl,_⟩:=h
  all_goals rfl
 .obtain⟨x,B,S,rd,st,bs,rs,s,rfl,r,p,k⟩:=h;refine⟨_,(qj (qo (qcl (qt qb9 (qab (pv 0) Z) qau (qaf _)) (qab (pv 0) Z) (qbd (qab (pv 0) Z) T.k8 T.bP (qna T) (q.mono Uk) T.gH.bd .nil qac)))),?_⟩;obtain⟨dx,rl,cn,pr,pp,pg,ur,up,rfl,R⟩:=id r;rcases p with ⟨b,rfl⟩|⟨y,o,D,i,d,f,g,C,n,b,l,u,j,c,m⟩
  .exact(nmc Z (flc (R.hx) (T.k8) (qp T.kD Uk) (rfl) ⟨Z,(nmc Z (qcp b (nmc Z (flc (R.hx) (T.k8) (qp T.kD Uk) (rfl) (k H (Same.refl H))))))⟩))
  .obtain⟨dy,rly,cny,pry,ppy,pgy,ury,upy,eS,Y⟩:=id l;refine(nmc Z (flc (R.hx) (T.k8) (qp T.kD Uk) (rfl) ⟨Z,(nmc Z (qbh (by rw[b];exact λz=>nomatch z) (nmc Z (flc (R.hx) (T.k8) (qp T.kD Uk) (rfl) ⟨_,_,_,b,Y.hx,Z,y,o,D,i,d,f,g,C,n,(by rw[b];rfl),l,u,j,c,λF r1 t v=>?_⟩))))⟩));obtain rfl:=qe5 (λx e=>qdk (e ▸ c) j.d0) v m;exact k F t
theorem qnb (T:Txt K mg a):FnOk P w K mg base CX0 16 a.bD a.bK ["self"] (spLt a 2):=by
 refine T.gH.fn.ok qbn (λvs H Q E h=>?_) (λcdv A outer s H vs Q E f h=>?_)
 .obtain⟨_,_,_,_,_,_,_,_,_,rfl,_⟩:=h
  all_goals rfl
 .obtain⟨x,B,S,rd,st,bs,rs,c,s,rfl,g,tok,ok,e,k⟩:=h;refine⟨_,(qf (qu (i:=1) qbn.nd Z (Au Z) (qbd (pv 0) T.k8 T.bE (qml T) (f.mono Uk) T.gE.bd .nil qac))
   (qf (qz (qt qb9 (pv 1) qau (qaf _)) (qj (qo qau)) qag)
   (qj (qo (zb (qg6 T) (f.mono Uk) Z T.kY.mgx T.kY.fn.kp T.kY.bd .nil qac (qd (qab (pv 0) Z) (qd (pv 1) (qd (qab (pv 0) Z) (qd (qab (pv 0) Z) qg qam) qam) qe) qam)))))),?_⟩
  obtain⟨dx,rl,cn,pr,l,pg,ur,j,rfl,R⟩:=id g;refine(nmc Z ⟨_,_,_,Z,R.hx,Z,x,B,_,rd,st,bs,rs,s,Z,g,e,λm b=>?_⟩);have R:=R.same b;cases s with|none=>exact(nmc Z ⟨Z,(nmc Z (qcp Z (k m none b Z)))⟩)|some d =>refine(nmc Z ⟨Z,(nmc Z (qbh (λz=>nomatch z) ?_))⟩);exact(nmc Z (flc (R.hx) (T.k8) (qp T.kD Uk) (rfl) (nmc Z (nmc Z (flc (R.hx) (T.k8) (qp T.kD Uk) (rfl) (nmc Z (flc (R.hx) (T.k8) (qp T.kD Uk) (rfl) ⟨cn,l,rd.unit,d,st.units,bs,rs,st.ps,Z,R.kd.same R.sm,tok,⟨j,R.hp,R.tp⟩,ok.ps,qdk e ok.d0,ok.u1,λH' r s lst=>k H' r (b.trans s) lst⟩)))))))
theorem qei (T:Txt K mg a):FnOk P w K mg base CX0 17 a.bA a.bQ ["self"] (spSt a 3):=by
 refine T.gE.fn.ok qdj (λvs H Q E h=>?_) (λcdv A outer s H vs Q E q h=>?_)
 .obtain⟨_,_,_,_,_,_,_,_,rfl,_⟩:=h
  all_goals rfl
 .obtain⟨x,B,S,rd,st,bs,rs,s,rfl,r,p,k⟩:=h;refine⟨_,(qj (qo (qcl (qt qb9 (qab (pv 0) Z) qau (qaf _)) (qab (pv 0) Z) (qbd (qab (pv 0) Z) T.k8 T.bP (qnb T) (q.mono Uk) T.gH.bd .nil qac)))),?_⟩;obtain⟨dx,rl,cn,pr,pp,pg,ur,up,rfl,R⟩:=id r;rcases p with ⟨b,rfl⟩|⟨y,o,D,i,d,f,g,C,n,b,l,u,j,c,m⟩
  .exact(nmc Z (flc (R.hx) (T.k8) (qp T.kD Uk) (rfl) ⟨Z,(nmc Z (qcp b (nmc Z (flc (R.hx) (T.k8) (qp T.kD Uk) (rfl) (k H (Same.refl H))))))⟩))
  .obtain⟨dy,rly,cny,pry,ppy,pgy,ury,upy,eS,Y⟩:=id l;refine(nmc Z (flc (R.hx) (T.k8) (qp T.kD Uk) (rfl) ⟨Z,(nmc Z (qbh (by rw[b];exact λz=>nomatch z) (nmc Z (flc (R.hx) (T.k8) (qp T.kD Uk) (rfl) ⟨_,_,_,b,Y.hx,Z,y,o,D,i,d,f,g,C,n,(by rw[b];rfl),l,u,j,c,λF r1 t v=>?_⟩))))⟩));obtain rfl:=qe5 (λx e=>qdk (e ▸ c) j.d0) v m;exact k F t
theorem qhd (T:Txt K mg a):FnOk P w K mg base CX0 18 a.bD a.bK ["self"] (spLt a 3):=by
 refine T.gH.fn.ok qbn (λvs H Q E h=>?_) (λcdv A outer s H vs Q E f h=>?_)
 .obtain⟨_,_,_,_,_,_,_,_,_,rfl,_⟩:=h
  all_goals rfl
 .obtain⟨x,B,S,rd,st,bs,rs,c,s,rfl,g,tok,ok,e,k⟩:=h;refine⟨_,(qf (qu (i:=1) qbn.nd Z (Au Z) (qbd (pv 0) T.k8 T.bE (qei T) (f.mono Uk) T.gE.bd .nil qac))
   (qf (qz (qt qb9 (pv 1) qau (qaf _)) (qj (qo qau)) qag)
   (qj (qo (zb (qg6 T) (f.mono Uk) Z T.kY.mgx T.kY.fn.kp T.kY.bd .nil qac (qd (qab (pv 0) Z) (qd (pv 1) (qd (qab (pv 0) Z) (qd (qab (pv 0) Z) qg qam) qam) qe) qam)))))),?_⟩
  obtain⟨dx,rl,cn,pr,l,pg,ur,j,rfl,R⟩:=id g;refine(nmc Z ⟨_,_,_,Z,R.hx,Z,x,B,_,rd,st,bs,rs,s,Z,g,e,λm b=>?_⟩);have R:=R.same b;cases s with|none=>exact(nmc Z ⟨Z,(nmc Z (qcp Z (k m none b Z)))⟩)|some d =>refine(nmc Z ⟨Z,(nmc Z (qbh (λz=>nomatch z) ?_))⟩);exact(nmc Z (flc (R.hx) (T.k8) (qp T.kD Uk) (rfl) (nmc Z (nmc Z (flc (R.hx) (T.k8) (qp T.kD Uk) (rfl) (nmc Z (flc (R.hx) (T.k8) (qp T.kD Uk) (rfl) ⟨cn,l,rd.unit,d,st.units,bs,rs,st.ps,Z,R.kd.same R.sm,tok,⟨j,R.hp,R.tp⟩,ok.ps,qdk e ok.d0,ok.u1,λH' r s lst=>k H' r (b.trans s) lst⟩)))))))
theorem qkl (T:Txt K mg a):FnOk P w K mg base CX0 19 a.m8 a.tO ["self","day"] (spUw a):=by
 refine T.xT.fn.ok qdq (λvs H Q E h=>?_) (λcdv A outer s H vs Q E n h=>?_)
 .obtain⟨_,_,_,_,_,_,_,_,_,_,_,rfl,_⟩:=h
  all_goals rfl
 .obtain⟨x,B,S,rd,st,bs,rs,c,d,s,r,rfl,m,tok,ok,j,lst,k⟩:=h;refine⟨_,(qf (qu (i:=2) qdq.nd Z (Au Z) (qbd (pv 0) T.k8 T.bE (qei T) (n.mono Uk) T.gE.bd .nil qac))
   (qf (qz (PW.pt (qh3 (qt qb9 (pv 2) qau (qaf _)) (qhe (qt qf4 (pv 1) (pv 2) (qaf _))))) (qj (qo qck)) qag)
   (qf (qu (i:=3) qdq.nd Z (Au Z) (qbd (pv 0) T.k8 T.bP (qhd T) (n.mono Uk) T.gH.bd .nil qac))
   (qj (qo (pe_or (qej qb9 (pv 3) qau (qaf _)) (qf2 (qej qf4 (pv 1) (pv 3) (qaf _))))))))),?_⟩
  obtain⟨dx,rl,cn,pr,pp,pg,ur,up,rfl,R⟩:=id m;have v:∀z,s=some z->0<=z:=λz e=>qdk (e ▸ j) ok.d0;refine(nmc Z ⟨_,_,_,Z,R.hx,Z,x,B,_,rd,st,bs,rs,s,Z,m,j,λo b=>?_⟩);have R:=R.same b;cases s with
  |none=>exact(nmc Z ⟨Z,(nmc Z (qcp Z (qdm (k o b))))⟩)
  |some z =>
   refine(nmc Z ⟨Z,(nmc Z (qbh (λz=>nomatch z) (nmc Z (nmc Z (iic Z Z (nmc Z (qb2 (λf=>?_) (λf=>?_))))))))⟩)
   .have f:=of_decide_eq_true f;have e:under (some z) r d=false:=by unfold under;simp only;rw[decide_eq_false (by lia)];rfl
    rw[e]at k;exact k o b
   .have f:¬d<=z:=λq=>f (decide_eq_true q);refine(nmc Z ⟨_,_,_,Z,R.hx,Z,x,B,_,rd,st,bs,rs,c,_,Z,m.same b,tok,ok,j.same b,λt u p g=>?_⟩);obtain rfl:=qe5 v g lst;have k:=k t (b.trans p);cases u with
    |none =>
     have e:under (some z) none d=true:=by unfold under;simp only;rw[decide_eq_true (by lia)];rfl
     rw[e]at k;exact(nmc Z ⟨Z,(nmc Z (qcp Z k))⟩)
    |some l =>
     have e:under (some z) (some l) d=decide (d<=l):=by unfold under;simp only;rw[decide_eq_true (by lia)];rfl
     rw[e]at k;exact(nmc Z ⟨Z,(nmc Z (qbh (λz=>nomatch z) (nmc Z (nmc Z (iic Z Z k)))))⟩)
theorem qkc (T:Txt K mg a):FnOk P w K mg base CX0 1 a.fK a.tK ["self","day","base"] (spSetO a):=by
 refine T.lK.fn.ok qqs (λvs H Q E h=>?_) (λcdv A outer s H vs Q E hr h=>?_)
 .obtain⟨_,_,_,_,_,_,_,_,_,_,rfl,_⟩:=h
  all_goals rfl
 .obtain⟨x,i,c,cn,b,ov,f,fs,d,rd,rfl,hx,ae,af,v,k⟩:=h;refine⟨_,(qf (qaz (pv 0) (pv 1) Z)
   (qf (qaz (pv 0) (pv 2) Z)
   (qf (qaz (pv 0) (qab (qab (pv 0) Z) Z) Z)
   (qf (qaz (pv 0) (zg qg) Z)
   (qj (qaz (pv 0) qd3 Z)))))),?_⟩
  obtain⟨dxr,pe,pa,pl,vn,vw,vp,vb,vs',py,us,V,_⟩:=af;rcases ae with rfl|⟨dy,M,un,p,l,rfl⟩
  .have b0:SameBut x H H:=λ_ _ _ e=>e;have x0:H x=some (.ins a.kA i (rn4 (.ref c) cn b ov)):=hx;have g0:=V;refine(nmc Z (nmc Z ⟨_,_,_,_,Z,x0,T.k8,qp T.kD Uk,(show 4<1000 by decide),?_⟩));rw[show qbc (Aa "day") (.int d) (rn4 (.ref c) cn b ov)=(rn5 (.ref c) cn b ov (.int d)) by with_unfolding_all rfl];have X:SameBut x H (upd H x (.ins a.kA i (rn5 (.ref c) cn b ov (.int d)))):=b0.set;have Y:=qk (H:=H) (a:=x) (o:=.ins a.kA i (rn5 (.ref c) cn b ov (.int d)));have U:=(qr (o:=.ins a.kA i (rn5 (.ref c) cn b ov (.int d))) v).trans g0;generalize upd H x _=H1 at X Y U |-;refine(nmc Z (nmc Z ⟨_,_,_,_,Z,Y,T.k8,qp T.kD Uk,(show 5<1000 by decide),?_⟩));rw[show qbc (Aa "base") (f) (rn5 (.ref c) cn b ov (.int d))=(rn6 (.ref c) cn b ov (.int d) f) by with_unfolding_all rfl];have b2:SameBut x H (upd H1 x (.ins a.kA i (rn6 (.ref c) cn b ov (.int d) f))):=X.set;have R:=qk (H:=H1) (a:=x) (o:=.ins a.kA i (rn6 (.ref c) cn b ov (.int d) f));have L:=(qr (o:=.ins a.kA i (rn6 (.ref c) cn b ov (.int d) f)) v).trans U;generalize upd H1 x _=H2 at b2 R L |-;refine(nmc Z (flc (R) (T.k8) (qp T.kD Uk) (rfl) (flc (L) (T.kG) (qp T.kH Uk) (rfl) (nmc Z ⟨_,_,_,_,Z,R,T.k8,qp T.kD Uk,(show 6<1000 by decide),?_⟩))));rw[show qbc (Aa "units") (.int rd.many) (rn6 (.ref c) cn b ov (.int d) f)=(rn7 (.ref c) cn b ov (.int d) f (.int rd.many)) by with_unfolding_all rfl];have G:SameBut x H (upd H2 x (.ins a.kA i (rn7 (.ref c) cn b ov (.int d) f (.int rd.many)))):=b2.set;have J:=qk (H:=H2) (a:=x) (o:=.ins a.kA i (rn7 (.ref c) cn b ov (.int d) f (.int rd.many)));have g3:=(qr (o:=.ins a.kA i (rn7 (.ref c) cn b ov (.int d) f (.int rd.many))) v).trans L;generalize upd H2 x _=H3 at G J g3 |-;refine⟨qfr,λj r=>?_⟩;obtain⟨O,g⟩:=alc (o:=.lst []) r;have F:=O _ _ J;have q:j≠x:=λz=>by rw[z,J]at r;cases r
   have ad:H j=none:=G.free q r;have B:=G.trans (SameBut.of O);generalize upd H3 j _=J3 at O g F B  |-;refine(nmc Z ⟨_,_,_,_,Z,F,T.k8,qp T.kD Uk,(show 7<1000 by decide),?_⟩);rw[show qbc (Aa "pauses") (.ref j) (rn7 (.ref c) cn b ov (.int d) f (.int rd.many))=(rn8 (.ref c) cn b ov (.int d) f (.int rd.many) (.ref j)) by with_unfolding_all rfl];have N:SameBut x H (upd J3 x (.ins a.kA i (rn8 (.ref c) cn b ov (.int d) f (.int rd.many) (.ref j)))):=B.set;have I:=qk (H:=J3) (a:=x) (o:=.ins a.kA i (rn8 (.ref c) cn b ov (.int d) f (.int rd.many) (.ref j)));have g:=(qr (o:=.ins a.kA i (rn8 (.ref c) cn b ov (.int d) f (.int rd.many) (.ref j))) q).trans g;generalize upd J3 x _=H4 at N I g |-;refine λm t=>?_;obtain⟨y,n⟩:=alc (o:=.dK []) t;have D:=y _ _ I;have u:m≠x:=λz=>by rw[z,I]at t;cases t
   have S:H m=none:=N.free u t;have C:=N.trans (SameBut.of y);have g:=y _ _ g;generalize upd H4 m _=J4 at y n D C g |-;refine(nmc Z ⟨_,_,_,_,Z,D,T.k8,qp T.kD Uk,(show 8<1000 by decide),?_⟩);rw[show qbc (Aa "grants") (.ref m) (rn8 (.ref c) cn b ov (.int d) f (.int rd.many) (.ref j))=(rn9 (.ref c) cn b ov (.int d) f (.int rd.many) (.ref j) (.ref m)) by with_unfolding_all rfl];have b5:SameBut x H (upd J4 x (.ins a.kA i (rn9 (.ref c) cn b ov (.int d) f (.int rd.many) (.ref j) (.ref m)))):=C.set;have W:=qk (H:=J4) (a:=x) (o:=.ins a.kA i (rn9 (.ref c) cn b ov (.int d) f (.int rd.many) (.ref j) (.ref m)));have g:=(qr (o:=.ins a.kA i (rn9 (.ref c) cn b ov (.int d) f (.int rd.many) (.ref j) (.ref m))) q).trans g;have n:=(qr (o:=.ins a.kA i (rn9 (.ref c) cn b ov (.int d) f (.int rd.many) (.ref j) (.ref m))) u).trans n;generalize upd J4 x _=H5 at b5 W g n |-;exact k H5 j m b5 ad S W g n
  .have b0:SameBut x H H:=λ_ _ _ e=>e;have x0:H x=some (.ins a.kA i (rn9 (.ref c) cn b ov dy M un p l)):=hx;have g0:=V;refine(nmc Z (nmc Z ⟨_,_,_,_,Z,x0,T.k8,qp T.kD Uk,(show 9<1000 by decide),?_⟩));rw[show qbc (Aa "day") (.int d) (rn9 (.ref c) cn b ov dy M un p l)=(rn9 (.ref c) cn b ov (.int d) M un p l) by with_unfolding_all rfl];have X:SameBut x H (upd H x (.ins a.kA i (rn9 (.ref c) cn b ov (.int d) M un p l))):=b0.set;have Y:=qk (H:=H) (a:=x) (o:=.ins a.kA i (rn9 (.ref c) cn b ov (.int d) M un p l));have U:=(qr (o:=.ins a.kA i (rn9 (.ref c) cn b ov (.int d) M un p l)) v).trans g0;generalize upd H x _=H1 at X Y U |-;refine(nmc Z (nmc Z ⟨_,_,_,_,Z,Y,T.k8,qp T.kD Uk,(show 9<1000 by decide),?_⟩));rw[show qbc (Aa "base") (f) (rn9 (.ref c) cn b ov (.int d) M un p l)=(rn9 (.ref c) cn b ov (.int d) f un p l) by with_unfolding_all rfl];have b2:SameBut x H (upd H1 x (.ins a.kA i (rn9 (.ref c) cn b ov (.int d) f un p l))):=X.set;have R:=qk (H:=H1) (a:=x) (o:=.ins a.kA i (rn9 (.ref c) cn b ov (.int d) f un p l));have L:=(qr (o:=.ins a.kA i (rn9 (.ref c) cn b ov (.int d) f un p l)) v).trans U;generalize upd H1 x _=H2 at b2 R L |-;refine(nmc Z (flc (R) (T.k8) (qp T.kD Uk) (rfl) (flc (L) (T.kG) (qp T.kH Uk) (rfl) (nmc Z ⟨_,_,_,_,Z,R,T.k8,qp T.kD Uk,(show 9<1000 by decide),?_⟩))));rw[show qbc (Aa "units") (.int rd.many) (rn9 (.ref c) cn b ov (.int d) f un p l)=(rn9 (.ref c) cn b ov (.int d) f (.int rd.many) p l) by with_unfolding_all rfl];have G:SameBut x H (upd H2 x (.ins a.kA i (rn9 (.ref c) cn b ov (.int d) f (.int rd.many) p l))):=b2.set;have J:=qk (H:=H2) (a:=x) (o:=.ins a.kA i (rn9 (.ref c) cn b ov (.int d) f (.int rd.many) p l));have g3:=(qr (o:=.ins a.kA i (rn9 (.ref c) cn b ov (.int d) f (.int rd.many) p l)) v).trans L;generalize upd H2 x _=H3 at G J g3 |-;refine⟨qfr,λj r=>?_⟩;obtain⟨O,g⟩:=alc (o:=.lst []) r;have F:=O _ _ J;have q:j≠x:=λz=>by rw[z,J]at r;cases r
   have ad:H j=none:=G.free q r;have B:=G.trans (SameBut.of O);generalize upd H3 j _=J3 at O g F B  |-;refine(nmc Z ⟨_,_,_,_,Z,F,T.k8,qp T.kD Uk,(show 9<1000 by decide),?_⟩);rw[show qbc (Aa "pauses") (.ref j) (rn9 (.ref c) cn b ov (.int d) f (.int rd.many) p l)=(rn9 (.ref c) cn b ov (.int d) f (.int rd.many) (.ref j) l) by with_unfolding_all rfl];have N:SameBut x H (upd J3 x (.ins a.kA i (rn9 (.ref c) cn b ov (.int d) f (.int rd.many) (.ref j) l))):=B.set;have I:=qk (H:=J3) (a:=x) (o:=.ins a.kA i (rn9 (.ref c) cn b ov (.int d) f (.int rd.many) (.ref j) l));have g:=(qr (o:=.ins a.kA i (rn9 (.ref c) cn b ov (.int d) f (.int rd.many) (.ref j) l)) q).trans g;generalize upd J3 x _=H4 at N I g |-;refine λm t=>?_;obtain⟨y,n⟩:=alc (o:=.dK []) t;have D:=y _ _ I;have u:m≠x:=λz=>by rw[z,I]at t;cases t
   have S:H m=none:=N.free u t;have C:=N.trans (SameBut.of y);have g:=y _ _ g;generalize upd H4 m _=J4 at y n D C g |-;refine(nmc Z ⟨_,_,_,_,Z,D,T.k8,qp T.kD Uk,(show 9<1000 by decide),?_⟩);rw[show qbc (Aa "grants") (.ref m) (rn9 (.ref c) cn b ov (.int d) f (.int rd.many) (.ref j) l)=(rn9 (.ref c) cn b ov (.int d) f (.int rd.many) (.ref j) (.ref m)) by with_unfolding_all rfl];have b5:SameBut x H (upd J4 x (.ins a.kA i (rn9 (.ref c) cn b ov (.int d) f (.int rd.many) (.ref j) (.ref m)))):=C.set;have W:=qk (H:=J4) (a:=x) (o:=.ins a.kA i (rn9 (.ref c) cn b ov (.int d) f (.int rd.many) (.ref j) (.ref m)));have g:=(qr (o:=.ins a.kA i (rn9 (.ref c) cn b ov (.int d) f (.int rd.many) (.ref j) (.ref m))) q).trans g;have n:=(qr (o:=.ins a.kA i (rn9 (.ref c) cn b ov (.int d) f (.int rd.many) (.ref j) (.ref m))) u).trans n;generalize upd J4 x _=H5 at b5 W g n |-;exact k H5 j m b5 ad S W g n
theorem qmm (T:Txt K mg a):FnOk P w K mg base CX0 2 a.lC a.tU ["self","day"] (spAn a):=by
 refine T.pW.fn.ok qlx (λvs H Q E h=>?_) (λcdv A outer s H vs Q E hr h=>?_)
 .obtain⟨_,_,_,_,_,_,_,_,rfl,_⟩:=h
  all_goals rfl
 .obtain⟨x,B,S,rd,st,bs,rs,d,rfl,G,k⟩:=h;refine⟨_,(qf (qy (qal (pv 0) T.k8 T.rP (qkc T) (hr.mono Uk) T.lK.bd .nil qac (qd (pv 1) (qd qau qg ql) qe)))
   (qj (qo qck))),?_⟩
  obtain⟨C,rl,cn,l,pp,pg,I,up,rfl,R⟩:=id G;have u:rl≠x:=λz=>by obtain⟨dxr,pe,pa,pl,vn,vw,vp,vb,vs',py,us,i,_⟩:=R.rl;rw[z,R.bx]at i;cases i
  refine(nmc Z ⟨_,_,_,Z,R.hx,Z,(nmc Z ⟨x,C,rl,.ref cn,.ref l,.bl st.over,.non,_,d,rd,Z,R.hx,.inr ⟨_,_,_,_,_,Z⟩,R.rl.same R.sm,u,λy g p j f m F r t=>?_⟩)⟩);have q:=B4 (qir R.hx R.hr);have v:l≠g:=λz=>by rw[<- z,R.hr]at f;cases f
  have D:Same B y:=λb o e=>j b o (qae e R.bx) (R.sm b o e);refine k y [x,l,g,p] (λb o n e=>j b o (λz=>n (by rw[z];simp)) e) (λb c=>?_) ⟨C,rl,cn,l,g,p,I,[],Z,v,F,j _ _ q R.hr,qin j R.hx R.tr,r,.nil,t,R.rl,R.kd,D,R.bx,R.br,R.sm.free f,R.sm.free m⟩;rcases Aq.mp c with z|c
  .exact .inl (by rw[z];simp)
  .rcases Aq.mp c with z|c
   .exact .inl (by rw[z];simp)
   .rcases Aq.mp c with z|c
    .exact .inr (by rw[z];exact f)
    .exact .inr (by rw[Ah.mp c];exact m)
theorem qnc (T:Txt K mg a):FnOk P w K mg base CX0 1 a.mB a.sU ["self","kind"] (spLe a):=by
 refine T.nU.fn.ok qco (λvs H Q E h=>?_) (λcdv A outer s H vs Q E O h=>?_)
 .obtain⟨_,_,_,_,_,_,_,_,_,rfl,_⟩:=h
  all_goals rfl
 .obtain⟨x,B,S,rd,st,bs,rs,c,d,rfl,hR,ok,kn,k⟩:=h;refine⟨_,(qf (qu (i:=2) qco.nd Z (Au Z) (qwo (qch O) (qab (pv 0) Z) (pv 1) qi ⟨Z,Z,Z,Z⟩))
   (qf (qa2 A7 Z (qap (qab (qab (pv 0) Z) Z)) (qeq Z (qar (qad (i:=3) qco.nd Z (Au Z)) (qar (qad (i:=4) qco.nd Z (Au Z)) (qar (qad (i:=5) qco.nd Z (Au Z)) qdg)))) (qj (qz (PW.pt (qdy (qt qcm (pv 3) (pv 1) (qaf _)) (qdf (qt qdl (pv 2) (pv 5) (qaf _))))) (qf (qe8 (qch O) (qab (pv 0) Z) (pv 1) (qv qah (pv 2) qi) Z)
   (qf (quo (pv 0) (pv 4) in_add)
   (qj (qo qck)))) qag)))
   (qj (qo qck)))),?_⟩
  obtain⟨dx,rl,cn,r,u,f,ur,W,rfl,R⟩:=id hR;obtain⟨dxr,pe,pa,pl,vn,vw,vp,vb,vs',py,us,U,h2,h3,h4,L,M⟩:=R.rl.same R.sm;refine⟨_,Z,_,_,_,_,_,Z,R.hx,T.k8,qp T.kD Uk,Z,f,Z,.inl ⟨_,.inl R.hg⟩,_,Z,_,DGet.k (k:=.inr d) R.hg,?_⟩;rw[gv_get ok.gi d];refine⟨_,Z,_,_,_,_,_,Z,R.hx,T.k8,qp T.kD Uk,Z,_,_,_,_,_,Z,U,T.kG,qp T.kH Uk,Z,_,Z,⟨_,SqL.of L⟩,qa5 (K:=K) (a:=pl) (xs:=us) (λi σ H'=>H'=H/\(∃G F D:Option V,σ=[some (.ref x),some (.str d),some (.int (gv st.gr d)),G,F,D])/\((rd.longer.take i).find? λt=>decide (t.1=d) && decide (gv st.gr d<t.2.2))=none) ⟨Z,⟨none,none,none,Z⟩,Z⟩ (λi σ H' _ h=>SqL.of (h.1 ▸ L)) ?_ ?_⟩
  .rintro i v σ H' hx ⟨rfl,⟨G,F,D,rfl⟩,l⟩;obtain⟨b,t,rfl,m,X⟩:=M.get' hx;rw[Ai]at m;cases p:rd.longer[i]? with
   |none=>rw[p]at m;cases m
   |some z =>
    rw[p]at m;cases m;obtain⟨N,y,I⟩:=z;refine⟨_,_,Z,SqT.of X,Z,_,_,Z,_,_,Z,_,_,Z,Z,?_⟩;refine⟨_,Z,_,Z,Z,_,Z,qb2 (λj=>?_) (λj=>qce ?_)⟩
    .have j:=V.str.inj (of_decide_eq_true j);refine⟨_,Z,_,Z,_,_,Z,Z,_,Z,qb2 (λg=>?_) (λg=>?_)⟩
     .have g:=of_decide_eq_true g;have ef:=find_at l p (by simp only;rw[decide_eq_true j,decide_eq_true g];rfl);have lg:=ok.gl;have lr:=ok.rl;refine⟨_,Z,_,_,Z,Z,_,Z,_,_,_,_,_,Z,R.hx,T.k8,qp T.kD Uk,Z,_,Z,f,_,Z,DPut.k (k:=.inr d) R.hg (by rw[B3];lia),?_⟩;dsimp only[];have C:=R.setG (gr':=qc8 st.gr (.inr d) (.int (gv st.gr d+1)));have J:KeepS [x,r,u,f] H' (upd H' f (.dK (qc8 st.gr (.inr d) (.int (gv st.gr d+1))))):=qeg (by simp);generalize upd H' f _=H1 at C J |-;refine⟨_,Z,_,_,_,_,_,Z,C.hx,T.k8,qp T.kD Uk,Z,_,Z,_,_,Z,Z,_,_,C.hx,(show 9<1000 by decide),?_⟩;rw[show qbc (Aa "units") (V.int (st.units+y)) (rnF (.ref rl) (.ref cn) (.ref r) (.bl st.over) (.int st.day) st.bv (.int st.units) (.ref u) (.ref f))=rnF (.ref rl) (.ref cn) (.ref r) (.bl st.over) (.int st.day) st.bv (.int (st.units+y)) (.ref u) (.ref f) by with_unfolding_all rfl];exact k _ (N,y,I) (λb o n e=>qeg (by simp) b o n (J b o n e)) ef ⟨dx,rl,cn,r,u,f,ur,W,Z,C.setF (o':=st.over) (u':=st.units+y)⟩
     .have g:¬gv st.gr d<I:=λq=>g (decide_eq_true q);exact⟨Z,⟨_,_,_,Z⟩,qtx l p (by simp only;rw[decide_eq_false g,Cs])⟩
    .have j:¬N=d:=λq=>j (decide_eq_true (congrArg V.str q));exact⟨Z,⟨_,_,_,Z⟩,qtx l p (by simp only;rw[decide_eq_false j,CP])⟩
  .rintro σ H' ⟨rfl,⟨G,F,D,rfl⟩,l⟩;have Y:us.length=rd.longer.length:=by rw[M.length,Ab]
   rw[Y,Bq]at l;exact kn l
theorem qv1 (T:Txt K mg a):FnOk P w K mg base CX0 2 a.lU a.tT ["self","day"] (spHa a):=by
 refine T.tJ.fn.ok qvj (λvs H Q E h=>?_) (λcdv A outer s H vs Q E p h=>?_)
 .obtain⟨_,_,_,_,_,_,_,_,_,rfl,_⟩:=h
  all_goals rfl
 .obtain⟨x,B,S,rd,st,bs,rs,c,d,rfl,i,ok,v,k⟩:=h;refine⟨_,(qf (qz (zd (qbd (pv 0) T.k8 T.pE (qhc T) (p.mono Uk) T.lZ.bd .nil qac)) (qj (qo qck)) qag)
   (qf (qy (qca A3 AB AC qao (qab (pv 0) Z) (qd (zh (qd (pv 1) (qd qau qg ql) qe)) qg zn)))
   (qj (qo qck)))),?_⟩
  obtain⟨z,rl,cn,t,r,q,u,g,rfl,R⟩:=id i;refine(nmc Z ⟨_,_,_,Z,R.hx,Z,x,B,_,rd,st,bs,rs,Z,i,(nmc Z ?_)⟩);cases j:qa1 st.ps with
  |true=>exact qdm (v j)
  |false =>
   refine qce (nmc Z (flc (R.hx) (T.k8) (qp T.kD Uk) (rfl) ⟨.inl ⟨Z,_,SqL.of R.hp⟩,(nmc Z ⟨qvl _ _,λm l=>?_⟩)⟩));obtain⟨f,y⟩:=alc (o:=.tup (qkj (d,none))) l;have ll:=ok.pl;have lr:=ok.rl;have lv:g.length=st.ps.length:=by rw[R.tp.length,Ab]
   refine⟨_,_,_,Z,Z,f _ _ R.hp,qbm (by lia),?_⟩;have R2:=(R.same f).setP (up':=g++[.ref m]) (ps':=st.ps++[(d,none)]) (by rw[Ax];exact(R.tp.same f).snoc y);exact k _ (λb o n e=>qeg (by simp) b o n (f _ _ e)) j ⟨z,rl,cn,t,r,q,u,_,Z,R2⟩
theorem qsx (T:Txt K mg a):FnOk P w K mg base CX0 20 a.lH a.pD ["self","word","day","kind"] (spWk a):=by
 refine T.rG.fn.ok qsc (λvs H Q E h=>?_) (λcdv A outer s H vs Q E C h=>?_)
 .obtain⟨_,_,_,_,_,_,_,_,_,_,_,_,_,rfl,_⟩:=h
  all_goals rfl
 .obtain⟨x,B,S,rd,st,bs,rs,c,d,G,N,s,r,rfl,F,tok,ok,M,lst,k⟩:=h;refine⟨_,(qf (qz (qt qcm (pv 1) zf (qaf _)) (qj (qo (qal (pv 0) T.k8 T.K0 (qrn T) (C.mono Uk) T.pN.bd .nil qac (qd (pv 2) qg qe)))) qag)
   (qf (qz (qdz (zd (qal (pv 0) T.k8 T.KB (qkl T) (C.mono Uk) T.xT.bd .nil qac (qd (pv 2) qg qe)))) (qj (qo qck)) qag)
   (qf (qz (qt qcm (pv 1) zf (qaf _)) (qj (qo (qal (pv 0) T.k8 T.z9 (qmm T) (C.mono Uk) T.pW.bd .nil qac (qd (pv 2) qg qe)))) qag)
   (qf (qz (qt qcm (pv 1) zf (qaf _)) (qj (qo (qal (pv 0) T.k8 T.KD (qnc T) (C.mono Uk) T.nU.bd .nil qac (qd (pv 3) qg qe)))) qag)
   (qj (qo (qcl (qt qcm (pv 1) zf (qaf _)) (qal (pv 0) T.k8 T.yS (qv1 T) (C.mono Uk) T.tJ.bd .nil qac (qd (pv 2) qg qe)) (qal (pv 0) T.k8 T.xO (qob T) (C.mono Uk) T.hJ.bd .nil qac (qd (pv 2) qg qe))))))))),?_⟩
  obtain⟨dx,rl,cn,Y,U,O,ur,up,rfl,R⟩:=id F;refine(nmc Z ⟨Z,(nmc Z (qb2 (λf=>?_) (λf=>?_)))⟩)
  .have f:=V.str.inj (of_decide_eq_true f);exact(nmc Z ⟨_,_,_,Z,R.hx,Z,(nmc Z ⟨x,B,_,rd,st,bs,rs,c,d,Z,F,ok,λD K1 R1=>(k D _ K1 Fresh.refl).2 _ (by unfold qbe;rw[if_pos f]) R1⟩)⟩)
  .have f:¬G=Aa "ends" := λq=>f (decide_eq_true (congrArg V.str q));refine(nmc Z ⟨_,_,_,Z,R.hx,Z,(nmc Z ⟨x,B,_,rd,st,bs,rs,c,d,s,r,Z,F,tok,ok,M,lst,λD m=>?_⟩)⟩);have i:=F.same m;have R:=R.same m;cases J:under s r d with
   |false=>exact(nmc Z (qdm ((k D _ (KeepS.of m) Fresh.refl).1 (by unfold qbe;rw[if_neg f,if_pos J]) i)))
   |true =>
    have j:¬under s r d=false:=λz=>by rw[J]at z;cases z
    refine(nmc Z (qce (nmc Z ⟨Z,(nmc Z (qb2 (λg=>?_) (λg=>?_)))⟩)))
    .have g:=V.str.inj (of_decide_eq_true g);exact(nmc Z ⟨_,_,_,Z,R.hx,Z,(nmc Z ⟨x,B,_,rd,st,bs,rs,d,Z,i,λp S2 y X R2=>(k p S2 (λb o n e=>y b o n (m _ _ e)) (λb L=>(X b L).imp id λz=>m.free z)).2 _ (by unfold qbe;rw[if_neg f,if_neg j,if_pos g]) R2⟩)⟩)
    .have g:¬G=Aa "anew" := λq=>g (decide_eq_true (congrArg V.str q));refine(nmc Z ⟨Z,(nmc Z (qb2 (λl=>?_) (λl=>?_)))⟩)
     .have l:=V.str.inj (of_decide_eq_true l);refine(nmc Z ⟨_,_,_,Z,R.hx,Z,(nmc Z ⟨x,B,_,rd,st,bs,rs,c,N,Z,i,ok,λW=>?_,λp t y et R2=>?_⟩)⟩)
      .exact(k D _ (KeepS.of m) Fresh.refl).1 (by unfold qbe;rw[if_neg f,if_neg j,if_neg g,if_pos l,W]) i
      .exact(k p _ (λb o n e=>y b o n (m _ _ e)) Fresh.refl).2 _ (by unfold qbe;rw[if_neg f,if_neg j,if_neg g,if_pos l,et]) R2
     .have l:¬G=Aa "longer" := λq=>l (decide_eq_true (congrArg V.str q));refine(nmc Z ⟨Z,(nmc Z (qb2 (λu=>?_) (λu=>?_)))⟩)
      .have u:=V.str.inj (of_decide_eq_true u);refine(nmc Z ⟨_,_,_,Z,R.hx,Z,(nmc Z ⟨x,B,_,rd,st,bs,rs,c,d,Z,i,ok,λv=>?_,λp y v R2=>?_⟩)⟩)
       .exact(k D _ (KeepS.of m) Fresh.refl).1 (by unfold qbe;rw[if_neg f,if_neg j,if_neg g,if_neg l,if_pos u,if_pos v]) i
       .exact(k p _ (λb o n e=>y b o n (m _ _ e)) Fresh.refl).2 _ (by unfold qbe;rw[if_neg f,if_neg j,if_neg g,if_neg l,if_pos u,v,if_neg Uk]) R2
      .have u:¬G=Aa "still" := λq=>u (decide_eq_true (congrArg V.str q));refine(nmc Z ⟨_,_,_,Z,R.hx,Z,(nmc Z ⟨x,B,_,rd,st,bs,rs,c,d,Z,i,ok,λp y R2=>?_⟩)⟩);have I:KeepS [x,Y,U,O] H p:=λb o n e=>y b o n (m _ _ e);cases v:qa1 st.ps with|true=>exact(k p _ I Fresh.refl).2 _ (by unfold qbe;rw[if_neg f,if_neg j,if_neg g,if_neg l,if_neg u,if_pos v]) R2|false =>rw[qis v]at R2;exact(k p _ I Fresh.refl).1 (by unfold qbe;rw[if_neg f,if_neg j,if_neg g,if_neg l,if_neg u,v,if_neg Uk]) R2
theorem qv2 (T:Txt K mg a):FnOk P w K mg base CX0 21 a.lV a.rZ ["self","name","day","kind"] (spFe a):=by
 refine T.mY.fn.ok qn1 (λvs H Q E h=>?_) (λcdv A outer s H vs Q E hr h=>?_)
 .obtain⟨_,_,_,_,_,_,_,_,_,_,_,_,_,rfl,_⟩:=h
  all_goals rfl
 .obtain⟨x,B,S,rd,st,bs,rs,c,d,n,f,s,r,rfl,hR,tok,ad,ok,hB,lst,k⟩:=h;refine⟨_,(qf (qu (i:=4) qn1.nd Z (Au Z) (qal (qab (pv 0) Z) T.kG T.zV (qsw T) (hr.mono Uk) T.rQ.bd .nil qac (qd (pv 3) qg qe)))
   (qf (qz (PW.pt (qh3 (qt qcm (pv 4) zf (qaf _)) (qh3 (zd (qab (pv 0) Z)) (qhe (qdz (zd (qal (pv 0) T.k8 T.zD (qsx T) (hr.mono Uk) T.rG.bd .nil qac (qd (pv 4) (qd (pv 2) (qd (pv 3) qg qe) qe) qe)))))))) (qj (qo qck)) qag)
   (qf (qy (qca A3 AB AC qao (qab (pv 0) Z) (qd (zh (qd (pv 1) (qd (pv 2) (qd (pv 4) qg qe) qe) qe)) qg zn)))
   (qj (qo qck))))),?_⟩
  obtain⟨dx,rl,cn,D,F,C,ur,up,rfl,R⟩:=id hR;have l:=R.rl.same R.sm;obtain⟨dxr,pe,pa,pl,vn,vw,vp,vb,vs',py,us,h1,_⟩:=id l;refine(nmc Z (flc (R.hx) (T.k8) (qp T.kD Uk) (rfl) ⟨_,_,_,Z,h1,Z,(nmc Z ⟨rl,f,rd,Z,l,ad,λH1 g=>?_⟩)⟩));have y:=hR.same g;have R1:=R.same g;have U:∀H' I,KeepS [x,D,F,C] H H'->Fresh H [x,D,F,C] I->RunAt a B H' x I rd st bs rs->qbo rd st s r n d f=(st,false)->Q (.bl false) H':=λH' I K' F' R' e=>by have:=k H' I K' F';rw[e]at this;exact this R'
  refine(nmc Z ⟨Z,(nmc Z (qb2 (λj=>qdm ?_) (λj=>?_)))⟩)
  .have j:=V.str.inj (of_decide_eq_true j);exact U H1 _ (KeepS.of g) Fresh.refl y (by unfold qbo;rw[if_pos (.inl j)])
  .have j:¬qa3 rd f=Aa "" := λq=>j (decide_eq_true (congrArg V.str q));refine(nmc Z (flc (R1.hx) (T.k8) (qp T.kD Uk) (rfl) (nmc Z (qb2 (λO=>qdm ?_) (λO=>?_)))))
   .exact U H1 _ (KeepS.of g) Fresh.refl y (by unfold qbo;rw[if_pos (.inr O)])
   .have L:¬(qa3 rd f=Aa "" \/ st.over=true):=λz=>z.elim j O;refine(nmc Z ⟨_,_,_,Z,R1.hx,Z,(nmc Z (nmc Z (nmc Z ⟨x,B,_,rd,st,bs,rs,c,d,_,f,s,r,Z,y,tok,ok,hB.same g,lst,λY S2 K2 F2=>⟨λen R2=>?_,λp es R2=>?_⟩⟩)))⟩)
    .exact(nmc Z (qdm (U Y S2 (λb o n e=>K2 b o n (g _ _ e)) (λb N=>(F2 b N).imp id λz=>g.free z) R2 (by unfold qbo;rw[if_neg L,en]))))
    .have k:=k;have ef:qbo rd st s r n d f=({p with rows:=p.rows++[(n,d,qa3 rd f)]},true):=by unfold qbo;rw[if_neg L,es]
     rw[ef]at k;obtain⟨ag,W,X,u,t,v,M,ah,rfl,m⟩:=R2;refine(nmc Z (qce (nmc Z (flc (m.hx) (T.k8) (qp T.kD Uk) (rfl) ⟨.inl ⟨Z,_,SqL.of m.hr⟩,(nmc Z (nmc Z (nmc Z ⟨qki _ _ _,λq3 ae=>?_⟩)))⟩))));obtain⟨G,e3⟩:=alc (o:=.tup (qm6 (n,d,qa3 rd f))) ae;have lr:p.rows.length<=400:=by rw[qhy es];exact ok.rl
     have lv:M.length=p.rows.length:=by rw[m.tr.length,Ab]
     refine⟨_,_,_,Z,Z,G _ _ m.hr,qbm (by lia),?_⟩;have X3:=(m.same G).setR (ur':=M++[.ref q3]) (rows':=p.rows++[(n,d,qa3 rd f)]) (by rw[Ax];exact(m.tr.same G).snoc e3);have J:Fresh H [x,D,F,C] [x,u,t,v]:=λb N=>(F2 b N).imp id λz=>g.free z;have af:KeepS [x,D,F,C] H Y:=λb o n e=>K2 b o n (g _ _ e);refine k _ [x,u,t,v] (af.trans J (λb o n e=>qeg (by simp) b o n (G _ _ e))) J ⟨ag,W,X,u,t,v,_,ah,Z,X3⟩
theorem qv3 (T:Txt K mg a):FnOk P w K mg base CX0 4 a.m6 a.rH ["self","rule","table","name","day","base"] (qye a):=by
 refine T.sS.fn.ok qvk (λvs H Q E h=>?_) (λcdv A outer s H vs Q E hr h=>?_)
 .obtain⟨_,_,_,_,_,_,_,_,_,_,_,rfl,_⟩:=h
  all_goals rfl
 .obtain⟨x,g,c,tb,n,d,rd,bs,rs,t,bb,rfl,hx,sb,r,C,ah,k⟩:=h;refine⟨_,(qf (qaz (pv 0) (pv 1) Z)
   (qf (qaz (pv 0) (zb (okKindOf T) (hr.mono Uk) Z T.dN.mgx T.dN.fn.kp T.dN.bd .nil qac (qd (qab (pv 1) Z) (qd (pv 2) qg qe) qam)) Z)
   (qf (qaz (pv 0) (zg (qd (zh (qd (pv 3) (qd (pv 4) (qd zf qg ql) qe) qe)) qg zn)) Z)
   (qf (qaz (pv 0) qck Z)
   (qj (qy (qal (pv 0) T.k8 T.rP (qkc T) (hr.mono Uk) T.lK.bd .nil qac (qd (pv 4) (qd (pv 5) qg qe) qe)))))))),?_⟩
  have ar:=C.same sb;have htb0:=ah.same sb;obtain⟨bf,pe,pa,pl,vn,vw,vp,vb,bc,py,us,p,_⟩:=id ar;have ak:c≠x:=λz=>by obtain⟨bf,pe,pa,pl,vn,vw,vp,vb,bc,py,us,p,_⟩:=id C;rw[z,r]at p;cases p
  refine(nmc Z (nmc Z ⟨_,_,_,_,Z,hx,T.k8,qp T.kD Uk,(show 0<1000 by decide),?_⟩));rw[show qbc (Aa "rule") (.ref c) []=(rn1 (.ref c)) by with_unfolding_all rfl];have z1:Same t (upd H x (.ins a.kA g (rn1 (.ref c)))):=qak sb r;have y1:SameBut x H (upd H x (.ins a.kA g (rn1 (.ref c)))):=SameBut.set (λ_ _ _ e=>e);have x1:=qk (H:=H) (a:=x) (o:=.ins a.kA g (rn1 (.ref c)));have g1:=(qr (o:=.ins a.kA g (rn1 (.ref c))) ak).trans p;generalize upd H x _=H1 at z1 y1 x1 g1 |-;refine(nmc Z (flc (g1) (T.kG) (qp T.kH Uk) (rfl) (nmc Z ⟨rd.unit,tb,Z,λcn B Y s2 v aw=>?_⟩)));have x2:=s2 _ _ x1;have z2:=z1.trans s2;have y2:=y1.trans (SameBut.of s2);have m:cn≠x:=λz=>by rw[z,x1]at v;cases v
  refine(nmc Z ⟨_,_,_,_,Z,x2,T.k8,qp T.kD Uk,(show 1<1000 by decide),?_⟩);rw[show qbc (Aa "counting") (.ref cn) (rn1 (.ref c))=(rn2 (.ref c) (.ref cn)) by with_unfolding_all rfl];have z3:Same t (upd Y x (.ins a.kA g (rn2 (.ref c) (.ref cn)))):=qak z2 r;have y3:SameBut x H (upd Y x (.ins a.kA g (rn2 (.ref c) (.ref cn)))):=y2.set;have x3:=qk (H:=Y) (a:=x) (o:=.ins a.kA g (rn2 (.ref c) (.ref cn)));have J:=(qr (o:=.ins a.kA g (rn2 (.ref c) (.ref cn))) m).trans aw;generalize upd Y x _=H3 at z3 y3 x3 J |-;refine(nmc Z (nmc Z ⟨qki _ _ _,λW ay=>?_⟩));obtain⟨X,F⟩:=alc (o:=.tup [V.str n,V.int d,V.str (Aa "begins")]) ay;generalize upd H3 W _=H4 at X F |-;refine⟨fit1 _,λf I=>?_⟩;obtain⟨s5,e5⟩:=alc (o:=.lst [V.ref W]) I;have bj:=(z3.trans X).free I;generalize upd H4 f _=H5 at s5 e5 |-;have u:=X.trans s5;have x5:=u _ _ x3;have aq:=u _ _ J;have F:=s5 _ _ F;have z5:=z3.trans u;have y5:=y3.trans (SameBut.of u);have q:f≠x:=B4 (qir x5 e5);have S:W≠x:=λz=>by rw[z,x5]at F;cases F
  refine(nmc Z ⟨_,_,_,_,Z,x5,T.k8,qp T.kD Uk,(show 2<1000 by decide),?_⟩);rw[show qbc (Aa "rows") (.ref f) (rn2 (.ref c) (.ref cn))=(rn3 (.ref c) (.ref cn) (.ref f)) by with_unfolding_all rfl];have z6:Same t (upd H5 x (.ins a.kA g (rn3 (.ref c) (.ref cn) (.ref f)))):=qak z5 r;have y6:SameBut x H (upd H5 x (.ins a.kA g (rn3 (.ref c) (.ref cn) (.ref f)))):=y5.set;have x6:=qk (H:=H5) (a:=x) (o:=.ins a.kA g (rn3 (.ref c) (.ref cn) (.ref f)));have L:=(qr (o:=.ins a.kA g (rn3 (.ref c) (.ref cn) (.ref f))) m).trans aq;have af:=(qr (o:=.ins a.kA g (rn3 (.ref c) (.ref cn) (.ref f))) q).trans e5;have al:=(qr (o:=.ins a.kA g (rn3 (.ref c) (.ref cn) (.ref f))) S).trans F;generalize upd H5 x _=H6 at z6 y6 x6 L af al |-;refine(nmc Z ⟨_,_,_,_,Z,x6,T.k8,qp T.kD Uk,(show 3<1000 by decide),?_⟩);rw[show qbc (Aa "over") (.bl false) (rn3 (.ref c) (.ref cn) (.ref f))=(rn4 (.ref c) (.ref cn) (.ref f) (.bl false)) by with_unfolding_all rfl];have N:Same t (upd H6 x (.ins a.kA g (rn4 (.ref c) (.ref cn) (.ref f) (.bl false)))):=qak z6 r;have y7:SameBut x H (upd H6 x (.ins a.kA g (rn4 (.ref c) (.ref cn) (.ref f) (.bl false)))):=y6.set;have M:=qk (H:=H6) (a:=x) (o:=.ins a.kA g (rn4 (.ref c) (.ref cn) (.ref f) (.bl false)));have R:=(qr (o:=.ins a.kA g (rn4 (.ref c) (.ref cn) (.ref f) (.bl false))) m).trans L;have U:=(qr (o:=.ins a.kA g (rn4 (.ref c) (.ref cn) (.ref f) (.bl false))) q).trans af;have ad:=(qr (o:=.ins a.kA g (rn4 (.ref c) (.ref cn) (.ref f) (.bl false))) S).trans al;generalize upd H6 x _=H7 at N y7 M R U ad |-;refine(nmc Z ⟨_,_,_,Z,M,Z,(nmc Z (nmc Z ⟨x,g,c,.ref cn,.ref f,.bl false,bb,_,d,rd,Z,M,.inl Z,C.same N,ak,λH8 D O G l y x8 ai aj=>?_⟩))⟩);have z8:Same t H8:=λb o e=>G b o (qae e r) (N b o e);have j:=G _ _ m R;have ag:=G _ _ q U;have bq:=G _ _ S ad;have bh:f≠D:=λz=>by rw[<- z,U]at l;cases l
  have y8:=y7.trans G;have fr:=qyd r bj (N.free l) (N.free y);have bi:t cn=none:=z1.free v;have ae:cn∉[x,f,D,O]:=λi=>by
   rcases Aq.mp i with z|i
   .exact m z
   .rcases Aq.mp i with z|i
    .rw[z,ag]at j;cases j
    .rcases Aq.mp i with z|i
     .rw[z,ai]at j;cases j
     .rw[Ah.mp i,aj]at j;cases j
  have am:H f=none:=(y3.trans (SameBut.of X)).free q I;have au:H D=none:=y7.free (λz=>by rw[z,M]at l;cases l) l;have av:H O=none:=y7.free (λz=>by rw[z,M]at y;cases y) y;have sB:=qx (o:=.ins (kC a rd.unit) B (kfs tb)) bi;have bn:∀b∈[x,f,D,O],upd t cn (.ins (kC a rd.unit) B (kfs tb)) b=none:=λb i=>by rw[qr (λz:b=cn=>ae (by rw[<- z];exact i))];exact fr b i
  refine k H8 [x,f,D,O] cn (.ins (kC a rd.unit) B (kfs tb)) y8 (λb i=>?_) (by simp) (y1.free m v) ae ⟨g,c,cn,f,D,O,[V.ref W],[],Z,bh,x8,ag,.cons bq .nil,ai,.nil,aj,C.same sB,⟨B,tb,qk,ah.same sB⟩,λb o e=>?_,bn _ (by simp),bn _ (by simp),bn _ (by simp),bn _ (by simp)⟩
  .rcases Aq.mp i with z|i
   .exact .inl z
   .rcases Aq.mp i with z|i
    .exact .inr (by rw[z];exact am)
    .rcases Aq.mp i with z|i
     .exact .inr (by rw[z];exact au)
     .exact .inr (by rw[Ah.mp i];exact av)
  .by_cases z:b=cn
   .rw[z,qk]at e;rw[z,j];exact e
   .rw[qr z]at e;exact z8 b o e
theorem okTake (T:Txt K mg a):FnOk P w K mg base CX0 22 a.xU a.xH ["book","table","runs","act"] (spTake a):=by
 refine T.fJ.fn.ok qgm (λvs H Q E h=>?_) (λcdv A outer s H vs Q E J h=>?_)
 .obtain⟨_,_,_,_,_,_,_,_,_,_,_,_,_,_,_,_,rfl,_⟩:=h
  all_goals rfl
 .obtain⟨bk,tb,v,aa,B,n,N,ts,Zq,x,S,p,bs,rs,D,ac,rfl,I,hb,cg,tok,ex,ae,bj,W,aj,hD,hN,k⟩:=h;refine⟨_,(qf (qu (i:=4) qgm.nd Z (Au Z) (zo zp (pv 3) qi (λ_ _=>rfl)))
   (qf (qu (i:=5) qgm.nd Z (Au Z) (zo zp (pv 3) qi (λ_ _=>rfl)))
   (qf (qu (i:=6) qgm.nd Z (Au Z) (zo zp (pv 3) qi (λ_ _=>rfl)))
   (qf (qu (i:=7) qgm.nd Z (Au Z) qd3)
   (qf (qfc A7 Z (pv 2) (qad (i:=8) qgm.nd Z (Au Z)) (qf (qu (i:=9) qgm.nd Z (Au Z) (qal (pv 0) T.gI T.yN (qpo T) (J.mono Uk) T.tS.bd .nil qac (qd (pv 8) qg qe)))
   (qj (qz (zd (zb (qrm T) (J.mono Uk) Z T.dU.mgx T.dU.fn.kp T.dU.bd .nil qac (qd (qc0 (qch J) (pv 2) (pv 8) (λ_ _=>rfl)) qg zm))) (qj (qy (qal (zo zq (qc0 (qch J) (pv 2) (pv 8) (λ_ _=>rfl)) (qf3 qd1 qi) (λ_ _=>rfl)) T.k8 T.KC (qv2 T) (J.mono Uk) T.mY.bd .nil qac (qd (pv 4) (qd (pv 6) (qd (pv 5) qg qe) qe) qe)))) (qj (qz (PW.pt (qh3 (qt qcm (pv 5) (qab (pv 9) Z) (qaf _)) (qhe (qv8 (pc_dinN (qch J) (qab (pv 9) Z) (pv 7)))))) (qj (qe8 (qch J) (pv 7) (pv 8) (qek T.K6 (qv3 T) (J.mono Uk) Z T.yQ T.sS.bd .nil qac (qd (pv 9) (qd (pv 1) (qd (pv 4) (qd (pv 6) (qd (qvc (qch J) (pv 7) (qab (pv 9) Z) ⟨Z,Z,Z,Z⟩) qg zj) qe) qe) qe) qe)) Z)) qag))))))
   (qj (qfc A7 Z (pv 7) (qad (i:=8) qgm.nd Z (Au Z)) (qj (qy (qca A3 AB AC qao (qc0 (qch J) (pv 2) (pv 8) (λ_ _=>rfl)) (qd (qc0 (qch J) (pv 7) (pv 8) (λ_ _=>rfl)) qg zm))))))))))),?_⟩
  have ae:=W.sm _ _ ae;refine(nmc Z (txo (ae) Z (nmc Z (txo (ae) Z (nmc Z (txo (ae) Z (λr nb=>?_)))))));have n4:=I.n4;have s1:=qx (o:=.dK []) nb;have ar:=s1 _ _ bj;have ag:r≠v:=λz=>by rw[z,bj]at nb;cases nb
  have W1:=W.more (o:=.dK []) nb (λ_ z=>nomatch z);have aw:=qk (H:=H) (a:=r) (o:=.dK []);generalize upd H r _=H1 at s1 ar W1 aw |-;refine(nmc Z ⟨v,_,Z,ar,λo=>⟨λi σ' H'=>∃(F:Hp)(g:Nat->Nat->Addr)(S':Nat->Nat->List Addr),i<=n/\Same B F/\H' v=some (.frz o (.dK (kvR n ts p)))/\WH a F H' n ts (tk bs rs ts Zq ac i).1 g S' p (λi=>(Zq i).length) [r,v] bs rs/\H' r=some (.dK (bgK ts (λj=>g j (Zq j).length) (tk bs rs ts Zq ac i).2 i))/\∃U v9:Option V,σ'=[some (.ref bk),some (.ref tb),some (.ref v),some (.ref aa),some (.str ac.1),some (.str ac.2.1),some (.int ac.2.2),some (.ref r),U,v9],?_,?_,?_,?_⟩⟩)
  .refine⟨B,x,S,AU _,Same.refl B,qk,W1.but (by simp) (λ_ z=>nomatch z),?_,none,none,Z⟩;rw[qr ag,aw];rfl
  .rintro i σ' H' ⟨_,_,_,_,_,h,_⟩;exact h
  .rintro i kv σ' H' G ⟨F,g,S',hin,sB,af,C,t,U,v9,rfl⟩;obtain⟨d,rfl⟩:=qsq G;have eY:=qka (bs:=bs) (rs:=rs) (ts:=ts) (Zq:=Zq) (ac:=ac) (Am i);have O:=qt5 (bs:=bs) (rs:=rs) (ac:=ac) I aj ex hD hN (m:=i) (BC d);have M:=λb=>qkw (bs:=bs) (rs:=rs) (ts:=ts) (Zq:=Zq) (ac:=ac) (m:=i) (i:=b);have t1:=λc=>tk_run (bs:=bs) (rs:=rs) (ts:=ts) (Zq:=Zq) (ac:=ac) (i:=i) c;have t2:=λc=>tk_beg (bs:=bs) (rs:=rs) (ts:=ts) (Zq:=Zq) (ac:=ac) (i:=i) c;have t3:=λc=>tk_no (bs:=bs) (rs:=rs) (ts:=ts) (Zq:=Zq) (ac:=ac) (i:=i) c;generalize tk bs rs ts Zq ac i=YF at C t eY O M t1 t2 t3;obtain⟨Y,f⟩:=YF;dsimp only at C t eY O M t1 t2 t3;have fi:f i=false:=by
    cases e:f i with|false=>rfl|true=>have:=(M i).1 e;lia
   obtain⟨nms,us,bz,cp⟩:=hb.same sB;obtain⟨j,rl,e1,e2,bu⟩:=cp i d;have bq:=bz.same C.sm;have df:=bu.same C.sm;obtain⟨dxb,pob,pdb,kvb,ca,_⟩:=id bq;refine(nmc Z ⟨_,_,_,Z,ca,Z,(nmc Z ⟨bk,nms,_,us,j,.ref rl,(by rw[e1];rfl),bq,e2,?_⟩)⟩);have ai:DGet H' v (kV (.inr (ts i).name)) (some (.ref (p i))):=.inl ⟨_,.inr (ts i).name,.inr ⟨o,af⟩,Z,(qg2 I.nn d).symm⟩;have hl:=C.hl i d;have lz:=(aj.rl i d).1;have lY:(Y i).length=(Zq i).length:=by rw[eY]
   refine(nmc Z (nmc Z ⟨v,_,Z,ai,p i,_,qpf (Zq i),Z,hl,(by rw[Ab,Aw];lia),?_,_,Z,?_⟩))
   .by_cases z:Zq i=[]
    .rw[z];exact .inl ⟨Z,Z⟩
    .have hp:=BH.mpr z;refine .inr ⟨_,_,F,_,_,_,bs,rs,qre hp (g i),C.R i d ((Zq i).length-1) (by lia),?_⟩;rw[runB_at z,eY]
   refine qb2 (λc=>?_) (λc=>?_)
   .have z:=qmb c;have hp:=BH.mpr z;have cr:Y i≠[]:=by rw[eY];exact z
    have t1:=t1 c;have mm:=qe6 (l:=Y i) (j:=(Y i).length-1) (by lia);have R0:=C.R i d ((Y i).length-1) (by lia);obtain⟨dx1,rl1,cn1,pr1,pp1,pg1,ur1,up1,eS,X1⟩:=id R0;have bi:=O.wf i d _ mm;have bh:=O.ok i d _ mm;have hB:=qt3 C O ex tok 3 i _ d (by lia) bi;refine(nmc Z (nmc Z ⟨v,_,Z,ai,_,Z,(lxo (hl) ((by rw[qre hp];exact qo9 _ _)) ⟨_,_,_,Z,(by rw[<- lY];exact X1.hx),Z,(nmc Z (nmc Z (nmc Z ⟨_,F,_,_,_,bs,rs,ac.2.2,ac.2.2,ac.1,ac.2.1,_,_,(by rw[<- lY];rfl),R0,tok,I.rd i d,bh.bv _,hB,(qyv O ex d bh bi).bv _,λH2 S2 K2 F2 R2=>?_⟩)))⟩)⟩));rw[feel_bv (qjw g (ts i).base) qgr]at R2;have W2:=C.felt d cr K2 F2 R2;have eb:=C.eB r (by simp);have ed:=C.eB v (by simp);refine⟨F,g,_,d,sB,K2 _ _ (ed.2.2.2 i d _ (by lia)) af,(by rw[t1];exact W2),?_,_,_,Z⟩;rw[t1];show H2 r=some (.dK (bgK ts (λj=>g j (Zq j).length) f (i+1)));rw[qyx fi λ_ _=>rfl];exact K2 _ _ (eb.2.2.2 i d _ (by lia)) t
   .have bt:∀b,f b=true->(Y b).length=(Zq b).length+1:=λb e=>by rw[(M b).2,if_pos e]
    obtain⟨ob,gN,ay,cw⟩:=newR_bb (ac:=ac) (x:=g) I.nn d (I.ba i d) bt t;obtain⟨dxr,pe,pa,pl,wr,sr,pyr,usr,ak,hr2⟩:=id df;have bw:=opV_is (ts i).opens ac.2.1;apply use (p:=opT (ts i) ac.2.1 f=true)
    .intro am;have no:opT (ts i) ac.2.1 f=false->∃(F:Hp)(g:Nat->Nat->Addr)(S':Nat->Nat->List Addr),i+1<=n/\Same B F/\H' v=some (.frz o (.dK (kvR n ts p)))/\WH a F H' n ts (tk bs rs ts Zq ac (i+1)).1 g S' p (λi=>(Zq i).length) [r,v] bs rs/\H' r=some (.dK (bgK ts (λj=>g j (Zq j).length) (tk bs rs ts Zq ac (i+1)).2 (i+1)))/\∃U v9:Option V,[some (.ref bk),some (.ref tb),some (.ref v),some (.ref aa),some (.str ac.1),some (.str ac.2.1),some (.int ac.2.2),some (.ref r),some (.str (ts i).name),some (.ref rl)]=[some (.ref bk),some (.ref tb),some (.ref v),some (.ref aa),some (.str ac.1),some (.str ac.2.1),some (.int ac.2.2),some (.ref r),U,v9]:=λe=>by rw[t3 c e];exact⟨F,g,S',d,sB,af,C,by rw[qyx fi λ_ _=>rfl];exact t,_,_,Z⟩
     refine(nmc Z (nmc Z (flc (ak) (T.kG) (qp T.kH Uk) (rfl) ⟨bw.1,_,Z,?_⟩)));rw[bw.2];refine qb2 (λc1=>qdm (am ?_)) (λc1=>(nmc Z (flc (ak) (T.kG) (qp T.kH Uk) (rfl) (nmc Z ⟨r,ob,Z,gN,_,Z,?_⟩))))
     .unfold opT;rw[c1];rfl
     .rw[ay];have eo:opT (ts i) ac.2.1 f=fB (ts i).base f:=by
       unfold opT;cases e:decide ((ts i).opens=some ac.2.1) with|true=>exact absurd e c1|false=>exact D9 _
      rw[<- eo];refine qb2 (λc2=>am c2) (λc2=>no ?_);cases e:opT (ts i) ac.2.1 f with|false=>rfl|true=>exact absurd e c2
    .intro c7;have t2:=t2 c c7;refine(nmc Z (nmc Z (nmc Z (nmc Z (nmc Z ⟨r,Z,.inl ⟨_,.inl t⟩,(nmc Z (flc (ak) (T.kG) (qp T.kH Uk) (rfl) ⟨ob,gN,λy dy ny aq nne=>?_⟩))⟩)))));have keep:Same H' (upd (upd H' dy (.own y)) y (.ins a.kA dy [])):=λb u e=>by rw[qr (qae e ny),qr (qae e aq)];exact e
     refine⟨y,dy,rl,tb,ac.1,ac.2.2,(ts i).rd,bs,rs,F,_,Z,qk,C.sm.trans keep,C.sm.free ny,bu.at,cg.same sB,λH2 S2 cn oc b2 f2 hy2 bc cq R2=>⟨Z,(nmc Z (nmc Z ⟨r,_,Z,DPut.k (k:=.inr (ts i).name) ((b2.made ny aq) _ _ t) (by have:=bgK_len (ts:=ts) (y:=λj=>g j (Zq j).length) (f:=f) (m:=i);rw[B3];lia),?_⟩))⟩⟩;have s2:Same H' H2:=b2.made ny aq;rw[cw]at R2;have c9:=newR_wf (ac:=ac) (I.ba i d) bt;have W2:=C.begun O.wf d s2 (λb de=>?_) (keep.free bc) cq c9 R2
     .have X:=W2.but (c:=r) (by simp) (o:=.dK (qc8 (bgK ts (λj=>g j (Zq j).length) f i) (.inr (ts i).name) (.ref y))) (λ_ z=>nomatch z);refine⟨_,_,_,d,sB.trans (qx (C.sm.free (keep.free bc))),?_,(by rw[t2];exact X),?_,_,_,Z⟩
      .rw[qr (B4 ag)];exact s2 _ _ af
      .rw[qk,t2];have e3:qbf (bgK ts (λj=>g j (Zq j).length) f i) (.inr (ts i).name)=none:=by rw[qky I.nn (BC d) d,if_neg (λz=>absurd z.1 (Cg _))]
       rw[qh9 _ e3];show some (HO.dK _)=some (HO.dK (bgK ts (λj=>pu2 g i (Y i).length y j (Zq j).length) (put f i true) (i+1)));rw[bgK_yes (y:=λj=>g j (Zq j).length) (λj hj=>qcc (.inl (AA hj)))];show _=some (HO.dK (_++[(_,V.ref (pu2 g i (Y i).length y i (Zq i).length))]));rw[lY,qdr]
     .rcases f2 b de with z|z
      .rw[z];exact ny
      .exact keep.free z
  .rintro σ' H' ⟨F,g,S',_,sB,af,C,t,U,v9,rfl⟩;rw[qkx]at C t;have O:=qt5 (bs:=bs) (rs:=rs) (ac:=ac) I aj ex hD hN (m:=n) (Am n);have M:=λb=>qkw (bs:=bs) (rs:=rs) (ts:=ts) (Zq:=Zq) (ac:=ac) (m:=n) (i:=b);generalize tk bs rs ts Zq ac n=YF at C t O M k;obtain⟨Y,f⟩:=YF;dsimp only at C t O M k;have W2:=C.but (c:=v) (by simp) (o:=.dK (kvR n ts p)) (λ_ z=>nomatch z);have au:upd H' v (.dK (kvR n ts p)) r=some (.dK (bgK ts (λj=>g j (Zq j).length) f n)):=by rw[qr ag];exact t
   have al:=qk (H:=H') (a:=v) (o:=.dK (kvR n ts p));generalize upd H' v _=H2 at W2 au al |-;obtain⟨gl,egl⟩:∃gl,gl=(Ar n).filter f:=⟨_,Z⟩;have av:∀i,i∈gl↔i<n/\f i=true:=λi=>by rw[egl,Bk,AT]
   have c8:gl.Nodup:=by rw[egl];exact Di.filter _
   have bf:bgK ts (λj=>g j (Zq j).length) f n=gl.map λi=>(.inr (ts i).name,.ref (g i (Zq i).length)):=by rw[egl];rfl
   refine(nmc Z ⟨r,_,Z,au,λo2=>⟨λm σ' H'=>H' v=some (.dK (kvR n ts p))/\H' r=some (.frz o2 (.dK (bgK ts (λj=>g j (Zq j).length) f n)))/\WH a F H' n ts Y g S' p (λi=>(Zq i).length+if i∈gl.take m then 1 else 0) [r,v] bs rs/\∃U v9:Option V,σ'=[some (.ref bk),some (.ref tb),some (.ref v),some (.ref aa),some (.str ac.1),some (.str ac.2.1),some (.int ac.2.2),some (.ref r),U,v9],?_,?_,?_,?_⟩⟩)
   .refine⟨by rw[qr (B4 ag)];exact al,qk,?_,_,_,Z⟩;have:=W2.but (c:=r) (by simp) (o:=.frz o2 (.dK (bgK ts (λj=>g j (Zq j).length) f n))) (λ_ z=>nomatch z);rw[show (λi=>(Zq i).length+if i∈gl.take 0 then 1 else 0)=λi=>(Zq i).length from funext λi=>by rw[De,if_neg AG];rfl];exact this
   .rintro m σ' H3 ⟨_,h,_⟩;exact h
   .rintro m kv σ' H3 G ⟨ad,ah,X,U,v9,rfl⟩;rw[bf,Ai]at G;cases eg:gl[m]? with
    |none=>rw[eg]at G;cases G
    |some i =>
    rw[eg]at G;cases G;obtain⟨d,fi⟩:=(av i).mp (A0 eg);have nt:i∉gl.take m:=λz=>by obtain⟨j,hj⟩:=Bc z;have lt:=(Ac.mp hj).1;rw[Bv]at lt;rw[List.getElem?_take,if_pos (by lia)]at hj;have:=(Ee (by lia) c8).mp (hj.trans eg.symm);lia
    have lY:(Y i).length=(Zq i).length+1:=by rw[(M i).2,if_pos fi]
    have hl:=X.hl i d;have lz:=(aj.rl i d).1;rw[if_neg nt,Nat.add_zero]at hl;have ai:DGet H3 v (kV (.inr (ts i).name)) (some (.ref (p i))):=.inl ⟨_,.inr (ts i).name,.inl ad,Z,(qg2 I.nn d).symm⟩;have cz:DGet H3 r (kV (.inr (ts i).name)) (some (.ref (g i (Zq i).length))):=.inl ⟨_,.inr (ts i).name,.inr ⟨o2,ah⟩,Z,by rw[qky I.nn (Am n) d,if_pos ⟨d,fi⟩]⟩;refine(nmc Z (nmc Z ⟨v,_,Z,ai,.inl ⟨Z,_,SqL.of hl⟩,(nmc Z (nmc Z ⟨r,_,Z,cz,_,_,_,Z,Z,hl,qbm (by rw[Ab,Aw];lia),?_⟩))⟩));have W4:=X.listed d (by rw[if_neg nt,lY];lia);rw[if_neg nt,Nat.add_zero,By,Ax]at W4;have dc:=X.eB v (by simp);have cx:=X.eB r (by simp);refine⟨by rw[qr (dc.2.2.1 i d)];exact ad,by rw[qr (cx.2.2.1 i d)];exact ah,?_,_,_,Z⟩;rw[show (λL=>(Zq L).length+if L∈gl.take (m+1) then 1 else 0)=put (λL=>(Zq L).length+if L∈gl.take m then 1 else 0) i ((Zq i).length+1) from funext λL=>by
     rw[B1,eg];by_cases z:L=i
     .subst z;rw[put_at,if_pos (by simp)]
     .rw[qan z];have:L∈gl.take m++(some i).toList↔L∈gl.take m:=by simp[z]
      by_cases w:L∈gl.take m
      .rw[if_pos w,if_pos (this.mpr w)]
      .rw[if_neg w,if_neg (λq=>w (this.mp q))]]
    exact W4
   .rintro σ' H3 ⟨ad,ah,X,U,v9,rfl⟩;rw[bf,Ab,Bq]at X;have W4:=(X.but (c:=r) (by simp) (o:=.dK (bgK ts (λj=>g j (Zq j).length) f n)) (λ_ z=>nomatch z)).less (E':=[v]) (by simp);rw[show (λi=>(Zq i).length+if i∈gl then 1 else 0)=λi=>(Y i).length from funext λi=>by
     rw[(M i).2];by_cases z:f i=true
     .rw[if_pos z,if_pos ((av i).mpr ⟨(M i).1 z,z⟩)]
     .rw[if_neg z,if_neg (λq=>z ((av i).mp q).2)]]at W4
    exact k _ F g S' sB (by rw[qr (B4 ag)];exact ad) W4
theorem qmn (T:Txt K mg a):FnOk P w K mg base CX0 1 a.m5 a.pJ ["self","last"] (spSw a):=by
 refine T.yF.fn.ok qly (λvs H Q E h=>?_) (λcdv A outer s H vs Q E hr h=>?_)
 .obtain⟨_,_,_,_,_,_,_,_,rfl,_⟩:=h
  all_goals rfl
 .obtain⟨x,B,S,rd,st,bs,rs,r,rfl,b,k⟩:=h;refine⟨_,(qf (qz (zd (qab (pv 0) Z)) (qj (qo zf)) qag)
   (qj (qo (qcl (qt qb9 (pv 1) qau (qaf _)) zf zf)))),?_⟩
  obtain⟨dx,rl,cn,pr,pp,pg,ur,up,rfl,R⟩:=id b;unfold swd at k;refine(nmc Z (flc (R.hx) (T.k8) (qp T.kD Uk) (rfl) (nmc Z (qb2 (λc=>?_) (λc=>?_)))))
  .rw[if_pos c]at k;exact k
  .rw[if_neg c]at k;cases r with|none =>rw[if_pos Z]at k;exact(nmc Z ⟨Z,(nmc Z (qcp Z k))⟩)|some l =>rw[if_neg (λz=>nomatch z)]at k;exact(nmc Z ⟨Z,(nmc Z (qbh (λz=>nomatch z) k))⟩)
theorem qpp (T:Txt K mg a):FnOk P w K mg base CX0 19 a.fV a.rO ["self"] (spAc a):=by
 refine T.n9.fn.ok qfm (λvs H Q E h=>?_) (λcdv A outer s H vs Q E hr h=>?_)
 .obtain⟨_,_,_,_,_,_,_,_,_,_,_,_,_,_,rfl,_⟩:=h
  all_goals rfl
 .obtain⟨x,B,S,rd,st,bs,rs,c,s,r,n,w0,d0,rw0,rfl,m,tok,ok,D,lst,U,k⟩:=h;refine⟨_,(qf (qu (i:=1) qfm.nd Z (Au Z) (qbd (pv 0) T.k8 T.bE (qei T) (hr.mono Uk) T.gE.bd .nil qac))
   (qf (qu (i:=2) qfm.nd Z (Au Z) (qbd (pv 0) T.k8 T.bP (qhd T) (hr.mono Uk) T.gH.bd .nil qac))
   (qj (qo (zh (qd (zo zp (zo zq (qab (pv 0) Z) qi (λ_ _=>rfl)) qi (λ_ _=>rfl)) (qd (qal (pv 0) T.k8 T.yX (qmn T) (hr.mono Uk) T.yF.bd .nil qac (qd (pv 2) qg qe)) (qd (pv 1) (qd (qab (pv 0) Z) (qd (qi8 qe7 (by rfl) T.bT qgx (qd (qab (pv 0) Z) qg qam)) (qd (pv 2) (qd (qi8 qe7 (by rfl) T.bT qgx (qd (qab (pv 0) Z) qg qam)) qg zj) qe) zj) qam) qe) zj) zm)))))),?_⟩
  obtain⟨dx,rl,cn,pr,pp,pg,X,J,rfl,R⟩:=id m;have s0:∀z,s=some z->0<=z:=λz e=>qdk (e ▸ D) ok.d0;refine(nmc Z ⟨_,_,_,Z,R.hx,Z,x,B,_,rd,st,bs,rs,s,Z,m,D,λH0 p=>?_⟩);have X0:=R.same p;refine(nmc Z ⟨_,_,_,Z,X0.hx,Z,x,B,_,rd,st,bs,rs,c,s,Z,m.same p,tok,ok,D.same p,λH1 F b C=>?_⟩);obtain rfl:=qe5 s0 C lst;have b:=p.trans b;have d:=R.same b;have I:=m.same b;have tr:=d.tr;rw[U]at tr;obtain⟨q0,M,N⟩:=tr.get (i:=0) (r:=qm6 (n,d0,w0)) rfl;refine(nmc Z (flc (d.hx) (T.k8) (qp T.kD Uk) (rfl) (lxo (d.hr) ((qbj (j:=0) M)) (txo (N) Z (nmc Z ⟨_,_,_,Z,d.hx,Z,(nmc Z ⟨x,B,_,rd,st,bs,rs,F,Z,I,(nmc Z (nmc Z (flc (d.hx) (T.k8) (qp T.kD Uk) (rfl) (nmc Z (flc (d.hx) (T.k8) (qp T.kD Uk) (rfl) ⟨_,_,Z,.inl (SqL.of d.hp),λG t=>?_⟩)))))⟩)⟩)))));obtain⟨g,W⟩:=alc (o:=.lst J) t;have n4:=b.free t;generalize upd H1 G _=H4 at g W |-;have l:=d.same g;refine(nmc Z (nmc Z (flc (l.hx) (T.k8) (qp T.kD Uk) (rfl) ⟨_,_,Z,.inl (SqL.of l.hr),λv u=>?_⟩)));obtain⟨y,L⟩:=alc (o:=.lst X) u;have n6:=(b.trans g).free u;generalize upd H4 v _=H6 at y L |-;refine⟨fit7 _ _ _ _ _ _ _,λq O=>?_⟩;have Y:=qx (o:=.tup [V.str n,V.str (swd st.over F),oV s,V.int st.units,V.ref G,oV F,V.ref v]) O;have f:=y.trans Y;exact k q G v _ (b.trans (g.trans f)) ((b.trans (g.trans y)).free O) n4 n6 ⟨qk,⟨J,f _ _ W,l.tp.same f⟩,⟨X,Y _ _ L,l.tr.same f⟩⟩
theorem qoc (T:Txt K mg a){cL Pt:Addr}(hcl:a.bL.code=.ref cL)(LF:Lam.LamF mg base cL Pt):FnOk P w K mg base CX0 24 a.pK a.rE ["book","table","acts"] (spHist a Pt):=by
 refine T.gT.fn.ok qdx (λvs H Q E h=>?_) (λcdv A outer s H vs Q E hr h=>?_)
 .obtain⟨_,_,_,_,_,_,_,_,_,rfl,_⟩:=h
  all_goals rfl
 .obtain⟨bk,tb,pa,us,bw,n,ts,bs,rs,rfl,T0,hb,dt,tok,ex,dw,fh,hln,hd0,hL,k⟩:=h;refine⟨_,(qf (qu (i:=3) qdx.nd Z (Au Z) qd3)
   (qf (qa2 A7 Z (qap (qbd (pv 0) T.gI T.yP (qm8 T) (hr.mono Uk) T.nQ.bd .nil qac)) (qad (i:=4) qdx.nd Z (Au Z)) (qj (qe8 (qch hr) (pv 3) (pv 4) (zg qg) Z)))
   (qf (qa2 A7 Z (qap (zb (qv0 T hcl LF) (hr.mono Uk) Z T.bX.mgx T.bX.fn.kp T.bX.bd .nil qac (qd (pv 2) qg qe))) (qad (i:=5) qdx.nd Z (Au Z)) (qj (qy (zb (okTake T) (hr.mono Uk) Z T.fJ.mgx T.fJ.fn.kp T.fJ.bd .nil qac (qd (pv 0) (qd (pv 1) (qd (pv 3) (qd (pv 5) qg qe) qe) qe) qe)))))
   (qf (qu (i:=6) qdx.nd Z (Au Z) qd3)
   (qf (qfc A7 Z (pv 3) (qad (i:=4) qdx.nd Z (Au Z)) (qj (qe8 (qch hr) (pv 6) (pv 4) (qc1 (N:=["run"]) (js:=[none]) (XN:=["book","table","acts","runs","term","act","told"]) (xs:=qaa qif) Z Z Z Ez (qap (qc0 (qch hr) (pv 3) (pv 4) (λ_ _=>rfl))) (λ_ _ _ _ _ _=>(qad (i:=0) (show BD (["run"]:List Str) from by decide +kernel) Z (Au Z) (CG Z))) (λ_ _ _ _ _ _=>qel) (λ_ _ _ _ _ _=>(qbd (pv 0) T.k8 T.zE (qpp T) (hr.mono Uk) T.n9.bd .nil qac))) Z)))
   (qj (qo (pv 6)))))))),?_⟩
  have n4:=T0.n4;refine λB nd=>?_;obtain⟨s1,ak⟩:=alc (o:=.dK []) nd;generalize upd H B _=H1 at s1 ak |-;obtain⟨nms,fq,dv,hru⟩:=id hb;have bh:=dv.same s1;obtain⟨dxb,pob,pdb,kvb,dl,_⟩:=id bh;refine(nmc Z ⟨_,_,_,Z,dl,Z,bk,nms,_,fq,Z,bh,λqh nh=>?_⟩);obtain⟨s2,eh⟩:=alc (o:=.lst (((Ar n).map λi=>(ts i).name).map V.str)) nh;have av:=s2 _ _ ak;have dm:qh≠B:=λz=>by rw[z,ak]at nh;cases nh
  generalize upd H1 qh _=H2 at s2 eh av |-;refine⟨_,Z,⟨_,SqL.of eh⟩,qa5 (K:=K) (a:=qh) (xs:=((Ar n).map λi=>(ts i).name).map V.str) (λi σ H'=>Same H H'/\H' qh=some (.lst (((Ar n).map λi=>(ts i).name).map V.str))/\∃p:Nat->Addr,H' B=some (.dK (kvR i ts p))/\(∀j<i,H' (p j)=some (.lst [])/\H (p j)=none/\p j≠B/\p j≠qh/\∀j'<j,p j'≠p j)/\∃v4:Option V,σ=[some (.ref bk),some (.ref tb),some (.ref pa),some (.ref B),v4,none,none]) ⟨s1.trans s2,eh,λ_=>B,av,λj f=>absurd f (B2 _),none,Z⟩ (λi σ H' _ h=>SqL.of h.2.1) ?_ ?_⟩
  .rintro i v σ H' hv ⟨s3,au,p,af,G,v4,rfl⟩;have C:i<n:=by have:=(Ac.mp hv).1;rw[Ab,Ab,Aw]at this;exact this
   rw[Ai,Ai,Bb C]at hv;cases hv;refine⟨qfr,λpi ni=>(nmc Z (nmc Z ⟨B,_,Z,DPut.k (k:=.inr (ts i).name) (qx ni _ _ af) (by rw[qkx,B3];lia),?_⟩))⟩;have ca:pi≠B:=λz=>by rw[z,af]at ni;cases ni
   have df:pi≠qh:=λz=>by rw[z,au]at ni;cases ni
   have cp:∀j<i,pi≠p j:=λj f z=>by rw[z,(G j f).1]at ni;cases ni
   have e3:qbf (kvR i ts p) (.inr (ts i).name)=none:=qph λw m=>by obtain⟨j,f,e⟩:=AS.mp m;injection e with e1 _;have f:=AT.mp f;have:=T0.nn j (by lia) i C (Da.inj e1);lia
   have bj:qc8 (kvR i ts p) (.inr (ts i).name) (.ref pi)=kvR (i+1) ts (put p i pi):=by rw[qh9 _ e3];unfold kvR;rw[By,Ax];refine congr (congrArg _ (BI λj f=>by rw[qan (AA (AT.mp f))])) ?_;show _=[(_,V.ref (put p i pi i))];rw[put_at]
   rw[bj];refine⟨λb o e=>by rw[qr (qae e nd),qr (qae (s3 _ _ e) ni)];exact s3 _ _ e,by rw[qr dm,qr (B4 df)];exact au,put p i pi,qk,λj f=>?_,_,Z⟩;by_cases z:j=i
   .subst z;rw[put_at];exact⟨by rw[qr ca,qk],s3.free ni,ca,df,λj' ar=>by rw[qan (AA ar)];exact B4 (cp j' ar)⟩
   .obtain⟨X,U,g3,O,g5⟩:=G j (by lia);rw[qan z];exact⟨by rw[qr g3,qr (B4 (cp j (by lia)))];exact X,U,g3,O,λj' ar=>by rw[qan (by lia)];exact g5 j' ar⟩
  rintro σ H3 ⟨s3,au,p,af,G,v4,rfl⟩;rw[Ab,Ab,Aw]at af G;refine(nmc Z ⟨pa,us,bw,Z,s3 _ _ dw,fh.same s3,by lia,hL.same s3,λL H4 al d am s4 fk ay cg ea ta=>?_⟩);obtain⟨tps,ga⟩:=(hL.same s3).tbl;have bt:KpT H3 H4:=KpT.of ga s4;have bu:H4 B=some (.dK (kvR n ts p)):=bt _ _ (λ_ z=>nomatch z) af;have de:∀j<n,H4 (p j)=some (.lst []):=λj f=>bt _ _ (λ_ z=>nomatch z) (G j f).1;obtain⟨F,f1,f2,f3⟩:=mask_ex (λb=>b=B \/ ∃j,j<n/\b=p j) H4;have aj:∀b o,(∀l,o ≠ .lst l)->(∀l,o ≠ .dK l)->H4 b=some o->F b=some o:=λb o n1 n2 e=>f2 b o (λz=>by
   rcases z with z|⟨j,f,z⟩
   .rw[z,bu]at e;exact n2 _ (AE e).symm
   .rw[z,de j f]at e;exact n1 _ (AE e).symm) e
  have kF:KpT H F:=λb o n1 e=>f2 b o (λz=>by
   rcases z with z|⟨j,f,z⟩
   .rw[z,nd]at e;cases e
   .rw[z,(G j f).2.1]at e;cases e) (bt b o n1 (s3 _ _ e))
  have cx:Lam.LamAt F Pt ioP ioQ:=by
   rcases fk with h|⟨c,X,U⟩
   .exact .inl (aj _ _ (λ_ z=>nomatch z) (λ_ z=>nomatch z) h)
   .exact .inr ⟨c,aj _ _ (λ_ z=>nomatch z) (λ_ z=>nomatch z) X,aj _ _ (λ_ z=>nomatch z) (λ_ z=>nomatch z) U⟩
  have dr:F L=some (.lst al):=f2 _ _ (λz=>by
   rcases z with z|⟨j,f,z⟩
   .rw[z,af]at am;cases am
   .rw[z,(G j f).1]at am;cases am) ea
  have dg:Tups F al (d.map qb4):=qb1 ta λb u e=>aj b _ (λ_ z=>nomatch z) (λ_ z=>nomatch z) e;have bF:=qyz kF hb;have tF:=tab_T kF dt;have l4:d.length=bw.length:=ay.length_eq;have gb:al.length=d.length:=by have:=dg.length;rw[Ab]at this;exact this
  have W0:WH a F H4 n ts (qb5 bs rs ts n (d.take 0)) (λ_ _=>B) (λ_ _=>[]) p (λi=>(qb5 bs rs ts n (d.take 0) i).length) [B] bs rs:=by
   refine⟨f3,λi C=>de i C,λi C=>Am _,λi C j f=>absurd f (B2 _),λi C j f=>absurd f (B2 _),λi C=>f1 _ (.inr ⟨i,C,Z⟩),λi C D bc ne=>?_,λi C D bc j f=>absurd f (B2 _),λc hc=>?_⟩
   .rcases Nat.lt_or_gt_of_ne ne with h|h
    .exact(G D bc).2.2.2.2 i h
    .exact B4 ((G i C).2.2.2.2 D h)
   .rw[Ah.mp hc];exact⟨f1 _ (.inl Z),⟨_,bu,λ_ z=>nomatch z⟩,λi C=>B4 (G i C).2.2.1,λi C j f=>absurd f (B2 _)⟩
  have P0:PZ n ts (qb5 bs rs ts n (d.take 0)) ((d.take 0).getLastD dA).2.2 0:=⟨λi C st h=>absurd h AG,λi C st h=>absurd h AG,λi C=>⟨Am _,λst h=>absurd h AG⟩,Bp _⟩;refine⟨L,Z,⟨_,SqL.of ea⟩,qa5 (K:=K) (a:=L) (xs:=al) (λm σ H'=>∃(B':Hp)(x:Nat->Nat->Addr)(S:Nat->Nat->List Addr),Same F B'/\H' B=some (.dK (kvR n ts p))/\WH a B' H' n ts (qb5 bs rs ts n (d.take m)) x S p (λi=>(qb5 bs rs ts n (d.take m) i).length) [B] bs rs/\PZ n ts (qb5 bs rs ts n (d.take m)) ((d.take m).getLastD dA).2.2 m/\∃v5:Option V,σ=[some (.ref bk),some (.ref tb),some (.ref pa),some (.ref B),v4,v5,none]) ⟨F,_,_,Same.refl F,bu,W0,P0,none,Z⟩ (λm σ H' _ h=>by obtain⟨B',x,S,sB,_,W',_⟩:=h;exact SqL.of ((sB.trans W'.sm) _ _ dr)) ?_ ?_⟩
  .rintro m v σ H' hv ⟨B',x,S,sB,dh,W',P',v5,rfl⟩;have hm:m<d.length:=by have:=(Ac.mp hv).1;lia
   have em:=Ad hm;obtain⟨b,eb,qb⟩:=dg.get (i:=m) (r:=qb4 d[m]) (by rw[Ai,em];rfl);rw[hv]at eb;cases eb;generalize d[m]=ac at em qb;have a0:=hd0 ac (ay.mem_iff.mp (A0 em));have hD:((d.take m).getLastD dA).2.2<=ac.2.2:=by
    rw[List.getLastD_eq_getLast?];cases m with|zero=>exact a0|succ m =>rw[List.getLast?_take,if_neg (by lia),DX,Ad (by lia)];exact sort_le cg (Ce m) (Ad (by lia)) em
   have et:d.take (m+1)=d.take m++[ac]:=by rw[B1,em];rfl
   refine(nmc Z (nmc Z (nmc Z (nmc Z ⟨bk,tb,B,b,B',n,m,ts,_,x,S,p,bs,rs,_,ac,Z,T0,bF.same sB,tF.same sB,tok,ex,sB _ _ qb,dh,W',P',hD,by lia,λH'' dz x' S' fz c8 du=>?_⟩))));have ft:=qt5 (bs:=bs) (rs:=rs) (ac:=ac) T0 P' ex hD (by lia) (m:=n) (Am n);refine⟨dz,x',S',sB.trans fz,c8,?_,?_,_,Z⟩
   .rw[et,qn8];exact du
   .rw[et,qn8,show (d.take m++[ac]).getLastD dA=ac by simp];exact ft
  rintro σ H5 ⟨B5,x,S,aq,dc,W5,P5,v5,rfl⟩;rw[gb,Bq]at W5 P5;have ah:∀{J:Hp}{b:Addr},Same B5 J->J b=none->H b=none:=λ{J b} sJ e=>by
   cases eH:H b with
   |none=>rfl
   |some o =>
    exfalso;by_cases z:∃t,o=.tbl t
    .obtain⟨t,rfl⟩:=z;obtain⟨ps,g⟩:=cx.tbl;by_cases w:b=Pt
     .rw[w]at e;rw[sJ _ _ (aq _ _ g)]at e;cases e
     .have:=s4 b _ w (s3 _ _ eH);rw[sJ _ _ (aq _ _ (aj b (.tbl t) (λ_ z=>by cases z) (λ_ z=>by cases z) this))]at e;cases e
    .rw[sJ _ _ (aq _ _ (kF b o (λt q=>z ⟨t,q⟩) eH))]at e;cases e
  refine λpt ai=>?_;have W6:=W5.more (o:=.dK []) ai (λ_ z=>nomatch z);have cz:=qx (o:=.dK []) ai _ _ dc;have c9:=qk (H:=H5) (a:=pt) (o:=.dK []);have bi:pt≠B:=λz=>by rw[z,dc]at ai;cases ai
  have di:H pt=none:=ah W5.sm ai;generalize upd H5 pt _=H6 at W6 cz c9 |-;generalize eZ:qb5 bs rs ts n d=Zq at W5 W6 P5;refine(nmc Z ⟨B,_,Z,cz,λo=>⟨λi σ' H'=>∃(q:Nat->Addr)(y p4 p6:Nat->Nat->Addr),H' B=some (.frz o (.dK (kvR n ts p)))/\WH a B5 H' n ts Zq x S p (λi=>(Zq i).length) [pt,B] bs rs/\H' pt=some (.dK (kvR i ts q))/\(∀D<i,AccI bs rs ts Zq D (ofl [pt,B] H') (q D) (y D) (p4 D) (p6 D)/\H (q D)=none/\∀j<(Zq D).length,H (y D j)=none/\H (p4 D j)=none/\H (p6 D j)=none)/\SepT Zq i q p4 p6/\∃v4:Option V,σ'=[some (.ref bk),some (.ref tb),some (.ref pa),some (.ref B),v4,v5,some (.ref pt)],?_,?_,?_,?_⟩⟩)
  .exact⟨λ_=>B,λ_ _=>B,λ_ _=>B,λ_ _=>B,qk,W6.but (by simp) (λ_ z=>nomatch z),by rw[qr bi];exact c9,λi C=>absurd C (B2 _),λi C=>absurd C (B2 _),_,Z⟩
  .rintro i σ' H' ⟨_,_,_,_,h,_⟩;exact h
  .rintro i kv σ' H' fc ⟨q,y,p4,p6,ae,W',Y,hA,ag,v4,rfl⟩;obtain⟨HB,eHB⟩:∃HB,HB=H':=⟨_,Z⟩;obtain⟨C,rfl⟩:=qsq fc;have e9:DGet H' B (kV (.inr (ts i).name)) (some (.ref (p i))):=.inl ⟨_,.inr (ts i).name,.inr ⟨o,ae⟩,Z,(qg2 T0.nn C).symm⟩;have hl:=W'.hl i C;have lz:=(P5.rl i C).1;refine(nmc Z (nmc Z ⟨B,_,Z,e9,_,Z,⟨_,SqL.of hl⟩,?_⟩));have xj:∀(j:Nat)(v:V),((Ar (Zq i).length).map λj=>V.ref (x i j))[j]?=some v->j<(Zq i).length/\v=.ref (x i j):=λj v e=>by
    rw[Ai]at e;by_cases h:j<(Zq i).length
    .rw[Bb h]at e;cases e;exact⟨h,Z⟩
    .rw[AI (by rw[Aw];lia)]at e;cases e
   refine qw6 (λI v L H'=>∃r4 r6:Addr,(∀j,((Ar (Zq i).length).map λj=>V.ref (x i j))[j]?=some v->AccAt (ofl [I,pt,B] H') L r4 r6 (nm0 ((Zq i).getD j dRS)) ((Zq i).getD j dRS) (stF bs rs ts Zq 3 i ((Zq i).getD j dRS)) (lsC bs rs (ts i).rd ((Zq i).getD j dRS) (stF bs rs ts Zq 3 i ((Zq i).getD j dRS))))/\H' L≠none/\L≠I/\H L=none/\H r4=none/\H r6=none/\HB r4=none/\HB r6=none) (λI v L J J' kp=>?_) (λI v L J g=>?_) (λσ'=>∃v,σ'=[v]) (qbg (K:=K) (SqL.of hl)) (fits (by rw[Ab,Aw];lia)) ⟨none,Z⟩ (λI v σ' J RR' hv hpn W fg fu qq=>?_) qb8 λI H8 qs M s8 e8 l8 nd8 g8=>?_
   .rintro⟨r4,r6,X,U,g3,O⟩;refine⟨r4,r6,λj e=>(X j e).same (qgs (λ_ h=>h) λb u nb e=>kp b u (λz=>nb (by rw[z];simp)) e),?_,g3,O⟩;cases e:J L with|none=>exact absurd e U|some u=>rw[kp _ _ g3 e];exact λz=>nomatch z
   .obtain⟨_,_,_,U,_⟩:=g;exact U
   .obtain⟨v0,rfl⟩:=fu;obtain⟨zs,bf⟩:=fg;obtain⟨j,f⟩:=Bc hv;obtain⟨lj,rfl⟩:=xj j _ f;have WJ:=W'.same W;have mm:=qe6 lj;have aw:=P5.ok i C _ mm;have cw:=P5.wf i C _ mm;have R0:=WJ.R i C j lj;obtain⟨dx1,rl1,cn1,pr1,pp1,pg1,ur1,up1,eS,X1⟩:=id R0;have hB:=qt3 WJ P5 ex tok 3 i _ C (by lia) cw;obtain⟨⟨n0,d0,w0⟩,rw0,erw⟩:∃r0 rr,((Zq i).getD j dRS).rows=r0::rr:=by
     cases e:((Zq i).getD j dRS).rows with|nil=>exact absurd e aw.r0|cons r0 rr=>exact⟨r0,rr,Z⟩
    have en:nm0 ((Zq i).getD j dRS)=n0:=by unfold nm0;rw[erw];rfl
    refine(nmc Z ⟨_,_,_,Z,X1.hx,Z,_,B5,_,_,_,bs,rs,_,_,_,n0,w0,d0,rw0,Z,R0,tok,aw.bv _,hB,(qyv P5 ex C aw cw).bv _,erw,λL r4 r6 H9 s9 nq c7 bq cq=>?_⟩);have f4:∀b,J b=none->b∉[I,pt,B]:=λb e z=>by
     rcases Aq.mp z with z|z
     .rw[z,bf]at e;cases e
     .rcases Aq.mp z with z|z
      .rw[z,W _ _ Y]at e;cases e
      .rw[Ah.mp z,W _ _ ae]at e;cases e
    have dj:=cq.ofL (l:=[I,pt,B]) (λc hc t e=>by
     rcases Aq.mp hc with z|z
     .rw[z,s9 _ _ bf]at e;cases e
     .rcases Aq.mp z with z|z
      .rw[z,s9 _ _ (W _ _ Y)]at e;cases e
      .rw[Ah.mp z,s9 _ _ (W _ _ ae)]at e;cases e) (f4 _ c7) (f4 _ bq)
    refine qq _ L H9 ⟨_,Z⟩ s9 nq ⟨r4,r6,λj' e=>?_,(by rw[cq.1];exact λz=>nomatch z),(λz=>by rw[z,bf]at nq;cases nq),ah WJ.sm nq,ah WJ.sm c7,ah WJ.sm bq,eHB ▸ W.free c7,eHB ▸ W.free bq⟩;obtain⟨fe,ej⟩:=xj j' _ e;have:j=j':=W'.inj C lj fe (V.ref.inj ej);subst this;rw[en];exact dj
   .rw[Ab,Aw]at l8;have W8:=W'.same s8;have dk:∀j:Nat,∃pr:Addr×Addr,j<(Zq i).length->AccAt (ofl [I,pt,B] H8) (qs.getD j 0) pr.1 pr.2 (nm0 ((Zq i).getD j dRS)) ((Zq i).getD j dRS) (stF bs rs ts Zq 3 i ((Zq i).getD j dRS)) (lsC bs rs (ts i).rd ((Zq i).getD j dRS) (stF bs rs ts Zq 3 i ((Zq i).getD j dRS)))/\H (qs.getD j 0)=none/\H pr.1=none/\H pr.2=none/\HB pr.1=none/\HB pr.2=none:=λj=>by
     by_cases h:j<(Zq i).length
     .have ev:((Ar (Zq i).length).map λj=>V.ref (x i j))[j]?=some (.ref (x i j)):=by rw[Ai,Bb h];rfl
      have eq:qs[j]?=some (qs.getD j 0):=by rw[Aj,Ad (by lia)];rfl
      obtain⟨⟨r4,r6,X,U,g3,O⟩,_⟩:=g8 j _ _ ev eq;exact⟨(r4,r6),λ_=>⟨X j ev,O⟩⟩
     .exact⟨(0,0),λz=>absurd z h⟩
    obtain⟨pr,ad⟩:=Classical.axiomOfChoice dk;have cr:I≠pt:=λz=>by rw[z,Y]at M;cases M
    have fj:I≠B:=λz=>by rw[z,ae]at M;cases M
    have e3:qbf (kvR i ts q) (.inr (ts i).name)=none:=qph λw m=>by obtain⟨j,f,e⟩:=AS.mp m;injection e with e1 _;have f:=AT.mp f;have:=T0.nn j (by lia) i C (Da.inj e1);lia
    have bj:qc8 (kvR i ts q) (.inr (ts i).name) (.ref I)=kvR (i+1) ts (put q i I):=by rw[qh9 _ e3];unfold kvR;rw[By,Ax];refine congr (congrArg _ (BI λj f=>by rw[qan (AA (AT.mp f))])) ?_;show _=[(_,V.ref (put q i I i))];rw[put_at]
    refine(nmc Z (nmc Z ⟨pt,_,Z,DPut.k (k:=.inr (ts i).name) (s8 _ _ Y) (by rw[qkx,B3];lia),?_⟩));rw[bj];have kU:∀b u,b∉[pt,B]->H8 b=some u->upd H8 pt (.dK (kvR (i+1) ts (put q i I))) b=some u:=λb u nb e=>by rw[qr (λz=>nb (by rw[z];simp))];exact e
    refine⟨put q i I,put y i (λj=>qs.getD j 0),put p4 i (λj=>(pr j).1),put p6 i (λj=>(pr j).2),by rw[qr (B4 bi)];exact s8 _ _ ae,W8.but (by simp) (λ_ z=>nomatch z),qk,λD bc=>?_,qyy ag ?_ ?_,_,Z⟩
    rotate_left
    .subst eHB;intro i1 h1;obtain⟨⟨X,U⟩,_⟩:=hA i1 h1;have e1:=(qhz X).2;refine⟨(λz=>by rw[z,M]at e1;cases e1),λj f=>?_,λj f=>?_⟩
     .obtain⟨_,⟨u4,O,_⟩,⟨u6,g6,_⟩⟩:=U j f;have O:=(qhz O).2;have g6:=(qhz g6).2;exact⟨(λz=>by rw[<- z,M]at O;cases O),(λz=>by rw[<- z,M]at g6;cases g6)⟩
     .obtain⟨_,_,_,_,c4,c6⟩:=ad j f;exact⟨(λz=>by rw[z,c4]at e1;cases e1),(λz=>by rw[z,c6]at e1;cases e1)⟩
    .intro j f;obtain⟨⟨_,⟨u4,O,_⟩,⟨u6,g6,_⟩⟩,_⟩:=ad j f;exact⟨(λz=>(qhz O).1 (by rw[<- z];simp)),(λz=>(qhz g6).1 (by rw[<- z];simp))⟩
    by_cases z:D=i
    .subst z;rw[put_at,put_at,put_at,put_at];refine⟨⟨?_,λj f=>(ad j f).1.same (qgs (by simp) λb u nb e=>kU b u (λw=>nb (by simp at w |-;exact .inr w)) e)⟩,ah W'.sm M,λj f=>⟨(ad j f).2.1,(ad j f).2.2.1,(ad j f).2.2.2.1⟩⟩;refine qjx (by simp[cr,fj]) ?_;rw[qr cr,e8]
     congr 2
     refine Ck λj=>?_;rw[Ai,Ai];by_cases h:j<(Zq D).length
     .rw[Bb h];show _=some (V.ref (qs.getD j 0));rw[Aj,Ad (by lia)];rfl
     .rw[AI (by lia),AI (by rw[Aw];lia)];rfl
    .rw[qan z,qan z,qan z,qan z];obtain⟨X,U⟩:=hA D (by lia);exact⟨X.same (qgs (λ_ h=>h) λb u nb e=>kU b u nb (s8 _ _ e)),U⟩
  .rintro σ' H' ⟨q,y,p4,p6,ae,W',Y,hA,ag,v4,rfl⟩;rw[qkx]at Y hA ag;have W9:=W'.but (c:=B) (by simp) (o:=.dK (kvR n ts p)) (λ_ z=>nomatch z);have bz:upd H' B (.dK (kvR n ts p)) pt=some (.dK (kvR n ts q)):=by rw[qr bi];exact Y
   have k9:∀b u,b∉[pt,B]->H' b=some u->upd H' B (.dK (kvR n ts p)) b=some u:=λb u nb e=>by rw[qr (λz=>nb (by rw[z];simp))];exact e
   generalize upd H' B _=H9 at W9 bz k9 |-;have sF:=aq.trans W9.sm;subst eZ;refine(nmc Z (k pt H9 d q y p4 p6 (λb u nb e=>?_) (cx.same sF) ay cg ⟨bz,λi C=>(hA i C).1.same (qt7 k9)⟩ ⟨di,λi C=>(hA i C).2⟩ P5 ag));have e4:=s4 b u nb (s3 _ _ e);refine sF _ _ (f2 b u (λz=>?_) e4);rcases z with z|⟨j,f,z⟩
   .rw[z,nd]at e;cases e
   .rw[z,(G j f).2.1]at e;cases e
theorem qv4 (T:Txt K mg a):FnOk P w K mg base CX0 1 a.mR a.pV ["name","bases","taken"] spUnt:=by
 refine T.fG.fn.ok qgz (λvs H Q E h=>?_) (λcdv A outer s H vs Q E hr h=>?_)
 .obtain⟨_,_,_,_,_,_,_,_,_,rfl,_⟩:=h
  all_goals rfl
 .obtain⟨x,d,t,kvs,nms,bs,p,tk,n,rfl,hd,ht,G,hk,rfl,W,k⟩:=h;refine⟨_,(qf (qu (i:=3) qgz.nd Z (Au Z) (zg qg))
   (qf (qu (i:=4) qgz.nd Z (Au Z) (pv 0))
   (qf (qh4 A7 (PW.pt (qdy (qt qh6 (pv 4) qau (qaf _)) (qdf (qt qh8 (pv 4) (pv 2) (by with_unfolding_all rfl))))) (qf (qz (qt qct (pv 4) (pv 3) (by with_unfolding_all rfl)) (qj qe0) qag)
   (qf (qy (qca A3 AB AC qao (pv 3) (qd (pv 4) qg qe)))
   (qj (qu (i:=4) qgz.nd Z (Au Z) (qc0 (qch hr) (pv 1) (pv 4) (λ_ _=>rfl)))))))
   (qj (qo (pv 3)))))),?_⟩
  refine⟨qfr,λq F=>?_⟩;obtain⟨U,X⟩:=alc (o:=.lst []) F;generalize upd H q _=H0 at U X |-;refine(nmc Z ?_);refine⟨λm σ' H'=>Same H H'/\∃g:List Str,H' q=some (.lst (g.map V.str))/\((∃c:Nat,σ'=[some (.str (nm nms n)),some (.ref d),some (.ref t),some (.ref q),some (.str (nm nms c))]/\c<nms.length/\p c<m/\g++upW nms bs tk m c=upW nms bs tk 7 n/\g.length+m=7/\∀y∈g,∃j,j<nms.length/\y=nm nms j/\p c<p j) \/
    (σ'=[some (.str (nm nms n)),some (.ref d),some (.ref t),some (.ref q),some .non]/\g=upW nms bs tk 7 n)),⟨7,U,[],X,.inl ⟨n,Z,hk,G.lo n,Z,Z,λy N=>absurd N AG⟩⟩,?_⟩
  rintro m σ' H' ⟨C,g,r,⟨c,rfl,u,hm,l,hl,I⟩|⟨rfl,e⟩⟩
  .refine(nmc Z ⟨Z,(nmc Z (qtk (λz=>nomatch z) (nmc Z (nmc Z ⟨_,_,Z,.inl (SqL.of (C _ _ ht)),Z,qcg _,(nmc Z ?_)⟩))))⟩);show if (!inV (.str (nm nms c)) (tk.map V.str))=true then _ else _;rw[qcb];cases M:tk.contains (nm nms c) with
   |true =>refine qce (nmc Z (k q H' F C ?_));rw[up_stop (Bo.mp M),Br]at l;rw[r,l]
   |false =>
    have nt:¬nm nms c∈tk:=λz=>by rw[Bo.mpr z]at M;cases M
    have np:g.contains (nm nms c)=false:=by
     cases ep:g.contains (nm nms c) with
     |false=>rfl
     |true =>obtain⟨j,J,L,D⟩:=I _ (Bo.mp ep);rw[qma G.nd u J L]at D;exact absurd D (Cg _)
    obtain⟨f,rfl⟩:∃f,m=f+1:=⟨m-1,by lia⟩;rw[up_take nt]at l;have lz:(g.map V.str).length<=90000:=by rw[Ab];lia
    refine qdm ⟨λσ2 B=>Same H B/\∃g:List Str,B q=some (.lst (g.map V.str))/\((∃c:Nat,σ2=[some (.str (nm nms n)),some (.ref d),some (.ref t),some (.ref q),some (.str (nm nms c))]/\c<nms.length/\p c<f/\g++upW nms bs tk f c=upW nms bs tk 7 n/\g.length+f=7/\∀y∈g,∃j,j<nms.length/\y=nm nms j/\p c<p j) \/
     (σ2=[some (.str (nm nms n)),some (.ref d),some (.ref t),some (.ref q),some .non]/\g=upW nms bs tk 7 n)),λσ2 B z=>⟨f,Ce f,z⟩,?_⟩
    refine(nmc Z (nmc Z ⟨_,_,Z,.inl (SqL.of r),Z,qcg _,(nmc Z ?_)⟩));show if (inV (.str (nm nms c)) (g.map V.str))=true then _ else _;rw[qcb,np];refine qce (nmc Z ⟨.inl ⟨Z,_,SqL.of r⟩,(nmc Z ⟨_,_,_,Z,Z,r,qbm lz,?_⟩)⟩);have v:Same H (upd H' q (.lst (g.map V.str++[V.str (nm nms c)]))):=qak C F;have O:upd H' q (.lst (g.map V.str++[V.str (nm nms c)])) q=some (.lst ((g++[nm nms c]).map V.str)):=by rw[qk,Ax];rfl
    generalize upd H' q _=B at v O |-;refine(nmc Z (nmc Z ⟨d,_,Z,(W c u) ▸ DGet.k (k:=.inr (nm nms c)) (v _ _ hd),?_⟩));cases R:bo bs c with
    |none =>rw[R]at l;exact⟨v,_,O,.inr ⟨Z,l⟩⟩
    |some b =>
     rw[R]at l;obtain⟨Y,S⟩:=G.ok c b (by rw[qyr (by rw[G.len];exact u),R]);refine⟨v,_,O,.inl ⟨b,Z,Y,by lia,?_,by rw[Af];show g.length+1+f=7;lia,λy N=>?_⟩⟩
     .rw[List.append_assoc];exact l
     .rcases Av.mp N with z|z
      .obtain⟨j,J,L,D⟩:=I y z;exact⟨j,J,L,Nat.lt_trans S D⟩
      .exact⟨c,u,Ah.mp z,S⟩
  .refine(nmc Z ⟨Z,(nmc Z (qqv Z (qce (nmc Z (k q H' F C ?_)))))⟩);rw[r,e]
theorem qmo (T:Txt K mg a):FnOk P w K mg base CX0 2 a.tH a.rY ["rules"] (spHang a):=by
 refine T.bW.fn.ok qbw (λvs H Q E h=>?_) (λcdv A outer s H vs Q E L h=>?_)
 .obtain⟨_,_,_,_,_,rfl,_⟩:=h
  all_goals rfl
 .obtain⟨u,us,nms,bs,rk,rfl,v,f,y,k⟩:=h;refine⟨_,(qf (qu (i:=1) qbw.nd Z (Au Z) qd3)
   (qf (qa2 A7 Z (qap (pv 0)) (qad (i:=2) qbw.nd Z (Au Z)) (qj (qe8 (qch L) (pv 1) (qab (pv 2) Z) (qab (pv 2) Z) Z)))
   (qf (qu (i:=3) qbw.nd Z (Au Z) (zg qg))
   (qf (qa2 A7 Z (qap (pv 0)) (qad (i:=2) qbw.nd Z (Au Z)) (qj (qk1 (i:=3) qbw.nd Z (Au Z) (qr5 Z (by rfl) T.bT (by rfl) T.K3 qgx (qd (zb (qv4 T) (L.mono Uk) Z T.fG.mgx T.fG.fn.kp T.fG.bd .nil qac (qd (qab (pv 2) Z) (qd (pv 1) (qd (pv 3) qg qe) qe) qam)) qg zj)) ip_ext)))
   (qj (qo (pv 3))))))),?_⟩
  refine λd N=>?_;obtain⟨F,h0⟩:=alc (o:=.dK []) N;generalize upd H d _=H0 at F h0 |-;refine(nmc Z ⟨_,Z,⟨_,SqL.of (F _ _ v)⟩,qa5 (K:=K) (a:=u) (xs:=us) (λi σ H'=>Same H H'/\∃(l:Option V)(kvs:List (Key×V)),σ=[some (.ref u),some (.ref d),l,none]/\H' d=some (.dK kvs)/\kvs.length<=i/\∀k<i,qbf kvs (.inr (nm nms k))=some (qjv nms (bo bs k)))
   ⟨F,none,[],Z,h0,Am _,λk hk=>absurd hk (B2 _)⟩ (λi σ H' _ h=>SqL.of (h.1 _ _ v)) ?_ ?_⟩)
  .rintro i x σ H' m ⟨e,l,kvs,rfl,g,R,B⟩;have C:i<nms.length:=by rw[<- f.1];exact(Ac.mp m).1
   obtain⟨p,dx,fs,rfl,r,G,J⟩:=(f.2 i x m).same e;refine(nmc Z (flc (r) (T.kG) (qp T.kH Uk) (J) (nmc Z (nmc Z (flc (r) (T.kG) (qp T.kH Uk) (G) ⟨d,_,Z,DPut.k (k:=.inr (nm nms i)) g (by rw[B3];have:=y.sm;lia),?_⟩)))));exact⟨qak e N,_,_,Z,qk,A5 (qcu _ _ _) (C7 R),qt2 y.nd C B⟩
  .rintro σ X ⟨e,l,kvs,rfl,g,R,B⟩;rw[f.1]at B;refine⟨qfr,λt n=>?_⟩;have D:=e.trans (qx (o:=.lst []) n);have U:=qx (o:=.lst []) n _ _ g;have j:=qk (H:=X) (a:=t) (o:=.lst []);have S:=e.free n;have M:d≠t:=λz=>by rw[<- z,g]at n;cases n
   generalize upd X t _=H2 at D U j |-;refine(nmc Z ⟨_,Z,⟨_,SqL.of (D _ _ v)⟩,qa5 (K:=K) (a:=u) (xs:=us) (λi σ H'=>Same H H'/\H' d=some (.dK kvs)/\H' t=some (.lst ((qit nms bs i).map V.str))/\∃l:Option V,σ=[some (.ref u),some (.ref d),l,some (.ref t)])
    ⟨D,U,j,_,Z⟩ (λi σ H' _ h=>SqL.of (h.1 _ _ v)) ?_ ?_⟩)
   .rintro i x σ H' m ⟨e,g,j,l,rfl⟩;have C:i<nms.length:=by rw[<- f.1];exact(Ac.mp m).1
    obtain⟨p,dx,fs,rfl,r,G,J⟩:=(f.2 i x m).same e;refine(nmc Z (nmc Z (flc (r) (T.kG) (qp T.kH Uk) (G) (nmc Z (nmc Z ⟨_,_,_,_,nms,bs,rk,_,i,Z,g,j,y,C,Z,B,λq1 O n1 z1 e1=>?_⟩)))));refine⟨_,_,Z,SqL.of e1,λI W=>?_⟩;have q:=z1.trans (qx (o:=.lst ((upW nms bs (qit nms bs i) 7 i).map V.str).reverse) W);have Y:=qk (H:=O) (a:=I) (o:=.lst ((upW nms bs (qit nms bs i) 7 i).map V.str).reverse);generalize upd O I _=H4 at q Y |-;refine⟨_,_,_,_,Z,Z,q _ _ j,Y,fits (by have a:=qyq nms bs i;have b:=qpe nms bs (qit nms bs i) 7 i;have c:=y.sm;rw[BU,Ab,Ab];lia),?_⟩;refine⟨qak (e.trans q) S,(qr M).trans (q _ _ g),?_,_,Z⟩;rw[qk,qju,<- List.map_reverse,<- Ax]
   .rintro σ H' ⟨e,g,j,l,rfl⟩;rw[f.1]at j;exact(nmc Z (k t H' S e j))
theorem qmp (T:Txt K mg a):FnOk P w K mg base CX0 1 a.r8 a.nO ["within","week","yearly"] spFyw:=by
 refine T.bR.fn.ok qlz (λvs H Q E h=>?_) (λcdv A outer s H vs Q E hr h=>?_)
 .obtain⟨_,_,_,_,_,rfl,_⟩:=h
  all_goals rfl
 .obtain⟨i,pw,py,e,yr,rfl,Y,⟨us,p,ty⟩,hl,k⟩:=h;refine⟨_,(qj (qo (pe_or (qej qct (qv qah (qv qas (pv 0) qi) qi) (pv 1) (by with_unfolding_all rfl)) (qf2 (zc (qu1 Z) (by rfl) T.zU qxg (qd (qc1 (N:=["first","last","within"]) (js:=[none,none,some 0]) (XN:=["within","week","yearly"]) (xs:=qaa qdh) Z Z Z Ez (qap (pv 2)) (λ_ _ _ _ _ _=>(pg_tupC (K:=K) Z (n:=2) Z (qar (qad (i:=0) (show BD (["first","last","within"]:List Str) from by decide +kernel) Z (Au Z) (CG Z)) (qar (qad (i:=1) (show BD (["first","last","within"]:List Str) from by decide +kernel) Z (Au Z) (CG Z)) qdg)))) (λ_ _ _ _ _ _=>qel) (λ_ _ _ _ _ _=>(qpy qf4 qf4 (pv 0) (pv 2) (pv 1)))) qg qf7)))))),?_⟩;refine(nmc Z (icc Z Z (pos Uk) (iic Z Z (nmc Z ⟨_,_,Z,.inl (SqL.of Y),Z,qnu _,(nmc Z ?_)⟩))));show if inV (.int (i % 7+1)) (e.map V.int)=true then _ else _;rw[qqd];have c:=λH' s=>k H' s;unfold fy at c;cases u:e.contains (i % 7+1) with
  |true =>rw[u,Bool.true_or]at c;exact qdm (c _ (Same.refl H))
  |false =>
   rw[u]at c;have lu:us.length=yr.length:=by rw[ty.length,Ab]
   refine qce (nmc Z ⟨_,Z,⟨_,SqL.of p⟩,?_⟩);let f:V->V:=λv=>match v with
    |.ref b=>match H b with
     |some (.tup [.int x,.int y])=>.bl (decide (x<=i) && decide (i<=y))
     |_=>.non
    |_=>.non
   refine qnq f (λσ'=>∃B m,σ'=[B,m,some (.int i)]) (qbg (SqL.of p)) (fits (by lia)) ⟨none,none,Z⟩ (λv σ' H' RR hv W M q=>?_) (gk_tup λxs σ' H' RR RR' h z=>?_) λU H2 hp2 J l=>?_
   .obtain⟨B,m,rfl⟩:=M;obtain⟨j,O⟩:=Bc hv;obtain⟨b,t,rfl,G,o⟩:=ty.get' O;obtain⟨r,_,rfl⟩:=qqx G;have F:f (.ref b)=.bl (decide (r.1<=i) && decide (i<=r.2)):=by show (match H b with|some (.tup [.int x,.int y])=>V.bl (decide (x<=i) && decide (i<=y))|_=>.non)=_;rw[o];rfl
    have q:=q [some (.int r.1),some (.int r.2),some (.int i)] H' ⟨_,_,Z⟩ (Same.refl H');rw[F]at q;refine⟨_,_,Z,SqT.of (W _ _ o),Z,_,_,Z,_,_,Z,Z,(nmc Z (nmc Z (iic Z Z (nmc Z ?_))))⟩;by_cases d:r.1<=i
    .rw[decide_eq_true d,Bool.true_and]at q;exact qcp d (nmc Z (iic Z Z q))
    .rw[decide_eq_false d,CP]at q;exact qbh d q
   .obtain⟨I,X,C,S,R,l,z⟩:=z;exact⟨I,X,C,S,R,l,⟨z.1,h _ _ z.2⟩⟩
   have L:us.map f=(yr.map λr=>decide (r.1<=i) && decide (i<=r.2)).map V.bl:=by rw[Cr];exact qqc (g:=f) ty λb r D=>by show (match H b with|some (.tup [.int x,.int y])=>V.bl (decide (x<=i) && decide (i<=y))|_=>.non)=_;rw[D];rfl
   refine⟨U,yr.map λr=>decide (r.1<=i) && decide (i<=r.2),Z,SqL.of (by rw[l,L]),?_⟩;show Q (.bl ((yr.map λr=>decide (r.1<=i) && decide (i<=r.2)).any λb=>b)) _;rw[List.any_map];exact c _ J
theorem qro (T:Txt K mg a):FnOk P w K mg base CX0 1 a.xN a.xF ["free_days"] spCu:=by
 refine T.bV.fn.ok qgn (λvs H Q E h=>?_) (λcdv A outer s H vs Q E hr h=>?_)
 .obtain⟨_,_,rfl,_⟩:=h
  all_goals rfl
 .obtain⟨p,bs,rfl,y,hl,k⟩:=h;refine⟨_,(qf (qu (i:=1) qgn.nd Z (Au Z) (zg (qd qi qg ql)))
   (qf (qa2 A7 Z (qap (pv 0)) (qad (i:=2) qgn.nd Z (Au Z)) (qj (qy (qca A3 AB AC qao (pv 1) (qd (qcl (zd (pv 2)) (zo zq (pv 1) (qf3 qd1 qi) (λ_ _=>rfl)) (qv qah (zo zq (pv 1) (qf3 qd1 qi) (λ_ _=>rfl)) qi)) qg qws)))))
   (qj (qo (pv 1))))),?_⟩
  refine⟨fits (by show 1<=100000;decide),λq n=>?_⟩;have u:=qx (o:=.lst [V.int 0]) n;refine(nmc Z ⟨_,Z,⟨_,SqL.of (u _ _ y)⟩,qa5 (K:=K) (a:=p) (xs:=bs.map V.bl) (λi σ H'=>Same H H'/\H' q=some (.lst (((Ar (i+1)).map λk=>opn bs k).map V.int))/\∃v:Option V,σ=[some (.ref p),some (.ref q),v])
   ⟨u,qk,none,Z⟩ (λi σ H' _ h=>SqL.of (h.1 _ _ y)) ?_ ?_⟩)
  .rintro i x σ H' d ⟨r,c,v,rfl⟩;rw[Ai]at d;cases ex:bs[i]? with
   |none=>rw[ex]at d;cases d
   |some b =>
    rw[ex]at d;cases d;have hi:i<bs.length:=(Ac.mp ex).1;have t:∀m,((Ar (m+1)).map λk=>opn bs k).map V.int=((Ar m).map λk=>opn bs k).map V.int++[V.int (opn bs m)]:=λm=>by rw[By,Ax,Ax];rfl
    have f:(((Ar (i+1)).map λk=>opn bs k).map V.int).length<=90000:=by rw[Ab,Ab,Aw];lia
    have g:=c;rw[t]at g;have e:∀z,z=opn bs (i+1)->Same H (upd H' q (.lst (((Ar (i+1)).map λk=>opn bs k).map V.int++[V.int z])))/\upd H' q (.lst (((Ar (i+1)).map λk=>opn bs k).map V.int++[V.int z])) q=some (.lst (((Ar (i+1+1)).map λk=>opn bs k).map V.int))/\True:=λz B=>by subst B;exact⟨qak r n,by rw[qk,t (i+1)],trivial⟩
    refine(nmc Z ⟨.inl ⟨Z,_,SqL.of c⟩,(nmc Z (nmc Z ?_))⟩);cases b with
    |true =>obtain⟨l,j,_⟩:=e (opn bs i) (by rw[qlf ex];rfl);exact qdm (nmc Z (nmc Z (lxo (g) (qd2 _ _) ⟨_,_,_,Z,Z,c,qbm f,l,j,_,Z⟩)))
    |false =>obtain⟨l,j,_⟩:=e (opn bs i+1) (by rw[qlf ex];rfl);exact qce (nmc Z (nmc Z (lxo (g) (qd2 _ _) (iic Z Z ⟨_,_,_,Z,Z,c,qbm f,l,j,_,Z⟩))))
  .rintro σ H' ⟨r,c,v,rfl⟩;rw[Ab]at c;exact(nmc Z (k q H' n r c))
theorem qrp (T:Txt K mg a):FnOk P w K mg base CX0 2 a.rF a.pZ ["thing"] spWd:=by
 refine T.bU.fn.ok qqt (λvs H Q E h=>?_) (λcdv A outer s H vs Q E c h=>?_)
 .obtain⟨_,rfl,_⟩:=h
  all_goals rfl
 .obtain⟨n,rfl,b,d,k⟩:=h;refine⟨_,(qj (qo (qhf (zb (qg5 T) (c.mono Uk) Z T.kZ.mgx T.kZ.fn.kp T.kZ.bd .nil qac (qd (pv 0) qg qe)) (qf2 (qpy qf4 qf4 qi (pv 0) qi))))),?_⟩;refine(nmc Z (nmc Z (nmc Z (qdm (nmc Z (iic Z Z (nmc Z (qcp b (iic Z Z ?_)))))))));show Q (.bl (decide (n<=7))) H;rw[decide_eq_true d];exact k
theorem qpq (T:Txt K mg a):FnOk P w K mg base CX0 3 a.tW a.xC ["week"] spRefW:=by
 refine T.dG.fn.ok qfn (λvs H Q E h=>?_) (λcdv A outer s H vs Q E B h=>?_)
 .obtain⟨_,_,rfl,_⟩:=h
  all_goals rfl
 .obtain⟨p,b,rfl,g,ok,k⟩:=h;refine⟨_,(qj (qa2 A7 Z (qkr Z T.dY (qd (pv 0) qg qe)) (qeq Z (qar (qad (i:=1) qfn.nd Z (Au Z)) (qar (qad (i:=2) qfn.nd Z (Au Z)) qdg))) (qj (qz (PW.pt (qh3 (qt qcm (pv 1) (qby (v:=.int 6) Z T.zI.choose_spec ⟨_,Z⟩) (qaf _)) (qh3 (qdz (zd (zb (qrp T) (B.mono Uk) Z T.bU.mgx T.bU.fn.kp T.bU.bd .nil qac (qd (pv 2) qg qe)))) (qhe (qt qct (pv 2) (qk5 qol (pv 0) qoh (qoi (pv 1))) (by with_unfolding_all rfl)))))) (qj qe0) qag)))),?_⟩;have f:=ok.len;refine(nmc Z ⟨_,_,Z,g,qid (K:=K) (a:=p) (xs:=b.map V.int) (λi σ H'=>Same H H'/\∃j e:Option V,σ=[some (.ref p),j,e]) ⟨Same.refl H,none,none,Z⟩ (λi σ H' _ h=>SqL.of (h.1 _ _ g)) ?_ ?_⟩)
  .rintro i x t σ H' c ⟨d,j,e,rfl⟩ y;rw[Ai]at c;cases ex:b[i]? with|none=>rw[ex]at c;cases c|some n =>rw[ex]at c;cases c;have l:i<b.length:=(Ac.mp ex).1;have r:=ok.rng n (A0 ex);have m:=qx (o:=.tup [V.int (i:Int),V.int n]) y;refine⟨_,_,Z,SqT.of qk,Z,_,_,Z,_,_,Z,Z,?_⟩;refine(nmc Z ⟨Z,(nmc Z (qbh (λz=>absurd (Int.ofNat.inj (V.int.inj z)) (AA (A2 l f))) (nmc Z ⟨_,Z,r.1,r.2,(nmc Z (qce (nmc Z (nmc Z (nmc Z ⟨_,Z,_,_,Z,SqL.of (m _ _ (d _ _ g)),λq C=>?_⟩)))))⟩)))⟩);rw[qqw (b.map V.int) i (by rw[Ab];exact BC l),<- List.map_take];have u:=qx (o:=.lst ((b.take i).map V.int)) C;refine⟨_,_,Z,.inl (SqL.of qk),Z,qnu _,(nmc Z ?_)⟩;show if inV (.int n) ((b.take i).map V.int)=true then _ else _;rw[qqd,dup ok.nd ex];exact qce ⟨(d.trans m).trans u,_,_,Z⟩
  .rintro σ H' ⟨d,j,e,rfl⟩;exact k _ d
theorem qsy (T:Txt K mg a):FnOk P w K mg base CX0 3 a.pH a.pR ["thing"] spYr:=by
 refine T.dX.fn.ok qsd (λvs H Q E h=>?_) (λcdv A outer s H vs Q E d h=>?_)
 .obtain⟨_,_,rfl,_⟩:=h
  all_goals rfl
 .obtain⟨p,r,rfl,b,g,c,f,e,k⟩:=h;refine⟨_,(qf (qz (qdz (PW.pt (qdy (zd (zc qia (by rfl) T.bY qcq (qd (pv 0) (qd (qkm (v:=.ty "tuple") Z T.zL qsa Z) qg qe) qe))) (qdf (qt qcm (zc qbs (by rfl) T.kX qbv (qd (pv 0) qg qe)) qi (qaf _)))))) (qj (qo qck)) qag)
   (qj (qo (qhf (zb (qhb T) (d.mono Uk) Z T.gL.mgx T.gL.fn.kp T.gL.bd .nil qac (qd (zo zp (pv 0) qi (λ_ _=>rfl)) (qd (zo zp (pv 0) qi (λ_ _=>rfl)) (qd (qby (v:=.int 30) Z T.KF.choose_spec ⟨_,Z⟩) qg qe) zm) zm)) (qf2 (qej qdl (zo zp (pv 0) qi (λ_ _=>rfl)) (qby (v:=.int 364) Z T.m9.choose_spec ⟨_,Z⟩) (qaf _))))))),?_⟩
  refine(nmc Z ⟨_,_,_,_,Z,.tup b,qke,(nmc Z (qdm (nmc Z ⟨_,_,Z,.inr ⟨_,SqT.of b,Z⟩,Z,(nmc Z (qce ?_))⟩)))⟩);refine(nmc Z (txo (b) Z (nmc Z (txo (b) Z ⟨_,_,_,Z,g,c,f,(nmc Z (qdm (nmc Z (txo (b) Z (iic Z Z ?_)))))⟩))));show Q (.bl (decide (r.2<364))) H;rw[decide_eq_true e];exact k
theorem qmq (T:Txt K mg a):FnOk P w K mg base CX0 4 a.xV a.mO ["yearly"] spRefY:=by
 refine T.fH.fn.ok qed (λvs H Q E h=>?_) (λcdv A outer s H vs Q E u h=>?_)
 .obtain⟨_,_,rfl,_⟩:=h
  all_goals rfl
 .obtain⟨p,yr,rfl,⟨us,l,g⟩,ok,k⟩:=h;refine⟨_,(qj (qa2 A7 Z (qkr Z T.dY (qd (pv 0) qg qe)) (qeq Z (qar (qad (i:=1) qed.nd Z (Au Z)) (qar (qad (i:=2) qed.nd Z (Au Z)) qdg))) (qj (qz (PW.pt (qh3 (qt qcm (pv 1) (qby (v:=.int 4) Z T.z4.choose_spec ⟨_,Z⟩) (qaf _)) (qhe (qdz (zd (zb (qsy T) (u.mono Uk) Z T.dX.mgx T.dX.fn.kp T.dX.bd .nil qac (qd (pv 2) qg qe))))))) (qj qe0) qag)))),?_⟩;have hlen:=ok.len;have lu:us.length=yr.length:=by rw[g.length,Ab]
  refine(nmc Z ⟨_,_,Z,l,qid (K:=K) (a:=p) (xs:=us) (λi σ H'=>Same H H'/\∃e d:Option V,σ=[some (.ref p),e,d]) ⟨Same.refl H,none,none,Z⟩ (λi σ H' _ h=>SqL.of (h.1 _ _ l)) ?_ ?_⟩)
  .rintro i x t σ H' y ⟨c,e,d,rfl⟩ q;obtain⟨m,t1,rfl,n,B⟩:=g.get' y;obtain⟨r,j,rfl⟩:=qqx n;have hi:i<yr.length:=(Ac.mp j).1;have b:=ok.rng r (A0 j);have f:=qx (o:=.tup [V.int (i:Int),V.ref m]) q;refine⟨_,_,Z,SqT.of qk,Z,_,_,Z,_,_,Z,Z,?_⟩;exact(nmc Z ⟨Z,(nmc Z (qbh (λz=>by have:=V.int.inj z;lia) (nmc Z ⟨_,_,Z,f _ _ (c _ _ B),b.1,b.2.1,b.2.2.1,b.2.2.2,(nmc Z (qce ⟨c.trans f,_,_,Z⟩))⟩)))⟩)
  .rintro σ H' ⟨c,e,d,rfl⟩;exact k _ c
theorem qez (T:Txt K mg a):FnOk P w K mg base CX0 1 a.nA a.sK ["things"] spOr:=by
 refine T.gC.fn.ok qm3 (λvs H Q E h=>?_) (λcdv A outer s H vs Q E hr h=>?_)
 .obtain⟨rfl,_⟩|⟨_,rfl,_⟩:=h
  all_goals rfl
 .obtain h:=h;refine⟨_,(qj (qo (qcl (qt qb9 (pv 0) qau (qaf _)) (zg qg) (pv 0)))),?_⟩;rcases h with ⟨rfl,k⟩|⟨p,rfl,k⟩
  .exact(nmc Z ⟨Z,(nmc Z (qcp Z ⟨qfr,λq b=>k q b⟩))⟩)
  .exact(nmc Z ⟨Z,(nmc Z (qbh (λz=>nomatch z) (nmc Z k)))⟩)
theorem okIsRow (T:Txt K mg a):FnOk P w K mg base CX0 3 a.mP a.rB ["row"] spRw:=by
 refine T.dJ.fn.ok scIsRow (λvs H Q E h=>?_) (λcdv A outer s H vs Q E d h=>?_)
 .obtain⟨_,_,rfl,_⟩:=h
  all_goals rfl
 .obtain⟨p,r,rfl,b,ok,k⟩:=h;refine⟨_,(qj (qo (qhf (zb (qhb T) (d.mono Uk) Z T.gL.mgx T.gL.fn.kp T.gL.bd .nil qac (qd (zo zp (pv 0) qi (λ_ _=>rfl)) (qd (zo zp (pv 0) qi (λ_ _=>rfl)) (qd (qby (v:=.int 40) Z T.K7.choose_spec ⟨_,Z⟩) qg qe) zm) zm)) (qhf (zc qia (by rfl) T.bY qcq (qd (zo zp (pv 0) qi (λ_ _=>rfl)) (qd (qkm (v:=.ty "str") Z T.yY qxi Z) qg qe) zm)) (qf2 (qej qct (zo zp (pv 0) qi (λ_ _=>rfl)) (qby (v:=.ref a.lD) Z T.yR Z) (by with_unfolding_all rfl))))))),?_⟩;obtain⟨i,c,f,g⟩:=ok;refine(nmc Z (txo (b) Z (nmc Z (txo (b) Z ⟨_,_,_,Z,i,c,f,(nmc Z (qdm (nmc Z (txo (b) Z ⟨_,_,_,_,Z,.str _,qp7,(nmc Z (qdm (nmc Z (txo (b) Z ⟨_,_,Z,.inr (T.yV _),Z,Z,?_⟩))))⟩))))⟩))));have e:inV (.str r.2.2) [.str (Aa "free"),.str (Aa "open")]=true:=by rcases g with z|z <;>rw[z] <;>decide +kernel
  show Q (.bl (inV (.str r.2.2) [.str (Aa "free"),.str (Aa "open")])) H;rw[e];exact k
theorem qpr (T:Txt K mg a):FnOk P w K mg base CX0 4 a.tV a.yG ["rows"] spRefR:=by
 refine T.dE.fn.ok qfo (λvs H Q E h=>?_) (λcdv A outer s H vs Q E q h=>?_)
 .obtain⟨_,_,rfl,_⟩:=h
  all_goals rfl
 .obtain⟨p,rs,rfl,⟨us,j,f⟩,hl,ok,k⟩:=h;refine⟨_,(qj (qa2 A7 Z (qkr Z T.dY (qd (pv 0) qg qe)) (qeq Z (qar (qad (i:=1) qfo.nd Z (Au Z)) (qar (qad (i:=2) qfo.nd Z (Au Z)) qdg))) (qj (qz (PW.pt (qh3 (qt qcm (pv 1) (qby (v:=.int 12) Z T.KE.choose_spec ⟨_,Z⟩) (qaf _)) (qhe (qdz (zd (zb (okIsRow T) (q.mono Uk) Z T.dJ.mgx T.dJ.fn.kp T.dJ.bd .nil qac (qd (pv 2) qg qe))))))) (qj qe0) qag)))),?_⟩;have lu:us.length=rs.length:=by rw[f.length,Ab]
  refine(nmc Z ⟨_,_,Z,j,qid (K:=K) (a:=p) (xs:=us) (λi σ H'=>Same H H'/\∃d c:Option V,σ=[some (.ref p),d,c]) ⟨Same.refl H,none,none,Z⟩ (λi σ H' _ h=>SqL.of (h.1 _ _ j)) ?_ ?_⟩)
  .rintro i x t σ H' u ⟨b,d,c,rfl⟩ n;obtain⟨l,t1,rfl,m,y⟩:=f.get' u;obtain⟨r,g,rfl⟩:=qks m;have hi:i<rs.length:=(Ac.mp g).1;have B:=ok r (A0 g);have e:=qx (o:=.tup [V.int (i:Int),V.ref l]) n;refine⟨_,_,Z,SqT.of qk,Z,_,_,Z,_,_,Z,Z,?_⟩;exact(nmc Z ⟨Z,(nmc Z (qbh (λz=>by have:=V.int.inj z;lia) (nmc Z ⟨_,_,Z,e _ _ (b _ _ y),B,(nmc Z (qce ⟨b.trans e,_,_,Z⟩))⟩)))⟩)
  .rintro σ H' ⟨b,d,c,rfl⟩;exact k _ b
theorem qeo (T:Txt K mg a):FnOk P w K mg base CX0 1 a.tY a.rD ["_law_script","_law_k"] (spCell K):=by
 refine T.gA.fn.ok qqu (λvs H Q E h=>?_) (λcdv A outer s H vs Q E hr h=>?_)
 .obtain⟨_,_,_,rfl,_⟩:=h
  all_goals rfl
 .obtain⟨l,d,i,rfl,b,f,k⟩:=h;refine⟨_,(qf (qz (qt qdl (pv 1) (zc qbs (by rfl) T.kX qbv (qd (pv 0) qg qe)) (qaf _)) (qj (qo (zo zq (pv 0) (pv 1) (λ_ _=>rfl)))) qag)
   (qj (qo qi))),?_⟩
  refine(nmc Z (nmc Z ⟨_,_,Z,.inl ⟨_,b,Z⟩,(iic Z Z (nmc Z ?_))⟩));refine qb2 (λc=>?_) (λc=>?_)
  .exact(nmc Z (nmc Z ⟨_,_,_,_,Z,Z,b,qxv f (of_decide_eq_true c),k⟩))
  .have e:cell d i=0:=qxw (λz=>c (decide_eq_true z));rw[e]at k;exact k
theorem qbi (T:Txt K mg a):FnOk P w K mg base CX0 2 a.tD a.mL ["_law_script","_law_k"] (spMix K):=by
 refine T.kL.fn.ok ql0 (λvs H Q E h=>?_) (λcdv A outer s H vs Q E c h=>?_)
 .obtain⟨_,_,_,rfl,_⟩:=h
  all_goals rfl
 .obtain⟨l,ns,i,rfl,b,d,h1,k⟩:=h;refine⟨_,(qf (qu (i:=2) ql0.nd Z (Au Z) (qv qah (qv qah (zb (qeo T) (c.mono Uk) Z T.gA.mgx T.gA.fn.kp T.gA.bd .nil qac (qd (pv 0) (qd (pv 1) qg qe) qe)) qi) (qv qbl (pv 1) (pv 1))))
   (qj (qo (qv qas (qv qbl (qv qas (qv qbl (pv 2) qi) qi) (qv qah qi (qv qbl qi (pv 1)))) qi)))),?_⟩
  refine(nmc Z (nmc Z ⟨_,_,_,Z,b,d,(iic Z Z (nmc Z (nmc Z (iic Z Z ⟨.inr ⟨by lia,by lia⟩,(iic Z Z ?_)⟩))))⟩));dsimp only[qbk,AM,AN];refine(nmc Z (iic Z Z ⟨.inr ⟨Uk,Uk⟩,(icc Z Z (pos Uk) (nmc Z (iic Z Z ⟨.inl ⟨Uk,Uk⟩,(iic Z Z (iic Z Z ⟨.inr ⟨by lia,by lia⟩,(icc Z Z (pos Uk) ?_)⟩))⟩)))⟩));exact k
theorem qmr (T:Txt K mg a):FnOk P w K mg base CX0 1 a.rR a.sL ["_law_cell","_law_many"] spWords:=by
 refine T.gK.fn.ok qbb (λvs H Q E h=>?_) (λcdv A outer s H vs Q E hr h=>?_)
 .obtain⟨_,_,rfl,_⟩:=h
  all_goals rfl
 .obtain⟨c,m,rfl,hm,k⟩:=h;refine⟨_,(qf (qu (i:=2) qbb.nd Z (Au Z) zf)
   (qf (qu (i:=3) qbb.nd Z (Au Z) (qv qah qi (qv qas (pv 0) qi)))
   (qf (qu (i:=4) qbb.nd Z (Au Z) (qv qas (qv qav (pv 0) qi) (pv 3)))
   (qf (qu (i:=5) qbb.nd Z (Au Z) (zg qg))
   (qf (qa2 A7 Z (qbq Z T.gB (qd (pv 1) qg qe)) (qad (i:=6) qbb.nd Z (Au Z)) (qf (qu (i:=7) qbb.nd Z (Au Z) (zo zq (zg (qd (pv 3) (qd (qv qah qi (qv qas (pv 6) (pv 3))) qg zl) qe)) (qv qas (qv qav (pv 0) qi) qi) (λ_ _=>rfl)))
   (qf (qu (i:=8) qbb.nd Z (Au Z) zf)
   (qf (qa2 A7 Z (qbq Z T.gB (qd (pv 7) qg qe)) (qad (i:=9) qbb.nd Z (Au Z)) (qf (qu (i:=10) qbb.nd Z (Au Z) (qv qah (qv qav (pv 0) qi) (qv qbl (qv qbl qi (pv 9)) (pv 9))))
   (qf (qz (qt qcm (pv 9) (zc (qnf Z) (by rfl) T.sI qqn (qd (pv 4) (qd (qv qbr (pv 7) qi) qg zl) qe)) (qaf _)) (qj (qu (i:=10) qbb.nd Z (Au Z) (qv qah (pv 10) (pv 6)))) qag)
   (qj (qu (i:=8) qbb.nd Z (Au Z) (qv qru (pv 8) (zo ix_str (pv 2) (qv qas (pv 10) qi) (λ_ _=>rfl))))))))
   (qj (qy (qca A3 AB AC qao (pv 5) (qd (pv 8) qg qe))))))))
   (qj (qo (pv 5)))))))),?_⟩
  have M:=az_len;have zs:=qsl c;refine(nmc Z (icc Z Z (pos Uk) (iic Z Z ?_)));refine(nmc Z (icc Z Z ⟨Uk,Uk⟩ (nmc Z (iic Z Z ⟨(show 0<wsz c by lia),qfr,λq u=>?_⟩))));obtain⟨B,y⟩:=alc (o:=.lst []) u;generalize upd H q _=H1 at B y |-;refine(nmc Z ⟨_,Z,by lia,by lia,qc9 (lo:=0) (n:=((m:Int)).toNat) (λi σ H'=>Same H H'/\H' q=some (.lst ((wds c i).map V.str))/\∃v l r d b:Option V,σ=[some (.int c),some (.int (m:Int)),some (.str az),some (.int (wsz c)),some (.int (c / 8 % wsz c)),some (.ref q),v,l,r,d,b]) ⟨B,y,none,none,none,none,none,Z⟩ ?_ ?_⟩)
  .rintro i σ H' J ⟨t,f,v,l,r,d,b,rfl⟩;have J:i<m:=by lia
   have ff:=qku c (i:Int);rw[Cq];refine(nmc Z (nmc Z (nmc Z (iic Z Z ⟨(show 0<wsz c by lia),(iic Z Z ⟨qvl _ _,λR D=>?_⟩)⟩))));dsimp only[];obtain⟨g,C⟩:=alc (o:=.lst [V.int (wsz c),V.int (1+(i:Int) % wsz c)]) D;generalize upd H' R _=H3 at g C |-;refine(nmc Z (icc Z Z ⟨Uk,Uk⟩ (icc Z Z (pos Uk) (lxo (C) (far_at c (i:Int)) ?_))));refine(nmc Z ⟨_,Z,by lia,by lia,qc9 (lo:=0) (n:=(qf1 c (i:Int)).toNat) (λj σ H'=>H'=H3/\∃d b:Option V,σ=[some (.int c),some (.int (m:Int)),some (.str az),some (.int (wsz c)),some (.int (c / 8 % wsz c)),some (.ref q),some (.int (i:Int)),some (.int (qf1 c (i:Int))),some (.str ⟨(wl c (i:Int) j).toArray⟩),d,b]) ⟨Z,_,_,Z⟩ ?_ ?_⟩)
   .rintro j σ I L ⟨rfl,d,b,rfl⟩;have L:(j:Int)<qf1 c (i:Int):=by lia
    rw[Cq];have G:=qyh (wl c (i:Int) j) (97+(won c (i:Int) (j:Int) % 26).toNat);rw[<- wl_succ]at G;have N:(wl c (i:Int) j).length=j:=by unfold wl;rw[Ab,Aw]
    apply useF (p:=λo=>o=won c (i:Int) (j:Int))
    .intro x;refine(nmc Z (icc Z Z ⟨Uk,Uk⟩ (nmc Z (iic Z Z ⟨.inl ⟨Uk,Uk⟩,(nmc Z (iic Z Z ⟨.inr ⟨by lia,by lia⟩,(iic Z Z ?_)⟩))⟩))));dsimp only[qbk,AM,AN];refine(nmc Z (nmc Z (nmc Z (iic Z Z ⟨_,_,Z,Z,(nmc Z (qb2 (λe=>?_) (λe=>?_)))⟩))))
     rotate_left
     .have e:¬(j:Int)=qkk c (i:Int):=λz=>e (decide_eq_true (congrArg V.int z));have F:c / 64+7*(j:Int)*(j:Int)=won c (i:Int) (j:Int):=by unfold won;rw[if_neg e]
      generalize c / 64+7*(j:Int)*(j:Int)=o at F |-;exact x o F
     .have e:(j:Int)=qkk c (i:Int):=V.int.inj (of_decide_eq_true e);exact(nmc Z (nmc Z (iic Z Z (x _ (by unfold won;rw[if_pos e])))))
    .rintro o rfl;refine(nmc Z (nmc Z (nmc Z (icc Z Z (pos Uk) ⟨_,_,_,Z,Z,fits (by rw[M];decide),az_ix,_,_,Z,Z,fits (by show (wl c (i:Int) j).toArray.size+1<=_;rw[Ak,N];lia),Z,some (.int (j:Int)),some (.int (won c (i:Int) (j:Int))),?_⟩))));rw[G];rfl
   .rintro σ I ⟨rfl,d,b,rfl⟩;have O:((wds c i).map V.str).length<=90000:=by rw[Ab,qkv];lia
    refine(nmc Z ⟨.inl ⟨Z,_,SqL.of (g _ _ f)⟩,(nmc Z ⟨_,_,_,Z,Z,g _ _ f,qbm O,qak (t.trans g) u,?_,_,_,_,_,_,Z⟩)⟩);rw[qyj,Ax,qk];rfl
  .rintro σ H' ⟨t,f,v,l,r,d,b,rfl⟩;rw[BW]at f;exact(nmc Z (k q H' u t f))
theorem qsz (T:Txt K mg a):FnOk P w K mg base CX0 1 a.fX a.pU ["self","name","who","owes","opens","base","many","unit","still"] (qyc a):=by
 refine T.yE.fn.ok qse (λvs H Q E h=>?_) (λcdv A outer s H vs Q E hr h=>?_)
 .obtain⟨_,_,_,_,_,_,_,_,_,_,rfl,_⟩:=h
  all_goals rfl
 .obtain⟨x,n,b,c,d,f,i,l,m,g,rfl,hx,k⟩:=h;refine⟨_,(qf (qaz (pv 0) (pv 1) Z)
   (qf (qaz (pv 0) (pv 2) Z)
   (qf (qaz (pv 0) (pv 3) Z)
   (qf (qaz (pv 0) (pv 4) Z)
   (qf (qaz (pv 0) (pv 5) Z)
   (qf (qaz (pv 0) (pv 6) Z)
   (qf (qaz (pv 0) (pv 7) Z)
   (qf (qaz (pv 0) (pv 8) Z)
   (qf (qaz (pv 0) (zg qg) Z)
   (qf (qaz (pv 0) (zg qg) Z)
   (qf (qaz (pv 0) (zg qg) Z)
   (qj (qaz (pv 0) (zg qg) Z))))))))))))),?_⟩
  have b0:SameBut x H H:=λ_ _ _ e=>e;have x0:=hx;refine(nmc Z (nmc Z ⟨_,_,_,_,Z,x0,T.kG,qp T.kH Uk,(show 0<1000 by decide),?_⟩));rw[show qbc (Aa "name") b []=(rq1 b) by with_unfolding_all rfl];have b1:SameBut x H (upd H x (.ins a.kE n (rq1 b))):=b0.set;have x1:=qk (H:=H) (a:=x) (o:=.ins a.kE n (rq1 b));generalize upd H x _=H1 at b1 x1 |-;refine(nmc Z (nmc Z ⟨_,_,_,_,Z,x1,T.kG,qp T.kH Uk,(show 1<1000 by decide),?_⟩));rw[show qbc (Aa "who") c (rq1 b)=(rq2 b c) by with_unfolding_all rfl];have b2:SameBut x H (upd H1 x (.ins a.kE n (rq2 b c))):=b1.set;have x2:=qk (H:=H1) (a:=x) (o:=.ins a.kE n (rq2 b c));generalize upd H1 x _=H2 at b2 x2 |-;refine(nmc Z (nmc Z ⟨_,_,_,_,Z,x2,T.kG,qp T.kH Uk,(show 2<1000 by decide),?_⟩));rw[show qbc (Aa "owes") d (rq2 b c)=(rq3 b c d) by with_unfolding_all rfl];have b3:SameBut x H (upd H2 x (.ins a.kE n (rq3 b c d))):=b2.set;have x3:=qk (H:=H2) (a:=x) (o:=.ins a.kE n (rq3 b c d));generalize upd H2 x _=H3 at b3 x3 |-;refine(nmc Z (nmc Z ⟨_,_,_,_,Z,x3,T.kG,qp T.kH Uk,(show 3<1000 by decide),?_⟩));rw[show qbc (Aa "opens") f (rq3 b c d)=(rq4 b c d f) by with_unfolding_all rfl];have b4:SameBut x H (upd H3 x (.ins a.kE n (rq4 b c d f))):=b3.set;have x4:=qk (H:=H3) (a:=x) (o:=.ins a.kE n (rq4 b c d f));generalize upd H3 x _=H4 at b4 x4 |-;refine(nmc Z (nmc Z ⟨_,_,_,_,Z,x4,T.kG,qp T.kH Uk,(show 4<1000 by decide),?_⟩));rw[show qbc (Aa "base") i (rq4 b c d f)=(rq5 b c d f i) by with_unfolding_all rfl];have b5:SameBut x H (upd H4 x (.ins a.kE n (rq5 b c d f i))):=b4.set;have x5:=qk (H:=H4) (a:=x) (o:=.ins a.kE n (rq5 b c d f i));generalize upd H4 x _=H5 at b5 x5 |-;refine(nmc Z (nmc Z ⟨_,_,_,_,Z,x5,T.kG,qp T.kH Uk,(show 5<1000 by decide),?_⟩));rw[show qbc (Aa "many") l (rq5 b c d f i)=(rq6 b c d f i l) by with_unfolding_all rfl];have b6:SameBut x H (upd H5 x (.ins a.kE n (rq6 b c d f i l))):=b5.set;have x6:=qk (H:=H5) (a:=x) (o:=.ins a.kE n (rq6 b c d f i l));generalize upd H5 x _=H6 at b6 x6 |-;refine(nmc Z (nmc Z ⟨_,_,_,_,Z,x6,T.kG,qp T.kH Uk,(show 6<1000 by decide),?_⟩));rw[show qbc (Aa "unit") m (rq6 b c d f i l)=(rq7 b c d f i l m) by with_unfolding_all rfl];have b7:SameBut x H (upd H6 x (.ins a.kE n (rq7 b c d f i l m))):=b6.set;have x7:=qk (H:=H6) (a:=x) (o:=.ins a.kE n (rq7 b c d f i l m));generalize upd H6 x _=H7 at b7 x7 |-;refine(nmc Z (nmc Z ⟨_,_,_,_,Z,x7,T.kG,qp T.kH Uk,(show 7<1000 by decide),?_⟩));rw[show qbc (Aa "still") g (rq7 b c d f i l m)=(rq8 b c d f i l m g) by with_unfolding_all rfl];have b8:SameBut x H (upd H7 x (.ins a.kE n (rq8 b c d f i l m g))):=b7.set;have x8:=qk (H:=H7) (a:=x) (o:=.ins a.kE n (rq8 b c d f i l m g));generalize upd H7 x _=H8 at b8 x8 |-;refine⟨qfr,λp J=>?_⟩;obtain⟨s8,j⟩:=alc (o:=.lst []) J;have ah:=s8 _ _ x8;have y:p≠x:=λz=>by rw[z,x8]at J;cases J
  have am:H p=none:=b8.free y J;have ai:=b8.trans (SameBut.of s8);generalize upd H8 p _=J8 at s8 j ah ai  |-;refine(nmc Z ⟨_,_,_,_,Z,ah,T.kG,qp T.kH Uk,(show 8<1000 by decide),?_⟩);rw[show qbc (Aa "ends") (.ref p) (rq8 b c d f i l m g)=(rq9 b c d f i l m g (.ref p)) by with_unfolding_all rfl];have b9:SameBut x H (upd J8 x (.ins a.kE n (rq9 b c d f i l m g (.ref p)))):=ai.set;have x9:=qk (H:=J8) (a:=x) (o:=.ins a.kE n (rq9 b c d f i l m g (.ref p)));have j:=(qr (o:=.ins a.kE n (rq9 b c d f i l m g (.ref p))) y).trans j;generalize upd J8 x _=H9 at b9 x9 j  |-;refine⟨qfr,λr F=>?_⟩;obtain⟨s9,q⟩:=alc (o:=.lst []) F;have af:=s9 _ _ x9;have D:r≠x:=λz=>by rw[z,x9]at F;cases F
  have aq:H r=none:=b9.free D F;have ad:=qae j F;have j:=s9 _ _ j;have ag:=b9.trans (SameBut.of s9);generalize upd H9 r _=J9 at s9 q af ag j |-;refine(nmc Z ⟨_,_,_,_,Z,af,T.kG,qp T.kH Uk,(show 9<1000 by decide),?_⟩);rw[show qbc (Aa "anew") (.ref r) (rq9 b c d f i l m g (.ref p))=(qsi b c d f i l m g (.ref p) (.ref r)) by with_unfolding_all rfl];have R:SameBut x H (upd J9 x (.ins a.kE n (qsi b c d f i l m g (.ref p) (.ref r)))):=ag.set;have X:=qk (H:=J9) (a:=x) (o:=.ins a.kE n (qsi b c d f i l m g (.ref p) (.ref r)));have q:=(qr (o:=.ins a.kE n (qsi b c d f i l m g (.ref p) (.ref r))) D).trans q;have j:=(qr (o:=.ins a.kE n (qsi b c d f i l m g (.ref p) (.ref r))) y).trans j;generalize upd J9 x _=H10 at R X q j |-;refine⟨qfr,λpl C=>?_⟩;obtain⟨G,t⟩:=alc (o:=.lst []) C;have V:=G _ _ X;have I:pl≠x:=λz=>by rw[z,X]at C;cases C
  have al:H pl=none:=R.free I C;have Y:=qae j C;have ae:=qae q C;have j:=G _ _ j;have q:=G _ _ q;have S:=R.trans (SameBut.of G);generalize upd H10 pl _=J10 at G t V S j q |-;refine(nmc Z ⟨_,_,_,_,Z,V,T.kG,qp T.kH Uk,(show 10<1000 by decide),?_⟩);rw[show qbc (Aa "longer") (.ref pl) (qsi b c d f i l m g (.ref p) (.ref r))=(qq6 b c d f i l m g (.ref p) (.ref r) (.ref pl)) by with_unfolding_all rfl];have U:SameBut x H (upd J10 x (.ins a.kE n (qq6 b c d f i l m g (.ref p) (.ref r) (.ref pl)))):=S.set;have O:=qk (H:=J10) (a:=x) (o:=.ins a.kE n (qq6 b c d f i l m g (.ref p) (.ref r) (.ref pl)));have t:=(qr (o:=.ins a.kE n (qq6 b c d f i l m g (.ref p) (.ref r) (.ref pl))) I).trans t;have j:=(qr (o:=.ins a.kE n (qq6 b c d f i l m g (.ref p) (.ref r) (.ref pl))) y).trans j;have q:=(qr (o:=.ins a.kE n (qq6 b c d f i l m g (.ref p) (.ref r) (.ref pl))) D).trans q;generalize upd J10 x _=H11 at U O t j q |-;refine⟨qfr,λu v=>?_⟩;obtain⟨B,L⟩:=alc (o:=.lst []) v;have N:=B _ _ O;have M:u≠x:=λz=>by rw[z,O]at v;cases v
  have fpy:H u=none:=U.free M v;have dpepy:=qae j v;have dpapy:=qae q v;have dplpy:=qae t v;have j:=B _ _ j;have q:=B _ _ q;have t:=B _ _ t;have W:=U.trans (SameBut.of B);generalize upd H11 u _=J11 at B L N W j q t |-;refine(nmc Z ⟨_,_,_,_,Z,N,T.kG,qp T.kH Uk,(show 11<1000 by decide),?_⟩);rw[show qbc (Aa "yields") (.ref u) (qq6 b c d f i l m g (.ref p) (.ref r) (.ref pl))=(qsj b c d f i l m g (.ref p) (.ref r) (.ref pl) (.ref u)) by with_unfolding_all rfl];have ak:SameBut x H (upd J11 x (.ins a.kE n (qsj b c d f i l m g (.ref p) (.ref r) (.ref pl) (.ref u)))):=W.set;have aj:=qk (H:=J11) (a:=x) (o:=.ins a.kE n (qsj b c d f i l m g (.ref p) (.ref r) (.ref pl) (.ref u)));have L:=(qr (o:=.ins a.kE n (qsj b c d f i l m g (.ref p) (.ref r) (.ref pl) (.ref u))) M).trans L;have j:=(qr (o:=.ins a.kE n (qsj b c d f i l m g (.ref p) (.ref r) (.ref pl) (.ref u))) y).trans j;have q:=(qr (o:=.ins a.kE n (qsj b c d f i l m g (.ref p) (.ref r) (.ref pl) (.ref u))) D).trans q;have t:=(qr (o:=.ins a.kE n (qsj b c d f i l m g (.ref p) (.ref r) (.ref pl) (.ref u))) I).trans t;generalize upd J11 x _=H12 at ak aj L j q t |-;exact k H12 p r pl u ak am aq al aj j q t Y ae ad
theorem qv5 (T:Txt K mg a):FnOk P w K mg base CX0 3 a.nE a.nC ["_law_script","_law_at","_law_k","_law_names","_law_kinds"] (spRl55 a K):=by
 refine T.dZ.fn.ok qa6 (λvs H Q E h=>?_) (λcdv A outer s H vs Q E hr h=>?_)
 .obtain⟨_,_,_,_,_,_,_,rfl,_⟩:=h
  all_goals rfl
 .obtain⟨l,pn,m,X,names,D,i,rfl,hS,hn,ln,hk,lk,hi,k⟩:=h;refine⟨_,(qf (qu (i:=5) qa6.nd Z (CG Z) (zb (qbi T) (hr.mono Uk) Z T.kL.mgx T.kL.fn.kp T.kL.bd .nil qac (qd (pv 0) (qd (qv qah (pv 1) (qv qbl qi (pv 2))) qg zl) qe)))
   (qf (qu (i:=6) qa6.nd Z (Au Z) (zb (qbi T) (hr.mono Uk) Z T.kL.mgx T.kL.fn.kp T.kL.bd .nil qac (qd (pv 0) (qd (qv qah (qv qah (pv 1) (qv qbl qi (pv 2))) qi) qg zl) qe)))
   (qf (qfa (i:=7) qa6.nd Z Z (N:=["_law_j","_law_kinds","_law_one"]) (js:=[none,some 4,some 5]) (XN:=["_law_script","_law_at","_law_k","_law_names","_law_kinds","_law_one","_law_two","_law_mine","_law_base","_law_opens","_law_still","_law_unit","_law_rule_here","_law_j"]) (xs:=qaa qig) Z Z Z Ez (qbq Z T.gB (qd qi qg ql)) (λ_ _ _ _ _ _=>(qad (i:=0) (show BD (["_law_j","_law_kinds","_law_one"]:List Str) from by decide +kernel) Z (Au Z) (CG Z))) (λ_ _ _ _ _ _=>qel) (λ_ _ _ _ _ _=>(zo (qp9 (K:=K) Z) (pv 1) (qv qas (qv qah (pv 2) (qv qbl (pv 0) (qv qah qi (qv qas (qv qav (pv 2) qi) qi)))) qi) (λ_ _=>rfl))))
   (qf (qu (i:=8) qa6.nd Z (Au Z) qau)
   (qf (qu (i:=9) qa6.nd Z (Au Z) (zo zq (pv 7) qi (λ_ _=>rfl)))
   (qf (qz (PW.pt (qdy (qt qpx (pv 2) qi (qaf _)) (qdf (qt qpx (qv qas (qv qav (pv 5) qi) qi) qi (qaf _))))) (qf (qu (i:=8) qa6.nd Z (Au Z) (zo zq (pv 3) (qv qas (qv qav (pv 5) qi) (pv 2)) (λ_ _=>rfl)))
   (qj (qu (i:=9) qa6.nd Z (Au Z) qau))) qag)
   (qf (qu (i:=10) qa6.nd Z (Au Z) qau)
   (qf (qz (qt qpx (qv qas (qv qav (pv 6) qi) qi) qi (qaf _)) (qj (qu (i:=10) qa6.nd Z (Au Z) (zh (qd (zo zq (pv 7) qi (λ_ _=>rfl)) (qd (zo zq (pv 7) qi (λ_ _=>rfl)) qg zm) zm)))) qag)
   (qf (qu (i:=11) qa6.nd Z (Au Z) (zo zq (zg (qd zf (qd zf (qd zf qg ql) ql) ql)) (qv qas (pv 6) qi) (λ_ _=>rfl)))
   (qf (qu (i:=12) qa6.nd Z (Au Z) (qek T.yJ (qsz T) (hr.mono Uk) Z T.yW T.yE.bd .nil qac (qd (zo zq (pv 3) (pv 2) (λ_ _=>rfl)) (qd (zo zq (pv 3) (qv qah qi (qv qas (qv qav (pv 6) qi) qi)) (λ_ _=>rfl)) (qd (zo zq (pv 7) qi (λ_ _=>rfl)) (qd (pv 9) (qd (pv 8) (qd (qv qah qi (qv qas (qv qas (qv qav (pv 6) qi) qi) qi)) (qd (pv 11) (qd (pv 10) qg qe) qe) zl) qe) qe) zm) zm) zm)))
   (qf (qa2 A7 Z (qbq Z T.gB (qd (qv qas (qv qav (pv 6) qi) qi) qg zl)) (qad (i:=13) qa6.nd Z (Au Z)) (qj (qy (qca A3 AB AC qao (qab (pv 12) Z) (qd (zo zq (pv 7) (qv qah qi (qv qbl qi (pv 13))) (λ_ _=>rfl)) qg zm)))))
   (qf (qa2 A7 Z (qbq Z T.gB (qd (qv qas (qv qav (pv 6) qi) qi) qg zl)) (qad (i:=13) qa6.nd Z (Au Z)) (qj (qy (qca A3 AB AC qao (qab (pv 12) Z) (qd (zo zq (pv 7) (qv qah qi (qv qbl qi (pv 13))) (λ_ _=>rfl)) qg zm)))))
   (qf (qa2 A7 Z (qbq Z T.gB (qd (qv qas (qv qav (pv 6) qi) qi) qg zl)) (qad (i:=13) qa6.nd Z (Au Z)) (qj (qy (qca A3 AB AC qao (qab (pv 12) Z) (qd (zh (qd (zo zq (pv 7) (qv qah qi (pv 13)) (λ_ _=>rfl)) (qd (qv qah qi (qv qas (qv qav (pv 6) qi) qi)) (qd (qv qah qi (qv qas (qv qav (pv 6) qi) qi)) qg zl) zl) zm)) qg zn)))))
   (qj (qo (pv 12)))))))))))))))),?_⟩
  refine(nmc Z (nmc Z (nmc Z (iic Z Z ⟨.inl ⟨Uk,Uk⟩,(iic Z Z ⟨l,X,_,Z,hS,by lia,by lia,?_⟩)⟩))));dsimp only[qbk,AM,AN];refine(nmc Z (nmc Z (nmc Z (iic Z Z ⟨.inl ⟨Uk,Uk⟩,(iic Z Z (iic Z Z ⟨l,X,_,Z,hS,by lia,by lia,?_⟩))⟩))));dsimp only[qbk,AM,AN];have m1:=qg3 X (4+2*(i:Int));have m2:=qg3 X (4+2*(i:Int)+1);generalize qc7 X (4+2*(i:Int))=one at m1 |-;generalize qc7 X (4+2*(i:Int)+1)=two at m2 |-;refine⟨_,Z,Uk,Uk,?_⟩;let fm:V->V:=λv=>match v with
   |.int j=>.str (D.getD ((one+j*(1+one / 11 % 10)) % 11).toNat A8)
   |_=>.non
  refine qe2 fm (λσ'=>∃v,σ'=[v,some (.ref m),some (.int one)]) qem (fits (by rw[Ab,Aw];decide)) ⟨none,Z⟩ (λv σ' H' RR hv sm s4 q=>?_) qb8 λB bq=>?_
  .obtain⟨v0,rfl⟩:=s4;obtain⟨j,C,rfl⟩:=AS.mp hv;have C:j<10:=AT.mp C;have q:=q [some (.int (0+(j:Int))),some (.ref m),some (.int one)] ⟨_,Z⟩;exact(nmc Z (nmc Z (nmc Z (nmc Z (icc Z Z ⟨Uk,Uk⟩ (icc Z Z (pos Uk) (iic Z Z (iic Z Z ⟨.inr ⟨by lia,by lia⟩,(iic Z Z (icc Z Z (pos Uk) (lxo (sm _ _ hk) ((qfs (BQ _ Uk) (by have:=Cd (one+(0+(j:Int))*(1+one / 11 % 10)) (show (0:Int)<11 by decide);lia))) q)))⟩))))))))
  obtain⟨ms,ems,lms,kms⟩:∃ms:List Str,((Ar ((10:Int)).toNat).map λ(j:Nat)=>V.int (0+(j:Int))).map fm=ms.map V.str/\ms.length=10/\∀j<10,∃q,q<11/\ms.getD j A8=D.getD q A8:=by
   refine⟨(Ar 10).map λ(j:Nat)=>D.getD ((one+(0+(j:Int))*(1+one / 11 % 10)) % 11).toNat A8,?_,by rw[Ab,Aw],λj C=>⟨((one+(0+(j:Int))*(1+one / 11 % 10)) % 11).toNat,md11 _,?_⟩⟩
   .rw[Cr,Cr];rfl
   .rw[Aj,Ai,Bb C];rfl
  rw[ems];obtain⟨s7,e7⟩:=alc (o:=.lst (ms.map V.str)) bq;generalize upd H B _=H7 at s7 e7 |-;dsimp only[qbk,AM,AN];refine(nmc Z (lxo (e7) ((qme (j:=0) (by lia))) ?_));dsimp only[qbk,AM,AN];apply useS2 (p:=λvb vo=>∃(b:Option Nat)(o:Option Str),vb=some (bvN names b)/\vo=some (opV o)/\(∀y,b=some y->y<i)/\(b=none->∃z,o=some z)/\(∀z,o=some z->z=ms.getD 0 A8)) (f:=λvb vo=>[some (.ref l),some (.int 4),some (.int (i:Int)),some (.ref pn),some (.ref m),some (.int one),some (.int two),some (.ref B),vb,vo,none,none,none,none]) (J:=H7)
  .intro mm;have ae:∀o',o'=some (opV (some (ms.getD 0 A8)))->∃(b:Option Nat)(o:Option Str),some V.non=some (bvN names b)/\o'=some (opV o)/\(∀y,b=some y->y<i)/\(b=none->∃z,o=some z)/\(∀z,o=some z->z=ms.getD 0 A8):=λo' e=>⟨none,_,Z,e,(λy z=>by cases z),λ_=>⟨_,Z⟩,λz e=>by cases e;rfl⟩;refine(nmc Z (iic Z Z ⟨_,Z,qb2 (λc1=>(nmc Z (icc Z Z ⟨Uk,Uk⟩ (icc Z Z (pos Uk) (iic Z Z ⟨_,Z,qb2 (λc2=>?_) (λc2=>?_)⟩))))) (λc1=>?_)⟩))
   .have c1:0<(i:Int):=of_decide_eq_true c1;have r1:=BQ (one / 330) (show (i:Int)≠0 by lia);have r2:=Cd (one / 330) c1;refine(nmc Z (nmc Z (icc Z Z ⟨Uk,Uk⟩ (nmc Z (iic Z Z ⟨c1,(lxo (s7 _ _ hn) (qfs r1 (by lia)) ?_)⟩)))));dsimp only[qbk,AM,AN];refine as2 (σ':=[some (.ref l),some (.int 4),some (.int (i:Int)),some (.ref pn),some (.ref m),some (.int one),some (.int two),some (.ref B),some (bvN names (some (one / 330 % (i:Int)).toNat)),some (opV none),none,none,none,none]) (by rfl) ?_;exact mm _ _ ⟨some _,none,Z,Z,(λy z=>by cases z;lia),(λz=>by cases z),(λz e=>by cases e)⟩
   .exact tn2 (σ':=[some (.ref l),some (.int 4),some (.int (i:Int)),some (.ref pn),some (.ref m),some (.int one),some (.int two),some (.ref B),some V.non,some (opV (some (ms.getD 0 A8))),none,none,none,none]) rfl (mm _ _ (ae _ Z))
   .exact qce (tn2 (σ':=[some (.ref l),some (.int 4),some (.int (i:Int)),some (.ref pn),some (.ref m),some (.int one),some (.int two),some (.ref B),some V.non,some (opV (some (ms.getD 0 A8))),none,none,none,none]) Z (mm _ _ (ae _ Z)))
  rintro _ _ ⟨b,o,rfl,rfl,hb,ho,ca⟩;apply qt8 (p:=λvs J=>∃(R:V)(so:Option (Str×Str)),vs=some R/\Same H7 J/\StAt (nwp H J) R so/\∀z,so=some z->z.1=ms.getD 6 A8/\z.2=ms.getD 7 A8) (f:=λv=>[some (.ref l),some (.int 4),some (.int (i:Int)),some (.ref pn),some (.ref m),some (.int one),some (.int two),some (.ref B),some (bvN names b),some (opV o),v,none,none,none])
  .intro mm;refine(nmc Z (icc Z Z ⟨Uk,Uk⟩ (icc Z Z (pos Uk) (iic Z Z ⟨_,Z,qb2 (λc=>?_) (λc=>?_)⟩))))
   .refine(nmc Z (lxo (e7) ((qme (j:=6) (by lia))) (nmc Z (lxo (e7) ((qme (j:=7) (by lia))) ⟨qvl _ _,λt S=>?_⟩))));refine gn2 (σ':=[some (.ref l),some (.int 4),some (.int (i:Int)),some (.ref pn),some (.ref m),some (.int one),some (.int two),some (.ref B),some (bvN names b),some (opV o),some (.ref t),none,none,none]) rfl ?_;exact mm (some (.ref t)) _ ⟨.ref t,some (_,_),Z,qx S,⟨t,Z,qey (s7.free S) qk⟩,λz e=>by cases e;exact⟨Z,Z⟩⟩
   .exact tn2 (σ':=[some (.ref l),some (.int 4),some (.int (i:Int)),some (.ref pn),some (.ref m),some (.int one),some (.int two),some (.ref B),some (bvN names b),some (opV o),some .non,none,none,none]) rfl (mm (some .non) H7 ⟨.non,none,Z,Same.refl _,Z,λz e=>by cases e⟩)
  rintro _ J ⟨R,so,rfl,sJ,de,bt⟩;refine⟨qki _ _ _,λq3 cg=>?_⟩;obtain⟨s8,e8⟩:=alc (o:=.lst [V.str (Aa "days"),V.str (Aa "weeks"),V.str (Aa "court")]) cg;generalize upd J q3 _=H8 at s8 e8 |-;refine(nmc Z (icc Z Z (pos Uk) (lxo (e8) (uix_at two) ?_)));dsimp only[qbk,AM,AN];have M:=s7.trans (sJ.trans s8);have U:=(sJ.trans s8) _ _ e7;refine(nmc Z (nmc Z (lxo (M _ _ hn) (qme (j:=i) (by lia)) (nmc Z (nmc Z (icc Z Z ⟨Uk,Uk⟩ (icc Z Z (pos Uk) (iic Z Z (lxo (M _ _ hn) (qfs (by lia) (by lia)) (nmc Z (lxo (U) ((qme (j:=1) (by lia))) (nmc Z (nmc Z (nmc Z (icc Z Z ⟨Uk,Uk⟩ (icc Z Z (pos Uk) (icc Z Z (pos Uk) (iic Z Z (nmc Z (nmc Z (λx dx nx nd ne=>?_)))))))))))))))))))));refine⟨x,dx,_,_,_,_,_,_,_,_,Z,qk,λH9 F G pl py b9 c7 bu cx O av al bf bc ah au=>⟨Z,?_⟩⟩;have s9:Same H8 H9:=b9.made nx nd;have keep:=qsm (o:=.ins a.kE dx []) (u:=.own x) nx nd;have ay:=keep.free c7;have af:=keep.free bu;have ag:=keep.free cx;have aw:=M.free nx;have x1:x≠F:=qir O av;have x2:x≠G:=qir O al;have x3:x≠pl:=qir O bf;dsimp only[qbk,AM,AN];have L:∀{J':Hp},(∀b o,b≠F->b≠G->b≠pl->H9 b=some o->J' b=some o)->Same H8 J':=λ{J'} k' b o e=>k' b o (qae e ay) (qae e af) (qae e ag) (s9 _ _ e);refine(nmc Z (icc Z Z ⟨Uk,Uk⟩ (icc Z Z (pos Uk) ⟨_,Z,by lia,by lia,qc9 (lo:=0) (n:=(two / 216 % 3).toNat) (λj σ J'=>(∀b o,b≠F->b≠G->b≠pl->H9 b=some o->J' b=some o)/\J' F=some (.lst (((Ar j).map λq=>ms.getD (2+6*q) A8).map V.str))/\J' G=some (.lst [])/\J' pl=some (.lst [])/\∃d:Option V,σ=[some (.ref l),some (.int 4),some (.int (i:Int)),some (.ref pn),some (.ref m),some (.int one),some (.int two),some (.ref B),some (bvN names b),some (opV o),some R,some (.str (qj9 (uix two))),some (.ref x),d]) ⟨λ_ _ _ _ _ e=>e,av,al,bf,none,Z⟩ ?_ ?_⟩)))
  .rintro j σ J' C ⟨r,Y,W,g,d,rfl⟩;have C:j<2:=by lia
   have I:=L r _ _ U;refine(nmc Z (flc (r _ _ x1 x2 x3 O) (T.kG) (qp T.kH Uk) (rfl) ⟨.inl ⟨Z,_,SqL.of Y⟩,(nmc Z (nmc Z (iic Z Z ⟨.inl ⟨Uk,Uk⟩,(iic Z Z (lxo (I) (qfs (by lia) (by lia)) ⟨_,_,_,Z,Z,Y,qbm (by rw[Ab,Ab,Aw];lia),?_⟩))⟩)))⟩));refine⟨λb o n1 n2 n3 e=>by rw[qr n1];exact r b o n1 n2 n3 e,?_,by rw[qr (B4 au)];exact W,by rw[qr (B4 bc)];exact g,_,Z⟩;rw[qk,qmf,show (2+6*(0+(j:Int))).toNat=2+6*j by lia]
  rintro σ J1 ⟨k1,aj,dc,cp,d,rfl⟩;generalize aq:((Ar (two / 216 % 3).toNat).map λq=>ms.getD (2+6*q) A8)=EL at aj;have bi:EL.length<=2:=by rw[<- aq,Ab,Aw];lia
  refine(nmc Z (icc Z Z ⟨Uk,Uk⟩ (icc Z Z (pos Uk) ⟨_,Z,by lia,by lia,qc9 (lo:=0) (n:=(two / 648 % 3).toNat) (λj σ J'=>(∀b o,b≠F->b≠G->b≠pl->H9 b=some o->J' b=some o)/\J' F=some (.lst (EL.map V.str))/\J' G=some (.lst (((Ar j).map λq=>ms.getD (3+6*q) A8).map V.str))/\J' pl=some (.lst [])/\∃d:Option V,σ=[some (.ref l),some (.int 4),some (.int (i:Int)),some (.ref pn),some (.ref m),some (.int one),some (.int two),some (.ref B),some (bvN names b),some (opV o),some R,some (.str (qj9 (uix two))),some (.ref x),d]) ⟨k1,aj,dc,cp,d,Z⟩ ?_ ?_⟩)))
  .rintro j σ J' C ⟨r,Y,W,g,d,rfl⟩;have C:j<2:=by lia
   have I:=L r _ _ U;refine(nmc Z (flc (r _ _ x1 x2 x3 O) (T.kG) (qp T.kH Uk) (rfl) ⟨.inl ⟨Z,_,SqL.of W⟩,(nmc Z (nmc Z (iic Z Z ⟨.inl ⟨Uk,Uk⟩,(iic Z Z (lxo (I) (qfs (by lia) (by lia)) ⟨_,_,_,Z,Z,W,qbm (by rw[Ab,Ab,Aw];lia),?_⟩))⟩)))⟩));refine⟨λb o n1 n2 n3 e=>by rw[qr n2];exact r b o n1 n2 n3 e,by rw[qr au];exact Y,?_,by rw[qr (B4 ah)];exact g,_,Z⟩;rw[qk,qmf,show (3+6*(0+(j:Int))).toNat=3+6*j by lia]
  rintro σ J2 ⟨k2,cr,ai,c8,d,rfl⟩;generalize ar:((Ar (two / 648 % 3).toNat).map λq=>ms.getD (3+6*q) A8)=AL at ai;have c9:AL.length<=2:=by rw[<- ar,Ab,Aw];lia
  have bh:=M.free ag;refine(nmc Z (icc Z Z ⟨Uk,Uk⟩ (icc Z Z (pos Uk) ⟨_,Z,by lia,by lia,qc9 (lo:=0) (n:=(two / 1944 % 3).toNat) (λj σ J'=>(∀b o,b≠F->b≠G->b≠pl->H9 b=some o->J' b=some o)/\J' F=some (.lst (EL.map V.str))/\J' G=some (.lst (AL.map V.str))/\∃us,J' pl=some (.lst us)/\Tups (nwp H J') us (((Ar j).map λq=>((ms.getD (4+q) A8,1+two / 5832 % 5,1+two / 29160 % 3):Str×Int×Int)).map qq7)/\∃d:Option V,σ=[some (.ref l),some (.int 4),some (.int (i:Int)),some (.ref pn),some (.ref m),some (.int one),some (.int two),some (.ref B),some (bvN names b),some (opV o),some R,some (.str (qj9 (uix two))),some (.ref x),d]) ⟨k2,cr,ai,[],c8,.nil,d,Z⟩ ?_ ?_⟩)))
  .rintro j σ J' C ⟨r,Y,W,us,g,ht,d,rfl⟩;have C:j<2:=by lia
   have I:=L r _ _ U;have lu:=ht.length;rw[Ab,Ab,Aw]at lu;have zJ:=M.trans (L r);refine(nmc Z (flc (r _ _ x1 x2 x3 O) (T.kG) (qp T.kH Uk) (rfl) ⟨.inl ⟨Z,_,SqL.of g⟩,(nmc Z (nmc Z (iic Z Z (lxo (I) (qfs (by lia) (by lia)) (nmc Z (icc Z Z ⟨Uk,Uk⟩ (icc Z Z (pos Uk) (iic Z Z (nmc Z (icc Z Z ⟨Uk,Uk⟩ (icc Z Z (pos Uk) (iic Z Z ⟨qki _ _ _,λt S=>?_⟩))))))))))))⟩));obtain⟨st,et⟩:=alc (o:=.tup [V.str (ms.getD (4+(0+(j:Int))).toNat A8),V.int (1+two / 5832 % 5),V.int (1+two / 29160 % 3)]) S;have cq:t≠pl:=λz=>by rw[z,g]at S;cases S
   generalize upd J' t _=Jt at st et |-;refine⟨_,_,_,Z,Z,st _ _ g,qbm (by lia),?_⟩;refine⟨λb o n1 n2 n3 e=>by rw[qr n3];exact st _ _ (r b o n1 n2 n3 e),by rw[qr bc];exact st _ _ Y,by rw[qr ah];exact st _ _ W,_,qk,?_,_,Z⟩;rw[qmf];refine qg1 (qb1 ht λc u e=>?_) ?_
   .obtain⟨h1,h2⟩:=qmd e;refine qey h1 ?_;rw[qr (λz=>by rw[z,g]at h2;cases h2)];exact st _ _ h2
   .refine qey (zJ.free S) ?_;rw[qr cq,et,show (4+(0+(j:Int))).toNat=4+j by lia];rfl
  rintro σ J3 ⟨k3,cw,bw,bj,bz,am,d,rfl⟩;generalize ad:((Ar (two / 1944 % 3).toNat).map λq=>((ms.getD (4+q) A8,1+two / 5832 % 5,1+two / 29160 % 3):Str×Int×Int))=LL at am;have cz:LL.length<=2:=by rw[<- ad,Ab,Aw];lia
  have ak:=L k3;refine(nmc Z (k x J3 ⟨names.getD i A8,o,b,⟨ms.getD 1 A8,EL,AL,LL,so,1+two / 3 % 12 % 7,uix two⟩⟩ (M.trans ak) aw ⟨Z,hb,ho,⟨by show 1<=1+two / 3 % 12 % 7;lia,by show LL.length<=100;lia,by show EL.length<=100;lia,by show AL.length<=100;lia,λt h=>?_⟩,bi,c9,cz⟩ (ki_of kms ca bt (by rw[<- aq];exact qy3 kms (md3 _) (show 2+6<10 by decide)) (by rw[<- ar];exact qy3 kms (md3 _) (show 3+6<10 by decide)) (by rw[<- ad];exact ki_tri kms (md3 _))) ⟨dx,F,G,pl,_,R,.ref py,bj,qey aw (k3 _ _ x1 x2 x3 O),?_,qey (M.free ay) cw,qey (M.free af) bw,qey bh bz,am⟩))
  .rw[<- ad]at h;obtain⟨q,_,rfl⟩:=AS.mp h;show 0<=1+two / 5832 % 5;lia
  .exact de.same (qy2 (s8.trans ak))
theorem qv6 (T:Txt K mg a):FnOk P w K mg base CX0 4 a.mK a.nM ["_law_script","_law_names","_law_kinds"] (spBk55 a K):=by
 refine T.dW.fn.ok qjp (λvs H Q E h=>?_) (λcdv A outer s H vs Q E L h=>?_)
 .obtain⟨_,_,_,_,_,_,rfl,_⟩:=h
  all_goals rfl
 .obtain⟨l,pn,U,r,names,m,rfl,I,hn,ln,hk,Y,k⟩:=h;refine⟨_,(qf (qu (i:=3) qjp.nd Z (Au Z) (zg qg))
   (qf (qa2 A7 Z (qbq Z T.gB (qd (qv qah qi (qv qas (zb (qbi T) (L.mono Uk) Z T.kL.mgx T.kL.fn.kp T.kL.bd .nil qac (qd (pv 0) (qd qi qg ql) qe)) qi)) qg zl)) (qad (i:=4) qjp.nd Z (Au Z)) (qj (qy (qca A3 AB AC qao (pv 3) (qd (zb (qv5 T) (L.mono Uk) Z T.dZ.mgx T.dZ.fn.kp T.dZ.bd .nil qac (qd (pv 0) (qd qi (qd (pv 4) (qd (pv 1) (qd (pv 2) qg qe) qe) qe) ql) qe)) qg zj)))))
   (qf (qz (qt qcm (qv qas (qv qav (zb (qbi T) (L.mono Uk) Z T.kL.mgx T.kL.fn.kp T.kL.bd .nil qac (qd (pv 0) (qd qi qg ql) qe)) qi) qi) qi (qaf _)) (qj (qy (qwk A3 PySem.F.slot_list_reverse PySem.F.type_list_reverse qrz (pv 3)))) qag)
   (qj (qo (pv 3)))))),?_⟩
  refine⟨qfr,λd u=>?_⟩;obtain⟨M,R⟩:=alc (o:=.lst []) u;generalize upd H d _=H1 at M R |-;have m0:=qg3 r 0;refine(nmc Z ⟨l,r,0,Z,M.seq I,Uk,Uk,(icc Z Z (pos Uk) (iic Z Z ⟨_,Z,by lia,by lia,qc9 (lo:=0) (n:=(1+qc7 r 0 % 4).toNat) (λi σ J=>Same H J/\∃(us:List V)(Ts:List TD),J d=some (.lst us)/\Ts.length=i/\(∀k t,Ts[k]?=some t->TdOk names t k)/\(∀t∈Ts,KiT m t)/\RsL a (ofl [d] J) us Ts names/\∃D:Option V,σ=[some (.ref l),some (.ref pn),some (.ref U),some (.ref d),D]) ⟨M,[],[],R,Z,(λk t e=>by cases e),(λt h=>by cases h),⟨Z,λj t e=>by cases e⟩,none,Z⟩ ?_ ?_⟩))⟩)
  .rintro i σ J S ⟨f,us,Ts,g,O,B,y,q,D,rfl⟩;have S:i<4:=by lia
   refine(nmc Z ⟨.inl ⟨Z,_,SqL.of g⟩,(nmc Z (nmc Z (nmc Z (nmc Z ⟨l,pn,U,r,names,m,i,(by rw[Cq];rfl),f.seq I,f _ _ hn,ln,f _ _ hk,Y,S,λx J' t G nx tok W rb=>⟨_,_,_,Z,Z,G _ _ g,qbm (by rw[q.1];lia),?_⟩⟩))))⟩);have N:Same (ofl [d] J) (ofl [d] (upd J' d (.lst (us++[.ref x])))):=qgs (λ_ h=>h) λb o p e=>by rw[qr (λz=>p (by rw[z];simp))];exact G _ _ e
   have X:Same (nwp J J') (ofl [d] (upd J' d (.lst (us++[.ref x])))):=qy1 λb o p e=>by
    have C:b≠d:=λz=>by rw[z,g]at p;cases p
    exact qjx (by simp[C]) (by rw[qr C];exact e)
   refine⟨qak (f.trans G) u,_,Ts++[t],qk,by rw[Af,O];rfl,λv t' e=>?_,(λt' h=>(Av.mp h).elim (y t') λz=>by rw[Ah.mp z];exact W),(q.same N).snoc (rb.same X),_,Z⟩;by_cases c:v<Ts.length
   .rw[AH c]at e;exact B v t' e
   .rw[AV (by lia)]at e;have e0:v-Ts.length=0:=by have:=(Ac.mp e).1;simpa using this
    rw[e0]at e;cases e;rw[show v=i by lia];exact tok
  rintro σ J ⟨f,us,Ts,g,O,B,y,q,D,rfl⟩;refine(nmc Z ⟨l,r,0,Z,f.seq I,Uk,Uk,(icc Z Z ⟨Uk,Uk⟩ (icc Z Z (pos Uk) ⟨Z,_,Z,qb2 (λc=>?_) (λc=>?_)⟩))⟩)
  .refine(nmc Z ⟨.inl ⟨Z,_,SqL.of g⟩,d,_,Z,Z,g,?_⟩);have N:Same (ofl [d] J) (ofl [d] (upd J d (.lst us.reverse))):=qgs (λ_ h=>h) λb o p e=>by rw[qr (λz=>p (by rw[z];simp))];exact e
   exact(nmc Z (k d _ _ Ts true u (qak f u) (by lia) (by lia) B y qk (q.same N).rev))
  .exact(nmc Z (k d J us Ts false u f (by lia) (by lia) B y g q))
theorem qod (T:Txt K mg a):FnOk P w K mg base CX0 1 a.xK a.xL ["_law_rules"] (spMe55 a):=by
 refine T.gS.fn.ok qjq (λvs H Q E h=>?_) (λcdv A outer s H vs Q E hr h=>?_)
 .obtain⟨_,_,_,_,rfl,_⟩:=h
  all_goals rfl
 .obtain⟨pr,us,Ts,names,rfl,hp,hR,l4,hz,k⟩:=h;refine⟨_,(qf (qu (i:=1) qjq.nd Z (Au Z) (zg qg))
   (qf (qa2 A7 Z (qap (pv 0)) (qad (i:=2) qjq.nd Z (Au Z)) (qf (qy (qca A3 PySem.F.slot_list_extend PySem.F.type_list_extend qnk (pv 1) (qd (qv qk7 (qv qk7 (qv qk7 (zg (qd (qab (pv 2) Z) qg qam)) (qab (pv 2) Z)) (qab (pv 2) Z)) (qc1 (N:=["_law_row"]) (js:=[none]) (XN:=["_law_rules","_law_menu_here","_law_rule_here"]) (xs:=qaa qih) Z Z Z Ez (qap (qab (pv 2) Z)) (λ_ _ _ _ _ _=>(qad (i:=0) (show BD (["_law_row"]:List Str) from by decide +kernel) Z (Au Z) (CG Z))) (λ_ _ _ _ _ _=>qel) (λ_ _ _ _ _ _=>(zo (qib (K:=K) Z) (pv 0) qi (λ_ _=>rfl))))) qg zl)))
   (qf (qz (qt qh6 (qab (pv 2) Z) qau (qaf _)) (qj (qy (qca A3 AB AC qao (pv 1) (qd (qab (pv 2) Z) qg qam)))) qag)
   (qj (qz (qt qh6 (qab (pv 2) Z) qau (qaf _)) (qj (qy (qca A3 PySem.F.slot_list_extend PySem.F.type_list_extend qr6 (pv 1) (qd (qab (pv 2) Z) qg qam)))) qag)))))
   (qj (qo (pv 1))))),?_⟩
  refine⟨qfr,λq u=>?_⟩;obtain⟨s1,e1⟩:=alc (o:=.lst []) u;generalize upd H q _=H1 at s1 e1 |-;refine(nmc Z ⟨_,Z,⟨_,SqL.of (s1 _ _ hp)⟩,qa5 (K:=K) (a:=pr) (xs:=us) (λi σ J=>Same H J/\J q=some (.lst (((Ts.take i).flatMap qbx).map V.str))/\∃v2:Option V,σ=[some (.ref pr),some (.ref q),v2]) ⟨s1,e1,none,Z⟩ (λi σ J _ h=>SqL.of (h.1 _ _ hp)) ?_ ?_⟩)
  .rintro i v σ J hv ⟨L,m,v2,rfl⟩;have hi:i<Ts.length:=by rw[<- hR.1];exact(Ac.mp hv).1
   have W:=Ad hi;generalize Ts[i]=t at W;obtain⟨rl,e2,rb⟩:=hR.2 i t W;rw[hv]at e2;cases e2;obtain⟨dx,pe,pa,pl,w',sv,py,ul,G,g2,g3,g4,g5,g6⟩:=rb.same L;obtain⟨z1,z2,z3⟩:=hz t (A0 W);have lT:=qrf (Ts:=Ts.take i) λx hx=>hz x (DF hx);rw[Bv]at lT;have lu:ul.length=t.rd.longer.length:=by have:=g6.length;rw[Ab]at this;exact this
   generalize B:(Ts.take i).flatMap qbx=pre at m lT;refine(nmc Z ⟨.inl ⟨Z,_,SqL.of m⟩,(nmc Z (flc (G) (T.kG) (qp T.kH Uk) (rfl) ⟨fit1 _,λp1 n1=>?_⟩))⟩);obtain⟨O,f1⟩:=alc (o:=.lst [V.str t.rd.owes]) n1;generalize upd J p1 _=J1 at O f1 |-;refine(nmc Z (flc (O _ _ G) (T.kG) (qp T.kH Uk) (rfl) ⟨_,_,_,_,Z,Z,f1,O _ _ g3,fits (by rw[Ab,AW];lia),λp2 n2=>?_⟩));have X:=O.trans (qx (o:=.lst ([V.str t.rd.owes]++t.rd.ends.map V.str)) n2);have f2:=qk (H:=J1) (a:=p2) (o:=.lst ([V.str t.rd.owes]++t.rd.ends.map V.str));generalize upd J1 p2 _=J2 at X f2 |-;refine(nmc Z (flc (X _ _ G) (T.kG) (qp T.kH Uk) (rfl) ⟨_,_,_,_,Z,Z,f2,X _ _ g4,fits (by rw[Af,Ab,Ab,AW];lia),λp3 n3=>?_⟩));have n:=X.trans (qx (o:=.lst ([V.str t.rd.owes]++t.rd.ends.map V.str++t.rd.anew.map V.str)) n3);have f3:=qk (H:=J2) (a:=p3) (o:=.lst ([V.str t.rd.owes]++t.rd.ends.map V.str++t.rd.anew.map V.str));generalize upd J2 p3 _=J3 at n f3 |-;have h6:=g6.same n;let f:V->V:=λv=>match v with
    |.ref b=>(match J3 b with|some (.tup [.str y,.int _,.int _])=>V.str y|_=>.non)
    |_=>.non
   have Y:∀(b:Addr)(r:Str×Int×Int),J3 b=some (.tup (qq7 r))->f (.ref b)=.str r.1:=λb r e=>by show (match J3 b with|some (.tup [.str y,.int _,.int _])=>V.str y|_=>.non)=_;rw[e];rfl
   refine(nmc Z (flc (n _ _ G) (T.kG) (qp T.kH Uk) (rfl) ⟨_,Z,⟨_,SqL.of (n _ _ g5)⟩,?_⟩));refine qe2 f (λσ'=>∃v,σ'=[v]) (qbg (K:=K) (SqL.of (n _ _ g5))) (fits (by lia)) ⟨none,Z⟩ (λv σ' H' RR ag sm s4 I=>?_) qb8 λp4 n4=>?_
   .obtain⟨v0,rfl⟩:=s4;obtain⟨j,hj⟩:=Bc ag;have lj:=(Ac.mp hj).1;obtain⟨b,S,U⟩:=h6.get (i:=j) (r:=qq7 (t.rd.longer[j]'(by lia))) (by rw[Ai,Ad (by lia)];rfl);rw[hj]at S;cases S;have I:=I [some (.ref b)] ⟨_,Z⟩;rw[Y b _ U]at I;exact(nmc Z (txo (sm _ _ U) Z I))
   have em:ul.map f=(t.rd.longer.map (·.1)).map V.str:=by
    refine Ck λj=>?_;rw[Ai,Ai,Ai];by_cases c:j<t.rd.longer.length
    .obtain⟨b,S,U⟩:=h6.get (i:=j) (r:=qq7 t.rd.longer[j]) (by rw[Ai,Ad c];rfl);rw[S,Ad c];exact congrArg some (Y b _ U)
    .rw[AI (by lia),AI (by lia)];rfl
   rw[em];have t4:=n.trans (qx (o:=.lst ((t.rd.longer.map (·.1)).map V.str)) n4);have ae:=qx (o:=.lst ((t.rd.longer.map (·.1)).map V.str)) n4 _ _ f3;have f4:=qk (H:=J3) (a:=p4) (o:=.lst ((t.rd.longer.map (·.1)).map V.str));generalize upd J3 p4 _=J4 at t4 ae f4 |-;refine⟨_,_,_,_,Z,Z,ae,f4,fits (by rw[Af,Af,Ab,Ab,Ab,Ab,AW];lia),λp5 n5=>?_⟩;have t5:=t4.trans (qx (o:=.lst ([V.str t.rd.owes]++t.rd.ends.map V.str++t.rd.anew.map V.str++(t.rd.longer.map (·.1)).map V.str)) n5);have f5:=qk (H:=J4) (a:=p5) (o:=.lst ([V.str t.rd.owes]++t.rd.ends.map V.str++t.rd.anew.map V.str++(t.rd.longer.map (·.1)).map V.str));generalize upd J4 p5 _=J5 at t5 f5 |-;have eM:[V.str t.rd.owes]++t.rd.ends.map V.str++t.rd.anew.map V.str++(t.rd.longer.map (·.1)).map V.str=(t.rd.owes::(t.rd.ends++t.rd.anew++t.rd.longer.map (·.1))).map V.str:=by rw[Ba,Ax,Ax];simp
   rw[eM]at f5;refine⟨_,_,_,_,Z,Z,t5 _ _ m,f5,fits (by rw[Ab,Ab,AD,Af,Af,Ab];lia),?_⟩;have D:Same H (upd J5 q (.lst (pre.map V.str++(t.rd.owes::(t.rd.ends++t.rd.anew++t.rd.longer.map (·.1))).map V.str))):=qak (L.trans t5) u;have C:upd J5 q (.lst (pre.map V.str++(t.rd.owes::(t.rd.ends++t.rd.anew++t.rd.longer.map (·.1))).map V.str)) q=some (.lst ((pre++(t.rd.owes::(t.rd.ends++t.rd.anew++t.rd.longer.map (·.1)))).map V.str)):=by rw[qk,Ax]
   generalize upd J5 q _=J6 at D C |-;have lM:(t.rd.owes::(t.rd.ends++t.rd.anew++t.rd.longer.map (·.1))).length<=7:=by rw[AD,Af,Af,Ab];lia
   obtain⟨M,eMM⟩:∃M,t.rd.owes::(t.rd.ends++t.rd.anew++t.rd.longer.map (·.1))=M:=⟨_,Z⟩;rw[eMM]at C lM;have r6:=rb.same D;obtain⟨ai,ak,af,ah,w2,ad,al,aj,d,g,k3,k4,k5,k6⟩:=id r6;apply qt8 (p:=λ_ J'=>Same H J'/\J' q=some (.lst ((pre++M++t.opens.toList).map V.str))) (f:=λ_=>[some (.ref pr),some (.ref q),some (.ref rl)])
   .intro R;cases eo:t.opens with|none =>rw[eo]at d R;exact(nmc Z (flc (d) (T.kG) (qp T.kH Uk) (rfl) ⟨Z,_,Z,qqv Z (tn2 Z (R none J6 ⟨D,by rw[C];simp⟩))⟩))|some o =>rw[eo]at d R;refine(nmc Z (flc (d) (T.kG) (qp T.kH Uk) (rfl) ⟨Z,_,Z,qtk (λz=>nomatch z) (nmc Z ⟨.inl ⟨Z,_,SqL.of C⟩,(nmc Z (flc (d) (T.kG) (qp T.kH Uk) (rfl) ⟨_,_,_,Z,Z,C,qbm (by rw[Ab,Af];lia),?_⟩))⟩)⟩));exact R none _ ⟨qak D u,by rw[qk];simp;rfl⟩
   rintro _ J7 ⟨s7,f7⟩;have r7:=rb.same s7;obtain⟨ai,ak,af,ah,w2,ad,al,aj,d,g,k3,k4,k5,k6⟩:=id r7;have e8:(Ts.take (i+1)).flatMap qbx=(Ts.take i).flatMap qbx++qbx t:=by rw[B1,W,List.flatMap_append];simp
   have lo:t.opens.toList.length<=1:=by cases t.opens <;>simp
   cases l:t.rd.still with
   |none =>rw[l]at g;have g:ad=.non:=g;refine(nmc Z (flc (d) (T.kG) (qp T.kH Uk) (rfl) ⟨Z,_,Z,qqv (by rw[g]) (tn2 Z ⟨s7,?_,_,Z⟩)⟩));rw[f7,e8,B];unfold qbx;rw[eMM,l];simp
   |some z =>rw[l]at g;obtain⟨b,eb,hb⟩:=g;refine(nmc Z (flc (d) (T.kG) (qp T.kH Uk) (rfl) ⟨Z,_,Z,qtk (λz=>by rw[eb]at z;cases z) (nmc Z ⟨.inl ⟨Z,_,SqL.of f7⟩,(nmc Z (flc (d) (T.kG) (qp T.kH Uk) (rfl) ⟨_,b,_,_,Z,(by rw[eb]),f7,SqT.of hb,fits (by rw[Ab,Af,Af];show _+2<=_;lia),qak s7 u,?_,_,Z⟩))⟩)⟩));rw[qk,e8,B];unfold qbx;rw[eMM,l];simp
  .rintro σ J ⟨L,m,v2,rfl⟩;rw[hR.1,Bq]at m;exact(nmc Z (k q J u L m))
theorem qv7 (T:Txt K mg a):FnOk P w K mg base CX0 3 a.rV a.xS ["_law_script","_law_rules","_law_names","_law_first","_law_many"] (spAc55 a K):=by
 refine T.dP.fn.ok qcw (λvs H Q E h=>?_) (λcdv A outer s H vs Q E hr h=>?_)
 .obtain⟨_,_,_,_,_,_,_,_,_,rfl,_⟩:=h
  all_goals rfl
 .obtain⟨l,Y,pn,D,names,us,Ts,first,m,rfl,hS,hp,hR,l1,l4,hz,ho,hn,ln,nd,f0,hm,k⟩:=h;refine⟨_,(qf (qu (i:=5) qcw.nd Z (Au Z) (zb (qod T) (hr.mono Uk) Z T.gS.mgx T.gS.fn.kp T.gS.bd .nil qac (qd (pv 1) qg qe)))
   (qf (qu (i:=6) qcw.nd Z (Au Z) (qv qah qi (qv qas (zb (qbi T) (hr.mono Uk) Z T.kL.mgx T.kL.fn.kp T.kL.bd .nil qac (qd (pv 0) (qd qi qg ql) qe)) qi)))
   (qf (qu (i:=7) qcw.nd Z (Au Z) (zg qg))
   (qf (qa2 A7 Z (qbq Z T.gB (qd (pv 4) qg qe)) (qad (i:=8) qcw.nd Z (Au Z)) (qf (qu (i:=9) qcw.nd Z (Au Z) (zb (qbi T) (hr.mono Uk) Z T.kL.mgx T.kL.fn.kp T.kL.bd .nil qac (qd (pv 0) (qd (qv qah qi (pv 8)) qg zl) qe)))
   (qf (qu (i:=10) qcw.nd Z (Au Z) (zo zq (pv 5) (qv qas (pv 9) (zc qbs (by rfl) T.kX qbv (qd (pv 5) qg qe))) (λ_ _=>rfl)))
   (qf (qz (qt qdl (pv 8) qi (qaf _)) (qj (qu (i:=10) qcw.nd Z (Au Z) (zo zq (qc1 (N:=["_law_rule_here"]) (js:=[none]) (XN:=["_law_script","_law_rules","_law_names","_law_first","_law_many","_law_menu_here","_law_stride","_law_acts_here","_law_k","_law_cell","_law_kind"]) (xs:=qaa qii) Z Z Z Ez (qap (pv 1)) (λ_ _ _ _ _ _=>(qad (i:=0) (show BD (["_law_rule_here"]:List Str) from by decide +kernel) Z (Au Z) (CG Z))) (λ_ _ _ _ _ _=>(qe9 (qt qh6 (qko (K:=K) Z (pv 0) Z) qau (qaf _)))) (λ_ _ _ _ _ _=>(qko (K:=K) Z (pv 0) Z))) qi (λ_ _=>rfl)))) qag)
   (qj (qy (qca A3 AB AC qao (pv 7) (qd (zh (qd (zo zq (pv 2) (qv qas (qv qah (qv qbl (pv 8) (pv 6)) (qv qav (pv 6) qi)) qi) (λ_ _=>rfl)) (qd (pv 10) (qd (qv qah (pv 3) (qv qas (qv qav (pv 9) qi) (qv qah qi (qv qbl qi (pv 8))))) qg zl) qe) zm)) qg zn))))))))
   (qj (qo (pv 7))))))),?_⟩
  refine(nmc Z ⟨Y,us,Ts,names,Z,hp,hR,l4,hz,λqm H1 nqm s1 em=>?_⟩);dsimp only[qbk,AM,AN];have lM:=qrf hz;have al:1<=(Ts.flatMap qbx).length:=by
   cases Ts with|nil=>cases l1|cons t Ts=>rw[List.flatMap_cons];unfold qbx;simp
  generalize Ts.flatMap qbx=M at em lM al;have m1:=qg3 D 1;refine(nmc Z ⟨l,D,1,Z,s1.seq hS,Uk,Uk,(icc Z Z (pos Uk) (iic Z Z ?_))⟩);dsimp only[qbk,AM,AN];obtain⟨s,es,h1,h2⟩:∃s,1+qc7 D 1 % 22=s/\1<=s/\s<=22:=⟨_,Z,by lia,by lia⟩;rw[es];refine⟨qfr,λx S=>?_⟩;obtain⟨s2,F⟩:=alc (o:=.lst []) S;have av:=s1.free S;generalize upd H1 x _=H2 at s2 F |-;dsimp only[qbk,AM,AN];have bm:=rb (n:=m) (by lia);refine(nmc Z ⟨_,Z,bm.1,bm.2,qc9 (lo:=0) (n:=((m:Int)).toNat) (λi σ J=>Same H1 J/\∃(R:List V)(d:List Act),J x=some (.lst R)/\Tups (nwp H J) R (d.map qb4)/\d.length=i/\NmA names s d/\(∀t∈d,first<=t.2.2)/\∃v8 v9 O:Option V,σ=[some (.ref l),some (.ref Y),some (.ref pn),some (.int first),some (.int (m:Int)),some (.ref qm),some (.int s),some (.ref x),v8,v9,O]) ⟨s2,[],[],F,.nil,Z,(λj t e=>by cases e),(λt h=>by cases h),none,none,none,Z⟩ ?_ ?_⟩)
  .rintro i σ J hi ⟨L,R,d,B,ht,la,hN,hF,v8,v9,O,rfl⟩;have hi:i<20:=by lia
   have I:=s1.trans L;have af:=L _ _ em;rw[Cq];have mc:=qg3 D (13+(i:Int));refine(nmc Z (nmc Z (iic Z Z ⟨l,D,_,Z,I.seq hS,by lia,by lia,?_⟩)));dsimp only[qbk,AM,AN];generalize qc7 D (13+(i:Int))=c at mc |-;have cm:=Cd c (show (0:Int)<(M.length:Int) by lia);have c0:=BQ c (show (M.length:Int)≠0 by lia);refine(nmc Z (nmc Z (nmc Z ⟨_,_,Z,.inl ⟨_,SqL.of af,Z⟩,(iic Z Z ⟨(by rw[Ab];lia),(lxo (af) (qfs (by rw[Ab];exact c0) (by rw[Ab];exact cm)) ?_)⟩)⟩)));dsimp only[qbk,AM,AN];apply qt8 (p:=λv J'=>∃W:Str,v=some (.str W)/\Same J J') (f:=λv=>[some (.ref l),some (.ref Y),some (.ref pn),some (.int first),some (.int (m:Int)),some (.ref qm),some (.int s),some (.ref x),some (.int (i:Int)),some (.int c),v])
   .intro mm;refine(nmc Z (iic Z Z ⟨_,Z,qb2 (λc1=>?_) (λc1=>?_)⟩))
    .have RJ:=hR.same I;let ov:V->V:=λv=>match v with
      |.ref r=>(match J r with|some (.ins _ _ fs)=>(fs.lookup (Aa "opens")).getD .non|_=>.non)
      |_=>.non
     have y:∀(g:Addr)(t:TD)(bv:V),RuleB a J g t bv->ov (.ref g)=opV t.opens:=λg t bv rb=>by obtain⟨dx,pe,pa,pl,w',sv,py,ul,C,_⟩:=rb;show (match J g with|some (.ins _ _ fs)=>(fs.lookup (Aa "opens")).getD .non|_=>.non)=_;rw[C];rfl
     have ae:∀v∈us,∃(g:Addr)(t:TD),v=.ref g/\t∈Ts/\RuleB a J g t (bvN names t.base):=λv hv=>by
      obtain⟨j,hj⟩:=Bc hv;have lj:j<Ts.length:=by rw[<- hR.1];exact(Ac.mp hj).1
      obtain⟨g,e1,F⟩:=RJ.2 j _ (Ad lj);rw[hj]at e1;cases e1;exact⟨g,_,Z,Bj lj,F⟩
     refine(nmc Z ⟨_,Z,⟨_,SqL.of (I _ _ hp)⟩,?_⟩);refine qdb (λv=>!decide (ov v=.non)) ov (λσ'=>∃v,σ'=[v]) (qbg (K:=K) (SqL.of (I _ _ hp))) (fits (by rw[hR.1];lia)) ⟨none,Z⟩ (λv σ' J' N RR hv sm s4 kn X=>?_) qb8 λp5 am=>?_
     .obtain⟨v0,rfl⟩:=s4;obtain⟨g,t,rfl,_,rb⟩:=ae v hv;have G:=y g t _ rb;obtain⟨dx,pe,pa,pl,w',sv,py,ul,C,_⟩:=rb.same sm;have kn:=kn [some (.ref g)] ⟨_,Z⟩;have X:=X [some (.ref g)] ⟨_,Z⟩;rw[G]at kn X;refine(nmc Z (flc (C) (T.kG) (qp T.kH Uk) (rfl) ⟨Z,_,Z,qb2 (λc2=>(nmc Z (flc (C) (T.kG) (qp T.kH Uk) (rfl) (X c2)))) (λc2=>kn ?_)⟩));cases e : !decide (opV t.opens=V.non) with|false=>rfl|true=>exact absurd e c2
     .obtain⟨o,G⟩:∃o:Str,((us.filter λv=>!decide (ov v=.non)).map ov)[0]?=some (.str o):=by
       obtain⟨t,ar,o,G⟩:=ho
       obtain⟨j,hj⟩:=Bc ar
       obtain⟨g,e1,F⟩:=RJ.2 j t hj
       have mf:(.ref g:V)∈us.filter λv=>!decide (ov v=.non):=Bk.mpr ⟨A0 e1,by rw[y g t _ F,G];rfl⟩
       cases ef:us.filter λv=>!decide (ov v=.non) with
       |nil=>rw[ef]at mf;cases mf
       |cons v vs =>
        have mv:v∈us.filter λv=>!decide (ov v=.non):=by rw[ef];exact Al
        obtain⟨aq,U⟩:=Bk.mp mv;obtain⟨ad,t2,rfl,_,ag⟩:=ae v aq;rw[y ad t2 _ ag]at U;cases ah:t2.opens with|none=>rw[ah]at U;cases U|some o2=>exact⟨o2,by rw[Ba,y ad t2 _ ag,ah];rfl⟩
      refine⟨_,_,_,_,Z,Z,SqL.of qk,qbj (j:=0) G,?_⟩
      refine gn2 (σ':=[some (.ref l),some (.ref Y),some (.ref pn),some (.int first),some (.int (m:Int)),some (.ref qm),some (.int s),some (.ref x),some (.int (i:Int)),some (.int c),some (.str o)]) rfl ?_
      exact mm _ _ ⟨o,Z,qx am⟩
    .exact tn2 rfl (mm _ J ⟨_,Z,Same.refl J⟩)
   rintro _ J' ⟨W,rfl,q⟩;have ai:=I.trans q;have d0:0<=c / 101 % (2+6*(i:Int)):=BQ _ (by lia);have r1:=BQ ((i:Int)*s+s / 2) (show (23:Int)≠0 by decide);have r2:=Cd ((i:Int)*s+s / 2) (show (0:Int)<23 by decide);refine(nmc Z ⟨.inl ⟨Z,_,SqL.of (q _ _ B)⟩,(nmc Z (nmc Z (nmc Z (iic Z Z ⟨.inr ⟨by lia,by lia⟩,(nmc Z (icc Z Z ⟨Uk,Uk⟩ (iic Z Z (icc Z Z (pos Uk) (lxo (ai _ _ hn) (qfs r1 (by lia)) (nmc Z (nmc Z (nmc Z (icc Z Z ⟨Uk,Uk⟩ (nmc Z (iic Z Z ⟨.inl ⟨Uk,Uk⟩,(iic Z Z (iic Z Z ⟨(show 0<2+6*(i:Int) by lia),(iic Z Z ⟨qki _ _ _,λt nt=>?_⟩)⟩))⟩)))))))))))⟩))))⟩);obtain⟨st,et⟩:=alc (o:=.tup [V.str (names.getD (((i:Int)*s+s / 2) % 23).toNat A8),V.str W,V.int (first+c / 101 % (2+6*(i:Int)))]) nt;have au:t≠x:=λz=>by rw[z,q _ _ B]at nt;cases nt
   have ak:=ai.free nt;generalize upd J' t _=Jt at st et |-;have lu:=ht.length;rw[Ab]at lu;have aj:=st _ _ (q _ _ B);refine⟨_,_,_,Z,Z,aj,qbm (by lia),qak (L.trans (q.trans st)) S,_,d++[(names.getD (((i:Int)*s+s / 2) % 23).toNat A8,W,first+c / 101 % (2+6*(i:Int)))],qk,?_,by rw[Af,la];rfl,λj t' e=>?_,λt' h=>?_,_,_,_,Z⟩
   .rw[Ax];refine qg1 (qb1 ht λb u e=>?_) ?_
    .obtain⟨C,g2⟩:=qmd e;refine qey C ?_;rw[qr (λz=>by rw[z,B]at g2;cases g2)];exact(q.trans st) _ _ g2
    .exact qey ak (by rw[qr au];exact et)
   .by_cases cj:j<d.length
    .rw[AH cj]at e;exact hN j t' e
    .rw[AV (by lia)]at e;have e0:j-d.length=0:=by have:=(Ac.mp e).1;simpa using this
     rw[e0]at e;cases e;rw[show j=i by lia]
   .rcases Av.mp h with h|h
    .exact hF t' h
    .rw[Ah.mp h];show first<=first+_
     lia
  .rintro σ J ⟨L,R,d,B,ht,la,hN,hF,v8,v9,O,rfl⟩;exact(nmc Z (k x J R d s av (s1.trans L) B ht (by lia) h1 h2 hN hF))
theorem qs0 (T:Txt K mg a):FnOk P w K mg base CX0 2 a.rX a.xW ["_law_rules","_law_name"] (spCh56 a):=by
 refine T.dC.fn.ok qee (λvs H Q E h=>?_) (λcdv A outer s H vs Q E hr h=>?_)
 .obtain⟨_,_,_,_,_,_,rfl,_⟩:=h
  all_goals rfl
 .obtain⟨n,us,nms,bs,rk,j,rfl,hp,B,y,ae,k⟩:=h;refine⟨_,(qf (qu (i:=2) qee.nd Z (Au Z) qd3)
   (qf (qa2 A7 Z (qap (pv 0)) (qad (i:=3) qee.nd Z (Au Z)) (qj (qe8 (qch hr) (pv 2) (qab (pv 3) Z) (qab (pv 3) Z) Z)))
   (qf (qu (i:=4) qee.nd Z (Au Z) (zg qg))
   (qf (qh4 A7 (qt qh6 (pv 1) qau (qaf _)) (qf (qy (qca A3 AB AC qao (pv 4) (qd (pv 1) qg qe)))
   (qj (qu (i:=1) qee.nd Z (Au Z) (qc0 (qch hr) (pv 2) (pv 1) (λ_ _=>rfl))))))
   (qj (qo (pv 4))))))),?_⟩
  refine λd hd=>?_;obtain⟨U,h0⟩:=alc (o:=.dK []) hd;generalize upd H d _=H0 at U h0 |-;dsimp only[qbk,AM,AN];refine(nmc Z ⟨_,Z,⟨_,SqL.of (U _ _ hp)⟩,qa5 (K:=K) (a:=n) (xs:=us) (λi σ H'=>Same H H'/\∃(l:Option V)(kvs:List (Key×V)),σ=[some (.ref n),some (.str (nm nms j)),some (.ref d),l,none]/\H' d=some (.dK kvs)/\kvs.length<=i/\∀k<i,qbf kvs (.inr (nm nms k))=some (qjv nms (bo bs k)))
   ⟨U,none,[],Z,h0,Am _,λk hk=>absurd hk (B2 _)⟩ (λi σ H' _ h=>SqL.of (h.1 _ _ hp)) ?_ ?_⟩)
  .rintro i x σ H' hx ⟨v,l,kvs,rfl,D,hl,G⟩;have hi:i<nms.length:=by rw[<- B.1];exact(Ac.mp hx).1
   obtain⟨p,dx,fs,rfl,r1,r2,r3⟩:=(B.2 i x hx).same v;refine(nmc Z (flc (r1) (T.kG) (qp T.kH Uk) (r3) (nmc Z (nmc Z (flc (r1) (T.kG) (qp T.kH Uk) (r2) ⟨d,_,Z,DPut.k (k:=.inr (nm nms i)) D (by rw[B3];have:=y.sm;lia),?_⟩)))));exact⟨qak v hd,_,_,Z,qk,A5 (qcu _ _ _) (C7 hl),qt2 y.nd hi G⟩
  .rintro σ H1 ⟨v,l,kvs,rfl,D,hl,G⟩;rw[B.1]at G;refine⟨qfr,λq C=>?_⟩;obtain⟨X,w2⟩:=alc (o:=.lst []) C;have M:=v.free C;have ad:d≠q:=λz=>by rw[<- z,D]at C;cases C
   generalize upd H1 q _=J1 at X w2 |-;refine gn2 (σ':=[some (.ref n),some (.str (nm nms j)),some (.ref d),l,some (.ref q)]) rfl ?_;refine⟨λm σ' J'=>Same H J'/\J' d=some (.dK kvs)/\∃ks:List Nat,J' q=some (.lst ((ks.map (nm nms)).map V.str))/\(∀k∈ks,k<nms.length)/\((∃g:Nat,σ'=[some (.ref n),some (.str (nm nms g)),some (.ref d),l,some (.ref q)]/\g<nms.length/\rk g<m/\ks.length+m<=7/\(∀k∈ks,∀b,bo bs k=some b->b∈ks\/b=g)/\(j∈ks\/j=g))\/(σ'=[some (.ref n),some .non,some (.ref d),l,some (.ref q)]/\ks.length<=7/\j∈ks/\∀k∈ks,∀b,bo bs k=some b->b∈ks)),⟨7,v.trans X,X _ _ D,[],w2,(λk h=>by cases h),.inl ⟨j,Z,ae,y.lo j,Am _,(λk h=>by cases h),.inr Z⟩⟩,?_⟩;rintro m σ' J' ⟨y1,y2,ks,O,J,⟨g,rfl,S,hm,L,R,t⟩|⟨rfl,L,t,R⟩⟩
   .refine(nmc Z ⟨Z,_,Z,qtk (λz=>nomatch z) ?_⟩);obtain⟨f,rfl⟩:∃f,m=f+1:=⟨m-1,by lia⟩;refine⟨λσ' J'=>Same H J'/\J' d=some (.dK kvs)/\∃ks:List Nat,J' q=some (.lst ((ks.map (nm nms)).map V.str))/\(∀k∈ks,k<nms.length)/\((∃g:Nat,σ'=[some (.ref n),some (.str (nm nms g)),some (.ref d),l,some (.ref q)]/\g<nms.length/\rk g<f/\ks.length+f<=7/\(∀k∈ks,∀b,bo bs k=some b->b∈ks\/b=g)/\(j∈ks\/j=g))\/(σ'=[some (.ref n),some .non,some (.ref d),l,some (.ref q)]/\ks.length<=7/\j∈ks/\∀k∈ks,∀b,bo bs k=some b->b∈ks)),λσ2 H2 z=>⟨f,Ce f,z⟩,?_⟩;refine(nmc Z ⟨.inl ⟨Z,_,SqL.of O⟩,(nmc Z ⟨_,_,_,Z,Z,O,qbm (by rw[Ab,Ab];lia),?_⟩)⟩);have W:Same H (upd J' q (.lst ((ks.map (nm nms)).map V.str++[V.str (nm nms g)]))):=qak y1 M;have Y:upd J' q (.lst ((ks.map (nm nms)).map V.str++[V.str (nm nms g)])) q=some (.lst (((ks++[g]).map (nm nms)).map V.str)):=by rw[qk,Ax,Ax];rfl
    have F:=(qr (H:=J') (o:=.lst ((ks.map (nm nms)).map V.str++[V.str (nm nms g)])) ad).trans y2;generalize upd J' q _=J2 at W Y F |-;have r:∀k∈ks++[g],k<nms.length:=λk h=>(Av.mp h).elim (J k) λz=>by rw[Ah.mp z];exact S
    have u:j∈ks++[g]:=t.elim (λz=>Bl _ z) λz=>by rw[z];simp
    have ll:(ks++[g]).length=ks.length+1:=by rw[Af];rfl
    have I:∀k∈ks,∀b,bo bs k=some b->b∈ks++[g]:=λk h b e=>(R k h b e).elim (λz=>Bl _ z) λz=>by rw[z];simp
    refine(nmc Z (nmc Z ⟨d,_,Z,(G g S) ▸ DGet.k (k:=.inr (nm nms g)) F,?_⟩));cases N:bo bs g with
    |none =>refine⟨W,F,ks++[g],Y,r,.inr ⟨Z,by lia,u,λk h b e=>(Av.mp h).elim (λz=>I k z b e) λz=>by rw[Ah.mp z,N]at e;cases e⟩⟩
    |some b =>obtain⟨b1,b2⟩:=y.ok g b (by rw[qyr (by rw[y.len];exact S),N]);refine⟨W,F,ks++[g],Y,r,.inl ⟨b,Z,b1,by lia,by lia,λk h c e=>(Av.mp h).elim (λz=>.inl (I k z c e)) λz=>by rw[Ah.mp z,N]at e;cases e;exact .inr Z,.inl u⟩⟩
   .refine(nmc Z ⟨Z,_,Z,qqv Z ?_⟩);exact(nmc Z (k q J' ks M y1 O L t λk h=>⟨J k h,R k h⟩))
theorem qms (T:Txt K mg a):FnOk P w K mg base CX0 2 a.nL a.xZ ["_law_told","_law_chain_here"] spNa56:=by
 refine T.gR.fn.ok qfp (λvs H Q E h=>?_) (λcdv A outer s H vs Q E hr h=>?_)
 .obtain⟨_,_,_,_,_,_,_,_,_,_,_,_,rfl,_⟩:=h
  all_goals rfl
 .obtain⟨d,M,bs,rs,ts,Zq,n,q,y,p4,p6,is,rfl,hT,T0,U,S,lis,hz,k⟩:=h;refine⟨_,(qf (qu (i:=2) qfp.nd Z (Au Z) (zg qg))
   (qf (qa2 A7 Z (qap (pv 1)) (qad (i:=3) qfp.nd Z (Au Z)) (qj (qa2 A7 Z (qap (qc0 (qch hr) (pv 0) (pv 3) (λ_ _=>rfl))) (qad (i:=4) qfp.nd Z (Au Z)) (qj (qy (qca A3 PySem.F.slot_list_extend PySem.F.type_list_extend qnk (pv 2) (qd (qc1 (N:=["_law_row"]) (js:=[none]) (XN:=["_law_told","_law_chain_here","_law_named_here","_law_name","_law_account"]) (xs:=qaa qgw) Z Z Z Ez (qap (zo zp (pv 4) qi (λ_ _=>rfl))) (λ_ _ _ _ _ _=>(qad (i:=0) (show BD (["_law_row"]:List Str) from by decide +kernel) Z (Au Z) (CG Z))) (λ_ _ _ _ _ _=>qel) (λ_ _ _ _ _ _=>(zo (qib (K:=K) Z) (pv 0) qi (λ_ _=>rfl)))) qg qf7)))))))
   (qj (qo (pv 2))))),?_⟩
  refine⟨qfr,λp Y=>?_⟩;obtain⟨s1,e1⟩:=alc (o:=.lst []) Y;generalize upd H p _=H1 at s1 e1 |-;dsimp only[qbk,AM,AN];refine(nmc Z ⟨_,Z,⟨_,SqL.of (s1 _ _ U)⟩,qa5 (K:=K) (a:=M) (xs:=(is.map λi=>(ts i).name).map V.str) (λi σ J=>Same H J/\J p=some (.lst (((is.take i).flatMap λi=>nmR (Zq i)).map V.str))/\∃v3 l:Option V,σ=[some (.ref d),some (.ref M),some (.ref p),v3,l]) ⟨s1,e1,none,none,Z⟩ (λi σ J _ h=>SqL.of (h.1 _ _ U)) ?_ ?_⟩)
  .rintro i v σ J u ⟨C,z,v3,l,rfl⟩;have hi:i<is.length:=by have:=(Ac.mp u).1;rw[Ab,Ab]at this;exact this
   rw[Ai,Ai,Ad hi]at u;cases u;have lF:=qpm hz (is.take i) λx hx=>S x (DF hx);rw[Bv]at lF;have eT:(is.take (i+1)).flatMap (λi=>nmR (Zq i))=(is.take i).flatMap (λi=>nmR (Zq i))++nmR (Zq is[i]):=by rw[B1,Ad hi,List.flatMap_append];simp
   have G:is[i]<n:=S _ (Bj hi);rw[eT];refine gn2 (σ':=[some (.ref d),some (.ref M),some (.ref p),some (.str (ts is[i]).name),l]) rfl ?_;generalize is[i]=k0 at G eT |-;generalize (is.take i).flatMap (λi=>nmR (Zq i))=pre at z lF |-;have ae:∀{J:Hp},Same H J->DGet J d (.str (ts k0).name) (some (.ref (q k0))):=λ{J} s=>.inl ⟨_,.inr (ts k0).name,qud s hT.1,Z,(qg2 T0.nn G).symm⟩;have hA:=hT.2 k0 G;have af:=hz k0 G;refine(nmc Z (nmc Z ⟨d,_,Z,ae C,_,Z,⟨_,SqL.of (C _ _ hA.1)⟩,qa5 (K:=K) (a:=q k0) (xs:=(Ar (Zq k0).length).map λj=>.ref (y k0 j)) (λj σ J'=>Same H J'/\J' p=some (.lst ((pre++nmR ((Zq k0).take j)).map V.str))/\∃l:Option V,σ=[some (.ref d),some (.ref M),some (.ref p),some (.str (ts k0).name),l]) ⟨C,(by rw[De];show J p=some (.lst ((pre++[]).map V.str));rw[Br];exact z),_,Z⟩ (λj σ J' _ h=>SqL.of (h.1 _ _ hA.1)) ?_ ?_⟩))
   .rintro j v σ J' u ⟨g,t,l,rfl⟩;have hj:j<(Zq k0).length:=by have:=(Ac.mp u).1;rw[Ab,Aw]at this;exact this
    rw[Ai,Bb hj]at u;cases u;obtain⟨ha,_,⟨u6,h6,t6⟩⟩:=hA.2 j hj;have B:=t6.same g;have X:=nmR_take hj;have lN:(nmR ((Zq k0).take (j+1))).length<=20:=A5 nmR_le af;rw[X,Af,Ab]at lN;have lu:u6.length=((Zq k0).getD j dRS).rows.length:=by have:=t6.length;rw[Ab]at this;exact this
    generalize (Zq k0).getD j dRS=st at ha t6 B X lN lu;let f:V->V:=λv=>match v with
     |.ref b=>(match J' b with|some (.tup [.str y,.int _,.str _])=>V.str y|_=>.non)
     |_=>.non
    have O:∀(b:Addr)(r:R3),J' b=some (.tup (qm6 r))->f (.ref b)=.str r.1:=λb r e=>by show (match J' b with|some (.tup [.str y,.int _,.str _])=>V.str y|_=>.non)=_;rw[e];rfl
    refine(nmc Z ⟨.inl ⟨Z,_,SqL.of t⟩,(nmc Z (txo (g _ _ ha) Z ⟨_,Z,⟨_,SqL.of (g _ _ h6)⟩,?_⟩))⟩);refine qe2 f (λσ'=>∃v,σ'=[v]) (qbg (K:=K) (SqL.of (g _ _ h6))) (fits (by lia)) ⟨none,Z⟩ (λv σ' H' RR ad sm s4 D=>?_) qb8 λR n4=>?_
    .obtain⟨v0,rfl⟩:=s4;obtain⟨m,hm⟩:=Bc ad;have lm:=(Ac.mp hm).1;obtain⟨b,I,L⟩:=B.get (i:=m) (r:=qm6 (st.rows[m]'(by lia))) (by rw[Ai,Ad (by lia)];rfl);rw[hm]at I;cases I;have D:=D [some (.ref b)] ⟨_,Z⟩;rw[O b _ L]at D;exact(nmc Z (txo (sm _ _ L) Z D))
    have em:u6.map f=(st.rows.map (·.1)).map V.str:=by
     refine Ck λm=>?_;rw[Ai,Ai,Ai];by_cases c:m<st.rows.length
     .obtain⟨b,I,L⟩:=B.get (i:=m) (r:=qm6 st.rows[m]) (by rw[Ai,Ad c];rfl);rw[I,Ad c];exact congrArg some (O b _ L)
     .rw[AI (by lia),AI (by lia)];rfl
    rw[em];have t4:=g.trans (qx (o:=.lst ((st.rows.map (·.1)).map V.str)) n4);have W:=qx (o:=.lst ((st.rows.map (·.1)).map V.str)) n4 _ _ t;have f4:=qk (H:=J') (a:=R) (o:=.lst ((st.rows.map (·.1)).map V.str));generalize upd J' R _=J4 at t4 W f4 |-;refine⟨_,_,_,_,Z,Z,W,f4,fits (by rw[Ab,Ab,Ab,Af];lia),?_⟩;refine⟨qak t4 Y,?_,_,Z⟩;rw[qk,X,<- List.append_assoc,Ax (l₁:=pre++_)]
   .rintro σ J' ⟨g,t,l,rfl⟩;rw[Ab,Aw,Bq]at t;exact⟨g,t,_,_,Z⟩
  .rintro σ J ⟨C,z,v3,l,rfl⟩;rw[Ab,Ab,Bq]at z;exact(nmc Z (k p J Y C z))
theorem qs1 (T:Txt K mg a):FnOk P w K mg base CX0 3 a.xJ a.sT ["_law_told"] spAl56:=by
 refine T.dI.fn.ok qhx (λvs H Q E h=>?_) (λcdv A outer s H vs Q E O h=>?_)
 .obtain⟨_,_,_,_,_,_,_,_,_,_,rfl,_⟩:=h
  all_goals rfl
 .obtain⟨d,bs,rs,ts,Zq,n,q,y,I,B,rfl,j,W,hz,k⟩:=h;refine⟨_,(qf (qfc A7 Z (pv 0) (qad (i:=1) qhx.nd Z (Au Z)) (qf (qu (i:=2) qhx.nd Z (Au Z) (zb (qms T) (O.mono Uk) Z T.gR.mgx T.gR.fn.kp T.gR.bd .nil qac (qd (pv 0) (qd (zg (qd (pv 1) qg qe)) qg qwr) qe)))
   (qj (qz (qt op_ne (qve Z (by rfl) T.kX (by rfl) T.K5 (qd (pv 2) qg qe)) (zc qbs (by rfl) T.kX qbv (qd (pv 2) qg qe)) (qaf _)) (qj (qo qck)) qag))))
   (qj (qo qck))),?_⟩
  refine(nmc Z ⟨d,_,Z,j.1,λo=>⟨λi σ' J=>Same (upd H d (.frz o (.dK (kvR n ts q)))) J/\∃v l:Option V,σ'=[some (.ref d),v,l],⟨Same.refl _,_,_,Z⟩,(λi σ' J h=>h.1 _ _ qk),?_,?_⟩⟩)
  .rintro i kv σ' J C ⟨t,v,l,rfl⟩;obtain⟨D,rfl⟩:=qsq C;have F:ToldR bs rs ts Zq n (upd H d (.frz o (.dK (kvR n ts q)))) d q y I B:=⟨.inr ⟨o,qk⟩,λf c=>(j.2 f c).kp λb u R e=>by
    rw[qr]
    .exact e
    .rintro rfl;rw[j.1]at e;rcases R with ⟨u',rfl⟩|⟨u',rfl⟩ <;>cases e⟩
   refine gn2 (σ':=[some (.ref d),some (.str (ts i).name),l]) rfl ?_;refine(nmc Z (nmc Z ⟨fit1 _,λp U=>?_⟩));have g:=t.trans (qx (o:=.lst [V.str (ts i).name]) U);have G:=qk (H:=J) (a:=p) (o:=.lst [V.str (ts i).name]);generalize upd J p _=J2 at g G |-;refine⟨d,p,bs,rs,ts,Zq,n,q,y,I,B,[i],Z,⟨qud g F.1,λf c=>(F.2 f c).same g⟩,W,G,(λx S=>by rw[Ah.mp S];exact D),(show 1<=7 by decide),λf c=>(hz f c).2,λr M nq' N L=>?_⟩;have m:M r=some (.lst ((nmR (Zq i)).map V.str)):=by rw[L];simp
   refine gn2 (σ':=[some (.ref d),some (.str (ts i).name),some (.ref r)]) rfl ?_;obtain⟨nd,l20⟩:=hz i D;refine(nmc Z ⟨r,nmR (Zq i),Z,SqL.of m,by lia,(nmc Z ⟨_,_,Z,.inl ⟨_,SqL.of m,Z⟩,Z,_,Z,?_⟩)⟩);rw[qrh nd,Ab];exact qqv rfl ⟨g.trans N,_,_,Z⟩
  .rintro σ' J ⟨t,v,l,rfl⟩;refine k _ λb u e=>?_;by_cases z:b=d
   .subst z;rw[j.1]at e;rw[qk,<- e]
   .rw[qr z];exact t _ _ (by rw[qr z];exact e)
theorem qps (T:Txt K mg a):FnOk P w K mg base CX0 2 a.rA a.sG ["_law_rules","_law_chain_here","_law_kinds"] (spSt56 a):=by
 refine T.dH.fn.ok qfq (λvs H Q E h=>?_) (λcdv A outer s H vs Q E hr h=>?_)
 .obtain⟨_,_,_,_,_,_,_,_,rfl,_⟩:=h
  all_goals rfl
 .obtain⟨pr,p,pk,us,Ts,names,b,d,rfl,hp,n,l4,hz,ae,D,lk,k⟩:=h;refine⟨_,(qf (qu (i:=3) qfq.nd Z (CG Z) (zb (qod T) (hr.mono Uk) Z T.gS.mgx T.gS.fn.kp T.gS.bd .nil qac (qd (qc1 (N:=["_law_rule_here","_law_chain_here"]) (js:=[none,some 1]) (XN:=["_law_rules","_law_chain_here","_law_kinds","_law_mine","_law_some"]) (xs:=qaa qdo) Z Z Z Ez (qap (pv 0)) (λ_ _ _ _ _ _=>(qad (i:=0) (show BD (["_law_rule_here","_law_chain_here"]:List Str) from by decide +kernel) Z (Au Z) (CG Z))) (λ_ _ _ _ _ _=>(qe9 (qt (qxe (K:=K) Z) (qko (K:=K) Z (pv 0) Z) (pv 1) (by with_unfolding_all rfl)))) (λ_ _ _ _ _ _=>(pv 0))) qg qf7)))
   (qf (qfa (i:=4) qfq.nd Z Z (N:=["_law_kind","_law_mine"]) (js:=[none,some 3]) (XN:=["_law_rules","_law_chain_here","_law_kinds","_law_mine","_law_some"]) (xs:=qaa qdo) Z Z Z Ez (qap (pv 2)) (λ_ _ _ _ _ _=>(qad (i:=0) (show BD (["_law_kind","_law_mine"]:List Str) from by decide +kernel) Z (Au Z) (CG Z))) (λ_ _ _ _ _ _=>(qe9 (qt (qnx (K:=K) Z) (pv 0) (pv 1) (by with_unfolding_all rfl)))) (λ_ _ _ _ _ _=>(pv 0)))
   (qj (qo (pv 4))))),?_⟩
  have z:∀{J:Hp},Same H J->∀v∈us,∃(c:Addr)(t:TD),v=.ref c/\t∈Ts/\RuleB a J c t (bvN names t.base):=λ{J} s v m=>by
   obtain⟨j,hj⟩:=Bc m;have lj:j<Ts.length:=by rw[<- n.1];exact(Ac.mp hj).1
   obtain⟨c,C,R⟩:=n.2 j _ (Ad lj);rw[hj]at C;cases C;exact⟨c,_,Z,Bj lj,R.same s⟩
  let B:V->Bool:=λv=>match v with
   |.ref r=>(match H r with|some (.ins _ _ fs)=>inV ((fs.lookup (Aa "name")).getD .non) (b.map V.str)|_=>false)
   |_=>false
  have G:∀(c:Addr)(t:TD)(bv:V),RuleB a H c t bv->B (.ref c)=decide (t.name∈b):=λc t bv rb=>by obtain⟨dx,pe,pa,pl,w',sv,py,ul,O,_⟩:=rb;show (match H c with|some (.ins _ _ fs)=>inV ((fs.lookup (Aa "name")).getD .non) (b.map V.str)|_=>false)=_;rw[O];show inV (.str t.name) (b.map V.str)=_;rw[qcb];exact Cy.mpr (by simp)
  refine(nmc Z ⟨_,Z,⟨_,SqL.of hp⟩,?_⟩);refine qdb B (λv=>v) (λσ'=>∃v,σ'=[v,some (.ref p)]) (qbg (K:=K) (SqL.of hp)) (fits (by rw[n.1];lia)) ⟨none,Z⟩ (λv σ' J' N RR m q L f e=>?_) qb8 λp5 ad=>?_
  .obtain⟨v0,rfl⟩:=L;obtain⟨c,t,rfl,_,rb⟩:=z (Same.refl H) v m;have eo:=G c t _ rb;obtain⟨dx,pe,pa,pl,w',sv,py,ul,O,_⟩:=rb.same q;have f:=f [some (.ref c),some (.ref p)] ⟨_,Z⟩;have e:=e [some (.ref c),some (.ref p)] ⟨_,Z⟩;rw[eo]at f e;refine(nmc Z (flc (O) (T.kG) (qp T.kH Uk) (rfl) (nmc Z ⟨_,_,Z,.inl (SqL.of (q _ _ ae)),Z,qcg _,_,Z,?_⟩)));cases g:decide (t.name∈b) with|true =>rw[g]at e;show if (inV (V.str t.name) (b.map V.str))=true then _ else _;rw[qcb,if_pos (by simpa using g)];exact(nmc Z (e Z))|false =>rw[g]at f;show if (inV (V.str t.name) (b.map V.str))=true then _ else _;rw[qcb,if_neg (by simpa using g)];exact f rfl
  rw[List.map_id'];obtain⟨I,Y⟩:=alc (o:=.lst (us.filter B)) ad;generalize upd H p5 _=H5 at I Y |-;have S:=qri B (λt=>decide (t.name∈b)) n (λj t v C R=>by obtain⟨c,e3,e4⟩:=n.2 j t C;rw[R]at e3;cases e3;exact G c t _ e4);have lTf:=BY (λt=>decide (t.name∈b)) Ts;refine⟨p5,_,_,names,Z,Y,S.same I,by lia,λt ht=>hz t (Bk.mp ht).1,λl H6 nqm s6 X=>?_⟩;refine gn2 (σ':=[some (.ref pr),some (.ref p),some (.ref pk),some (.ref l),none]) rfl ?_;have y:=I.trans s6;generalize (Ts.filter λt=>decide (t.name∈b)).flatMap qbx=M at X k;refine(nmc Z ⟨_,Z,⟨_,SqL.of (y _ _ D)⟩,?_⟩);refine qdb (λv=>!inV v (M.map V.str)) (λv=>v) (λσ'=>∃v,σ'=[v,some (.ref l)]) (qbg (K:=K) (SqL.of (y _ _ D))) (fits (by rw[Ab];lia)) ⟨none,Z⟩ (λv σ' J' N RR m q L f e=>?_) qb8 λu F=>?_
  .obtain⟨v0,rfl⟩:=L;have f:=f [some v,some (.ref l)] ⟨_,Z⟩;have e:=e [some v,some (.ref l)] ⟨_,Z⟩;obtain⟨s,hs,rfl⟩:=AS.mp m;refine(nmc Z (nmc Z ⟨_,_,Z,.inl (SqL.of (q _ _ X)),Z,qcg _,_,Z,?_⟩));show if (!inV (V.str s) (M.map V.str))=true then _ else _;cases g : !inV (V.str s) (M.map V.str) with|true=>exact qdm (nmc Z (e g))|false=>exact qce (f g)
  have eF:((d.map V.str).filter λv=>!inV v (M.map V.str)).map (λv=>v)=(d.filter λk=>!M.contains k).map V.str:=by
   rw[List.map_id',List.filter_map]
   congr 1
   refine List.filter_congr λx _=>?_;show (!inV (V.str x) (M.map V.str))=_;rw[qcb]
  rw[eF];have W:=y.trans (qx (o:=.lst ((d.filter λk=>!M.contains k).map V.str)) F);have U:=qk (H:=H6) (a:=u) (o:=.lst ((d.filter λk=>!M.contains k).map V.str));generalize upd H6 u _=H7 at W U |-;refine gn2 (σ':=[some (.ref pr),some (.ref p),some (.ref pk),some (.ref l),some (.ref u)]) rfl ?_;exact(nmc Z (k u H7 (y.free F) W U))
theorem qs2 (T:Txt K mg a):FnOk P w K mg base CX0 3 a.fQ a.rN ["self","rules"] (spBInit a):=by
 refine T.yH.fn.ok ql1 (λvs H Q E h=>?_) (λcdv A outer s H vs Q E hr h=>?_)
 .obtain⟨_,_,_,_,_,_,_,rfl,_⟩:=h
  all_goals rfl
 .obtain⟨x,f,M,us,nms,bs,rk,rfl,v,r,g,B,k⟩:=h;refine⟨_,(qf (qaz (pv 0) (zb (qmo T) (hr.mono Uk) Z T.bW.mgx T.bW.fn.kp T.bW.bd .nil qac (qd (pv 1) qg qe)) Z)
   (qf (qaz (pv 0) qd3 Z)
   (qj (qa2 A7 Z (qap (pv 1)) (qad (i:=2) ql1.nd Z (Au Z)) (qj (qe8 (qch hr) (qab (pv 0) Z) (qab (pv 2) Z) (pv 2) Z)))))),?_⟩
  refine(nmc Z ⟨_,us,nms,bs,rk,Z,r,g,B,λc H1 X s1 S=>?_⟩);have x1:=s1 _ _ v;refine(nmc Z ⟨_,_,_,_,Z,x1,T.gI,qp T.bC Uk,Uk,?_⟩);rw[put1];have D:c≠x:=λz=>by rw[z,v]at X;cases X
  have O:SameBut x H (upd H1 x (.ins a.kO f [(Aa "order",.ref c)])):=(SameBut.of s1).set;have Y:=qk (H:=H1) (a:=x) (o:=.ins a.kO f [(Aa "order",.ref c)]);have J:=(qr (o:=.ins a.kO f [(Aa "order",.ref c)]) D).trans S;generalize upd H1 x _=H2 at O Y J |-;refine λd l=>?_;obtain⟨W,d3⟩:=alc (o:=.dK []) l;have x3:=W _ _ Y;have q:d≠x:=λz=>by rw[z,Y]at l;cases l
  have ad:c≠d:=λz=>by rw[<- z,J]at l;cases l
  have nd:=O.free q l;refine(nmc Z ⟨_,_,_,_,Z,x3,T.gI,qp T.bC Uk,(show 1<1000 by decide),?_⟩);rw[put2 _ _ Ez];have U:SameBut x H (upd (upd H2 d (.dK [])) x (.ins a.kO f (bfs c d))):=(O.trans (SameBut.of W)).set;have x4:=qk (H:=upd H2 d (.dK [])) (a:=x) (o:=.ins a.kO f (bfs c d));have o4:=(qr (o:=.ins a.kO f (bfs c d)) D).trans (W _ _ J);have d4:=(qr (o:=.ins a.kO f (bfs c d)) q).trans d3;generalize upd (upd H2 d (.dK [])) x _=H4 at U x4 o4 d4 |-;have G:M≠x:=λz=>by rw[z,v]at r;cases r
  have rule:∀{H':Hp}{i:Nat}{y:V},SameBut x H H'->us[i]?=some y->RuN a.kE H' y (nm nms i) (qjv nms (bo bs i)):=λb e=>by obtain⟨p,F,fs,S,m,N,h3⟩:=g.2 _ _ e;refine⟨p,F,fs,S,b _ _ (λz=>?_) m,N,h3⟩;rw[z,v]at m;injection m with m;injection m with _ _ h5;rw[<- h5]at N;cases N
  refine(nmc Z ⟨_,Z,⟨_,SqL.of (U _ _ G r)⟩,qa5 (K:=K) (a:=M) (xs:=us) (λi σ H'=>SameBut x H H'/\H' x=some (.ins a.kO f (bfs c d))/\H' c=some (.lst ((qit nms bs nms.length).map V.str))/\∃(R:Option V)(kvs:List (Key×V)),σ=[some (.ref x),some (.ref M),R]/\H' d=some (.dK kvs)/\kvs.length<=i/\(kvs.map λkv=>kV kv.1)=(nms.take i).map V.str/\∀(j:Nat)(z:V),j<i->us[j]?=some z->qbf kvs (.inr (nm nms j))=some z)
   ⟨U,x4,o4,none,[],Z,d4,Am _,Z,λj z hj=>absurd hj (B2 _)⟩ (λi σ H' _ h=>SqL.of (h.1 _ _ G r)) ?_ ?_⟩)
  .rintro i y σ H' hy ⟨C,t,I,R,kvs,rfl,L,hl,u,hg⟩;have hi:i<nms.length:=by rw[<- g.1];exact(Ac.mp hy).1
   obtain⟨p,F,fs,rfl,r1,r2,r3⟩:=rule C hy;refine(nmc Z (nmc Z (flc (t) (T.gI) (qp T.bC Uk) (rfl) (nmc Z (flc (r1) (T.kG) (qp T.kH Uk) (r2) ⟨d,_,Z,DPut.k (k:=.inr (nm nms i)) L (by rw[B3];have:=B.sm;lia),?_⟩)))));exact⟨λb o n e=>by rw[qr (qae e nd)];exact C b o n e,(qr q.symm).trans t,(qr ad).trans I,_,_,Z,qk,A5 (qcu _ _ _) (C7 hl),bk_keys _ B.nd hi u,bk_get B.nd hi g.1 hy hg⟩
  .rintro σ H' ⟨C,t,I,R,kvs,rfl,L,hl,u,hg⟩;rw[g.1,Bq]at u;exact k H' C λH9 qcd=>⟨f,c,d,kvs,qcd _ _ (.inr (.inl Z)) t,qcd _ _ (.inl X) I,qcd _ _ (.inl nd) L,u,λj y e=>hg j y (Ac.mp e).1 e⟩
theorem qnd (T:Txt K mg a):FnOk P w K mg base CX0 5 a.hM a.sV ["self","week","yearly"] (spPInit a):=by
 refine T.pC.fn.ok qm4 (λvs H Q E h=>?_) (λcdv A outer s H vs Q E D h=>?_)
 .obtain⟨_,_,_,_,_,_,rfl,_⟩:=h
  all_goals rfl
 .obtain⟨x,e,pw,py,b,yr,rfl,hx,hw,hy,ae,F,k⟩:=h;refine⟨_,(qf (qy (zb (qpq T) (D.mono Uk) Z T.dG.mgx T.dG.fn.kp T.dG.bd .nil qac (qd (pv 1) qg qe)))
   (qf (qy (zb (qmq T) (D.mono Uk) Z T.fH.mgx T.fH.fn.kp T.fH.bd .nil qac (qd (pv 2) qg qe)))
   (qf (qaz (pv 0) (qc1 (N:=["within","week","yearly"]) (js:=[none,some 1,some 2]) (XN:=["self","week","yearly"]) (xs:=qaa qc3) Z Z Z Ez (qbq Z T.gB (qd (qby (v:=.int 371) Z T.fT.choose_spec ⟨_,Z⟩) qg qe)) (λ_ _ _ _ _ _=>(qad (i:=0) (show BD (["within","week","yearly"]:List Str) from by decide +kernel) Z (Au Z) (CG Z))) (λ_ _ _ _ _ _=>qel) (λ_ _ _ _ _ _=>(zb (qmp T) (D.mono Uk) Z T.bR.mgx T.bR.fn.kp T.bR.bd .nil qac (qd (pv 0) (qd (pv 1) (qd (pv 2) qg qe) qe) qe)))) Z)
   (qf (qaz (pv 0) (qc1 (N:=["within","self"]) (js:=[none,some 0]) (XN:=["self","week","yearly"]) (xs:=qaa qc3) Z Z Z Ez (qbq Z T.gB (qd (qby (v:=.int 371) Z T.fT.choose_spec ⟨_,Z⟩) qg qe)) (λ_ _ _ _ _ _=>(qad (i:=0) (show BD (["within","self"]:List Str) from by decide +kernel) Z (Au Z) (CG Z))) (λ_ _ _ _ _ _=>(qe9 (qdz (zd (zo (qp9 (K:=K) Z) (qko (K:=K) Z (pv 1) Z) (pv 0) (λ_ _=>rfl)))))) (λ_ _ _ _ _ _=>(pv 0))) Z)
   (qj (qaz (pv 0) (zb (qro T) (D.mono Uk) Z T.bV.mgx T.bV.fn.kp T.bV.bd .nil qac (qd (qab (pv 0) Z) qg qam)) Z)))))),?_⟩
  refine(nmc Z ⟨_,_,Z,hw,ae,λH1 s1=>?_⟩);refine(nmc Z ⟨_,_,Z,hy.same s1,F,λH2 s2=>?_⟩);have f:=s1.trans s2;have hly:=F.len;refine⟨_,Z,Uk,Uk,?_⟩;refine qnq (λv=>match v with | .int i=>.bl (fy b yr i)|_=>.non) (λσ'=>∃v,σ'=[v,some (.ref pw),some (.ref py)]) qem (fits (by rw[Ab,Aw];decide)) ⟨none,Z⟩ (λv σ' H' RR R n L q=>?_) qb8 λc y t s3 e3=>?_
  .obtain⟨v0,rfl⟩:=L;obtain⟨j,_,rfl⟩:=AS.mp R;exact(nmc Z (nmc Z (nmc Z ⟨_,_,_,_,_,Z,n _ _ (f _ _ hw),(hy.same f).same n,by lia,λr m=>q _ r ⟨_,Z⟩ m⟩)))
  have af:y c=some (.lst ((fdL b yr).map V.bl)):=by rw[e3];unfold fdL;rw[Cr,Cr];refine congrArg (λl=>some (HO.lst l)) (BI λj _=>?_);show V.bl (fy b yr (0+(j:Int)))=V.bl (fy b yr (j:Int));rw[Cq]
  have p:=f.trans s3;have ag:=p _ _ hx;refine(nmc Z ⟨_,_,_,_,Z,ag,T.kQ,qp T.gD Uk,Uk,?_⟩);rw[put1];have U:c≠x:=λz=>by rw[z,f _ _ hx]at t;cases t
  have I:SameBut x H (upd y x (.ins a.kK e [(Aa "free_days",.ref c)])):=(SameBut.of p).set;have O:=(qr (o:=.ins a.kK e [(Aa "free_days",.ref c)]) U).trans af;have C:=qk (H:=y) (a:=x) (o:=.ins a.kK e [(Aa "free_days",.ref c)]);generalize upd y x (.ins a.kK e [(Aa "free_days",.ref c)])=H4 at I O C |-;refine⟨_,Z,Uk,Uk,?_⟩;refine qdb (λv=>match v with | .int i=>!((fdL b yr).getD i.toNat true)|_=>false) (λv=>v) (λσ'=>∃v,σ'=[v,some (.ref x)]) qem (fits (by rw[Ab,Aw];decide)) ⟨none,Z⟩ (λv σ' H' N RR R n L kn W=>?_) qb8 λd g=>?_
  .obtain⟨v0,rfl⟩:=L;obtain⟨j,hj,rfl⟩:=AS.mp R;have ah:j<371:=by simpa using hj
   have ej:(0:Int)+(j:Int)=(j:Int):=Cq _;rw[ej]at kn W |-;have ad:j<(fdL b yr).length:=by rw[qfb];exact ah
   have eg:(fdL b yr)[j]?=some ((fdL b yr)[j]):=Ad ad;have eD:(fdL b yr).getD ((j:Int)).toNat true=(fdL b yr)[j]:=by rw[BW,Aj,eg];rfl
   refine(nmc Z (flc (n _ _ C) (T.kQ) (qp T.gD Uk) (rfl) (nmc Z (lxo (n _ _ O) (qbj (by rw[Ai,eg];rfl)) (nmc Z ?_)))));cases eb:(fdL b yr)[j] with|true=>exact qce (kn _ ⟨_,Z⟩ (by show (!_)=false;rw[eD,eb];rfl))|false=>exact qdm (nmc Z (W _ ⟨_,Z⟩ (by show (!_)=true;rw[eD,eb];rfl)))
  have m:=qx (o:=.lst ((((Ar (371:Int).toNat).map λi=>V.int (0+(i:Nat))).filter λv=>match v with | .int i=>!((fdL b yr).getD i.toNat true)|_=>false).map λv=>v)) g;have e5:upd H4 d (.lst ((((Ar (371:Int).toNat).map λi=>V.int (0+(i:Nat))).filter λv=>match v with | .int i=>!((fdL b yr).getD i.toNat true)|_=>false).map λv=>v)) d=some (.lst ((odL (fdL b yr)).map V.int)):=by
   rw[qk];refine congrArg (λl=>some (HO.lst l)) ?_;unfold odL;rw[List.map_id',List.filter_map,Cr,qfb];refine(congrArg _ (List.filter_congr λi _=>?_)).trans (BI λi _=>?_)
   .show (!((fdL b yr).getD (0+(i:Int)).toNat true))=_;rw[Cq,BW]
   .show V.int (0+(i:Int))=_;rw[Cq];rfl
  have x5:=m _ _ C;have X:=m _ _ O;generalize upd H4 d (.lst ((((Ar (371:Int).toNat).map λi=>V.int (0+(i:Nat))).filter λv=>match v with | .int i=>!((fdL b yr).getD i.toNat true)|_=>false).map λv=>v))=r at m e5 x5 X |-;refine(nmc Z ⟨_,_,_,_,Z,x5,T.kQ,qp T.gD Uk,(show 1<1000 by decide),?_⟩);rw[put2 _ _ Ez];have G:d≠x:=λz=>by rw[z,C]at g;cases g
  have S:SameBut x H (upd r x (.ins a.kK e [(Aa "free_days",.ref c),(Aa "open_days",.ref d)])):=(I.trans (SameBut.of m)).set;have M:=(qr (o:=.ins a.kK e [(Aa "free_days",.ref c),(Aa "open_days",.ref d)]) U).trans X;have o6:=(qr (o:=.ins a.kK e [(Aa "free_days",.ref c),(Aa "open_days",.ref d)]) G).trans e5;have u:=qk (H:=r) (a:=x) (o:=.ins a.kK e [(Aa "free_days",.ref c),(Aa "open_days",.ref d)]);generalize upd r x (.ins a.kK e [(Aa "free_days",.ref c),(Aa "open_days",.ref d)])=H6 at S M o6 u |-;refine(nmc Z (flc (u) (T.kQ) (qp T.gD Uk) (rfl) ⟨_,_,Z,M,by rw[qfb];decide,λY H7 J B e7=>?_⟩));have x7:=B _ _ u;refine(nmc Z ⟨_,_,_,_,Z,x7,T.kQ,qp T.gD Uk,(show 2<1000 by decide),?_⟩);rw[put3 _ _ _ Ez Ez];have m7:Y≠x:=λz=>by rw[z,u]at J;cases J
  refine k _ ((S.trans (SameBut.of B)).set) λH9 qcd=>⟨_,c,d,Y,qcd _ _ (.inr (.inl Z)) qk,qcd _ _ (.inl (f.free t)) ((qr U).trans (B _ _ M)),qcd _ _ (.inl (I.free G g)) ((qr G).trans (B _ _ o6)),qcd _ _ (.inl (S.free m7 J)) ((qr m7).trans e7),qfb _ _⟩
theorem qrq (T:Txt K mg a):FnOk P w K mg base CX0 7 a.hX a.lG ["self","week","yearly","rows"] (spTInit a):=by
 refine T.zA.fn.ok qj8 (λvs H Q E h=>?_) (λcdv A outer s H vs Q E J h=>?_)
 .obtain⟨_,_,_,_,_,_,_,_,rfl,_⟩:=h
  all_goals rfl
 .obtain⟨x,g,pw,vy,vr,p,yr,rs,rfl,hx,hw,hy,c9,bi,c7,hl,al,k⟩:=h;refine⟨_,(qf (qaz (pv 0) (qek T.zW (qnd T) (J.mono Uk) Z T.yU T.pC.bd .nil qac (qd (pv 1) (qd (zb (qez T) (J.mono Uk) Z T.gC.mgx T.gC.fn.kp T.gC.bd .nil qac (qd (pv 2) qg qe)) qg zj) qe)) Z)
   (qf (qy (zb (qpr T) (J.mono Uk) Z T.dE.mgx T.dE.fn.kp T.dE.bd .nil qac (qd (zb (qez T) (J.mono Uk) Z T.gC.mgx T.gC.fn.kp T.gC.bd .nil qac (qd (pv 3) qg qe)) qg zj)))
   (qf (qaz (pv 0) (zb (qvx T) (J.mono Uk) Z T.fE.mgx T.fE.fn.kp T.fE.bd .nil qac (qd (zb (qez T) (J.mono Uk) Z T.gC.mgx T.gC.fn.kp T.gC.bd .nil qac (qd (pv 3) qg qe)) qg zj)) Z)
   (qf (qaz (pv 0) (zg (qd qi qg ql)) Z)
   (qj (qa2 A7 Z (qap (qab (pv 0) Z)) (qad (i:=4) qj8.nd Z (Au Z)) (qj (qy (qca A3 AB AC qao (qab (pv 0) Z) (qd (qv qah (zo zq (qab (pv 0) Z) (qf3 qd1 qi) (λ_ _=>rfl)) (qal (pv 0) T.kM T.r9 (qi1 T) (J.mono Uk) T.lJ.bd .nil qac (qd (pv 4) (qd (qv qah (zo zp (pv 4) qi (λ_ _=>rfl)) qi) qg zl) qe))) qg zl)))))))))),?_⟩
  have W:∀r∈rs,r.1<=r.2.1:=λr hm=>(al r hm).2.1;obtain⟨bz,_⟩:=qwx W;have bu:=ov_nn λr hm=>(al r hm).1;have lO:(ov rs).length<=100:=A5 (qxp _) (A5 (qo3 W) (A5 (DO 3 hl) Uk));refine(nmc Z (nmc Z ?_));refine orP hy λpy H0 s0 bf=>?_;intro f ae nx nd ne;have keep:Same H0 (upd (upd H0 ae (.own f)) f (.ins a.kK ae [])):=λb u e=>by rw[qr (qae e nx),qr (qae e nd)];exact e
  refine⟨f,ae,_,_,_,_,Z,qk,keep _ _ (s0 _ _ hw),bf.same keep,bi,c7,λy b1 aq=>⟨Z,?_⟩⟩;have ay:=aq y λ_ _ _ e=>e;have s1:Same H y:=s0.trans (b1.made nx nd);have N:=s1 _ _ hx;have ad:f≠x:=λz=>by rw[z,s0 _ _ hx]at nx;cases nx
  refine(nmc Z ⟨_,_,_,_,Z,N,T.kM,qp T.kW Uk,Uk,?_⟩);rw[put1];have au:∀{H':Hp}{fs:List (Str×V)},H' x=some (.ins a.kI g fs)->PatAt a.kK H' f (fdL p yr)->∀o,PatAt a.kK (upd H' x o) f (fdL p yr):=λU ⟨d,a1,a2,a3,g1,I,L,F,g5⟩ o =>
   ⟨d,a1,a2,a3,by rw[qr ad];exact g1,by rw[qr (λz=>by rw[z,U]at I;cases I)];exact I,by rw[qr (λz=>by rw[z,U]at L;cases L)];exact L,by rw[qr (λz=>by rw[z,U]at F;cases F)];exact F,g5⟩
  have b2:SameBut x y (upd y x (.ins a.kI g [(Aa "pattern",.ref f)])):=(SameBut.of (Same.refl y)).set;have x2:=qk (H:=y) (a:=x) (o:=.ins a.kI g [(Aa "pattern",.ref f)]);have ak:=au N ay (.ins a.kI g [(Aa "pattern",.ref f)]);generalize upd y x (.ins a.kI g [(Aa "pattern",.ref f)])=H2 at b2 x2 ak |-;have aw:=(c9.same s1).but N b2;refine(nmc Z ?_);refine orR aw λpr Ha sa bc=>?_;refine⟨_,_,Z,bc,hl,al,λH3 s3=>?_⟩;refine(nmc Z ?_);refine orR ((aw.same sa).same s3) λpr' Hb sb bt=>?_;refine⟨_,_,Z,bt,W,A5 hl Uk,λq Y nq s4 bj=>?_⟩;have av:=(sa.trans s3).trans sb;have ah:=av.trans s4;have x4:=ah _ _ x2;refine(nmc Z ⟨_,_,_,_,Z,x4,T.kM,qp T.kW Uk,(show 1<1000 by decide),?_⟩);rw[put2 _ _ Ez];obtain⟨R,q4,t4⟩:=bj;have aj:q≠x:=λz=>by rw[z,x4]at q4;cases q4
  have b5:SameBut x y (upd Y x (.ins a.kI g [(Aa "pattern",.ref f),(Aa "rows",.ref q)])):=(b2.trans (SameBut.of ah)).set;have x5:=qk (H:=Y) (a:=x) (o:=.ins a.kI g [(Aa "pattern",.ref f),(Aa "rows",.ref q)]);have ai:=au x4 (ak.same ah) (.ins a.kI g [(Aa "pattern",.ref f),(Aa "rows",.ref q)]);have q5:=(qr (o:=.ins a.kI g [(Aa "pattern",.ref f),(Aa "rows",.ref q)]) aj).trans q4;have t5:Tups (upd Y x (.ins a.kI g [(Aa "pattern",.ref f),(Aa "rows",.ref q)])) R ((ov rs).map enc):=qin ((SameBut.of (Same.refl Y)).set) x4 t4;generalize upd Y x (.ins a.kI g [(Aa "pattern",.ref f),(Aa "rows",.ref q)])=H5 at b5 x5 ai q5 t5 |-;refine⟨fits (by show 1<=100000;decide),λz hz=>?_⟩;obtain⟨D,z6⟩:=alc (o:=.lst [V.int 0]) hz;have x6:=D _ _ x5;refine(nmc Z ⟨_,_,_,_,Z,x6,T.kM,qp T.kW Uk,(show 2<1000 by decide),?_⟩);rw[put3 _ _ _ Ez Ez];have af:z≠x:=λe=>by rw[e,x5]at hz;cases hz
  have bw:q≠z:=λe=>by rw[<- e,q5]at hz;cases hz
  have b7:SameBut x y (upd (upd H5 z (.lst [V.int 0])) x (.ins a.kI g (tfs f q z))):=(b5.trans (SameBut.of D)).set;have x7:=qk (H:=upd H5 z (.lst [V.int 0])) (a:=x) (o:=.ins a.kI g (tfs f q z));obtain⟨d5,a1,a2,a3,g1,I,L,F,g5⟩:=ai;have nz:∀{b:Addr}{o:HO},H5 b=some o->b≠z:=λh e=>by rw[e,hz]at h;cases h
  have X:∀{b:Addr}{l:List V},H5 b=some (.lst l)->b≠x:=λh e=>by rw[e,x5]at h;cases h
  have S:=PatAt.upd (o:=.ins a.kI g (tfs f q z)) (D _ _ g1) (D _ _ I) (D _ _ L) (D _ _ F) ad (X I) (X L) (X F);have q7:=(qr (o:=.ins a.kI g (tfs f q z)) aj).trans (D _ _ q5);have z7:=(qr (o:=.ins a.kI g (tfs f q z)) af).trans z6;have t7:Tups (upd (upd H5 z (.lst [V.int 0])) x (.ins a.kI g (tfs f q z))) R ((ov rs).map enc):=qin ((SameBut.of D).set) x5 t5;have ar:y z=none:=b5.free af hz;have c8:H q=none:=s1.free (b2.free aj (av.free nq));generalize upd (upd H5 z (.lst [V.int 0])) x (.ins a.kI g (tfs f q z))=H7 at b7 x7 S q7 z7 t7 |-;have ca:=At.len t7;let C:Nat->Int:=λk=>(((ov rs).take k).map λr=>shf (fdL p yr) r (r.2.1+1)).sum;refine(nmc Z (flc (x7) (T.kM) (qp T.kW Uk) (rfl) ⟨_,Z,⟨_,SqL.of q7⟩,qa5 (K:=K) (a:=q) (xs:=R) (λi σ H'=>SameBut x y H'/\H' x=some (.ins a.kI g (tfs f q z))/\(H' f=some (.ins a.kK d5 (pfs a1 a2 a3))/\H' a1=some (.lst ((fdL p yr).map V.bl))/\H' a2=some (.lst ((odL (fdL p yr)).map V.int))/\H' a3=some (.lst ((cuL (fdL p yr)).map V.int)))/\H' q=some (.lst R)/\Tups H' R ((ov rs).map enc)/\H' z=some (.lst (((Ar (i+1)).map C).map V.int))/\∃v:Option V,σ=[some (.ref x),some (.ref pw),some vy,some vr,v])
   ⟨b7,x7,S,q7,t7,z7,none,Z⟩ (λi σ H' _ h=>SqL.of h.2.2.2.1) ?_ ?_⟩))
  .rintro i w0 σ H8 bq ⟨O,G,j,q8,t8,M,v,rfl⟩;obtain⟨c,t,rfl,w1,w2⟩:=t8.get' bq;obtain⟨r,w3,rfl⟩:=qks w1;have hi:i<(ov rs).length:=(Ac.mp w3).1;have r0:=bu r (A0 w3);have r1:=bz.ok r (A0 w3);have eL:∀m,((Ar (m+1)).map C).map V.int=((Ar m).map C).map V.int++[V.int (C m)]:=λm=>by rw[By,Ax,Ax];rfl
   have bh:(((Ar (i+1)).map C).map V.int).length<=90000:=by rw[Ab,Ab,Aw];exact A5 (Nat.succ_le_of_lt (A2 hi lO)) Uk
   have am:=M;rw[eL]at am;refine(nmc Z (flc (G) (T.kM) (qp T.kW Uk) (rfl) ⟨.inl ⟨Z,_,SqL.of M⟩,(nmc Z (flc (G) (T.kM) (qp T.kW Uk) (rfl) (nmc Z (lxo (am) (qd2 _ _) (nmc Z ⟨_,_,_,Z,G,Z,(nmc Z (nmc Z (txo (w2) Z (iic Z Z ⟨_,_,_,_,_,_,_,_,_,Z,G,⟨_,_,_,_,j.1,j.2.1,j.2.2.1,j.2.2.2,qfb _ _⟩,w2,r0,DW (Bt r0 r1),λH9 B=>?_⟩))))⟩)))))⟩));refine(iic Z Z ⟨_,_,_,Z,Z,B _ _ M,qbm bh,?_⟩);have es:C i+shf (fdL p yr) r (r.2.1+1)=C (i+1):=by show _=((((ov rs).take (i+1)).map λr=>shf (fdL p yr) r (r.2.1+1)).sum);rw[qcx w3,Ax,List.sum_append];simp[C]
   dsimp only[];rw[es,<- eL (i+1)];refine⟨λb o n e=>by rw[qr (qae e ar)];exact B _ _ (O b o n e),by rw[qr af.symm];exact B _ _ G,?_,by rw[qr bw];exact B _ _ q8,(t8.same B).upd (B _ _ M),qk,_,Z⟩;exact PatAt.upd (B _ _ j.1) (B _ _ j.2.1) (B _ _ j.2.2.1) (B _ _ j.2.2.2) (nz g1) (nz I) (nz L) (nz F)
  .rintro σ H8 ⟨O,G,j,q8,t8,M,v,rfl⟩;rw[ca]at M;refine k H8 ((SameBut.of s1).trans O) λH9 qcd=>⟨g,f,q,z,qcd _ _ (.inr (.inl Z)) G,aq H9 λb o hb ho=>?_,⟨R,qcd _ _ (.inl c8) q8,qvn qcd t8⟩,qcd _ _ (.inl (s1.free ar)) M⟩;rcases hb with hb|rfl|⟨t,rfl⟩
   .have ag:=(s0.trans keep).free hb;exact qcd _ _ (.inl ag) (O _ _ (λe=>by rw[e,hx]at ag;cases ag) ho)
   .exact qcd _ _ (.inl (s0.free nx)) (O _ _ ad ho)
   .exact qcd _ _ (.inr (.inr ⟨t,Z⟩)) (O _ _ (λe=>by rw[e,N]at ho;cases ho) ho)
theorem okLaw (T:Txt K mg a){cL W:Addr}(hcl:a.bL.code=.ref cL)(LF:Lam.LamF mg base cL W):FnOk P w K mg base CX0 25 a.mG a.nK ["_law_script"] (qpi K W):=by
 refine T.zR.fn.ok qc5 (λvs H Q E h=>?_) (λcdv A outer s H vs Q E I h=>?_)
 .obtain⟨_,_,rfl,_⟩:=h
  all_goals rfl
 .obtain⟨l,m,rfl,hS,hlen,o0,k⟩:=h;refine⟨_,(qf (qu (i:=1) qc5.nd Z (Au Z) (zc qot (by rfl) T.nH boot_sorted (qd (zb (qmr T) (I.mono Uk) Z T.gK.mgx T.gK.fn.kp T.gK.bd .nil qac (qd (zb (qeo T) (I.mono Uk) Z T.gA.mgx T.gA.fn.kp T.gA.bd .nil qac (qd (pv 0) (qd qi qg ql) qe)) (qd qi qg ql) zj)) qg zj)))
   (qf (qu (i:=2) qc5.nd Z (Au Z) (zb (qmr T) (I.mono Uk) Z T.gK.mgx T.gK.fn.kp T.gK.bd .nil qac (qd (zb (qeo T) (I.mono Uk) Z T.gA.mgx T.gA.fn.kp T.gA.bd .nil qac (qd (pv 0) (qd qi qg ql) qe)) (qd qi qg ql) zj)))
   (qf (qu (i:=3) qc5.nd Z (Au Z) (zb (qv6 T) (I.mono Uk) Z T.dW.mgx T.dW.fn.kp T.dW.bd .nil qac (qd (pv 0) (qd (pv 1) (qd (pv 2) qg qe) qe) qe)))
   (qf (qfa (i:=4) qc5.nd Z Z (N:=["_law_k","_law_script"]) (js:=[none,some 0]) (XN:=["_law_script","_law_names","_law_kinds","_law_rules","_law_week","_law_first","_law_acts_here","_law_book_here","_law_table","_law_told","_law_rule_here","_law_chain_here","_law_named_here","_law_idle","_law_some","_law_more","_law_tries","_law_lost","_law_other"]) (xs:=qaa qmz) Z Z Z Ez (qbq Z T.gB (qd (qv qas (zb (qbi T) (I.mono Uk) Z T.kL.mgx T.kL.fn.kp T.kL.bd .nil qac (qd (pv 0) (qd qi qg ql) qe)) qi) qg zl)) (λ_ _ _ _ _ _=>(qad (i:=0) (show BD (["_law_k","_law_script"]:List Str) from by decide +kernel) Z (Au Z) (CG Z))) (λ_ _ _ _ _ _=>qel) (λ_ _ _ _ _ _=>(qv qah qi (qv qas (qv qah (qv qav (zb (qbi T) (I.mono Uk) Z T.kL.mgx T.kL.fn.kp T.kL.bd .nil qac (qd (pv 1) (qd qi qg ql) qe)) qi) (pv 0)) qi))))
   (qf (qu (i:=5) qc5.nd Z (Au Z) (qv qas (zb (qeo T) (I.mono Uk) Z T.gA.mgx T.gA.fn.kp T.gA.bd .nil qac (qd (pv 0) (qd qi qg ql) qe)) (qv op_pow qi qi)))
   (qf (qu (i:=6) qc5.nd Z (Au Z) (zb (qv7 T) (I.mono Uk) Z T.dP.mgx T.dP.fn.kp T.dP.bd .nil qac (qd (pv 0) (qd (pv 3) (qd (pv 1) (qd (pv 5) (qd (zc (qnf Z) (by rfl) T.sI qqn (qd qi (qd (zc (qi6 Z) (by rfl) T.fN qlu (qd qi (qd (qv qbr (zc qbs (by rfl) T.kX qbv (qd (pv 0) qg qe)) qi) qg zl) ql)) qg zj) ql)) qg zj) qe) qe) qe) qe)))
   (qf (qu (i:=7) qc5.nd Z (Au Z) (qek T.yI (qs2 T) (I.mono Uk) Z T.zO T.yH.bd .nil qac (qd (pv 3) qg qe)))
   (qf (qu (i:=8) qc5.nd Z (Au Z) (qek T.zX (qrq T) (I.mono Uk) Z T.zM T.zY (dvs:=[.non,.non]) (.cons Z (.cons Z .nil)) qac (qd (pv 4) qg qe)))
   (qf (qu (i:=9) qc5.nd Z (Au Z) (zb (qoc T hcl LF) (I.mono Uk) Z T.gT.mgx T.gT.fn.kp T.gT.bd .nil qac (qd (pv 7) (qd (pv 8) (qd (pv 6) qg qe) qe) qe)))
   (qf (qz (qdz (zd (zb (qs1 T) (I.mono Uk) Z T.dI.mgx T.dI.fn.kp T.dI.bd .nil qac (qd (pv 9) qg qe)))) (qj (qo qck)) qag)
   (qf (qa2 A7 Z (qap (pv 3)) (qad (i:=10) qc5.nd Z (Au Z)) (qf (qu (i:=11) qc5.nd Z (Au Z) (zb (qs0 T) (I.mono Uk) Z T.dC.mgx T.dC.fn.kp T.dC.bd .nil qac (qd (pv 3) (qd (qab (pv 10) Z) qg qam) qe)))
   (qf (qu (i:=12) qc5.nd Z (CG Z) (zb (qms T) (I.mono Uk) Z T.gR.mgx T.gR.fn.kp T.gR.bd .nil qac (qd (pv 9) (qd (pv 11) qg qe) qe)))
   (qf (qfa (i:=13) qc5.nd Z Z (N:=["_law_act","_law_named_here"]) (js:=[none,some 12]) (XN:=["_law_script","_law_names","_law_kinds","_law_rules","_law_week","_law_first","_law_acts_here","_law_book_here","_law_table","_law_told","_law_rule_here","_law_chain_here","_law_named_here","_law_idle","_law_some","_law_more","_law_tries","_law_lost","_law_other"]) (xs:=qaa qmz) Z Z Z Ez (qap (pv 6)) (λ_ _ _ _ _ _=>(qad (i:=0) (show BD (["_law_act","_law_named_here"]:List Str) from by decide +kernel) Z (Au Z) (CG Z))) (λ_ _ _ _ _ _=>(qe9 (qt (qnx (K:=K) Z) (zo (qta (K:=K) Z) (pv 0) qi (λ_ _=>rfl)) (pv 1) (by with_unfolding_all rfl)))) (λ_ _ _ _ _ _=>(pv 0)))
   (qf (qu (i:=14) qc5.nd Z (Au Z) (zb (qps T) (I.mono Uk) Z T.dH.mgx T.dH.fn.kp T.dH.bd .nil qac (qd (pv 3) (qd (pv 11) (qd (pv 2) qg qe) qe) qe)))
   (qf (qu (i:=15) qc5.nd Z (Au Z) (zh (qd (zo zq (pv 1) qi (λ_ _=>rfl)) (qd (zo zq (pv 14) (qv qas (zb (qbi T) (I.mono Uk) Z T.kL.mgx T.kL.fn.kp T.kL.bd .nil qac (qd (pv 0) (qd qi qg ql) qe)) (zc qbs (by rfl) T.kX qbv (qd (pv 14) qg qe))) (λ_ _=>rfl)) (qd (qv qah (pv 5) (qv qas (qv qav (zb (qbi T) (I.mono Uk) Z T.kL.mgx T.kL.fn.kp T.kL.bd .nil qac (qd (pv 0) (qd qi qg ql) qe)) qi) qi)) qg zl) zm) zm)))
   (qf (qu (i:=16) qc5.nd Z (Au Z) (zg (qd (qc1 (N:=["_law_act","_law_named_here"]) (js:=[none,some 12]) (XN:=["_law_script","_law_names","_law_kinds","_law_rules","_law_week","_law_first","_law_acts_here","_law_book_here","_law_table","_law_told","_law_rule_here","_law_chain_here","_law_named_here","_law_idle","_law_some","_law_more","_law_tries","_law_lost","_law_other"]) (xs:=qaa qmz) Z Z Z Ez (qap (pv 6)) (λ_ _ _ _ _ _=>(qad (i:=0) (show BD (["_law_act","_law_named_here"]:List Str) from by decide +kernel) Z (Au Z) (CG Z))) (λ_ _ _ _ _ _=>(qe9 (qt (qxe (K:=K) Z) (zo (qta (K:=K) Z) (pv 0) qi (λ_ _=>rfl)) (pv 1) (by with_unfolding_all rfl)))) (λ_ _ _ _ _ _=>(pv 0))) (qd (qv qk7 (pv 6) (zg (qd (pv 15) qg qe))) qg zl) qf7)))
   (qf (qz (qt (qw4 I.units) (pv 13) (zg qg) (qaf _)) (qf (qu (i:=17) qc5.nd Z (CG Z) (zo zq (pv 13) (qv qas (qv qav (zb (qbi T) (I.mono Uk) Z T.kL.mgx T.kL.fn.kp T.kL.bd .nil qac (qd (pv 0) (qd qi qg ql) qe)) qi) (zc qbs (by rfl) T.kX qbv (qd (pv 13) qg qe))) (λ_ _=>rfl)))
   (qj (qy (qca A3 AB AC qao (pv 16) (qd (qc1 (N:=["_law_act","_law_lost"]) (js:=[none,some 17]) (XN:=["_law_script","_law_names","_law_kinds","_law_rules","_law_week","_law_first","_law_acts_here","_law_book_here","_law_table","_law_told","_law_rule_here","_law_chain_here","_law_named_here","_law_idle","_law_some","_law_more","_law_tries","_law_lost","_law_other"]) (xs:=qaa qmz) Z Z Z Ez (qap (pv 6)) (λ_ _ _ _ _ _=>(qad (i:=0) (show BD (["_law_act","_law_lost"]:List Str) from by decide +kernel) Z (Au Z) (CG Z))) (λ_ _ _ _ _ _=>(qe9 (qt (op_neTK (K:=K) Z I.units0) (pv 0) (pv 1) (qaf _)))) (λ_ _ _ _ _ _=>(pv 0))) qg qf7))))) qag)
   (qj (qa2 A7 Z (qap (pv 16)) (qad (i:=18) qc5.nd Z (Au Z)) (qj (qz (qt (op_neDk I.units) (qc0 (qch I) (zb (qoc T hcl LF) (I.mono Uk) Z T.gT.mgx T.gT.fn.kp T.gT.bd .nil qac (qd (pv 7) (qd (pv 8) (qd (pv 18) qg qe) qe) qe)) (qab (pv 10) Z) (λ_ _=>rfl)) (qc0 (qch I) (pv 9) (qab (pv 10) Z) (λ_ _=>rfl)) (qaf _)) (qj (qo qck)) qag))))))))))))
   (qj (qo qck))))))))))))),?_⟩
  refine(nmc Z ⟨_,_,_,Z,hS,Uk,_,26,Z,Uk,λqw H1 nw s1 e1=>?_⟩);refine⟨_,_,Z,SqL.of e1,(by rw[qkv];decide),λpn D ot ie=>?_⟩;have ln:D.length=26:=ie.length_eq.trans (qkv _ _);have nd:D.Nodup:=ie.nodup_iff.mpr wds_nd;obtain⟨s2,e2⟩:=alc (o:=.lst (D.map V.str)) ot;generalize upd H1 pn _=H2 at s2 e2 |-;have sA:=s1.trans s2;refine(nmc Z ⟨_,_,_,Z,sA.seq hS,Uk,_,12,Z,Uk,λpk H3 nk s3 e3=>?_⟩);have sB:=sA.trans s3;have jz:=s3 _ _ e2;have mt:(wds (cell m 3) 12).length=12:=qkv _ _;have j5:(wds (cell m 3) 12).Nodup:=wds_nd12;generalize wds (cell m 3) 12=kinds at e3 mt j5;refine(nmc Z (nmc Z (nmc Z ⟨l,pn,pk,m,D,kinds,Z,sB.seq hS,jz,ln,e3,(by lia),λY H4 us Ts rv nr s4 l1 l4 tok ka gt rm=>?_⟩)));dsimp only[qbk,AM,AN];have sC:=sB.trans s4;have jb:=s4 _ _ jz;have o3:=s4 _ _ e3;have R4:RsL a H4 us (if rv=true then Ts.reverse else Ts) D:=rm.same (qt7 λb o _ e=>e);obtain⟨nW,hnW,nW6⟩:∃n:Nat,qc7 m 2 % 7=(n:Int)/\n<=6:=⟨(qc7 m 2 % 7).toNat,by lia,by lia⟩;refine(nmc Z ⟨l,m,2,Z,sC.seq hS,Uk,Uk,(icc Z Z (pos Uk) ⟨_,Z,by lia,by lia,?_⟩)⟩);let fW:V->V:=λv=>match v with
   |.int j=>.int (1+(qc7 m 2 / 7+j) % 7)
   |_=>.non
  refine qe2 fW (λσ'=>∃v,σ'=[v,some (.ref l)]) qem (fits (by rw[Ab,Aw];lia)) ⟨none,Z⟩ (λv σ' H' RR G sm s4 qq=>?_) qb8 λO lx=>?_
  .obtain⟨v0,rfl⟩:=s4;obtain⟨j,hj,rfl⟩:=AS.mp G;have qq:=qq [some (.int (0+(j:Int))),some (.ref l)] ⟨_,Z⟩;exact(nmc Z ⟨l,m,2,Z,(sC.trans sm).seq hS,Uk,Uk,(icc Z Z ⟨Uk,Uk⟩ (nmc Z (iic Z Z (icc Z Z (pos Uk) (iic Z Z qq)))))⟩)
  have eW:((Ar (qc7 m 2 % 7).toNat).map λ(j:Nat)=>V.int (0+(j:Int))).map fW=(wkF (qc7 m 2) nW).map V.int:=by unfold wkF;rw[hnW,BW,Cr,Cr];refine BI λj _=>?_;show V.int (1+(qc7 m 2 / 7+(0+(j:Int))) % 7)=V.int (1+(qc7 m 2 / 7+(j:Int)) % 7);rw[Cq]
  rw[eW];obtain⟨sW,eK⟩:=alc (o:=.lst ((wkF (qc7 m 2) nW).map V.int)) lx;generalize upd H4 O _=H5 at sW eK |-;clear eW;have gc:=wk_ok (qc7 m 2) nW6;generalize hwk:wkF (qc7 m 2) nW=wk at eK gc |-;have sD:=sC.trans sW;dsimp only[qbk,AM,AN];refine(nmc Z ⟨_,_,_,Z,sD.seq hS,Uk,(icc Z Z ⟨Uk,Uk,Uk⟩ (icc Z Z (pos Uk) ?_))⟩);have f0:=BQ (cell m 0) (show (10:Int) ^ (60:Int).toNat≠0 by decide);dsimp only[qbk,AM,AN];generalize cell m 0 % _=first at f0 |-
  obtain⟨LL,eLL⟩:∃LL:List TD,LL=if rv=true then Ts.reverse else Ts:=⟨_,Z⟩;rw[<- eLL]at R4;have ow:LL.length=Ts.length:=by rw[eLL];split <;>simp
  have ig:∀t,t∈LL↔t∈Ts:=λt=>by rw[eLL];split <;>simp
  have ic:∀t∈LL,∃k,TdOk D t k:=λt ht=>by obtain⟨k,S⟩:=Bc ((ig t).mp ht);exact⟨k,tok k t S⟩
  obtain⟨al,em,m2,m12⟩:∃al:Nat,(if (if 2<((m.map V.int).length:Int)-6 then ((m.map V.int).length:Int)-6 else 2)<12 then (if 2<((m.map V.int).length:Int)-6 then ((m.map V.int).length:Int)-6 else 2) else 12)=(al:Int)/\2<=al/\al<=12:=⟨(if (if 2<((m.map V.int).length:Int)-6 then ((m.map V.int).length:Int)-6 else 2)<12 then (if 2<((m.map V.int).length:Int)-6 then ((m.map V.int).length:Int)-6 else 2) else 12).toNat,by split <;>split <;>lia,by split <;>split <;>lia,by split <;>split <;>lia⟩;refine(nmc Z (nmc Z (nmc Z (nmc Z (nmc Z ⟨_,_,Z,.inl ⟨_,sD.seq hS,Z⟩,(iic Z Z ⟨_,_,Z,_,_,Z,l,Y,pn,m,D,us,LL,first,al,(by rw[<- em];rfl),sD.seq hS,sW _ _ gt,R4.same sW,by lia,by lia,?_,?_,sW _ _ jb,ln,nd,f0,by lia,λpa H6 uA am di na s6 ea ta la a1 a2 ip fa=>?_⟩)⟩)))))
  .intro t ht;obtain⟨k,S⟩:=ic t ht;exact S.ls
  .have e0:=Ad (show 0<Ts.length by lia);refine⟨_,(ig _).mpr (A0 e0),(tok 0 _ e0).op ?_⟩;cases eb:Ts[0].base with|none=>rfl|some b=>exact absurd ((tok 0 _ e0).ba b eb) (B2 _)
  clear em;rw[start19 (v:=V.ref l)]
  rotate_left
  .rfl
  dsimp only[qbk,AM,AN];have sE:=sD.trans s6;have il:=qb1 ta λb u e=>(qmd e).2;have dz:=nma_nd ln nd a1 a2 (by lia) ip;have om:=il.length;rw[Ab]at om;have bf:Same H4 H6:=sW.trans s6;obtain⟨n,en⟩:∃n,n=Ts.length:=⟨_,Z⟩;obtain⟨Tt,hTt⟩:∃Tt:Nat->TD,∀k<n,Ts[k]?=some (Tt k):=⟨λk=>Ts.getD k (Ts[0]'(by lia)),λk S=>by dsimp only;rw[Aj,Ad (by lia)];rfl⟩;have ai:∀k<n,TdOk D (Tt k) k:=λk S=>tok k _ (hTt k S);have ju:∀j<n,LL[j]?=some (Tt (fR rv n j)):=λj hj=>by
   rw[<- hTt _ (qci hj),eLL];unfold fR;split
   .rw[CZ (by lia),en]
   .rfl
  have gu:us.length=n:=by rw[R4.1,ow,en]
  have n4:n<=4:=by lia
  have fq:∀{J:Hp},Same H6 J->∀j<n,∃rl,us[j]?=some (.ref rl)/\RuleB a J rl (Tt (fR rv n j)) (bvN D (Tt (fR rv n j)).base):=λ{J} z j hj=>by obtain⟨rl,r1,r2⟩:=R4.2 j _ (ju j hj);exact⟨rl,r1,r2.same (bf.trans z)⟩
  have dv:=wd_F (rv:=rv) ai n4 ln nd;obtain⟨lo,eO,gO,aO⟩:=qrg dv _ (Am _);rw[qft]at gO aO eO;have gx:lo.length=n:=by rw[(qy5 gO.nd gO.lt aO).length_eq,Aw]
  refine(nmc Z (λbk i9 j7 iw neb=>?_));have dr:Same H6 (upd (upd H6 i9 (.own bk)) bk (.ins a.kO i9 [])):=qjr j7 iw;refine⟨bk,i9,Y,us,nmF D rv n,bsF Tt rv n,rkF rv n,Z,qk,dr _ _ (bf _ _ gt),RsL.rules gu (fq dr) ai,dv,λcp mj fg=>⟨Z,?_⟩⟩;have i6:Same H6 cp:=mj.made j7 iw;have bi:=fg cp λb o _ e=>e;rw[qft,eO]at bi;have jt:=book_F ai n4 ln nd (fq i6) gO gx bi;obtain⟨T0,_⟩:=ts_F (rv:=rv) ai n4 ln nd gO gx;dsimp only[qbk,AM,AN];have mi:=(s6.trans i6) _ _ eK;refine(nmc Z (λtb ft jd jw net=>?_));have ij:Same cp (upd (upd cp ft (.own tb)) tb (.ins a.kI ft [])):=qjr jd jw;refine⟨tb,ft,O,.non,.non,wk,[],[],Z,qk,ij _ _ mi,.inl ⟨Z,Z⟩,.inl ⟨Z,Z⟩,gc,okY0,Uk,okR0,λae rh tab=>⟨Z,?_⟩⟩;have jg:Same cp ae:=rh.made jd jw;have iy:PartsOk wk [] []:=⟨gc,okY0,AU _,okR0⟩;dsimp only[qbk,AM,AN];have ad:Same H6 ae:=i6.trans jg;have U:ae W=some (.tbl #[]):=(sE.trans ad) _ _ o0;have fu:=jt.same jg;have bt:TabAt a.kK a.kI ae tb (fdL wk []) (ov []):=tab ae λb o _ e=>e;have c8:=iy.tab;have dt:=ls_ex55 iy;have iq:=RsL.rules gu (fq ad) ai;have gp:=link_F (rv:=rv) ai n4 ln nd gO gx;have ki:∀k<n,KiT kinds (Tt k):=λk S=>ka _ (A0 (hTt k S));clear bi jt fg;generalize tsF Tt rv n lo=ts at fu T0 gp;generalize fdL wk []=bs at bt c8 dt;generalize (ov []:List Rw)=rs at bt c8 dt;have ag:=ad _ _ ea;have ar:=il.same ad;have bq:=(bf.trans ad) _ _ gt;have ko:=(bf.trans ad) _ _ jb;have km:=(bf.trans ad) _ _ o3;have o1:=R4.same (bf.trans ad);have i4:=(sE.trans ad).seq hS;have c7:∀{ax:List Act},ax.Perm am->∀t∈ax,0<=t.2.2:=λ{ax} p t ht=>Bt f0 (fa t (p.mem_iff.mp ht));have me:Lam.LamAt ae W ioP ioQ:=.inl U;refine(nmc Z (nmc Z (nmc Z ⟨bk,tb,pa,uA,am,n,ts,bs,rs,Z,T0,fu,bt,c8,dt,ag,ar,by lia,c7 (.refl _),me,λd H17 aw q y p4 p6 lh mh cz gj dc kr kz ma=>?_⟩)));refine gn2 (σ':=[some (.ref l),some (.ref pn),some (.ref pk),some (.ref Y),some (.ref O),some (.int first),some (.ref pa),some (.ref bk),some (.ref tb),some (.ref d),none,none,none,none,none,none,none,none,none]) rfl ?_;have ldue:aw.length=al:=cz.length_eq.trans la;have mz:(aw.map (·.1)).Nodup:=(cz.map (·.1)).nodup_iff.mpr dz;have dj:∀i<n,(nmR (qb5 bs rs ts n aw i)).Nodup/\(nmR (qb5 bs rs ts n aw i)).length<=20:=λi F=>by obtain⟨h1,h2⟩:=nm_nd (bs:=bs) (rs:=rs) (ts:=ts) (n:=n) (i:=i) aw (λ_=>[]) mz;refine⟨h1,?_⟩;have h3:=h1.length_le_of_subset h2;rw[Af,Ab]at h3;have h4:(nmR []).length=0:=rfl;exact A5 h3 (by lia)
  obtain⟨Zq,eZ⟩:∃Zq,Zq=qb5 bs rs ts n aw:=⟨_,Z⟩;rw[<- eZ]at dc kr kz ma dj;refine(nmc Z ⟨d,bs,rs,ts,Zq,n,q,y,p4,p6,Z,dc,T0,dj,λak fe=>⟨_,Z,qce ?_⟩⟩);have io:TdA bs rs ts Zq n ak ⟨d,q,y,p4,p6⟩:=dc.same fe;have ga:=mh.same fe;obtain⟨ps18,kj⟩:=ga.tbl;have av:SameBut W ae ak:=λb o B e=>fe _ _ (lh b o B e);refine(nmc Z ⟨_,Z,⟨_,SqL.of ((KpT.of U av).l bq)⟩,qa5 (K:=K) (a:=Y) (xs:=us) (λi σ J=>SameBut W ak J/\Lam.LamAt J W ioP ioQ/\∃gs dw cr bj bc aq aj af R:Option V,σ=[some (.ref l),some (.ref pn),some (.ref pk),some (.ref Y),some (.ref O),some (.int first),some (.ref pa),some (.ref bk),some (.ref tb),some (.ref d),gs,dw,cr,bj,bc,aq,aj,af,R]) ⟨λb o _ e=>e,ga,_,_,_,_,_,_,_,_,_,Z⟩ (λi σ J _ h=>SqL.of ((KpT.of U (λb o B e=>h.1 b o B (av b o B e))).l bq)) ?_ ?_⟩)
  .rintro j v σ J G ⟨i5,hL,gs,dw,cr,bj,bc,aq,aj,af,R,rfl⟩;have ib:SameBut W ae J:=λb o B e=>i5 b o B (av b o B e);have kJ:=KpT.of U ib;have hj:j<n:=by rw[<- gu];exact(Ac.mp G).1
   obtain⟨rl,oo,ou,rfl,r1,r2,r3⟩:=iq.2 j v G;have rn:∀{J:Hp},SameBut W ae J->J rl=some (.ins a.kE oo ou):=λ{J} z=>KpT.of U z _ _ (λ_ z=>nomatch z) r1;refine gn2 (σ':=[some (.ref l),some (.ref pn),some (.ref pk),some (.ref Y),some (.ref O),some (.int first),some (.ref pa),some (.ref bk),some (.ref tb),some (.ref d),some (.ref rl),dw,cr,bj,bc,aq,aj,af,R]) rfl ?_;have cx:(nmF D rv n).length=n:=qft;have jc:∀i<n,∃k,k<n/\(ts i).name=nm (nmF D rv n) k/\baV ts (ts i).base=qjv (nmF D rv n) (bo (bsF Tt rv n) k)/\qbx (ts i)=qbx (Tt (fR rv n k)):=λi F=>by obtain⟨k,h1,_,h2,h3,h4⟩:=gp i F;exact⟨k,h1,h2,h3,h4⟩
   have bi:∀k<n,∃i,i<n/\(ts i).name=nm (nmF D rv n) k:=λk S=>by obtain⟨i,F⟩:=Bc (aO k S);have li:=(Ac.mp F).1;obtain⟨k',h1,h2,h3,_⟩:=gp i (by lia);rw[F]at h2;cases h2;exact⟨i,by lia,h3⟩
   obtain⟨X,hpos⟩:∃X:Nat->Nat,∀k<n,X k<n/\(ts (X k)).name=nm (nmF D rv n) k:=by
    have:∀k,∃i,k<n->i<n/\(ts i).name=nm (nmF D rv n) k:=λk=>by
     by_cases h:k<n
     .obtain⟨i,h1,h2⟩:=bi k h;exact⟨i,λ_=>⟨h1,h2⟩⟩
     .exact⟨0,λz=>absurd z h⟩
    obtain⟨X,h⟩:=Classical.axiomOfChoice this;exact⟨X,h⟩
   have ay:∀{J':Hp},SameBut W J J'->SameBut W ak J'/\SameBut W ae J':=λ{J'} z=>⟨λb o B e=>z b o B (i5 b o B e),λb o B e=>z b o B (ib b o B e)⟩;have jv:∀{J':Hp},SameBut W ak J'->TdA bs rs ts Zq n J' ⟨d,q,y,p4,p6⟩:=λ{J'} z=>told_kp io λb o hb e=>z b o (cel_ne io kj hb e) e;refine(nmc Z (nmc Z (flc (rn ib) (T.kG) (qp T.kH Uk) (r2) ⟨Y,us,nmF D rv n,bsF Tt rv n,rkF rv n,j,Z,kJ.l bq,rules_T kJ iq,dv,(by rw[cx];exact hj),λqc J1 ks nqc s1 ec l7 se dm=>?_⟩)));refine gn2 (σ':=[some (.ref l),some (.ref pn),some (.ref pk),some (.ref Y),some (.ref O),some (.int first),some (.ref pa),some (.ref bk),some (.ref tb),some (.ref d),some (.ref rl),some (.ref qc),cr,bj,bc,aq,aj,af,R]) rfl ?_;have oz:J1 qc=some (.lst (((ks.map X).map λi=>(ts i).name).map V.str)):=by
    rw[ec,Cr (f:=X)]
    congr 3
    refine BI λk S=>?_;exact(hpos k (by rw[<- cx];exact(dm k S).1)).2.symm
   obtain⟨kh,sb1b⟩:=ay (J':=J1) (λb o _ e=>s1 b o e);have T1:=jv kh;have jl:∀i∈ks.map X,i<n:=λi F=>by obtain⟨k,S,rfl⟩:=AS.mp F;exact(hpos k (by rw[<- cx];exact(dm k S).1)).1
   refine(nmc Z (nmc Z ⟨d,qc,bs,rs,ts,Zq,n,q,y,p4,p6,ks.map X,Z,⟨.inl T1.1,T1.2⟩,T0,oz,jl,(by rw[Ab];exact l7),(λi F=>(dj i F).2),λqn J2 nqn s2 i7=>?_⟩));refine gn2 (σ':=[some (.ref l),some (.ref pn),some (.ref pk),some (.ref Y),some (.ref O),some (.int first),some (.ref pa),some (.ref bk),some (.ref tb),some (.ref d),some (.ref rl),some (.ref qc),some (.ref qn),bj,bc,aq,aj,af,R]) rfl ?_;have cl:=chain_cl T0 dv cx (λi F=>by obtain⟨k,h1,h2,h3,_⟩:=jc i F;exact⟨k,h1,h2,h3⟩) dm;obtain⟨chn,ech⟩:∃chn,chn=ks.map (nm (nmF D rv n)):=⟨_,Z⟩;rw[<- ech]at ec cl;obtain⟨C,hC⟩:∃C:Nat->Prop,C=λi=>i<n/\(ts i).name∈chn:=⟨_,Z⟩;rw[<- hC]at cl;have lL:=qpm (λi F=>(dj i F).2) (ks.map X) jl;rw[Ab]at lL;have fh:∀x,x∉((ks.map X).flatMap λi=>nmR (Zq i))->∀i,C i->x∉nmR (qb5 bs rs ts n aw i):=λx hx i F h=>by rw[hC,ech]at F;obtain⟨F,hm⟩:=F;obtain⟨k,S,e⟩:=AS.mp hm;obtain⟨h1,h2⟩:=hpos k (by rw[<- cx];exact(dm k S).1);have:=T0.nn _ h1 i F (h2.trans e);rw[<- eZ]at h;exact hx (List.mem_flatMap.mpr ⟨X k,List.mem_map_of_mem S,by rw[this];exact h⟩)
   generalize (ks.map X).flatMap (λi=>nmR (Zq i))=L at i7 lL fh;have jf:=s1.trans s2;obtain⟨sb2a,ku⟩:=ay (J':=J2) (λb o _ e=>jf b o e);have k2:=KpT.of U ku;have ji:=qh0 k2 ar;refine(nmc Z ⟨_,Z,⟨_,SqL.of (k2.l ag)⟩,?_⟩);refine qdb (pA J2 λt=>!L.contains t.1) (λv=>v) (λσ'=>∃v,σ'=[v,some (.ref qn)]) (qbg (K:=K) (SqL.of (k2.l ag))) (fits (by lia)) ⟨none,Z⟩ (λv σ' J' N RR G sm s4 kn ky=>?_) qb8 λpI mq=>?_
   .obtain⟨v0,rfl⟩:=s4;obtain⟨b,x,rfl,hx,hb⟩:=qix ji G;have eo:=quf (g:=λt=>!L.contains t.1) hb;have kn:=kn [some (.ref b),some (.ref qn)] ⟨_,Z⟩;have ky:=ky [some (.ref b),some (.ref qn)] ⟨_,Z⟩;rw[eo]at kn ky;refine(nmc Z (txo (sm _ _ hb) Z (nmc Z ⟨_,_,Z,.inl (SqL.of (sm _ _ i7)),Z,qcg _,_,Z,?_⟩)));show if (!inV (V.str x.1) (L.map V.str))=true then _ else _;rw[qcb];cases ec : !L.contains x.1 with|true=>exact qdm (nmc Z (ky ec))|false=>exact qce (kn ec)
   rw[List.map_id'];have jp:=qjy (g:=λt=>!L.contains t.1) ji;generalize uA.filter (pA J2 λt=>!L.contains t.1)=uI at jp |-;obtain⟨s3,eI⟩:=alc (o:=.lst uI) mq;generalize upd J2 pI _=J3 at s3 eI |-;have tI:=jp.same s3;have kc:=jf.trans s3;obtain⟨sb3a,ld⟩:=ay (J':=J3) (λb o _ e=>kc b o e);have k3:=KpT.of U ld;refine gn2 (σ':=[some (.ref l),some (.ref pn),some (.ref pk),some (.ref Y),some (.ref O),some (.int first),some (.ref pa),some (.ref bk),some (.ref tb),some (.ref d),some (.ref rl),some (.ref qc),some (.ref qn),some (.ref pI),bc,aq,aj,af,R]) rfl ?_;refine(nmc Z (nmc Z (nmc Z ⟨Y,qc,pk,us,LL,D,chn,kinds,Z,k3.l bq,rsl_T k3 o1,by lia,(λt ht=>by obtain⟨k,S⟩:=ic t ht;exact S.ls),(s2.trans s3) _ _ ec,k3.l km,by lia,λqs J4 nqs s4 es=>?_⟩)));refine gn2 (σ':=[some (.ref l),some (.ref pn),some (.ref pk),some (.ref Y),some (.ref O),some (.int first),some (.ref pa),some (.ref bk),some (.ref tb),some (.ref d),some (.ref rl),some (.ref qc),some (.ref qn),some (.ref pI),some (.ref qs),aq,aj,af,R]) rfl ?_;generalize im:(LL.filter λt=>decide (t.name∈chn)).flatMap qbx=MM at es;have jq:∀x∈kinds.filter (λk=>!MM.contains k),∀i,C i->x∉qbx (ts i):=λx hx i F h=>by
    rw[hC]at F;obtain⟨F,hm⟩:=F;obtain⟨k,S,e1,_,e3⟩:=jc i F;have gy:=(Bk.mp hx).2;rw[e3]at h;have:MM.contains x=true:=by rw[<- im];refine Bo.mpr (List.mem_flatMap.mpr ⟨_,Bk.mpr ⟨A0 (ju k S),decide_eq_true ?_⟩,h⟩);rw[(ai _ (qci S)).nm,<- qh1 S,<- e1];exact hm
    rw[this]at gy;cases gy
   have og:kinds.getD 11 A8∈kinds.filter (λk=>!MM.contains k):=by
    refine Bk.mpr ⟨by rw[Aj,Ad (by lia)];exact Bj _,?_⟩;cases j6:MM.contains (kinds.getD 11 A8) with
    |false=>rfl
    |true =>exfalso;rw[<- im]at j6;obtain⟨t,ht,hx⟩:=List.mem_flatMap.mp (Bo.mp j6);obtain⟨jj,hj1,oy⟩:=ka t ((ig t).mp (Bk.mp ht).1) _ hx;have:=qiv j5 (by lia) (by lia) oy;lia
   have mx:=List.length_pos_of_mem og;generalize kinds.filter (λk=>!MM.contains k)=KL at es jq mx;have ia:=kc.trans s4;obtain⟨sb4a,fk⟩:=ay (J':=J4) (λb o _ e=>ia b o e);have k4:=KpT.of U fk;have jm:=i4.keepP U fk;have m3:=qg3 m 3;have r1:=BQ (qc7 m 3) (show (KL.length:Int)≠0 by lia);have oe:=Cd (qc7 m 3) (show (0:Int)<(KL.length:Int) by lia);refine(nmc Z (lxo (k4.l ko) (qme (j:=23) (by lia)) (nmc Z (nmc Z ⟨l,m,3,Z,jm,Uk,Uk,(nmc Z ⟨_,_,Z,.inl ⟨_,SqL.of es,Z⟩,(iic Z Z ⟨(by rw[Ab];lia),(lxo (es) (qfs (by rw[Ab];exact r1) (by rw[Ab];exact oe)) (nmc Z (nmc Z ⟨l,m,3,Z,jm,Uk,Uk,(icc Z Z ⟨Uk,Uk⟩ (icc Z Z (pos Uk) (iic Z Z ⟨qki _ _ _,λtm mr=>?_⟩)))⟩)))⟩)⟩)⟩))));obtain⟨more,emo⟩:∃more:Act,more=(D.getD 23 A8,KL.getD (qc7 m 3 % ((KL.map V.str).length:Int)).toNat A8,first+qc7 m 3 / 13 % 80):=⟨_,Z⟩;have sd:more.2.1∈KL:=by rw[emo];show KL.getD (qc7 m 3 % ((KL.map V.str).length:Int)).toNat A8∈KL;rw[Ab,Aj,Ad (by lia)];exact Bj _
   have pz:0<=more.2.2:=by
    rw[emo];show 0<=first+qc7 m 3 / 13 % 80
    lia
   have nj:∀t∈am,t.1≠more.1:=λt ht z=>by obtain⟨jj,ml⟩:=Bc ht;rw[ip jj t ml,emo]at z;have q1:=BQ ((jj:Int)*di+di / 2) (show (23:Int)≠0 by decide);have q2:=Cd ((jj:Int)*di+di / 2) (show (0:Int)<23 by decide);have:=qiv nd (by lia) (by lia) z;lia
   generalize gq:upd J4 tm _=J5;have s5:Same J4 J5:=by rw[<- gq];exact qx mr
   have oh:J5 tm=some (.tup (qb4 more)):=by rw[<- gq,qk,emo];rfl
   clear gq;have gm:=ia.trans s5;obtain⟨kx,lw⟩:=ay (J':=J5) (λb o _ e=>gm b o e);have k5:=KpT.of U lw;have jh:=qh0 k5 ar;have oj:=(s3.trans (s4.trans s5)) _ _ i7;refine gn2 (σ':=[some (.ref l),some (.ref pn),some (.ref pk),some (.ref Y),some (.ref O),some (.int first),some (.ref pa),some (.ref bk),some (.ref tb),some (.ref d),some (.ref rl),some (.ref qc),some (.ref qn),some (.ref pI),some (.ref qs),some (.ref tm),aj,af,R]) rfl ?_;refine(nmc Z ⟨_,Z,⟨_,SqL.of (k5.l ag)⟩,?_⟩);refine qdb (pA J5 λt=>L.contains t.1) (λv=>v) (λσ'=>∃v,σ'=[v,some (.ref qn)]) (qbg (K:=K) (SqL.of (k5.l ag))) (fits (by lia)) ⟨none,Z⟩ (λv σ' J' N RR G sm s4 kn ky=>?_) qb8 λpF o8=>?_
   .obtain⟨v0,rfl⟩:=s4;obtain⟨b,x,rfl,hx,hb⟩:=qix jh G;have eo:=quf (g:=λt=>L.contains t.1) hb;have kn:=kn [some (.ref b),some (.ref qn)] ⟨_,Z⟩;have ky:=ky [some (.ref b),some (.ref qn)] ⟨_,Z⟩;rw[eo]at kn ky;refine(nmc Z (txo (sm _ _ hb) Z (nmc Z ⟨_,_,Z,.inl (SqL.of (sm _ _ oj)),Z,qcg _,_,Z,?_⟩)));show if (inV (V.str x.1) (L.map V.str))=true then _ else _;rw[qcb];cases ec:L.contains x.1 with|true=>exact qdm (nmc Z (ky ec))|false=>exact qce (kn ec)
   rw[List.map_id'];have iz:=qjy (g:=λt=>L.contains t.1) jh;generalize uA.filter (pA J5 λt=>L.contains t.1)=uF at iz |-;obtain⟨e9,eF⟩:=alc (o:=.lst uF) o8;generalize upd J5 pF _=J6 at e9 eF |-;refine(nmc Z (nmc Z ⟨fit1 _,λpM rj=>?_⟩));obtain⟨bh,eM⟩:=alc (o:=.lst [V.ref tm]) rj;generalize upd J6 pM _=J7 at bh eM |-;refine⟨pa,pM,_,_,Z,Z,(e9.trans bh) _ _ (k5.l ag),eM,fits (by rw[AW];lia),λpG re=>?_⟩;obtain⟨ca,eG⟩:=alc (o:=.lst (uA++[V.ref tm])) re;generalize upd J7 pG _=J8 at ca eG |-;refine⟨qvl _ _,λr ah=>?_⟩;obtain⟨dk,et⟩:=alc (o:=.lst [V.ref pF,V.ref pG]) ah;have nF:pF≠r:=λz=>by rw[<- z,(bh.trans ca) _ _ eF]at ah;cases ah
   have nG:pG≠r:=λz=>by rw[<- z,eG]at ah;cases ah
   have ke:∀o,ak r=some o->r≠W->J8 r=some o:=λo e B=>(e9.trans (bh.trans ca)) _ _ (kx _ _ B e);generalize upd J8 r _=J9 at dk et |-;refine gn2 (σ':=[some (.ref l),some (.ref pn),some (.ref pk),some (.ref Y),some (.ref O),some (.int first),some (.ref pa),some (.ref bk),some (.ref tb),some (.ref d),some (.ref rl),some (.ref qc),some (.ref qn),some (.ref pI),some (.ref qs),some (.ref tm),some (.ref r),af,R]) rfl ?_;have fc:=e9.trans (bh.trans (ca.trans dk));have df:=gm.trans fc;obtain⟨fz,kg⟩:=ay (J':=J9) (λb o _ e=>df b o e);have k9:=KpT.of U kg;have ph:=qh0 k9 ar;have jx:=hL.same df;have i3:TryOk bs rs ts n Zq C r J9 (.ref pF):=⟨pF,uF,am.filter λt=>L.contains t.1,Z,nF,(bh.trans (ca.trans dk)) _ _ eF,iz.same fc,A5 (BY _ _) (by lia),λt ht=>c7 (.refl _) t (Bk.mp ht).1,λa2 p2 cq=>by rw[eZ];exact qoa cl cz gj dz _ (λt hf i F=>fh t.1 (λz=>by rw[Bo.mpr z]at hf;cases hf) i F) p2 cq⟩;have gb:TryOk bs rs ts n Zq C r J9 (.ref pG):=⟨pG,uA++[.ref tm],am++[more],Z,nG,dk _ _ eG,(by rw[Ax];exact qg1 ph (fc _ _ oh)),(by rw[Af];show _+1<=20;lia),λt ht=>(Av.mp ht).elim (c7 (.refl _) t) (λz=>by rw[Ah.mp z];exact pz),λa2 p2 cq=>by rw[eZ];exact qvw cl cz gj dz nj (λi F=>jq _ sd i F) p2 cq⟩;apply qt8 (p:=λ_ J'=>SameBut W ak J'/\Lam.LamAt J' W ioP ioQ/\∃tl,J' r=some (.lst tl)/\∀v∈tl,TryOk bs rs ts n Zq C r J' v) (f:=λv=>[some (.ref l),some (.ref pn),some (.ref pk),some (.ref Y),some (.ref O),some (.int first),some (.ref pa),some (.ref bk),some (.ref tb),some (.ref d),some (.ref rl),some (.ref qc),some (.ref qn),some (.ref pI),some (.ref qs),some (.ref tm),some (.ref r),v,R])
   .intro mm;refine(nmc Z ⟨qfr,λpe nv=>?_⟩);obtain⟨M,ee⟩:=alc (o:=.lst []) nv;generalize upd J9 pe _=J10 at M ee |-;have ir:=s4.trans (s5.trans (fc.trans M));have dg:=ir _ _ eI;refine⟨_,_,_,Z,Z,SqL.of dg,SqL.of ee,_,Z,qb2 (λc=>?_) (λc=>?_)⟩
    rotate_left
    .refine tn2 (σ':=[some (.ref l),some (.ref pn),some (.ref pk),some (.ref Y),some (.ref O),some (.int first),some (.ref pa),some (.ref bk),some (.ref tb),some (.ref d),some (.ref rl),some (.ref qc),some (.ref qn),some (.ref pI),some (.ref qs),some (.ref tm),some (.ref r),af,R]) rfl (mm af J10 ⟨λb o B e=>M _ _ (fz b o B e),jx.same M,_,M _ _ et,λv G=>?_⟩);rcases Aq.mp G with rfl|G
     .exact i3.kp et λb o _ _ e=>M _ _ e
     .rw[Ah.mp G];exact gb.kp et λb o _ _ e=>M _ _ e
    .have lI1:1<=uI.length:=BH.mpr λz=>by rw[z]at c;cases c
     have q1:=BQ (qc7 m 3 / 7) (show (uI.length:Int)≠0 by lia);have q2:=Cd (qc7 m 3 / 7) (show (0:Int)<(uI.length:Int) by lia);obtain⟨ix,eix,hix⟩:∃ix:Nat,qc7 m 3 / 7 % (uI.length:Int)=(ix:Int)/\ix<uI.length:=⟨(qc7 m 3 / 7 % (uI.length:Int)).toNat,by lia,by lia⟩;obtain⟨b,x,eb,hx,hb⟩:=qix (tI.same ir) (Bj hix);have iu:=(Bk.mp hx).2;have sX:=df.trans M;obtain⟨sb10a,dh⟩:=ay (J':=J10) (λb o _ e=>sX b o e);have i8:=KpT.of U dh;have gh:=qh0 i8 ar;refine(nmc Z (nmc Z ⟨l,m,3,Z,i4.keepP U dh,Uk,Uk,(icc Z Z ⟨Uk,Uk⟩ (nmc Z ⟨_,_,Z,.inl ⟨_,SqL.of dg,Z⟩,(iic Z Z ⟨(show (0:Int)<(uI.length:Int) by lia),(lxo (dg) ((by rw[eix];exact qbj ((Ad hix).trans (congrArg some eb)))) ?_)⟩)⟩))⟩));refine gn2 (σ':=[some (.ref l),some (.ref pn),some (.ref pk),some (.ref Y),some (.ref O),some (.int first),some (.ref pa),some (.ref bk),some (.ref tb),some (.ref d),some (.ref rl),some (.ref qc),some (.ref qn),some (.ref pI),some (.ref qs),some (.ref tm),some (.ref r),some (.ref b),R]) rfl ?_;refine(nmc Z ⟨.inl ⟨Z,_,SqL.of (M _ _ et)⟩,(nmc Z ⟨_,Z,⟨_,SqL.of (i8.l ag)⟩,?_⟩)⟩);refine qdb (pA J10 λt=>!qfz (qb4 t) (qb4 x)) (λv=>v) (λσ'=>∃v,σ'=[v,some (.ref b)]) (qbg (K:=K) (SqL.of (i8.l ag))) (fits (by lia)) ⟨none,Z⟩ (λv σ' J' N RR G sm s4 kn ky=>?_) qb8 λpX gn=>?_
     .obtain⟨v0,rfl⟩:=s4;obtain⟨b2,x2,rfl,gy,j9⟩:=qix gh G;have eo:=quf (g:=λt=>!qfz (qb4 t) (qb4 x)) j9;have kn:=kn [some (.ref b2),some (.ref b)] ⟨_,Z⟩;have ky:=ky [some (.ref b2),some (.ref b)] ⟨_,Z⟩;rw[eo]at kn ky;refine(nmc Z (nmc Z ⟨_,_,_,_,Z,Z,SqT.of (sm _ _ j9),SqT.of (sm _ _ hb),Z,Z,_,Z,?_⟩));show if (!qfz (qb4 x2) (qb4 x))=true then _ else _;cases ec : !qfz (qb4 x2) (qb4 x) with|true=>exact qdm (nmc Z (ky ec))|false=>exact qce (kn ec)
     rw[List.map_id'];have tX:=qjy (g:=λt=>!qfz (qb4 t) (qb4 x)) gh;generalize uA.filter (pA J10 λt=>!qfz (qb4 t) (qb4 x))=uX at tX |-;obtain⟨bz,eX⟩:=alc (o:=.lst uX) gn;have nX:pX≠r:=λz=>by rw[z,M _ _ et]at gn;cases gn
     generalize upd J10 pX _=J11 at bz eX |-;have au:=(M.trans bz) _ _ et;refine⟨_,_,_,Z,Z,au,qbm (show 2<=90000 by decide),?_⟩;have kT:∀b o,((∃u,o=.lst u) \/ ∃t,o=.tup t)->b≠r->J11 b=some o->upd J11 r (.lst ([V.ref pF,V.ref pG]++[V.ref pX])) b=some o:=λb o _ B e=>by rw[qr B];exact e
     have bu:=M.trans bz;have ly:TryOk bs rs ts n Zq C r J11 (.ref pX):=⟨pX,uX,am.filter λt=>!qfz (qb4 t) (qb4 x),Z,nX,eX,tX.same bz,A5 (BY _ _) (by lia),λt ht=>c7 (.refl _) t (Bk.mp ht).1,λa2 p2 cq=>by
      rw[eZ];refine qoa cl cz gj dz _ (λt hf i F=>fh t.1 (λz=>?_) i F) p2 cq;have e1:qfz (qb4 t) (qb4 x)=true:=by simpa using hf
      rw[eqA_nm e1]at z;rw[Bo.mpr z]at iu;cases iu⟩
     refine mm (some (.ref b)) _ ⟨λb o B e=>?_,((jx.same bu).keep λb o nl e=>by rw[qr (λz=>by rw[z,au]at e;exact nl _ (AE e).symm)];exact e),_,qk,λv G=>?_⟩
     .rw[qr]
      .exact bu _ _ (fz b o B e)
      .rintro rfl;rw[ke _ e B]at ah;cases ah
     .rcases Av.mp G with G|G
      .rcases Aq.mp G with rfl|G
       .exact((i3.kp et λb o _ _ e=>bu _ _ e)).kp au kT
       .rw[Ah.mp G];exact((gb.kp et λb o _ _ e=>bu _ _ e)).kp au kT
      .rw[Ah.mp G];exact ly.kp au kT
   rintro fj JA ⟨my,o7,tl,ja,mw⟩;refine(nmc Z ⟨_,Z,⟨_,SqL.of ja⟩,qa5 (K:=K) (a:=r) (xs:=tl) (λi σ J=>SameBut W ak J/\Lam.LamAt J W ioP ioQ/\J r=some (.lst tl)/\(∀v∈tl,TryOk bs rs ts n Zq C r J v)/\∃R:Option V,σ=[some (.ref l),some (.ref pn),some (.ref pk),some (.ref Y),some (.ref O),some (.int first),some (.ref pa),some (.ref bk),some (.ref tb),some (.ref d),some (.ref rl),some (.ref qc),some (.ref qn),some (.ref pI),some (.ref qs),some (.ref tm),some (.ref r),fj,R]) ⟨my,o7,ja,mw,_,Z⟩ (λi σ J _ h=>SqL.of h.2.2.1) ?_ ?_⟩)
   .rintro i v σ JB G ⟨bw,dl,cw,de,kq,rfl⟩;obtain⟨po,uo,ao,rfl,npo,o9,pj,ng,rq,nu⟩:=de v (A0 G);have ii:SameBut W ae JB:=λb o B e=>bw b o B (av b o B e);have kB:=KpT.of U ii;obtain⟨psB,jr⟩:=dl.tbl;refine gn2 (σ':=[some (.ref l),some (.ref pn),some (.ref pk),some (.ref Y),some (.ref O),some (.int first),some (.ref pa),some (.ref bk),some (.ref tb),some (.ref d),some (.ref rl),some (.ref qc),some (.ref qn),some (.ref pI),some (.ref qs),some (.ref tm),some (.ref r),fj,some (.ref po)]) rfl ?_;refine(nmc Z (nmc Z (nmc Z ⟨bk,tb,po,uo,ao,n,ts,bs,rs,Z,T0,qyz kB fu,tab_T kB bt,c8,dt,o9,pj,ng,rq,dl,λd2 JC a2 q2 y2 p42 p62 gf oq mo mn jy hNC hZC hSC=>?_⟩)));have c9:SameBut W ak JC:=λb o B e=>gf b o B (bw b o B e);have du:SameBut W ae JC:=λb o B e=>c9 b o B (av b o B e);have TC:=jv c9;obtain⟨i0,cg,gz⟩:=bi j hj;have j4:C i0:=by rw[hC,ech];exact⟨cg,by rw[gz];exact List.mem_map_of_mem se⟩
    have j8:=nu a2 mo mn;refine(nmc Z (flc (rn du) (T.kG) (qp T.kH Uk) (r2) ⟨d2,_,Z,.inl ⟨_,.inr (ts i0).name,.inl jy.1,(by rw[gz];rfl),(qg2 T0.nn cg).symm⟩,(nmc Z (nmc Z (flc (rn du) (T.kG) (qp T.kH Uk) (r2) ⟨d,_,Z,.inl ⟨_,.inr (ts i0).name,.inl TC.1,(by rw[gz];rfl),(qg2 T0.nn cg).symm⟩,4,Uk,.inl (dk_acci (j8 i0 j4).symm (λst=>(qst cl j8 3 i0 st j4).symm) (jy.2 i0 cg) (TC.2 i0 cg)),_,Z,qce ?_⟩)))⟩));refine⟨c9,oq,gf _ _ (λz=>by rw[z,jr]at cw;cases cw) cw,λv G=>(de v G).kp cw λb o ho _ e=>gf b o (λz=>?_) e,_,Z⟩;rw[z,jr]at e;rcases ho with ⟨u,rfl⟩|⟨u,rfl⟩ <;>cases e
   .rintro σ JB ⟨bw,dl,cw,de,kq,rfl⟩;exact⟨bw,dl,_,_,_,_,_,_,_,_,_,Z⟩
  .rintro σ J ⟨i5,hL,gs,dw,cr,bj,bc,aq,aj,af,R,rfl⟩;exact k J
end
set_option maxHeartbeats 4000000 in
theorem all_mk {l:PySem.W.OpenLaw}{w:World}{K:Ag}{h:Heap}{mg:Str->Option Value}{fa:Addr}(X:K.In h)(G:h.Ns A4 mg)(hfa:mg "law"=some (.ref fa))
  {EB BB BT CC EC Cl D1 CT f0 f1 f2 f3 f4 f5 f6 f7 f8 f9 f10 f11 f12 f13 f14 f15 f16 f17 f18 f19 f20 f21 f22 f23 f24 f25 f26 f27 f28 f29 f30 f31:Addr}{GM GN:Option Addr}{GO:Array (Option Value)}{GP GQ GR GS GT:Value}{f32 f33 f34 f35 f36 f37 f38 f39 f40 f41 f42 f43 f44 f45 f46 f47 f48 f49 f50:Addr}{GU Gz:Option Addr}{GV:Array (Option Value)}{GW GA GB GC Gj GD GE:Value}{f51 f52 f53 f54 f55 f56 f57 f58 f59 f60 f61 f62 f63 f64 f65 f66 f67 f68 f69:Addr}{GX GF:Option Addr}{GY:Array (Option Value)}{GZ GG GH GI Gk GJ GK:Value}{f70 f71 f72 f73 f74 f75 f76 f77 f78 f79 f80:Addr}{Hc Gm:Option Addr}{Hd:Array (Option Value)}{He Gp Gq Gr G8 Gs Gu:Value}{f81:Addr}{Hf Hg:Option Addr}{Hh:Array (Option Value)}{Hi Hj Hk Hl GL Hm:Value}{Fu FH Fs FU FV FW Fv Gy Ft:Tok}{FI:Addr}{Gv:Option Addr}{Gw:Nat}{Gh Gi:Tok}{Gx:Array (Option Value)}{cL PL:Addr}{ocL:Value}{odL:Option Addr}{vsL:Array Value}{slL:Array (Option Value)}
  (FJ:AJ K A4 "Book"=some (some (.ref EB)))(Fc:AJ K A4 "Counting"=some (some (.ref BB)))(F1:AJ K A4 "CourtDays"=some (some (.ref BT)))(Fn:AJ K A4 "Pattern"=some (some (.ref CC)))(FK:AJ K A4 "Rule"=some (some (.ref EC)))(FX:AJ K A4 "Run"=some (some (.ref Cl)))(Fw:AJ K A4 "Table"=some (some (.ref D1)))(Fx:AJ K A4 "Weeks"=some (some (.ref CT)))(p0:Pm K BB "__init__" "Counting.__init__" qer f0)(p1:Pd K "kind_of" qow f1)(p2:Pd K "is_whole" qlk f2)(p3:Pd K "is_stretch_of" qfd f3)(p4:Pd K "place" qr8 f4)(p5:Pd K "joined" qox f5)(p6:Pd K "laid_over" qje f6)(p7:Pd K "overlay" qll f7)(p8:Pm K BB "days_for" "Counting.days_for" qdc f8)(p9:Pm K CT "days_for" "Weeks.days_for" qes f9)(p10:Pm K BB "reach" "Counting.reach" qd7 f10)(p11:Pd K "long_before" qgc f11)(p12:Pm K CC "before_year" "Pattern.before_year" qcr f12)(p13:Pm K CC "year_with" "Pattern.year_with" qdd f13)(p14:Pd K "first_week" qhn f14)(p15:Pm K CC "nth" "Pattern.nth" qgd f15)(p16:Pd K "year_of" qoy f16)(p17:Pd K "weekday" qlm f17)(p18:Pd K "date_of" qoz f18)(p19:Pd K "day_of_year" qho f19)(p20:Pm K CC "before" "Pattern.before" qd8 f20)(p21:Pm K D1 "shift" "Table.shift" qge f21)(p22:Pm K D1 "before" "Table.before" qfe f22)(p23:Pm K D1 "nth" "Table.nth" qjf f23)(p24:Pm K BT "reach" "CourtDays.reach" qdp f24)(p25:Pm K BB "counted_in" "Counting.counted_in" qcs f25)(p26:Pm K BT "counted_in" "CourtDays.counted_in" qcj f26)(p27:Pd K "full_day" qln f27)(p28:Pm K D1 "next_open" "Table.next_open" qd9 f28)(p29:Pd K "first_due" qjg f29)(p30:Pd K "last_day" qlo f30)(a31:AJ K A4 "in_order"=some (some (.ref f31)))(l31:K.lookup f31=some ⟨GP,GM,.func (Bg "in_order" "in_order" (qa4 qdn) (qaw qdn) (qaa qdn) .none GQ GR GS GN (.ref cL) GT),GO⟩)(c31:B9 K (.ref cL) "in_order"=true)(k31:Bu K (.ref f31)=true)(p32:Pm K EB "hanging" "Book.hanging" qff f32)(p33:Pm K EB "rule_of" "Book.rule_of" qgf f33)(p34:Pm K Cl "is_over" "Run.is_over" qhp f34)(p35:Pd K "is_running" qhq f35)(p36:Pm K EC "role_in_still" "Rule.role_in_still" qde f36)(p37:Pm K EC "role" "Rule.role" qgv f37)(p38:Pm K Cl "is_halted" "Run.is_halted" qfg f38)(p39:Pm K Cl "go_on" "Run.go_on" qlp f39)(p40:Pm K Cl "finish" "Run.finish" qhr f40)(p41:Pm K Cl "lasts_to" "Run.lasts_to" qgg f41)(p42:Pm K Cl "starts_on" "Run.starts_on" qfh f42)(p43:Pm K Cl "is_under_way" "Run.is_under_way" qea f43)(p44:Pm K Cl "set_out" "Run.set_out" qhs f44)(p45:Pm K Cl "begin_anew" "Run.begin_anew" qet f45)(p46:Pm K Cl "lengthen" "Run.lengthen" qfi f46)(p47:Pm K Cl "halt" "Run.halt" qlq f47)(p48:Pm K Cl "works" "Run.works" qjh f48)(p49:Pm K Cl "feel" "Run.feel" qlr f49)(a50:Bf K (.ref Cl) "__init__"=some (some (.ref f50)))(t50:C9 K (.ref f50)=some (.type "function"))(l50:K.lookup f50=some ⟨GW,GU,.func (Bg "__init__" "Run.__init__" (qa4 qc2) (qaw qc2) (qaa qc2) GE GA GB GC Gz Gj GD),GV⟩)(c50:B9 K Gj "Run.__init__"=true)(k50:Bu K (.ref f50)=true)(pk50:∀(u0 u1 u2 u3 u4 u5:Value)(S:Setting),CK K S (bindArgs (Bg "__init__" "Run.__init__" (qa4 qc2) (qaw qc2) (qaa qc2) GE GA GB GC Gz Gj GD) ⟨[u0,u1,u2,u3,u4,u5],[]⟩)=some [(Aa "self",u0),(Aa "rule",u1),(Aa "table",u2),(Aa "name",u3),(Aa "day",u4),(Aa "base",u5)])(p51:Pd K "take" qxf f51)(p52:Pm K Cl "state_word" "Run.state_word" qeu f52)(p53:Pm K Cl "account" "Run.account" qgh f53)(p54:Pd K "history" qif f54)(p55:Pd K "untaken" qls f55)(p56:Pd K "hanging_order" qev f56)(p57:Pd K "is_free_within" qdh f57)(p58:Pd K "counted_up" qht f58)(p59:Pd K "is_weekday" qhu f59)(p60:Pd K "refuse_week" qgi f60)(p61:Pd K "is_yearly" qji f61)(p62:Pd K "refuse_yearly" qew f62)(p63:Pd K "list_or_empty" qfj f63)(p64:Pd K "is_row" qr9 f64)(p65:Pd K "refuse_rows" qgj f65)(p66:Pd K "_law_cell_at" qhv f66)(p67:Pd K "_law_mixed" qjj f67)(p68:Pd K "_law_words" qjk f68)(a69:Bf K (.ref EC) "__init__"=some (some (.ref f69)))(t69:C9 K (.ref f69)=some (.type "function"))(l69:K.lookup f69=some ⟨GZ,GX,.func (Bg "__init__" "Rule.__init__" (qa4 qcf) (qaw qcf) (qaa qcf) GK GG GH GI GF Gk GJ),GY⟩)(c69:B9 K Gk "Rule.__init__"=true)(k69:Bu K (.ref f69)=true)(pk69:∀(u0 u1 u2 u3 u4 u5 u6 u7 u8:Value)(S:Setting),CK K S (bindArgs (Bg "__init__" "Rule.__init__" (qa4 qcf) (qaw qcf) (qaa qcf) GK GG GH GI GF Gk GJ) ⟨[u0,u1,u2,u3,u4,u5,u6,u7,u8],[]⟩)=some [(Aa "self",u0),(Aa "name",u1),(Aa "who",u2),(Aa "owes",u3),(Aa "opens",u4),(Aa "base",u5),(Aa "many",u6),(Aa "unit",u7),(Aa "still",u8)])(p70:Pd K "_law_rule" qig f70)(p71:Pd K "_law_book" qlt f71)(p72:Pd K "_law_menu" qih f72)(p73:Pd K "_law_acts" qii f73)(p74:Pd K "_law_chain" qjl f74)(p75:Pd K "_law_named" qgw f75)(p76:Pd K "_law_alone" qjm f76)(p77:Pd K "_law_strange" qdo f77)(p78:Pm K EB "__init__" "Book.__init__" qjn f78)(p79:Pm K CC "__init__" "Pattern.__init__" qc3 f79)(a80:Bf K (.ref D1) "__init__"=some (some (.ref f80)))(t80:C9 K (.ref f80)=some (.type "function"))(l80:K.lookup f80=some ⟨He,Hc,.func (Bg "__init__" "Table.__init__" (qa4 qba) (qaw qba) (qaa qba) Gu Gp Gq Gr Gm G8 Gs),Hd⟩)(c80:B9 K G8 "Table.__init__"=true)(k80:Bu K (.ref f80)=true)(pk80:∀(u0 u1 u2 u3:Value)(S:Setting),CK K S (bindArgs (Bg "__init__" "Table.__init__" (qa4 qba) (qaw qba) (qaa qba) Gu Gp Gq Gr Gm G8 Gs) ⟨[u0,u1,u2,u3],[]⟩)=some [(Aa "self",u0),(Aa "week",u1),(Aa "yearly",u2),(Aa "rows",u3)])(EQ:∀(u0 u1:Value)(S:Setting),CK K S (bindArgs (Bg "__init__" "Table.__init__" (qa4 qba) (qaw qba) (qaa qba) Gu Gp Gq Gr Gm G8 Gs) ⟨[u0,u1],[]⟩)=some [(Aa "self",u0),(Aa "week",u1),(Aa "yearly",C8),(Aa "rows",C8)])(a81:AJ K A4 "law"=some (some (.ref f81)))(l81:K.lookup f81=some ⟨Hi,Hf,.func (Bg "law" "law" (qa4 qmz) (qaw qmz) (qaa qmz) .none Hj Hk Hl Hg GL Hm),Hh⟩)(c81:B9 K GL "law"=true)(k81:Bu K (.ref f81)=true)(G9:AJ K A4 "any"=some none)(FY:AJ K A4 "bool"=some none)(Fd:AJ K A4 "enumerate"=some none)(Ga:AJ K A4 "int"=some none)(F3:AJ K A4 "isinstance"=some none)(Gb:AJ K A4 "len"=some none)(FZ:AJ K A4 "list"=some none)(Gc:AJ K A4 "max"=some none)(Ge:AJ K A4 "min"=some none)(FL:AJ K A4 "range"=some none)(Fo:AJ K A4 "reversed"=some none)(Gf:AJ K A4 "set"=some none)(Fy:AJ K A4 "sorted"=some none)(Gg:AJ K A4 "str"=some none)(FM:AJ K A4 "tuple"=some none)(EH:AJ K A4 "MOST_WEEKDAYS"=some (some (.int 6 Fu)))(EW:AJ K A4 "MOST_YEARLY"=some (some (.int 4 FH)))(E6:AJ K A4 "MOST_YEARLY_DAYS"=some (some (.int 30 Fs)))(F4:AJ K A4 "SHORT_YEAR"=some (some (.int 364 FU)))(Fe:AJ K A4 "LONG_YEAR"=some (some (.int 371 FV)))(Ff:AJ K A4 "MOST_ROWS"=some (some (.int 12 FW)))(EI:AJ K A4 "MOST_ROW_DAYS"=some (some (.int 40 Fv)))(G4:AJ K A4 "TURN"=some (some (.int 17 Gy)))(ED:AJ K A4 "DAYS_OF_A_WEEK"=some (some (.int 7 Ft)))(FN:AJ K A4 "WORDS"=some (some (.ref FI)))(Fz:K.lookup FI=some ⟨.type "tuple",Gv,.seq #[.str (Aa "free") Gh,.str (Aa "open") Gi] Gw,Gx⟩)(lcL:K.lookup cL=some ⟨ocL,odL,.fields vsL,slL⟩)(vL:vsL[11]?=some (.ref PL))(FO:qmu K EB=true)(FP:mkB K EB f78=true)(FQ:xNo K EB ["free_days","open_days","open_before","pattern","rows","shifts","table","name","who","owes","opens","base","many","unit","still","ends","anew","longer","yields","rule","counting","over","day","units","pauses","grants","order","by_name"]=true)(EJ:qax K EB "hanging" f32=true)(ER:qax K EB "rule_of" f33=true)(Fg:qmu K BB=true)(Fh:mkB K BB f0=true)(Fi:xNo K BB ["free_days","open_days","open_before","pattern","rows","shifts","table","name","who","owes","opens","base","many","unit","still","ends","anew","longer","yields","rule","counting","over","day","units","pauses","grants","order","by_name"]=true)(cti_Counting_counted_in:qax K BB "counted_in" f25=true)(cti_Counting_days_for:qax K BB "days_for" f8=true)(cti_Counting_reach:qax K BB "reach" f10=true)(Fj:qu6 K BB=true)(ckd_Counting_Counting:(AX K (.ref BB) (.ref BB) == some true)=true)(ckd_Counting_Weeks:(AX K (.ref BB) (.ref CT) == some false)=true)(ckd_Counting_CourtDays:(AX K (.ref BB) (.ref BT) == some false)=true)(E3:qax K BB "days_for" f8=true)(E8:qax K BB "reach" f10=true)(Ds:qax K BB "counted_in" f25=true)(F5:qmu K BT=true)(F6:mkB K BT f0=true)(F7:xNo K BT ["free_days","open_days","open_before","pattern","rows","shifts","table","name","who","owes","opens","base","many","unit","still","ends","anew","longer","yields","rule","counting","over","day","units","pauses","grants","order","by_name"]=true)(cti_CourtDays_counted_in:qax K BT "counted_in" f26=true)(cti_CourtDays_days_for:qax K BT "days_for" f8=true)(cti_CourtDays_reach:qax K BT "reach" f24=true)(F8:qu6 K BT=true)(ckd_CourtDays_Counting:(AX K (.ref BT) (.ref BB) == some true)=true)(ckd_CourtDays_Weeks:(AX K (.ref BT) (.ref CT) == some false)=true)(ckd_CourtDays_CourtDays:(AX K (.ref BT) (.ref BT) == some true)=true)(E7:qax K BT "reach" f24=true)(D2:qax K BT "counted_in" f26=true)(Fp:qmu K CC=true)(Fq:mkB K CC f79=true)(Fr:xNo K CC ["free_days","open_days","open_before","pattern","rows","shifts","table","name","who","owes","opens","base","many","unit","still","ends","anew","longer","yields","rule","counting","over","day","units","pauses","grants","order","by_name"]=true)(E2:qax K CC "before_year" f12=true)(E4:qax K CC "year_with" f13=true)(ES:qax K CC "nth" f15=true)(E9:qax K CC "before" f20=true)(FR:qmu K EC=true)(FS:mkB K EC f69=true)(FT:xNo K EC ["free_days","open_days","open_before","pattern","rows","shifts","table","name","who","owes","opens","base","many","unit","still","ends","anew","longer","yields","rule","counting","over","day","units","pauses","grants","order","by_name"]=true)(E5:qax K EC "role_in_still" f36=true)(F9:qax K EC "role" f37=true)(G5:qmu K Cl=true)(G6:mkB K Cl f50=true)(G7:xNo K Cl ["free_days","open_days","open_before","pattern","rows","shifts","table","name","who","owes","opens","base","many","unit","still","ends","anew","longer","yields","rule","counting","over","day","units","pauses","grants","order","by_name"]=true)(EY:qax K Cl "is_over" f34=true)(EK:qax K Cl "is_halted" f38=true)(Fk:qax K Cl "go_on" f39=true)(EZ:qax K Cl "finish" f40=true)(ET:qax K Cl "lasts_to" f41=true)(EM:qax K Cl "starts_on" f42=true)(Ey:qax K Cl "is_under_way" f43=true)(F0:qax K Cl "set_out" f44=true)(EE:qax K Cl "begin_anew" f45=true)(EN:qax K Cl "lengthen" f46=true)(Fl:qax K Cl "halt" f47=true)(Fa:qax K Cl "works" f48=true)(Fm:qax K Cl "feel" f49=true)(EF:qax K Cl "state_word" f52=true)(EU:qax K Cl "account" f53=true)(FA:qmu K D1=true)(FB:mkB K D1 f80=true)(FC:xNo K D1 ["free_days","open_days","open_before","pattern","rows","shifts","table","name","who","owes","opens","base","many","unit","still","ends","anew","longer","yields","rule","counting","over","day","units","pauses","grants","order","by_name"]=true)(EV:qax K D1 "shift" f21=true)(EO:qax K D1 "before" f22=true)(Fb:qax K D1 "nth" f23=true)(EA:qax K D1 "next_open" f28=true)(FD:qmu K CT=true)(FE:mkB K CT f0=true)(FF:xNo K CT ["free_days","open_days","open_before","pattern","rows","shifts","table","name","who","owes","opens","base","many","unit","still","ends","anew","longer","yields","rule","counting","over","day","units","pauses","grants","order","by_name"]=true)(cti_Weeks_counted_in:qax K CT "counted_in" f25=true)(cti_Weeks_days_for:qax K CT "days_for" f9=true)(cti_Weeks_reach:qax K CT "reach" f10=true)(FG:qu6 K CT=true)(ckd_Weeks_Counting:(AX K (.ref CT) (.ref BB) == some true)=true)(ckd_Weeks_Weeks:(AX K (.ref CT) (.ref CT) == some true)=true)(ckd_Weeks_CourtDays:(AX K (.ref CT) (.ref BT) == some false)=true)(EG:qax K CT "days_for" f9=true)(tnL:K.lookup PL=none)
  : ∃(fd:Ay)(c Pt:Addr),(∀(s:Ae)(v:Value),BindsTo s fd ⟨[v],[]⟩ [("_law_script",v)])/\PySem.W.tabIn K "in_order"=some (c,Pt)/\K.lookup Pt=none/\∀base:Heap,K.In base->base.Ns A4 mg->Lam.LamF mg base c Pt->FnOk l.prog w K mg base CX0 25 fa fd ["_law_script"] (qpi K Pt):=by
 have e:=hfa.symm.trans (Be X G a81);cases e;obtain⟨g0,d0⟩:=qa7 p0 (ps:=["self","table"]) λ_ _ _ _ _ _=>qcz λ_ _=>rfl;obtain⟨g1,d1⟩:=qa0 X G p1 (ps:=["unit","table"]) λ_ _ _ _ _ _=>qcz λ_ _=>rfl;obtain⟨g2,d2⟩:=qa0 X G p2 (ps:=["thing"]) λ_ _ _ _ _ _=>qcy λ_=>rfl;obtain⟨g3,d3⟩:=qa0 X G p3 (ps:=["first","last","most"]) λ_ _ _ _ _ _=>qhw λ_ _ _=>rfl;obtain⟨g4,d4⟩:=qa0 X G p4 (ps:=["stretches","day"]) λ_ _ _ _ _ _=>qcz λ_ _=>rfl;obtain⟨g5,d5⟩:=qa0 X G p5 (ps:=["laid"]) λ_ _ _ _ _ _=>qcy λ_=>rfl;obtain⟨g6,d6⟩:=qa0 X G p6 (ps:=["laid","first","last","word"]) λ_ _ _ _ _ _=>qqm λ_ _ _ _=>rfl;obtain⟨g7,d7⟩:=qa0 X G p7 (ps:=["rows"]) λ_ _ _ _ _ _=>qcy λ_=>rfl;obtain⟨g8,d8⟩:=qa7 p8 (ps:=["self","units"]) λ_ _ _ _ _ _=>qcz λ_ _=>rfl;obtain⟨g9,d9⟩:=qa7 p9 (ps:=["self","units"]) λ_ _ _ _ _ _=>qcz λ_ _=>rfl;obtain⟨g10,d10⟩:=qa7 p10 (ps:=["self","first","many"]) λ_ _ _ _ _ _=>qhw λ_ _ _=>rfl;obtain⟨g11,d11⟩:=qa0 X G p11 (ps:=["year"]) λ_ _ _ _ _ _=>qcy λ_=>rfl;obtain⟨g12,d12⟩:=qa7 p12 (ps:=["self","year"]) λ_ _ _ _ _ _=>qcz λ_ _=>rfl;obtain⟨g13,d13⟩:=qa7 p13 (ps:=["self","many"]) λ_ _ _ _ _ _=>qcz λ_ _=>rfl;obtain⟨g14,d14⟩:=qa0 X G p14 (ps:=["year"]) λ_ _ _ _ _ _=>qcy λ_=>rfl;obtain⟨g15,d15⟩:=qa7 p15 (ps:=["self","many"]) λ_ _ _ _ _ _=>qcz λ_ _=>rfl;obtain⟨g16,d16⟩:=qa0 X G p16 (ps:=["week"]) λ_ _ _ _ _ _=>qcy λ_=>rfl;obtain⟨g17,d17⟩:=qa0 X G p17 (ps:=["day"]) λ_ _ _ _ _ _=>qcy λ_=>rfl;obtain⟨g18,d18⟩:=qa0 X G p18 (ps:=["day"]) λ_ _ _ _ _ _=>qcy λ_=>rfl;obtain⟨g19,d19⟩:=qa0 X G p19 (ps:=["day"]) λ_ _ _ _ _ _=>qcy λ_=>rfl;obtain⟨g20,d20⟩:=qa7 p20 (ps:=["self","day"]) λ_ _ _ _ _ _=>qcz λ_ _=>rfl;obtain⟨g21,d21⟩:=qa7 p21 (ps:=["self","row","end"]) λ_ _ _ _ _ _=>qhw λ_ _ _=>rfl;obtain⟨g22,d22⟩:=qa7 p22 (ps:=["self","day"]) λ_ _ _ _ _ _=>qcz λ_ _=>rfl;obtain⟨g23,d23⟩:=qa7 p23 (ps:=["self","many"]) λ_ _ _ _ _ _=>qcz λ_ _=>rfl;obtain⟨g24,d24⟩:=qa7 p24 (ps:=["self","first","many"]) λ_ _ _ _ _ _=>qhw λ_ _ _=>rfl;obtain⟨g25,d25⟩:=qa7 p25 (ps:=["self","first","last"]) λ_ _ _ _ _ _=>qhw λ_ _ _=>rfl;obtain⟨g26,d26⟩:=qa7 p26 (ps:=["self","first","last"]) λ_ _ _ _ _ _=>qhw λ_ _ _=>rfl;obtain⟨g27,d27⟩:=qa0 X G p27 (ps:=["kind","start","units","pauses"]) λ_ _ _ _ _ _=>qqm λ_ _ _ _=>rfl;obtain⟨g28,d28⟩:=qa7 p28 (ps:=["self","day"]) λ_ _ _ _ _ _=>qcz λ_ _=>rfl;obtain⟨g29,d29⟩:=qa0 X G p29 (ps:=["table","day","pauses"]) λ_ _ _ _ _ _=>qhw λ_ _ _=>rfl;obtain⟨g30,d30⟩:=qa0 X G p30 (ps:=["kind","start","units","pauses"]) λ_ _ _ _ _ _=>qqm λ_ _ _ _=>rfl;obtain⟨g32,d32⟩:=qa7 p32 (ps:=["self"]) λ_ _ _ _ _ _=>qcy λ_=>rfl;obtain⟨g33,d33⟩:=qa7 p33 (ps:=["self","name"]) λ_ _ _ _ _ _=>qcz λ_ _=>rfl;obtain⟨g34,d34⟩:=qa7 p34 (ps:=["self"]) λ_ _ _ _ _ _=>qcy λ_=>rfl;obtain⟨g35,d35⟩:=qa0 X G p35 (ps:=["runs"]) λ_ _ _ _ _ _=>qcy λ_=>rfl;obtain⟨g36,d36⟩:=qa7 p36 (ps:=["self","kind"]) λ_ _ _ _ _ _=>qcz λ_ _=>rfl;obtain⟨g37,d37⟩:=qa7 p37 (ps:=["self","kind"]) λ_ _ _ _ _ _=>qcz λ_ _=>rfl;obtain⟨g38,d38⟩:=qa7 p38 (ps:=["self"]) λ_ _ _ _ _ _=>qcy λ_=>rfl;obtain⟨g39,d39⟩:=qa7 p39 (ps:=["self","day"]) λ_ _ _ _ _ _=>qcz λ_ _=>rfl;obtain⟨g40,d40⟩:=qa7 p40 (ps:=["self","day"]) λ_ _ _ _ _ _=>qcz λ_ _=>rfl;obtain⟨g41,d41⟩:=qa7 p41 (ps:=["self"]) λ_ _ _ _ _ _=>qcy λ_=>rfl;obtain⟨g42,d42⟩:=qa7 p42 (ps:=["self"]) λ_ _ _ _ _ _=>qcy λ_=>rfl;obtain⟨g43,d43⟩:=qa7 p43 (ps:=["self","day"]) λ_ _ _ _ _ _=>qcz λ_ _=>rfl;obtain⟨g44,d44⟩:=qa7 p44 (ps:=["self","day","base"]) λ_ _ _ _ _ _=>qhw λ_ _ _=>rfl;obtain⟨g45,d45⟩:=qa7 p45 (ps:=["self","day"]) λ_ _ _ _ _ _=>qcz λ_ _=>rfl;obtain⟨g46,d46⟩:=qa7 p46 (ps:=["self","kind"]) λ_ _ _ _ _ _=>qcz λ_ _=>rfl;obtain⟨g47,d47⟩:=qa7 p47 (ps:=["self","day"]) λ_ _ _ _ _ _=>qcz λ_ _=>rfl;obtain⟨g48,d48⟩:=qa7 p48 (ps:=["self","word","day","kind"]) λ_ _ _ _ _ _=>qqm λ_ _ _ _=>rfl;obtain⟨g49,d49⟩:=qa7 p49 (ps:=["self","name","day","kind"]) λ_ _ _ _ _ _=>qqm λ_ _ _ _=>rfl;obtain⟨g51,d51⟩:=qa0 X G p51 (ps:=["book","table","runs","act"]) λ_ _ _ _ _ _=>qqm λ_ _ _ _=>rfl;obtain⟨g52,d52⟩:=qa7 p52 (ps:=["self","last"]) λ_ _ _ _ _ _=>qcz λ_ _=>rfl;obtain⟨g53,d53⟩:=qa7 p53 (ps:=["self"]) λ_ _ _ _ _ _=>qcy λ_=>rfl;obtain⟨g54,d54⟩:=qa0 X G p54 (ps:=["book","table","acts"]) λ_ _ _ _ _ _=>qhw λ_ _ _=>rfl;obtain⟨g55,d55⟩:=qa0 X G p55 (ps:=["name","bases","taken"]) λ_ _ _ _ _ _=>qhw λ_ _ _=>rfl;obtain⟨g56,d56⟩:=qa0 X G p56 (ps:=["rules"]) λ_ _ _ _ _ _=>qcy λ_=>rfl;obtain⟨g57,d57⟩:=qa0 X G p57 (ps:=["within","week","yearly"]) λ_ _ _ _ _ _=>qhw λ_ _ _=>rfl;obtain⟨g58,d58⟩:=qa0 X G p58 (ps:=["free_days"]) λ_ _ _ _ _ _=>qcy λ_=>rfl;obtain⟨g59,d59⟩:=qa0 X G p59 (ps:=["thing"]) λ_ _ _ _ _ _=>qcy λ_=>rfl;obtain⟨g60,d60⟩:=qa0 X G p60 (ps:=["week"]) λ_ _ _ _ _ _=>qcy λ_=>rfl;obtain⟨g61,d61⟩:=qa0 X G p61 (ps:=["thing"]) λ_ _ _ _ _ _=>qcy λ_=>rfl;obtain⟨g62,d62⟩:=qa0 X G p62 (ps:=["yearly"]) λ_ _ _ _ _ _=>qcy λ_=>rfl;obtain⟨g63,d63⟩:=qa0 X G p63 (ps:=["things"]) λ_ _ _ _ _ _=>qcy λ_=>rfl;obtain⟨g64,d64⟩:=qa0 X G p64 (ps:=["row"]) λ_ _ _ _ _ _=>qcy λ_=>rfl;obtain⟨g65,d65⟩:=qa0 X G p65 (ps:=["rows"]) λ_ _ _ _ _ _=>qcy λ_=>rfl;obtain⟨g66,d66⟩:=qa0 X G p66 (ps:=["_law_script","_law_k"]) λ_ _ _ _ _ _=>qcz λ_ _=>rfl;obtain⟨g67,d67⟩:=qa0 X G p67 (ps:=["_law_script","_law_k"]) λ_ _ _ _ _ _=>qcz λ_ _=>rfl;obtain⟨g68,d68⟩:=qa0 X G p68 (ps:=["_law_cell","_law_many"]) λ_ _ _ _ _ _=>qcz λ_ _=>rfl;obtain⟨g70,d70⟩:=qa0 X G p70 (ps:=["_law_script","_law_at","_law_k","_law_names","_law_kinds"]) λ_ _ _ _ _ _=>arg5 λ_ _ _ _ _=>rfl;obtain⟨g71,d71⟩:=qa0 X G p71 (ps:=["_law_script","_law_names","_law_kinds"]) λ_ _ _ _ _ _=>qhw λ_ _ _=>rfl;obtain⟨g72,d72⟩:=qa0 X G p72 (ps:=["_law_rules"]) λ_ _ _ _ _ _=>qcy λ_=>rfl;obtain⟨g73,d73⟩:=qa0 X G p73 (ps:=["_law_script","_law_rules","_law_names","_law_first","_law_many"]) λ_ _ _ _ _ _=>arg5 λ_ _ _ _ _=>rfl;obtain⟨g74,d74⟩:=qa0 X G p74 (ps:=["_law_rules","_law_name"]) λ_ _ _ _ _ _=>qcz λ_ _=>rfl;obtain⟨g75,d75⟩:=qa0 X G p75 (ps:=["_law_told","_law_chain_here"]) λ_ _ _ _ _ _=>qcz λ_ _=>rfl;obtain⟨g76,d76⟩:=qa0 X G p76 (ps:=["_law_told"]) λ_ _ _ _ _ _=>qcy λ_=>rfl;obtain⟨g77,d77⟩:=qa0 X G p77 (ps:=["_law_rules","_law_chain_here","_law_kinds"]) λ_ _ _ _ _ _=>qhw λ_ _ _=>rfl;obtain⟨g78,d78⟩:=qa7 p78 (ps:=["self","rules"]) λ_ _ _ _ _ _=>qcz λ_ _=>rfl;obtain⟨g79,d79⟩:=qa7 p79 (ps:=["self","week","yearly"]) λ_ _ _ _ _ _=>qhw λ_ _ _=>rfl;have F31:=qon (st:=qdn) l31 c31 k31;have b31:=F31.binds (ps:=["acts"]) λ_ _ _ _ _ _=>qcy λ_=>rfl;have F50:=qor (st:=qc2) l50 c50 k50;have b50:Binds K _ ["self","rule","table","name","day","base"] []:=qos (ds:=[]) λus hl S=>arg6 (p:=λus=>CK K S (bindArgs _ ⟨us,[]⟩)=some (List.zip (["self","rule","table","name","day","base"]:List Str) (us++[]))) (λu0 u1 u2 u3 u4 u5=>pk50 u0 u1 u2 u3 u4 u5 S) us (by rw[Br]at hl;exact hl);have F69:=qor (st:=qcf) l69 c69 k69;have b69:Binds K _ ["self","name","who","owes","opens","base","many","unit","still"] []:=qos (ds:=[]) λus hl S=>arg9 (p:=λus=>CK K S (bindArgs _ ⟨us,[]⟩)=some (List.zip (["self","name","who","owes","opens","base","many","unit","still"]:List Str) (us++[]))) (λu0 u1 u2 u3 u4 u5 u6 u7 u8=>pk69 u0 u1 u2 u3 u4 u5 u6 u7 u8 S) us (by rw[Br]at hl;exact hl);have F80:=qor (st:=qba) l80 c80 k80;have b80:Binds K _ ["self","week","yearly","rows"] []:=qos (ds:=[]) λus hl S=>qqm (p:=λus=>CK K S (bindArgs _ ⟨us,[]⟩)=some (List.zip (["self","week","yearly","rows"]:List Str) (us++[]))) (λu0 u1 u2 u3=>pk80 u0 u1 u2 u3 S) us (by rw[Br]at hl;exact hl);have F81:=qon (st:=qmz) l81 c81 k81;have b81:=F81.binds (ps:=["_law_script"]) λ_ _ _ _ _ _=>qcy λ_=>rfl;have he_TableInit_2:Binds K _ ["self","week","yearly","rows"] [.none,.none]:=qos λus hl S=>qcz (p:=λus=>CK K S (bindArgs _ ⟨us,[]⟩)=some (List.zip (["self","week","yearly","rows"]:List Str) (us++[.none,.none]))) (λu0 u1=>EQ u0 u1 S) us (by rw[Af]at hl;exact Nat.add_right_cancel hl);have T:Txt K mg {bJ:=f0,mS:=g0,rC:=f1,t9:=g1,rJ:=f2,mJ:=g2,tE:=f3,mQ:=g3,pO:=f4,tP:=g4,rK:=f5,rM:=g5,tZ:=f6,tL:=g6,mH:=f7,mM:=g7,gP:=f8,dD:=g8,bO:=f9,lQ:=g9,gW:=f10,fD:=g10,mZ:=f11,tR:=g11,lR:=f12,nY:=g12,hG:=f13,xP:=g13,rT:=f14,sM:=g14,m4:=f15,rS:=g15,sY:=f16,xG:=g16,y9:=f17,xM:=g17,tN:=f18,mT:=g18,pP:=f19,tG:=g19,fL:=f20,mF:=g20,fU:=f21,xX:=g21,fO:=f22,nR:=g22,fS:=f23,sH:=g23,bN:=f24,fZ:=g24,gQ:=f25,dS:=g25,bG:=f26,lI:=g26,sQ:=f27,xI:=g27,lE:=f28,xY:=g28,mW:=f29,tQ:=g29,mI:=f30,nJ:=g30,sR:=f31,bL:=_,fP:=f32,mU:=g32,hZ:=f33,mN:=g33,lP:=f34,nD:=g34,xA:=f35,yC:=g35,hU:=f36,nV:=g36,fM:=f37,xD:=g37,fY:=f38,nN:=g38,lB:=f39,rL:=g39,l9:=f40,nZ:=g40,bD:=f41,bK:=g41,bA:=f42,bQ:=g42,m8:=f43,tO:=g43,fK:=f44,tK:=g44,lC:=f45,tU:=g45,mB:=f46,sU:=g46,lU:=f47,tT:=g47,lH:=f48,pD:=g48,lV:=f49,rZ:=g49,m6:=f50,rH:=_,xU:=f51,xH:=g51,m5:=f52,pJ:=g52,fV:=f53,rO:=g53,pK:=f54,rE:=g54,mR:=f55,pV:=g55,tH:=f56,rY:=g56,r8:=f57,nO:=g57,xN:=f58,xF:=g58,rF:=f59,pZ:=g59,tW:=f60,xC:=g60,pH:=f61,pR:=g61,xV:=f62,mO:=g62,nA:=f63,sK:=g63,mP:=f64,rB:=g64,tV:=f65,yG:=g65,tY:=f66,rD:=g66,tD:=f67,mL:=g67,rR:=f68,sL:=g68,fX:=f69,pU:=_,nE:=f70,nC:=g70,mK:=f71,nM:=g71,xK:=f72,xL:=g72,rV:=f73,xS:=g73,rX:=f74,xW:=g74,nL:=f75,xZ:=g75,xJ:=f76,sT:=g76,rA:=f77,sG:=g77,fQ:=f78,rN:=g78,hM:=f79,sV:=g79,hX:=f80,lG:=_,mG:=fa,nK:=_,kO:=EB,kN:=BB,kP:=BT,kK:=CC,kE:=EC,kA:=Cl,kI:=D1,kR:=CT,lD:=FI}:={
  fF:=d0,
  dN:=d1,
  kZ:=d2,
  gL:=d3,
  gF:=d4,
  bZ:=d5,
  bS:=d6,
  fE:=d7,
  mE:=d8,
  yD:=d9,
  mC:=d10,
  gJ:=d11,
  bI:=d12,
  xQ:=d13,
  gM:=d14,
  l6:=d15,
  gX:=d16,
  dB:=d17,
  dL:=d18,
  dO:=d19,
  fA:=d20,
  lJ:=d21,
  gU:=d22,
  lA:=d23,
  xB:=d24,
  lW:=d25,
  rW:=d26,
  dR:=d27,
  mD:=d28,
  dQ:=d29,
  kY:=d30,
  bX:=⟨F31,Be X G a31,b31⟩,
  nQ:=d32,
  tS:=d33,
  xR:=d34,
  dU:=d35,
  pY:=d36,
  rQ:=d37,
  lZ:=d38,
  hJ:=d39,
  pN:=d40,
  gH:=d41,
  gE:=d42,
  xT:=d43,
  lK:=d44,
  pW:=d45,
  nU:=d46,
  tJ:=d47,
  rG:=d48,
  mY:=d49,
  sS:=⟨F50,b50,t50⟩,
  fJ:=d51,
  yF:=d52,
  n9:=d53,
  gT:=d54,
  fG:=d55,
  bW:=d56,
  bR:=d57,
  bV:=d58,
  bU:=d59,
  dG:=d60,
  dX:=d61,
  fH:=d62,
  gC:=d63,
  dJ:=d64,
  dE:=d65,
  gA:=d66,
  kL:=d67,
  gK:=d68,
  yE:=⟨F69,b69,t69⟩,
  dZ:=d70,
  dW:=d71,
  gS:=d72,
  dP:=d73,
  dC:=d74,
  gR:=d75,
  dI:=d76,
  dH:=d77,
  yH:=d78,
  pC:=d79,
  zA:=⟨F80,b80,t80⟩,
  zR:=⟨F81,Be X G a81,b81⟩,
  zO:=Be X G FJ,
  gI:=qf8 FO,
  yI:=qj5 FP,
  bC:=FQ,
  yP:=qai EJ,
  yN:=qai ER,
  yO:=Be X G Fc,
  bH:=qf8 Fg,
  zP:=qj5 Fh,
  yB:=Fi,
  zG:=qai cti_Counting_counted_in,
  zZ:=qai cti_Counting_days_for,
  zC:=qai cti_Counting_reach,
  KZ:=Fj,
  KP:=beq_iff_eq.mp ckd_Counting_Counting,
  KO:=beq_iff_eq.mp ckd_Counting_Weeks,
  G3:=beq_iff_eq.mp ckd_Counting_CourtDays,
  KS:=qai E3,
  KJ:=qai E8,
  KM:=qai Ds,
  K8:=Be X G F1,
  gG:=qf8 F5,
  KA:=qj5 F6,
  gZ:=F7,
  zH:=qai cti_CourtDays_counted_in,
  yL:=qai cti_CourtDays_days_for,
  zF:=qai cti_CourtDays_reach,
  KW:=F8,
  G0:=beq_iff_eq.mp ckd_CourtDays_Counting,
  G1:=beq_iff_eq.mp ckd_CourtDays_Weeks,
  KY:=beq_iff_eq.mp ckd_CourtDays_CourtDays,
  G2:=qai E7,
  KH:=qai D2,
  yU:=Be X G Fn,
  kQ:=qf8 Fp,
  zW:=qj5 Fq,
  gD:=Fr,
  fC:=qai E2,
  zN:=qai E4,
  xE:=qai ES,
  hV:=qai E9,
  yW:=Be X G FK,
  kG:=qf8 FR,
  yJ:=qj5 FS,
  kH:=FT,
  KG:=qai E5,
  zV:=qai F9,
  yQ:=Be X G FX,
  k8:=qf8 G5,
  K6:=qj5 G6,
  kD:=G7,
  K9:=qai EY,
  pE:=qai EK,
  xO:=qai Fk,
  K0:=qai EZ,
  bP:=qai ET,
  bE:=qai EM,
  KB:=qai Ey,
  rP:=qai F0,
  z9:=qai EE,
  KD:=qai EN,
  yS:=qai Fl,
  zD:=qai Fa,
  KC:=qai Fm,
  yX:=qai EF,
  zE:=qai EU,
  zM:=Be X G Fw,
  kM:=qf8 FA,
  zX:=qj5 FB,
  kW:=FC,
  r9:=qai EV,
  gY:=qai EO,
  mV:=qai Fb,
  pQ:=qai EA,
  zT:=Be X G Fx,
  bM:=qf8 FD,
  yK:=qj5 FE,
  sZ:=FF,
  zK:=qai cti_Weeks_counted_in,
  yM:=qai cti_Weeks_days_for,
  K4:=qai cti_Weeks_reach,
  KR:=FG,
  KI:=beq_iff_eq.mp ckd_Weeks_Counting,
  KQ:=beq_iff_eq.mp ckd_Weeks_Weeks,
  KN:=beq_iff_eq.mp ckd_Weeks_CourtDays,
  KU:=qai EG,
  zY:=he_TableInit_2,
  zU:=Bi X G G9,
  zQ:=Bi X G FY,
  dY:=Bi X G Fd,
  yT:=Bi X G Ga,
  bY:=Bi X G F3,
  kX:=Bi X G Gb,
  bT:=Bi X G FZ,
  fN:=Bi X G Gc,
  sI:=Bi X G Ge,
  gB:=Bi X G FL,
  K3:=Bi X G Fo,
  K5:=Bi X G Gf,
  nH:=Bi X G Fy,
  yY:=Bi X G Gg,
  zL:=Bi X G FM,
  zI:=⟨_,Be X G EH⟩,
  z4:=⟨_,Be X G EW⟩,
  KF:=⟨_,Be X G E6⟩,
  m9:=⟨_,Be X G F4⟩,
  fT:=⟨_,Be X G Fe⟩,
  KE:=⟨_,Be X G Ff⟩,
  K7:=⟨_,Be X G EI⟩,
  yA:=⟨_,Be X G G4⟩,
  yZ:=⟨_,Be X G ED⟩,
  yR:=Be X G FN,yV:=λH=>.inr ⟨_,_,_,Fz,rfl,rfl,by show 2<=A6;rw[B3];decide,.cons ⟨_,rfl⟩ (.cons ⟨_,rfl⟩ (.nil))⟩}
 exact⟨_,cL,PL,λs v=>.of_eq rfl,Lam.tab_mk a31 l31 rfl lcL vL,tnL,λbase _ _ LF=>okLaw T rfl LF⟩
theorem walk {l:PySem.W.OpenLaw}{q:AK}{loose:List Str}{XP:(Str->Option Value)->Heap->Prop}{YP:World->Heap->Prop}{d d':DefRec}{K:Params->Ag}(hn:l.most=some 63)(hdf:d.params.defaults=[])(hrec:(PyProof.Rows.recsOf q).find? (λe=>e.name == ("in_order" : Str))=some d')
  (hY:∀(w:World)(h:Heap),YP w h->(K w.params).In h)
  (F:∀(w:World)(mg:Str->Option Value)(fa:Addr)(h:Heap),(K w.params).In h->h.Ns A4 mg->mg d.name=some (.ref fa) ->
   ∃(fd:Ay)(c Pt:Addr),(∀(s:Ae)(u:Value),BindsTo s fd ⟨[u],[]⟩ [("_law_script",u)])/\PySem.W.tabIn (K w.params) "in_order"=some (c,Pt)/\(K w.params).lookup Pt=none /\
    ∀base:Heap,(K w.params).In base->base.Ns A4 mg->Lam.LamF mg base c Pt->FnOk l.prog w (K w.params) mg base CX0 25 fa fd ["_law_script"] (qpi (K w.params) Pt)) :
  PySem.W.WalkO q loose XP YP l.row.toRowW d [] (λf vs=>PySem.call f vs) :=
 Lam.walk_tab (n:=63) (k:=25) (x := "_law_script") (dn := "in_order") (CX:=λ_=>CX0) (sp:=λw Pt=>qpi (K w.params) Pt) hn Uk hdf ⟨rfl,Uk,Uk⟩ hrec hY F (λ_ _ a Pt ns hl hP hS=>⟨a,ns,rfl,hS,hl,hP,λ_=>rfl⟩) λ_ _ _ _ _ z=>z
end K56
namespace PySem.W.Fast
def tw15281412677063520871:=()
def tw8889328837746620763:=()
def tw13549638252853424120:=()
def tw15459678847477329690:=()
def tw16653510858435783719:=()
def tw2242206955382741913:=()
def tw12798420383953585777:=()
def tw5123267886239605684:=()
def tw2799002480590472317:=()
def tw16637593968972763613:=()
def tw8683173454190907168:=()
def tw8918965627790806563:=()
def tw7025866713837471999:=()
def tw17328385965505248116:=()
def tw477470054850685542:=()
def tw1523076997357083798:=()
def tw12988893622837394082:=()
def tw7517139319053403407:=()
def tw15483464628836762994:=()
def tw5878792929367153646:=()
def tw18047103576954751538:=()
def tw6669219292145538616:=()
def tw3821343869944430774:=()
def tw239487116273446118:=()
def tw10896748326219703483:=()
def tw12608224703053537350:=()
def tw6078738549382981325:=()
def tw12543879789468429259:=()
def tw15937158748291696028:=()
def tw13676143455928388169:=()
def tw4318505277881927395:=()
def tw6298804869192914211:=()
def tw10137945323458088971:=()
def tw10367859882884366312:=()
def tw8687575888295420173:=()
def tw5592668116771758616:=()
def tw10896153165481498579:=()
def tw10611007975776252379:=()
def tw4160158982011016694:=()
def tw10705957184140538098:=()
def tw9428618815705581162:=()
def tw18272428776305270118:=()
def tw10937979421207444592:=()
def tw3323038646134788088:=()
def tw12027145707884031915:=()
def tw12056763469823547270:=()
def tw10177630512249686779:=()
def tw14383051304917414427:=()
def tw8465661107677051326:=()
def tw12470450998414339914:=()
def tw3989749134321706905:=()
def tw17846765996140681802:=()
def tw9089411750169232605:=()
def tw2087136932953579478:=()
def tw14237429440431568832:=()
def tw192950902373913180:=()
def tw13067056773730006404:=()
def tw8152651016548784979:=()
def tw16487842746405036539:=()
def tw18048036439003304899:=()
def tw304384155837776017:=()
def tw14346493036996725953:=()
def tw13724645966322749665:=()
def tw7055546512751801217:=()
def tw13761780405830413198:=()
def tw5515305135049653517:=()
def tw7801968464056379075:=()
def tw2399674946413633923:=()
def tw14762114818320779777:=()
def tw8084091653238748358:=()
def tw14627065345787831351:=()
def tw18189250089078066053:=()
def tw15107345993357220421:=()
def tw12229560801308216683:=()
def tw8475179355667222972:=()
def tw14027975026786892879:=()
def tw6534700976164849341:=()
def tw15456724819430463365:=()
def tw7167726242914454524:=()
def tw2016815051143901709:=()
def tw12519139313373772708:=()
def tw17849413251540653311:=()
def tw1739024253094809079:=()
def tw15319829779794342710:=()
def tw16054252025263666548:=()
def tw8845769905651823824:=()
def tw11488108806559820581:=()
def tw6849259558853591568:=()
def tw11279282058821568634:=()
def tw8076189291365169740:=()
def tw11787602444261322317:=()
def tw11446140988198877556:=()
def tw6136422640072385748:=()
def tw14942346493240255356:=()
def tw4985689938611368168:=()
def tw14175936189577429097:=()
def tw4260078381032366741:=()
def tw555923006277361935:=()
def tw12798354066700966386:=()
def tw17074587827264430334:=()
def tw16310433864412640123:=()
def tw17815213961406605963:=()
def tw9180042990139927869:=()
def tw8667331079308271669:=()
def tw4768146998550253878:=()
def tw3417595160789937034:=()
def tw14167312210308342927:=()
def tw5135121678412365190:=()
def tw4352694537830042611:=()
def tw17665862158356317372:=()
def tw1862981786168228522:=()
def tw11205366963601934251:=()
def tw11613350368140072570:=()
def tw10802883754958873368:=()
def tw725985516205575525:=()
def tw5612769152822220861:=()
def tw11318940010212264073:=()
def tw12174087122153544578:=()
def tw12004336352468157165:=()
def tw3816838902683993974:=()
def tw14690056235584325835:=()
def tw2054398436984252447:=()
def tw2114133302385096379:=()
def tw10095796582409076695:=()
def tw11984359527018711471:=()
def tw439325881852210664:=()
def tw9649211816787729646:=()
def tw15739383778171953929:=()
def tw8708165095762871499:=()
def tw16372371619048338840:=()
def tw8163286856705282932:=()
def tw2279439171944170063:=()
def tw10994808420885560283:=()
def tw1968206451692940488:=()
def tw13431434252616702224:=()
def tw4997962355794234490:=()
def tw1104036828245012695:=()
def tw1878043609622664374:=()
def tw3542938725137375243:=()
def tw10240015033413373173:=()
def tw12542185922898378645:=()
def tw2508863329568010177:=()
def tw18232310052925784188:=()
def tw9905897789101265838:=()
def tw12259647627291972127:=()
def tw14685462662407842717:=()
def tw2112541689670587544:=()
def tw14275204471666431352:=()
def tw5005637235282096648:=()
def tw15979167525978621479:=()
def tw3621331607335783834:=()
def tw2110031326320938367:=()
def tw13419183984443129911:=()
def tw3305543344838367627:=()
def tw4591890998582888179:=()
def tw3682130977871649717:=()
def tw7245337841991657834:=()
def tw4886405704696711053:=()
def tw12334827166722061786:=()
def tw2177228833680479989:=()
def tw4469965642185669430:=()
def tw8208141469781846463:=()
def tw13270727940341643456:=()
def tw17472059539905220044:=()
def tw3745256788025939853:=()
def tw10876905073312836849:=()
def tw9536064966563665420:=()
def tw3157922316378720010:=()
def tw3802909811635332976:=()
def tw14369465434091418930:=()
def tw10077079047180829232:=()
def tw7776925020635852523:=()
def tw10262485148252556436:=()
def tw8724220430441328151:=()
def tw6193085998765341496:=()
def tw17421956395517515106:=()
def tw8315759450763447949:=()
def tw17365336068142914367:=()
def tw8629706758321340951:=()
def tw7028219210193856526:=()
def tw2801060252888125265:=()
def tw3459834561187953698:=()
def tw2208980498010166571:=()
def tw7630102956516675941:=()
def tw11447772690222138135:=()
def tw16818114891032541217:=()
def tw4809247639268261945:=()
def tw9152432922812411154:=()
def tw12464617347358313325:=()
def tw14910671083529875849:=()
def tw9676871658554816698:=()
def tw8585967405203554106:=()
def tw16067759720224908364:=()
def tw7911512085858391320:=()
def tw7910958091102746443:=()
def tw11311647971593211588:=()
def tw13587268987334040203:=()
def tw5153295186346866861:=()
def tw3284862424471033558:=()
def tw6225945029909084630:=()
def tw4853157069912622163:=()
def tw9837374769662310033:=()
def tw3929672557765089421:=()
def tw7524741461351047539:=()
def tw5828602336156015667:=()
def tw2753660566300372608:=()
def tw827425084623782132:=()
def tw2342881998221027416:=()
def tw11291942488115832442:=()
def tw6196709592005000228:=()
def tw10535800726479825441:=()
def tw14887675509963688362:=()
def tw2875581520979230367:=()
def tw3443948471885978273:=()
def tw11146401107958421918:=()
def tw7799309591339732803:=()
def tw18214821755538259053:=()
def tw9348103497896617784:=()
def tw8927683568665895877:=()
def tw12312765026892104018:=()
def tw10486417672406990869:=()
def tw1620785025203276245:=()
def tw11431388840096114814:=()
def tw4642330045269513181:=()
def tw2126728712138111476:=()
def tw9159494524664151141:=()
def tw3696919825949345923:=()
def tw1057808672685825572:=()
def tw12927047399795346312:=()
def tw4702000638217087516:=()
def tw13775753795479871979:=()
def tw10084115849073928804:=()
def tw17955195522235980660:=()
def tw3912492276996664763:=()
def tw2418998993890559026:=()
def tw3430025508268227597:=()
def tw16854238420628836945:=()
def tw8196223555509530968:=()
def tw8142522592599043949:=()
def tw5146617257675462600:=()
def tw6478815201449116909:=()
def tw4593512315971927761:=()
def tw7625226520344213649:=()
def tw4593501440117933754:=()
def tw213387991576437267:=()
def tw4698240263577147319:=()
def tw4667712985467576031:=()
def tw8090965347421128872:=()
def tw12055770279161528409:=()
def tw7432526088542611897:=()
def tw18250388796332266797:=()
def tw18020415485837247117:=()
def tw13554420048122311327:=()
def tw2099505748762047929:=()
def tw13817125420801960227:=()
def tw8156328985840476579:=()
def tw2708723321712854219:=()
def tw15898963468060203212:=()
def tw5416609852386011263:=()
def tw5072529794079089598:=()
def tw14350776519397615174:=()
def tw4310153609679365021:=()
def tw5772628144713727569:=()
def tw4195669149826597425:=()
def tw12401281866085851256:=()
def tw5272293835847291092:=()
def tw10200446917499003437:=()
def tw12991687065354914666:=()
def tw11169378186177486549:=()
def tw17785798458779213000:=()
def tw14333478685279523471:=()
def tw12344659627905096736:=()
def tw2413093829121352882:=()
def tw14641266155735698642:=()
def tw12606398841400844877:=()
def tw1578069916071351592:=()
def tw4634843986870762951:=()
def tw1433071374425930630:=()
def tw5876767049642385635:=()
def tw13307704139307942558:=()
def tw2877355820973843269:=()
def tw55646999321816454:=()
def tw11177045483190915360:=()
def tw15149979289954168702:=()
def tw2802163628673967197:=()
def tw12303525258406159303:=()
def tw7113740015719452152:=()
def tw4563041042134595599:=()
def tw15062433979173593630:=()
def tw15487649929787867582:=()
def tw14838956418028625986:=()
def tw5451400090721992096:=()
def tw7100972178377361543:=()
def tw871339578175111273:=()
def tw6300452255301107236:=()
def tw8847482784176428433:=()
def tw14048514004379381962:=()
def tw10494777176367351524:=()
def tw2490552212801776709:=()
def tw6324221291374268268:=()
def tw17983049850644618072:=()
def tw3484354798861069845:=()
def tw2721238240129686330:=()
def tw2888234001676843163:=()
def tw1242619057168477144:=()
def tw5908246108326661084:=()
def tw8541297847873124988:=()
def tw8985993179009457202:=()
def tw8639997559212979743:=()
def tw17978402294514338192:=()
def tw8372104951774102662:=()
def tw1997289137684929365:=()
def tw10114451753724888919:=()
def tw18377458916691269766:=()
def tw6817809078466555039:=()
def tw1662773277067087325:=()
def tw2393026361936615157:=()
def tw17667259637956274006:=()
def tw12290484318815514596:=()
def tw2187642259135726775:=()
def tw1755569097692455759:=()
def tw1116035362682253328:=()
def tw6453772619657694155:=()
def tw9595710720466372423:=()
def tw9140946089670555245:=()
def tw10050243779362137513:=()
def tw16355473603334174564:=()
def tw638826006273767245:=()
def tw8582584063541606070:=()
def tw9998217478445032081:=()
def tw5252984540415310589:=()
def tw4804415111212604991:=()
def tw5455748551543442683:=()
def tw13612977566914186825:=()
def tw11909554807685151409:=()
def tw17831139304805561637:=()
def tw2001756832660631508:=()
def tw10191636581198975780:=()
def tw13311428532663187910:=()
def tw1179449160967734997:=()
def tw13344098492456813453:=()
def tw17208524544262753468:=()
def tw16460336944109487906:=()
def tw2834527063633968194:=()
def tw7465420344653037326:=()
def tw12812569149112334508:=()
def tw11968343240919422443:=()
def tw598432617833954604:=()
def tw5381805620587970709:=()
def tw4864923221286563022:=()
def tw7298312189416936310:=()
def tw3214115584124798374:=()
def tw6776976263191126217:=()
def tw13684997154034127253:=()
def tw13640060229131469677:=()
def tw6374044408966906684:=()
def tw13069479670525457415:=()
def tw16171353910709190617:=()
def tw683851809570843390:=()
def tw13701492099164062186:=()
def tw12752938318517455876:=()
def tw10980387702261416233:=()
def tw12497033754815533990:=()
def tw3373189492827822102:=()
def tw18340853731595236841:=()
def tw9161449925874444318:=()
def tw65816151196938761:=()
def tw2022050612503835098:=()
def tw10550983562963769906:=()
def tw10211399740136835174:=()
def tw3437192284921179522:=()
def tw14944651611635768190:=()
def tw1307746888016686089:=()
def tw6304978827942317667:=()
def tw5506854054293348732:=()
def tw2826488466853035930:=()
def tw2144654690072536819:=()
def tw12420224750119553249:=()
def tw14486597242768365952:=()
def tw7356442542392078447:=()
def tw9507439239603029656:=()
def tw2687649108528182222:=()
def tw13513274667554232839:=()
def tw7748285245615978815:=()
def tw9216001578961221838:=()
def tw15521918011016667048:=()
def tw11172337632997651411:=()
def tw3409533134755556882:=()
def tw14552314648224891067:=()
def tw11831017865126701161:=()
def tw49996140411054050:=()
def tw15010814881388327707:=()
def tw3488180279781532045:=()
def tw6669672052099411128:=()
def tw8874350745719464376:=()
def tw10168600369733725830:=()
def tw11596667286203251606:=()
def tw10495932876551992316:=()
def tw12417486598550115124:=()
def tw3082799044241860761:=()
def tw5240486995632102475:=()
def tw2757816936312471507:=()
def tw597207065373393315:=()
def tw12076883056880636360:=()
def tw7725739067037162764:=()
def tw2306571941356585418:=()
def tw5498348788131503617:=()
def tw17923129074781500024:=()
def tw17589624640261816519:=()
def tw10209702759543725228:=()
def tw17505891676767508328:=()
def tw7596912095751002520:=()
def tw5756157487060412456:=()
def tw1987776247952729323:=()
def tw18107534741693560490:=()
def tw12739975643037329130:=()
def tw16444828751944098069:=()
def tw9054260661159481153:=()
def tw13366250943745145961:=()
def tw1418883451847665138:=()
def tw17617099773641704703:=()
def tw2134515062824634379:=()
def tw14949292663365975110:=()
def tw17890812751112115903:=()
def tw6969519217650077378:=()
def tw12132205725863191264:=()
def tw17191278406836614563:=()
def tw6789866317928262827:=()
def tw2964902822300681183:=()
def tw5028006842625599940:=()
def tw9105574224899272105:=()
def tw6991398110874224238:=()
def tw1526997514635451328:=()
def tw131278648432016054:=()
def tw18395403472112625416:=()
def tw3470074148231173990:=()
def tw11209451453687234527:=()
def tw11794803290209356245:=()
def tw7494084734051564271:=()
def tw16167843372683437082:=()
def tw11860536506162189202:=()
def tw4877925099201374199:=()
def tw1712555853180350598:=()
def tw18292963048212636638:=()
def tw14488192019465398882:=()
def tw1771557965768673224:=()
def tw3608722167942302163:=()
def tw3867936352531752383:=()
def tw8959276017028822445:=()
def tw12624839097022690455:=()
def tw13640335824158718239:=()
def tw7366489033300560749:=()
def tw6453464785314612932:=()
def tw15056066308066853207:=()
def tw1809892961659464443:=()
def tw11660387697649311919:=()
def tw5878725488176470892:=()
def tw14764987669769233524:=()
def tw5716291201328054834:=()
def tw9555995052270040236:=()
def tw1570219275002029261:=()
def tw13432802637364718059:=()
def tw10307968135461278592:=()
def tw5629020594945506633:=()
def tw13387151792607885592:=()
def tw14718720580024769809:=()
def tw12341096833619638912:=()
def tw8879395841449141648:=()
def tw2417603625965077569:=()
def tw11806458907517798843:=()
def tw16613378378001522934:=()
def tw5046082537886384804:=()
def tw9933561855155900221:=()
def tw1662071016934800083:=()
def tw8594474579873160678:=()
def tw3629147466306583567:=()
def tw14049693644735409691:=()
def tw8006721035298295264:=()
def tw5609460985716581972:=()
def tw11947000068923558705:=()
def tw6222491746383772109:=()
def tw4855518069345756119:=()
def tw7164038013266037409:=()
def tw8300540722106553922:=()
def tw14847261057078364158:=()
def tw8375246108852335315:=()
def tw7716514086569829222:=()
def tw15317692107806503648:=()
def tw16088063822827049719:=()
def tw11318489112012609455:=()
def tw8316034528567813062:=()
def tw10384009538383267253:=()
def tw17497139503752939851:=()
def tw11453007580870005523:=()
def tw16948680987658775123:=()
def tw10286490920648325393:=()
def tw2865051317389596486:=()
def tw6352195892078818939:=()
def tw1758344459610660170:=()
def tw8198657105573703711:=()
def tw16144200509365479784:=()
def tw283986408551308656:=()
def tw8783207518796916853:=()
def tw16183104115884719906:=()
def tw791340530629488773:=()
def tw9894843088114390691:=()
def tw14916635509604977172:=()
def tw5857940610935216523:=()
def tw3767292781623551587:=()
def tw10807167285295199685:=()
def tw572680119864244720:=()
def tw13434436929191171142:=()
def tw13133295331065762108:=()
def tw12744781187102259348:=()
def tw12264503964159439212:=()
def tw10502502467814467161:=()
def tw13623855829885056569:=()
def tw7961348954913013164:=()
def tw8413109831033899014:=()
def tw6768114400667045578:=()
def tw11279413335698902444:=()
def tw11208786081949202268:=()
def tw3806309670011368832:=()
def tw17618121455194782556:=()
def tw8630813806195429344:=()
def tw13104349348585435582:=()
def tw9854332036107378791:=()
def tw14975615496639906804:=()
def tw16331916430302247676:=()
def tw13260764907638388876:=()
def tw18293245374492828263:=()
def tw6434745555521304659:=()
def tw10047498735646026281:=()
def tw11376549088237636095:=()
def tw820919005143578540:=()
def tw11933025496087509529:=()
def tw16463163623730188559:=()
def tw7871824247994883575:=()
def tw4538747186957952126:=()
def tw11741216676692902345:=()
def tw4110109485311926776:=()
def tw7738021101443859058:=()
def tw13733561245168841025:=()
def tw1719882080717170347:=()
def tw10090044550596580391:=()
def tw3307225017156708115:=()
def tw14714726644461171056:=()
def tw3002047495237041474:=()
def tw12224620672838779945:=()
def tw11686983294885764909:=()
def tw15663649216157854973:=()
def tw7759932603037682919:=()
def tw12505409877446399757:=()
def tw5966320800633993547:=()
def tw8129542964838270962:=()
def tw12857014938233031429:=()
def tw144196714377379046:=()
def tw6591576883522196666:=()
def tw18239439889329148262:=()
def tw3458041198827239471:=()
def tw13265521399503535187:=()
def tw16174058502087156768:=()
def tw15539931396243228232:=()
def tw2731623268084649940:=()
def tw13920640341760920815:=()
def tw1643874235638822860:=()
def tw14943469010861627026:=()
def tw12320545238007485590:=()
def tw212035751460507308:=()
def tw9084677536664578262:=()
def tw5865735556682959336:=()
def tw9081983764314910453:=()
def tw7902552696279162836:=()
def tw18104499346088908616:=()
def tw8179507956764510319:=()
def tw772185136571466584:=()
def tw10878677813034095566:=()
def tw3514773992862391498:=()
def tw1987650760076755877:=()
def tw9095153089591881917:=()
def tw4289844882256697178:=()
def tw17571398546828793168:=()
def tw8774752775851028545:=()
def tw12691377434369157672:=()
def tw10358503477373506809:=()
def tw11516671294890137772:=()
def tw11194385700637522472:=()
def tw13261015064230909822:=()
def tw15589742304303953054:=()
def tw4123234786452513081:=()
def tw401895190194332894:=()
def tw6609270274848915651:=()
def tw17612323433278169401:=()
def tw12305902367186112466:=()
def tw790352788434858593:=()
def tw14377322226559726200:=()
def tw9875548169765220810:=()
def tw12976129827696884136:=()
def tw3463664190130209940:=()
def tw10669464475286468213:=()
def tw3382742140207148666:=()
def tw11163943659343575867:=()
def tw17713085772582034984:=()
def tw6128179066721604326:=()
def tw4002633671698738785:=()
def tw9022961623194823900:=()
def tw10702383406407328861:=()
def tw13422895915113394648:=()
def tw8379868526270911956:=()
def tw7387640812671427632:=()
def tw12473457560674680459:=()
def tw2954611778152497840:=()
def tw16005775756092977957:=()
def tw16995717804394424433:=()
def tw2186624552035263692:=()
def tw6257096378470306035:=()
def tw18224775056389541124:=()
def tw11112879096934682763:=()
def tw2575437969903183948:=()
def tw11258948730397636236:=()
def tw12310408842709386089:=()
def tw8256920894818745738:=()
def tw5007491321452323695:=()
def tw13704919460815836585:=()
def tw6068813245567075817:=()
def tw10740489011801865779:=()
def tw16092625556670042910:=()
def tw13586553160003396892:=()
def tw9357948233470306093:=()
def tw8635918326395262911:=()
def tw13054347349989862433:=()
def tw7125980930162380783:=()
def tw18335391046063225403:=()
def tw7817396138395375890:=()
def tw10981425760891889925:=()
def tw18400585840896881136:=()
def tw7848297556427625970:=()
def tw4586625978742084472:=()
def tw9847480322013326280:=()
def tw4646893860673853606:=()
def tw3413422252617448303:=()
def tw6295353110522067952:=()
def tw3866040842948755058:=()
def tw6868297268784222010:=()
def tw16649371864918082625:=()
def tw2012824915967023693:=()
def tw1968820268663152216:=()
def tw7250916830164591818:=()
def tw2128767945078893601:=()
def tw11157599092989053388:=()
def tw4092161484998911262:=()
def tw534229762332976830:=()
def tw17345439740190573857:=()
def tw11241429712861269774:=()
def tw10667183789338372945:=()
def tw15555031382579352520:=()
def tw13483263471963130487:=()
def tw17726519792385969785:=()
def tw17963948724042862516:=()
def tw15232012500025296730:=()
def tw18241650490759789093:=()
def tw4150429100866616385:=()
def tw1940319457576438121:=()
def tw2653108502617910235:=()
def tw6236552769843168482:=()
def tw7607214517611372821:=()
end PySem.W.Fast
open PySem PySem.W PyProof.Rows
set_option maxRecDepth 100000 in
set_option maxHeartbeats 0 in
theorem PySem.Challenge.cw_termcourt_k56_what_did_nothing_holds : PySem.Challenge.rw_termcourt_k56_what_did_nothing.Holds := by
 w_on; o_law; k_head; (case hw=>w_witness2)
 k_fill
 refine K56.walk (l:=PySem.Challenge.rw_termcourt_k56_what_did_nothing) rfl rfl (by rfl) (λw h Y=>PySem.W.km_in_of Y) ?F
 case F =>
  intro w mg fa h KX G hmg
  refine' K56.all_mk KX G hmg ?FJ ?Fc ?F1 ?Fn ?FK ?FX ?Fw ?Fx ?p0 ?p1 ?p2 ?p3 ?p4 ?p5 ?p6 ?p7 ?p8 ?p9 ?p10 ?p11 ?p12 ?p13 ?p14 ?p15 ?p16 ?p17 ?p18 ?p19 ?p20 ?p21 ?p22 ?p23 ?p24 ?p25 ?p26 ?p27 ?p28 ?p29 ?p30 ?a31 ?l31 ?c31 ?k31 ?p32 ?p33 ?p34 ?p35 ?p36 ?p37 ?p38 ?p39 ?p40 ?p41 ?p42 ?p43 ?p44 ?p45 ?p46 ?p47 ?p48 ?p49 ?a50 ?t50 ?l50 ?c50 ?k50 ?pk50 ?p51 ?p52 ?p53 ?p54 ?p55 ?p56 ?p57 ?p58 ?p59 ?p60 ?p61 ?p62 ?p63 ?p64 ?p65 ?p66 ?p67 ?p68 ?a69 ?t69 ?l69 ?c69 ?k69 ?pk69 ?p70 ?p71 ?p72 ?p73 ?p74 ?p75 ?p76 ?p77 ?p78 ?p79 ?a80 ?t80 ?l80 ?c80 ?k80 ?pk80 ?EQ ?a81 ?l81 ?c81 ?k81 ?G9 ?FY ?Fd ?Ga ?F3 ?Gb ?FZ ?Gc ?Ge ?FL ?Fo ?Gf ?Fy ?Gg ?FM ?EH ?EW ?E6 ?F4 ?Fe ?Ff ?EI ?G4 ?ED ?FN ?Fz ?lcL ?vL ?FO ?FP ?FQ ?EJ ?ER ?Fg ?Fh ?Fi ?cti_Counting_counted_in ?cti_Counting_days_for ?cti_Counting_reach ?Fj ?ckd_Counting_Counting ?ckd_Counting_Weeks ?ckd_Counting_CourtDays ?E3 ?E8 ?Ds ?F5 ?F6 ?F7 ?cti_CourtDays_counted_in ?cti_CourtDays_days_for ?cti_CourtDays_reach ?F8 ?ckd_CourtDays_Counting ?ckd_CourtDays_Weeks ?ckd_CourtDays_CourtDays ?E7 ?D2 ?Fp ?Fq ?Fr ?E2 ?E4 ?ES ?E9 ?FR ?FS ?FT ?E5 ?F9 ?G5 ?G6 ?G7 ?EY ?EK ?Fk ?EZ ?ET ?EM ?Ey ?F0 ?EE ?EN ?Fl ?Fa ?Fm ?EF ?EU ?FA ?FB ?FC ?EV ?EO ?Fb ?EA ?FD ?FE ?FF ?cti_Weeks_counted_in ?cti_Weeks_days_for ?cti_Weeks_reach ?FG ?ckd_Weeks_Counting ?ckd_Weeks_Weeks ?ckd_Weeks_CourtDays ?EG ?tnL
  (case FJ|Fc|F1|Fn|FK|FX|Fw|Fx=>k_is)
  (case p0=>refine' K56.pm_of ?pa ?pt ?pl ?pc ?pk; (case pa|pt|pl|pc|pk=>k_is))
  (case p1|p2|p3|p4|p5|p6|p7=>refine' K56.pd_of ?pa ?pl ?pc ?pk; (case pa|pl|pc|pk=>k_is))
  (case p8|p9|p10=>refine' K56.pm_of ?pa ?pt ?pl ?pc ?pk; (case pa|pt|pl|pc|pk=>k_is))
  (case p11=>refine' K56.pd_of ?pa ?pl ?pc ?pk; (case pa|pl|pc|pk=>k_is))
  (case p12|p13=>refine' K56.pm_of ?pa ?pt ?pl ?pc ?pk; (case pa|pt|pl|pc|pk=>k_is))
  (case p14=>refine' K56.pd_of ?pa ?pl ?pc ?pk; (case pa|pl|pc|pk=>k_is))
  (case p15=>refine' K56.pm_of ?pa ?pt ?pl ?pc ?pk; (case pa|pt|pl|pc|pk=>k_is))
  (case p16|p17|p18|p19=>refine' K56.pd_of ?pa ?pl ?pc ?pk; (case pa|pl|pc|pk=>k_is))
  (case p20|p21|p22|p23|p24|p25|p26=>refine' K56.pm_of ?pa ?pt ?pl ?pc ?pk; (case pa|pt|pl|pc|pk=>k_is))
  (case p27=>refine' K56.pd_of ?pa ?pl ?pc ?pk; (case pa|pl|pc|pk=>k_is))
  (case p28=>refine' K56.pm_of ?pa ?pt ?pl ?pc ?pk; (case pa|pt|pl|pc|pk=>k_is))
  (case p29|p30=>refine' K56.pd_of ?pa ?pl ?pc ?pk; (case pa|pl|pc|pk=>k_is))
  (case a31|l31|c31|k31=>k_is)
  (case p32|p33|p34=>refine' K56.pm_of ?pa ?pt ?pl ?pc ?pk; (case pa|pt|pl|pc|pk=>k_is))
  (case p35=>refine' K56.pd_of ?pa ?pl ?pc ?pk; (case pa|pl|pc|pk=>k_is))
  (case p36|p37|p38|p39|p40|p41|p42|p43|p44|p45|p46|p47|p48|p49=>refine' K56.pm_of ?pa ?pt ?pl ?pc ?pk; (case pa|pt|pl|pc|pk=>k_is))
  (case a50|t50|l50|c50|k50=>k_is)
  (case pk50=>intros; kernel_rfl)
  (case p51=>refine' K56.pd_of ?pa ?pl ?pc ?pk; (case pa|pl|pc|pk=>k_is))
  (case p52|p53=>refine' K56.pm_of ?pa ?pt ?pl ?pc ?pk; (case pa|pt|pl|pc|pk=>k_is))
  (case p54|p55|p56|p57|p58|p59|p60|p61|p62|p63|p64|p65|p66|p67|p68=>refine' K56.pd_of ?pa ?pl ?pc ?pk; (case pa|pl|pc|pk=>k_is))
  (case a69|t69|l69|c69|k69=>k_is)
  (case pk69=>intros; kernel_rfl)
  (case p70|p71|p72|p73|p74|p75|p76|p77=>refine' K56.pd_of ?pa ?pl ?pc ?pk; (case pa|pl|pc|pk=>k_is))
  (case p78|p79=>refine' K56.pm_of ?pa ?pt ?pl ?pc ?pk; (case pa|pt|pl|pc|pk=>k_is))
  (case a80|t80|l80|c80|k80=>k_is)
  (case pk80|EQ=>intros; kernel_rfl)
  (case a81|l81|c81|k81|G9|FY|Fd|Ga|F3|Gb|FZ|Gc|Ge|FL|Fo|Gf|Fy|Gg|FM|EH|EW|E6|F4|Fe|Ff|EI|G4|ED|FN|Fz|lcL=>k_is)
  (case vL=>exact rfl)
  (case FO|FP|FQ|EJ|ER|Fg|Fh|Fi|cti_Counting_counted_in|cti_Counting_days_for|cti_Counting_reach|Fj|ckd_Counting_Counting|ckd_Counting_Weeks|ckd_Counting_CourtDays|E3|E8|Ds|F5|F6|F7|cti_CourtDays_counted_in|cti_CourtDays_days_for|cti_CourtDays_reach|F8|ckd_CourtDays_Counting|ckd_CourtDays_Weeks|ckd_CourtDays_CourtDays|E7|D2|Fp|Fq|Fr|E2|E4|ES|E9|FR|FS|FT|E5|F9|G5|G6|G7|EY|EK|Fk|EZ|ET|EM|Ey|F0|EE|EN|Fl|Fa|Fm|EF|EU|FA|FB|FC|EV|EO|Fb|EA|FD|FE|FF|cti_Weeks_counted_in|cti_Weeks_days_for|cti_Weeks_reach|FG|ckd_Weeks_Counting|ckd_Weeks_Weeks|ckd_Weeks_CourtDays|EG|tnL=>kernel_rfl)
end
