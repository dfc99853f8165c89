import PyProof.Rows.All
import Wide.All
import OpenK.AllK
import Wide.FinOn
import Lean
import PyProof.EqAt
import PyProof.EqKinds
import PyProof.TupleCall
import PySem.Challenge.RW_termcourt_k57_past_days_stay
set_option Elab.async false
set_option linter.all false
set_option maxRecDepth 100000
/-! THE HAND LAYER,for ints,bools,texts,own classes,LISTS and tuples (index,slices,in,append,pop ..),calls,loops. Paste it whole ahead of your own text; what your proof does not reach may be deleted. -/
local macro_rules|`(Uk)=>`(by decide +kernel)|`(Ud)=>`(by decide)
open PySem.Str renaming ofString->Aa,empty->Be
open List renaming length_map->Ab,getElem?_eq_some_iff->Ac,getElem?_eq_getElem->Ae,length_append->Af,getElem?_map->Ah,size_toArray->Ai,mem_singleton->Aj,getD_eq_getElem?_getD->Ak,mem_cons_self->Am,range->Aq,length_range->As,mem_cons->Aw,map_append->Ax,mem_cons_of_mem->Ay,mem_append->Az,mem_append_right->A3,mem_of_getElem?->A4,not_mem_nil->AB,length_cons->AD,getElem?_append_left->AI,getElem?_append_right->AK,set_cons_succ->AN,set_cons_zero->AO,getElem?_eq_none->AR,length_singleton->AU,mem_range->AV,getElem?_range->AX,map_cons->Bc,mem_map->Bd,pairwise_iff_getElem->Bh,length_take->Bj,pairwise_append->Bm,getElem?_of_mem->Bt,append_nil->Bu,range_succ->Bv,take_length->Bz,concat_eq_append->B4,mem_append_left->B7,take_add_one->B8,pairwise_cons->BA,eq_nil_or_concat->BD,getElem_mem->BI,filterMap_cons_some->BJ,length_drop->BL,lookup_cons->BM,length_reverse->BO,length_pos_iff->BP,map_congr_left->BQ,mem_filter->BW,mem_filterMap->BZ,all_eq_true->Cb,map_map->Cf,drop_eq_getElem_cons->Ch,take_append_drop->Ci,filter_append->Ck,pairwise_map->Cq,ext_getElem?->Cr,filter_cons_of_pos->Cs,nodup_cons->Cv,find?_cons->Cw,Nodup->Cz,getElem_of_mem->C0,take_of_length_le->C6,contains_iff_mem->CB,length_dropLast->CG,filterMap_cons_none->CL,any_eq_true->CO,pairwise_singleton->CP,filter_cons_of_neg->CS,lookup->CU,eq_nil_of_length_eq_zero->CV,append_eq_nil_iff->Dc,any_cons->De,length_filter_le->Df,getElem?_reverse->Dg,reverse_cons->Dj,foldl_append->Dk,nodup_range->Dq,getLast?_eq_getElem?->Dr,getElem?_eq_none_iff->Dt,mem_of_find?_eq_some->Du,getElem_range->D6,length->D8,getElem?_cons_succ->DA,getElem?_set_self->DB,filterMap->DG,take_zero->DH,filter_cons->DO,getElem?_set_ne->DT,mem_of_mem_take->DX,getLast?_append->DY,length_take_le'->DZ,length_nil->Ea,any_append->Ec,filterMap_cons->Ed,take_sublist->Er,getElem_take->Eu,getElem?_inj->Ev,map_take->Ey
open PySem renaming Shared->Ad,wpAny_bind->An,Spec->Ao,FuncData->Au,sizeLine->A5,mainGlobals->A6,Program->AJ,wpAny_pure->AQ,Around->AT,PassesOwn->Ba,Builtin->Bl,NameKind->Bw,sizeLine_eq->Bx,wpAny_truthy_bool->BF,wpAny_passesOwn->BH,wpAny_mono->BY,mem_of_lookup->Cg,wpAny_Call_Name_kw->Cj,tupleKind_room_in1->CA,wpAny_holding->CJ,wpAny_newObj_type->Di,Paired->Dv,wpAny_execs_nil->Dx,call_meets->DM,call_meetsIn->Eh,wpAny_standAt->Ew,GenState->Ez
open PySem.W renaming Frag->Ag,nsIn->AM,kitOne->AY,mg_of->Bg,findIn->Bi,fnOf->Bk,mg_none_of->Bq,keepIn->Bs,codeIn->BE,kia_one->BK,emptyDict->BR,instObj->Ct,typeIn->C9,peek->CI,plainGet->Dn,callWith_K->D3,hasDictIn->DC,methodCall_KW->DK,kla_obj->DS,plainGet_of->Ee,isFn->Eg,lookIn->Ek,methodObj->Eo,plainOver->Ep
open Nat renaming le_refl->Al,lt_of_lt_of_le->A0,le_trans->A9,ne_of_lt->AE,zero_le->AS,not_lt_zero->B0,le_of_lt->BG,le_succ_of_le->BS,lt_succ_self->Ca,lt_irrefl->Cd,le_of_eq->Ce,ne_of_gt->Cm,le_succ->C7,succ_le_succ->CQ,lt_of_le_of_lt->CZ,sub_self->Da,add_sub_cancel->D5,lt_succ_of_lt->DI,not_lt->DP,add_le_add_right->DW,min_le_left->Eb,mul_le_mul_left->Ef
open Or renaming inl->Ar,inr->DN
open PySem.Heap renaming get?_push_of_some->Av,lt_size->AC,get?_push_size->AW,SameBut->CF,size_push->DD,get?_update_other->DF
open PySem.F renaming plainAttrs_list->A7,slot_list_append->AG,type_list_append->AH,slot_dict_get->BU,entry_dict_get->C4,args_dict_get_2->D9
open PySem.PassesOwn renaming never->A8
open Option.some renaming inj->AA
open Bool renaming false_ne_true->AF,and_eq_true->By,and_false->Co,eq_iff_iff->CD,false_and->CN,or_false->Dw,or_eq_true->Dz,false_or->DR,false_eq_true->El,and_true->Ex
open PySem.SeqAt renaming EqAt->AZ,RcNeAt->Ei
open Int renaming le_refl->Bb,lt_of_lt_of_le->Bf,le_trans->Bp,toNat_natCast->B3,not_lt->BC,zero_add->BX,add_zero->Cn,emod_nonneg->Cy,toNat_of_nonneg->C3,lt_trans->CH,emod_lt_of_pos->Db,le_of_lt->Do,ofNat_le->Dp,natCast_nonneg->D4,ofNat_lt->DJ,natCast_zero->DQ,le_of_lt_add_one->DV,lt_of_le_of_lt->Em,le_add_one->En
open PySem.Value renaming ref->Bo,none->C8,type->Dl,int->Dm,str->D7,bool->Ej
open PySem.NameKind renaming free->Br
open Ne renaming symm->B6
open PySem.Obj renaming mapSeq->B9
open Array renaming length_toList->BN,getD_eq_getD_getElem?->C5,getElem?_toList->DL
open Option renaming isSome_iff_exists->BV,map_some->Dy,isSome_map->Et
open PyProof.Rows renaming callWith_type1->Cc,slot_tuple_getitem->CM
open False renaming elim->Cu
open True renaming intro->CK
open PySem.Calls renaming spliced_cons->CW,callWith_builtin->CY,spliced_nil->DE,evalArgs_plain->DU
open ForInStep renaming yield->Dd
open Sum renaming inr->Dh
open List.Pairwise renaming nil->Es
noncomputable section
theorem Z.{u}{α:Sort u}{a:α}:a=a:=rfl
namespace L2
open PySem PySem.Spec PyProof.Rows
noncomputable abbrev Key:=Sum Int Str
def qka:Key->Value->Bool
 |.inl k,v=>Value.isInt k v
 |.inr x,v=>Value.isStrOf x v
def keyH (w:World):Key->Int
 |.inl k=>hashInt k
 |.inr x=>hashStr w x
theorem qat:∀{k:Key}{v:Value},qka k v=true->(∃i t,k=Sum.inl i/\v=Dm i t)\/(∃x t,k=Dh x/\v=D7 x t)
 |.inl i,v,h=>by obtain⟨t,e⟩:=Value.isInt_shape (k:=i) (v:=v) h;exact .inl ⟨i,t,Z,e⟩
 |.inr x,v,h=>by obtain⟨t,e⟩:=Value.isStrOf_shape (x:=x) (v:=v) h;exact .inr ⟨x,t,Z,e⟩
theorem qux (i:Int)(t:Tok):qka (.inl i) (.int i t)=true:=by simp[qka,Value.isInt]
theorem quy (x:Str)(t:Tok):qka (.inr x) (.str x t)=true:=by simp[qka,Value.isStrOf]
theorem key_ll (a b:Int):decide ((Sum.inl a:Key)=Sum.inl b)=(a == b):=by
 by_cases e:a=b
 .subst e;simp
 .have h:¬(Sum.inl a:Key)=Sum.inl b:=λq=>e (Sum.inl.inj q);rw[decide_eq_false h];exact(beq_eq_false_iff_ne.mpr e).symm
theorem key_rr (a b:Str):decide ((Dh a:Key)=Dh b)=decide (a=b):=by
 by_cases e:a=b
 .subst e;simp
 .have h:¬(Dh a:Key)=Dh b:=λq=>e (Dh.inj q);rw[decide_eq_false h,decide_eq_false e]
theorem key_lr (a:Int)(b:Str):decide ((Sum.inl a:Key)=Dh b)=false:=decide_eq_false (λq=>nomatch q)
theorem key_rl (a:Str)(b:Int):decide ((Dh a:Key)=Sum.inl b)=false:=decide_eq_false (λq=>nomatch q)
def qas (prog:AJ)(w:World):PySem.KeyKind prog w Key where
 is:=qka
 hash:=keyH w
 inj:=λv a b ha hb=>by
  rcases qat ha with ⟨i,t,rfl,rfl⟩|⟨x,t,rfl,rfl⟩
  .rcases qat hb with ⟨j,u,rfl,e⟩|⟨y,u,rfl,e⟩
   .injection e with e1 _;rw[e1]
   .exact nomatch e
  .rcases qat hb with ⟨j,u,rfl,e⟩|⟨y,u,rfl,e⟩
   .exact nomatch e
   .injection e with e1 _;rw[e1]
 byValue:=λk v h=>by rcases qat h with ⟨i,t,rfl,rfl⟩|⟨x,t,rfl,rfl⟩ <;>rfl
 pyHash:=λhv h=>by
  rcases qat hv with ⟨i,t,rfl,rfl⟩|⟨x,t,rfl,rfl⟩
  .exact wpAny_pyHash_int h
  .exact wpAny_pyHash_str h
 eqBool:=λhu hv h=>by
  rcases qat hu with ⟨i,t,rfl,rfl⟩|⟨x,t,rfl,rfl⟩
  .rcases qat hv with ⟨j,u,rfl,rfl⟩|⟨y,u,rfl,rfl⟩
   .rw[key_ll]at h;exact wpAny_eqBool_int h
   .rw[key_lr]at h;exact AZ.int_str i t y u _ _ _ _ h
  .rcases qat hv with ⟨j,u,rfl,rfl⟩|⟨y,u,rfl,rfl⟩
   .rw[key_rl]at h;exact AZ.str_int x t j u _ _ _ _ h
   .rw[key_rr]at h;exact wpAny_eqBool_str h
 «strs» := λk x t v h=>by
  rcases qat h with ⟨i,u,rfl,e⟩|⟨y,u,rfl,e⟩
  .exact nomatch e
  .injection e with e1 _;subst e1;cases v <;>rfl
theorem qp2 (prog:AJ)(w:World)(i:Int)(t:Tok):(qas prog w).is (.inl i) (.int i t)=true:=qux i t
theorem qp3 (prog:AJ)(w:World)(x:Str)(t:Tok):(qas prog w).is (.inr x) (.str x t)=true:=quy x t
end L2
namespace L2
open PySem PySem.Spec PyProof.Rows
inductive V where
 |non|bl (b:Bool)|int (i:Int)|str (x:Str)|byt (b:Array UInt8)|flt (b:UInt64)|ref (a:Addr)|ty (n:String)
 deriving DecidableEq
def RelV:V->Value->Prop
 |.non,u=>u=C8
 |.bl b,u=>u=Ej b
 |.int i,u=>∃t,u=Dm i t
 |.str x,u=>∃t,u=D7 x t
 |.byt b,u=>∃t,u=Value.bytes b t
 |.flt b,u=>∃t,u=Value.float b t
 |.ref a,u=>u=Bo a
 |.ty n,u=>u=Dl n
abbrev Vals:List V->List Value->Prop:=Dv RelV
theorem Vals.length {xs:List V}{us:List Value}(r:Vals xs us):xs.length=us.length:=Dv.length r
theorem Vals.get:∀{xs:List V}{us:List Value}{i:Nat}{x:V},Vals xs us->xs[i]?=some x->∃u,us[i]?=some u/\RelV x u
 |_,_,_,_,.nil,e=>by simp at e
 |_,_,0,_,.cons r _,e=>by simp at e;subst e;exact⟨_,Z,r⟩
 |_,_,i+1,x,.cons _ t,e=>by obtain⟨u,b,a⟩:=Vals.get (i:=i) (x:=x) t (by simpa using e);exact⟨u,by simpa using b,a⟩
theorem Vals.set {x:V}{u:Value}(r:RelV x u):∀{xs:List V}{us:List Value}(i:Nat),Vals xs us->Vals (xs.set i x) (us.set i u)
 |_,_,_,.nil=>.nil
 |_,_,0,.cons _ t=>.cons r t
 |_,_,i+1,.cons q t=>.cons q (Vals.set r i t)
theorem Vals.append:∀{xs ys:List V}{us a:List Value},Vals xs us->Vals ys a->Vals (xs++ys) (us++a)
 |_,_,_,_,.nil,s=>s
 |_,_,_,_,.cons r t,s=>.cons r (Vals.append t s)
theorem Vals.take:∀{xs:List V}{us:List Value}(n:Nat),Vals xs us->Vals (xs.take n) (us.take n)
 |_,_,0,_=>.nil
 |_,_,_+1,.nil=>.nil
 |_,_,n+1,.cons r t=>.cons r (Vals.take n t)
theorem Vals.drop:∀{xs:List V}{us:List Value}(n:Nat),Vals xs us->Vals (xs.drop n) (us.drop n)
 |_,_,0,r=>r
 |_,_,_+1,.nil=>.nil
 |_,_,n+1,.cons _ t=>Vals.drop n t
def RelO:Option V->Option Value->Prop
 |some v,some u=>RelV v u
 |none,none=>True
 |_,_=>False
def KV {κ:Type}:List (κ×V)->List (κ×Value)->Prop:=Dv λ(p:κ×V)(q:κ×Value)=>p.1=q.1/\RelV p.2 q.2
def kV:Key->V
 |.inl i=>.int i
 |.inr x=>.str x
inductive HO where
 /-- a list -/
 |lst (xs:List V)
 /-- a tuple (never changes) -/
 |tup (xs:List V)
 /-- a dict whose keys are ints and texts;one whose keys are tuples of ints and texts (the empty one is both) -/
 |dK (kvs:List (Key×V))|dT (kvs:List (List Key×V))
 /-- a set of ints: its members,its size -/
 |set (S:Int->Bool) (n:Nat)
 /-- an instance of the class at C,its dict at dx,its attributes -/
 |ins (C dx:Addr) (fs:List (Str×V))
 /-- the dict of the instance at x -/
 |own (x:Addr)
 /-- the dict of an exception -/
 |xd (fs:List (Str×V))
 /-- a bound method,f of x -/
 |met (f x:Addr)
 /-- a range object lo,lo+1,.. below hi -/
 |rng (lo hi:Int)
 /-- a thing that is known to the object (the script;a dict while a loop walks it): read,never written while it is so -/
 |frz (o:Obj) (u:HO)
 /-- a code object's table -/
 |tbl (ps:Array Value)
 /-- any other thing,by what is true of its one object (a def of one's own: SetO a S n:=HO.ext λh=>..) -/
 |ext (φ:Heap->Prop)
noncomputable abbrev Hp:=Addr->Option HO
noncomputable def upd (H:Hp)(a:Addr)(o:HO):Hp:=λb=>if b=a then some o else H b
theorem qk {H:Hp}{a:Addr}{o:HO}:upd H a o a=some o:=by unfold upd;rw[if_pos Z]
theorem qr {H:Hp}{a b:Addr}{o:HO}(h:b≠a):upd H a o b=H b:=by unfold upd;rw[if_neg h]
theorem qtj {H:Hp}{a:Addr}{o u:HO}:upd (upd H a o) a u=upd H a u:=by funext b;unfold upd;split <;>rfl
theorem ne_of {H:Hp}{a b:Addr}{o u:HO}(h:H a=some o)(h':H b=some u)(d:o≠u):a≠b:=by intro e;subst e;rw[h]at h';exact d (AA h')
theorem qag {H:Hp}{a b:Addr}{o:HO}(h:H a=some o)(h':H b=none):a≠b:=by intro e;subst e;rw[h]at h';cases h'
section
variable (P:AJ)(w:World)
def ObjOk (H:Hp)(h:Heap)(a:Addr):HO->Prop
 |.lst xs=>xs.length<=A5/\∃(its:List Value)(n:Nat),Vals xs its/\h.get? a=some {cls:=.type "list",data:=.seq its.toArray n}
 |.tup xs=>xs.length<=A5/\∃its:List Value,Vals xs its/\IsTup h a its.toArray
 |.dK kvs=>kvs.length<=A5/\(a == sysModules)=false/\∃vs,KV kvs vs/\h.DictOf (qas P w) a vs
 |.dT kvs=>kvs.length<=A5/\(a == sysModules)=false/\∃xs:List (List Key×Addr×Value),
   Dv (λ(p:List Key×V)(q:List Key×Addr×Value)=>p.1=q.1/\H q.2.1=some (.tup (p.1.map kV))/\RelV p.2 q.2.2) kvs xs /\
   ∃o es ep,h.get? a=some o/\o.ExactDict/\o.data=.dict es ep/\es.toList=xs.map (entryOfKey (tupleKind (qas P w)))/\(xs.map (·.1)).Nodup
 |.set S n=>h.SetOf (intKind P w) a S n
 |.ins C dx fs=>H dx=some (.own a)/\fs.length<=1000/\dx≠a/\h.get? a=some (Ct C dx) /\
   ∃mA,h.Ns1 dx mA/\(∀f,RelO (fs.lookup f) (mA f))/\PySem.Within mA (fs.map (·.1))
 |.own _=>∃o,h.get? a=some o
 |.xd fs=>∃mA,h.Ns1 a mA/\∀f,RelO (fs.lookup f) (mA f)
 |.rng lo hi=>∃t u v,h.get? a=some {cls:=.type "range",data:=.fields #[.int lo t,.int hi u,.int 1 v]}
 |.frz o u=>h.get? a=some o/\ObjOk H h a u
 |.tbl ps=>h.get? a=some {cls:=.none,data:=.fields ps}
 |.met f x=>h.get? a=some (Eo (.ref f) (.ref x))
 |.ext φ=>φ h/\(∃o,h.get? a=some o)/\∀h1 h2:Heap,φ h1->(∀o,h1.get? a=some o->h2.get? a=some o)->φ h2
def HOk (H:Hp)(h:Heap):Prop:=∀a o,H a=some o->ObjOk P w H h a o
end
section
variable {P:AJ}{w:World}{H H':Hp}{h h':Heap}{a:Addr}{o:HO}
theorem ObjOk.lt (x:ObjOk P w H h a o):a<h.objs.size:=by
 cases o with
 |lst xs=>obtain⟨_,_,_,_,e⟩:=x;exact AC e
 |tup xs=>obtain⟨_,_,_,p⟩:=x;exact p.lt
 |dK kvs=>obtain⟨_,_,_,_,o,_,_,e,_⟩:=x;exact AC e
 |dT kvs=>obtain⟨_,_,_,_,o,_,_,e,_⟩:=x;exact AC e
 |set S n=>obtain⟨o,_,_,_,e,_⟩:=x;exact AC e
 |ins C dx fs=>obtain⟨_,_,_,e,_⟩:=x;exact AC e
 |own y=>obtain⟨_,e⟩:=x;exact AC e
 |xd fs=>obtain⟨_,⟨_,_,_,e,_⟩,_⟩:=x;exact AC e
 |rng lo hi=>obtain⟨_,_,_,e⟩:=x;exact AC e
 |frz ob u=>obtain⟨e,_⟩:=x;exact AC e
 |tbl ps=>exact AC (show h.get? a=some _ from x)
 |met f y=>exact AC (show h.get? a=some _ from x)
 |ext φ=>obtain⟨_,⟨_,e⟩,_⟩:=x;exact AC e
theorem Dv.mapP {α β:Type}{F G:α->β->Prop}:∀{d:List α}{c:List β},Dv F d c->(∀a b,F a b->G a b)->Dv G d c
 |_,_,.nil,_=>.nil
 |_,_,.cons r t,f=>.cons (f _ _ r) (Dv.mapP t f)
theorem ObjOk.stay (x:ObjOk P w H h a o)(k:∀b u,(b=a\/H b=some (.own a))->h.get? b=some u->h'.get? b=some u)
  (m:∀b,H b=some (.own a)->H' b=some (.own a))(A:∀b xs,H b=some (.tup xs)->H' b=some (.tup xs)):ObjOk P w H' h' a o:=by
 induction o with
 |lst xs=>obtain⟨z,its,n,r,e⟩:=x;exact⟨z,its,n,r,k _ _ (.inl Z) e⟩
 |tup xs=>obtain⟨z,its,r,g,e,c⟩:=x;exact⟨z,its,r,g,k _ _ (.inl Z) e,c⟩
 |dK kvs=>obtain⟨z,y,vs,r,g,es,ep,e,c⟩:=x;exact⟨z,y,vs,r,g,es,ep,k _ _ (.inl Z) e,c⟩
 |dT kvs =>obtain⟨z,y,xs,r,g,es,ep,e,c⟩:=x;exact⟨z,y,xs,Dv.mapP r λp q z=>⟨z.1,A _ _ z.2.1,z.2.2⟩,g,es,ep,k _ _ (.inl Z) e,c⟩
 |set S n=>obtain⟨g,es,ep,t,e,c⟩:=x;exact⟨g,es,ep,t,k _ _ (.inl Z) e,c⟩
 |ins C dx fs =>obtain⟨d,z,s,e,j,⟨i,es,ep,l,c⟩,r⟩:=x;exact⟨m _ d,z,s,k _ _ (.inl Z) e,j,⟨i,es,ep,k _ _ (.inr d) l,c⟩,r⟩
 |own y=>obtain⟨g,e⟩:=x;exact⟨g,k _ _ (.inl Z) e⟩
 |xd fs=>obtain⟨j,⟨i,es,ep,e,c⟩,r⟩:=x;exact⟨j,⟨i,es,ep,k _ _ (.inl Z) e,c⟩,r⟩
 |rng lo hi=>obtain⟨t,u,v,e⟩:=x;exact⟨t,u,v,k _ _ (.inl Z) e⟩
 |frz g u ih=>obtain⟨e,q⟩:=x;exact⟨k _ _ (.inl Z) e,ih q⟩
 |tbl ps =>have e:h.get? a=some {cls:=.none,data:=.fields ps}:=x;show h'.get? a=some {cls:=.none,data:=.fields ps};exact k a _ (.inl Z) e
 |met f y =>have e:h.get? a=some (Eo (.ref f) (.ref y)):=x;show h'.get? a=some (Eo (.ref f) (.ref y));exact k a _ (.inl Z) e
 |ext φ=>obtain⟨p,⟨o,e⟩,st⟩:=x;exact⟨st _ _ p λo q=>k _ _ (.inl Z) q,⟨o,k _ _ (.inl Z) e⟩,st⟩
theorem HOk.lt (x:HOk P w H h)(e:H a=some o):a<h.objs.size:=(x a o e).lt
theorem HOk.fresh (x:HOk P w H h)(e:h.objs.size<=a):H a=none:=by
 cases q:H a with|none=>rfl|some u=>exact absurd (A0 (x.lt q) e) (Cd _)
theorem HOk.kept (x:HOk P w H h)(k:∀b u,h.get? b=some u->h'.get? b=some u):HOk P w H h':=λa o e =>
 (x a o e).stay (λb u _ q=>k b u q) (λ_ q=>q) λ_ _ q=>q
theorem HOk.laid (x:HOk P w H h)(k:∀b u,h.get? b=some u->h'.get? b=some u)(i:h.objs.size<=a)(g:ObjOk P w (upd H a o) h' a o):HOk P w (upd H a o) h':=λb u e=>by
 have d:=x.fresh i;by_cases f:b=a
 .subst f;rw[qk]at e;cases e;exact g
 .rw[qr f]at e;exact(x b u e).stay (λc v _ q=>k c v q) (λc q=>by rw[qr (qag q d)];exact q) λc xs q=>by rw[qr (qag q d)];exact q
end
def Rd (H:Hp)(a:Addr)(u:HO):Prop:=H a=some u \/ ∃o,H a=some (.frz o u)
theorem Rd.ok {P:AJ}{w:World}{H:Hp}{h:Heap}{a:Addr}{u:HO}(r:Rd H a u)(x:HOk P w H h):ObjOk P w H h a u:=by
 rcases r with r|⟨o,r⟩
 .exact x a u r
 .obtain⟨_,q⟩:=x a _ r;exact q
def Mut:Option HO->Prop
 |some (.lst _)=>True
 |some (.dK _)=>True
 |some (.dT _)=>True
 |some (.set _ _)=>True
 |some (.ins _ _ _)=>True
 |some (.ext _)=>True
 |_=>False
section
variable {P:AJ}{w:World}{H:Hp}{h h':Heap}{x e:Addr}{o':HO}
theorem HOk.write (ok:HOk P w H h)(i:Mut (H x))(l:e=x\/H e=some (.own x))(k:∀b u,b≠e->h.get? b=some u->h'.get? b=some u)(o:∃u,h'.get? e=some u)
  (m:ObjOk P w (upd H x o') h' x o'):HOk P w (upd H x o') h':=λb u q=>by
 have d:∀c y,H c=some (.own y)->c≠x:=λc y r z=>by subst z;rw[r]at i;exact i
 have j:∀c xs,H c=some (.tup xs)->c≠x:=λc xs r z=>by subst z;rw[r]at i;exact i
 by_cases g:b=x
 .subst g;rw[qk]at q;cases q;exact m
 .rw[qr g]at q;by_cases a:b=e
  .have n:H b=some (.own x):=by
    rcases l with z|z
    .exact absurd (a.trans z) g
    .rw[a];exact z
   rw[q]at n;cases n
   obtain⟨v,p⟩:=o
   exact⟨v,by rw[a];exact p⟩
  .refine(ok b u q).stay (λc v f r=>k c v ?_ r) (λc r=>by rw[qr (d c b r)];exact r) λc xs r=>by rw[qr (j c xs r)];exact r
   rcases f with rfl|f
   .exact a
   .rintro rfl;rcases l with z|z
    .exact d c b f z
    .rw[f]at z;cases z;exact g rfl
end
structure Un (fs ex:List Addr)(H H':Hp)(h h':Heap):Prop where
 keep:∀b o,h.get? b=some o->H b=none->b∉fs->b∉ex->h'.get? b=some o
 slot:∀b o,h.get? b=some o->H b=none->b∈fs->b∉ex->∃sl,h'.get? b=some {o with slots:=sl}
 free:∀b o,h.get? b=some o->H b=none->b∉ex->H' b=none
 there:∀b o,h.get? b=some o->b∉ex->∃o',h'.get? b=some o'
 tups:∀b xs,H b=some (.tup xs)->H' b=some (.tup xs)
 frzs:∀b o u,H b=some (.frz o u)->H' b=some (.frz o u)
 tbls:∀b ps,H b=some (.tbl ps)->∃more,H' b=some (.tbl (ps++more))
section
variable {fs fs' ex ex':List Addr}{H H1 H2:Hp}{h h1 h2 h':Heap}{a x e:Addr}{o:HO}
theorem Un.any (u:Un fs ex H H1 h h1){b:Addr}{a:Obj}(q:h.get? b=some a)(n:H b=none)(c:b∉ex):∃sl,h1.get? b=some {a with slots:=sl}:=by
 by_cases d:b∈fs
 .exact u.slot b a q n d c
 .exact⟨a.slots,u.keep b a q n d c⟩
theorem Un.kept (k:∀b u,h.get? b=some u->h'.get? b=some u):Un fs ex H H h h' :=
 ⟨λb a q _ _ _=>k b a q,λb a q _ _ _=>⟨a.slots,k b a q⟩,λ_ _ _ n _=>n,λb a q _=>⟨a,k b a q⟩,λ_ _ q=>q,λ_ _ _ q=>q,λ_ ps q=>⟨#[],by rw[q];simp⟩⟩
theorem Un.refl:Un fs ex H H h h:=Un.kept λ_ _ q=>q
theorem Un.laid (k:∀b u,h.get? b=some u->h'.get? b=some u)(d:h.objs.size<=a)(c:H a=none):Un fs ex H (upd H a o) h h' where
 keep:=λb u q _ _ _=>k b u q
 slot:=λb u q _ _ _=>⟨u.slots,k b u q⟩
 free:=λb u q n _=>by rw[qr (AE (A0 (AC q) d))];exact n
 there:=λb u q _=>⟨u,k b u q⟩
 tups:=λb xs q=>by rw[qr (qag q c)];exact q
 frzs:=λb u xs q=>by rw[qr (qag q c)];exact q
 tbls:=λb ps q=>⟨#[],by rw[qr (qag q c),q];simp⟩
theorem Un.write (a:Mut (H x))(j:e=x\/H e=some (.own x))(k:∀b u,b≠e->h.get? b=some u->h'.get? b=some u)(g:∃u,h'.get? e=some u):Un fs ex H (upd H x o) h h':=by
 have f:∀b,H b=none->b≠x:=λb n z=>by subst z;rw[n]at a;exact a
 have i:∀b,H b=none->b≠e:=λb n z=>by
  subst z;rcases j with r|r
  .exact f b n r
  .rw[n]at r;cases r
 have d:∀b u,H b=some u->¬Mut (some u)->b≠x:=λb u q nm z=>by subst z;rw[q]at a;exact nm a
 refine⟨λb u q n _ _=>k b u (i b n) q,λb u q n _ _=>⟨u.slots,k b u (i b n) q⟩,λb u q n _=>by rw[qr (f b n)];exact n,λb u q _=>?_,
  λb xs q=>by rw[qr (d b _ q λz=>z)];exact q,λb u xs q=>by rw[qr (d b _ q λz=>z)];exact q,λb ps q=>⟨#[],by rw[qr (d b _ q λz=>z),q];simp⟩⟩
 by_cases c:b=e
 .subst c;exact g
 .exact⟨u,k b u c q⟩
end
noncomputable def trk (h:Heap)(H:Hp):List Addr:=(Aq h.objs.size).filter λa=>(H a).isSome
def qos (h:Heap)(H:Hp):Heap:=PySem.W.hideAll h (trk h H)
theorem quz (h:Heap)(H:Hp):(qos h H).objs.size=h.objs.size:=PySem.W.hideAll_size _ _
theorem qh8 {h:Heap}{H:Hp}{b:Addr}{o:Obj}(e:h.get? b=some o)(n:H b=none):(qos h H).get? b=some o :=
 PySem.W.hideAll_get _ e λa=>by have q:(H b).isSome=true:=(BW.mp a).2;rw[n]at q;simp at q
theorem of_hidT {h:Heap}{H:Hp}{b:Addr}{o:Obj}(e:(qos h H).get? b=some o):h.get? b=some o/\H b=none:=by
 have a:h.get? b=some o:=PySem.W.of_hideAll (trk h H) e;refine⟨a,?_⟩;cases q:H b with|none=>rfl|some x =>have c:b∈trk h H:=BW.mpr ⟨AV.mpr (AC a),by simp[q]⟩;have z:(qos h H).get? b=none:=PySem.W.hideAll_none (trk h H) c;rw[z]at e;cases e
noncomputable def allNews (g h:Heap)(L:Addr):List (Addr×Obj):=(Aq h.objs.size).filterMap λa=>if a=L\/(g.get? a).isSome=true then none else (h.get? a).map λo=>(a,o)
def qcd (g h:Heap)(L d:Addr):List (Addr×Obj):=(allNews g h L).filter λp=>decide (p.1≠d)
end L2
namespace L2
open PySem PySem.Spec PyProof.Rows
structure Mod (K:Ag)(mg:Str->Option Value)(base:Heap):Prop where
 kin:K.In base
 glob:base.Ns A6 mg
 blt:∃mb,base.Ns builtinsNs mb/\∀x:Str,x ≠ "__name__" -> mb x=bootBuiltins x
 nolimit:base.NoLimit
structure Cx where
 prog:AJ
 w:World
 K:Ag
 mg:Str->Option Value
 base:Heap
 A:AT
 N:List Str
 s₀:Ad
 H₀:Hp
 env:Env
 outer:List Env
 stack:List Env
 ex:List Addr
 fn:Str->Bool
 calm:Bool
 pn:List (Addr×Obj)
 xe:Value->Ad->Prop
noncomputable def frs (l:List Env):List Addr:=l.filterMap (·.frame)
abbrev Cx.fs (X:Cx):List Addr:=frs X.outer
def Vis (sc:Scope)(x:Str):Prop:=sc.names.lookup x=some .local\/sc.names.lookup x=some .cell\/sc.names.lookup x=some .free
def Loc (sc:Scope)(x:Str):Prop:=sc.names.lookup x=some .local\/sc.names.lookup x=some .cell
def Look (env:Env)(h:Heap)(m:Str->Option Value)(x:Str)(u:Value):Prop :=
 (env.kindOf x=some .local/\m x=some u)\/((env.kindOf x=some .cell\/env.kindOf x=some .free)/\∃c,env.cells.lookup x=some c/\h.IsCell c (some u))
structure Cx.Ok (X:Cx):Prop where
 mod:Mod X.K X.mg X.base
 kind:X.env.scope.kind=.function
 glob:X.env.globals=A6
 blt:X.env.builtins=builtinsNs
 above:X.s₀.heap.objs.size<=X.env.locals
 inj:∀x y c,X.env.cells.lookup x=some c->X.env.cells.lookup y=some c->x=y
 has:∀x,(X.env.kindOf x=some .cell\/X.env.kindOf x=some .free)->∃c,X.env.cells.lookup x=some c
 cab:∀x c,X.fn x=true->X.env.cells.lookup x=some c->X.s₀.heap.objs.size<=c
 hd:X.calm=true->X.A.handled=none
 frames:X.A.frames=some X.stack
 stk:X.stack=X.outer\/(X.stack=X.env::X.outer/\X.env.frame=some X.env.locals)
 exf:∀b∈X.ex,b≠X.env.locals/\∀x c,X.env.cells.lookup x=some c->c≠b
 bs:∀b o,X.base.get? b=some o->X.s₀.heap.get? b=some o/\X.H₀ b=none
 bsz:X.base.objs.size<=X.s₀.heap.objs.size
 noex:∀b o,X.base.get? b=some o->b∉X.ex
 exfs:∀b∈X.ex,b∉X.fs
 funs:X.s₀.heap.FunFrames X.base X.outer
 frf:∀b∈X.fs,X.H₀ b=none
structure Inv (X:Cx)(pins:List (Addr×Obj))(σ:List (Option V))(H:Hp)(s:Ad):Prop where
 ok:X.Ok
 os:s.os=X.s₀.os
 bare:AllBare s.gens
 base:Un X.fs X.ex X.H₀ H X.s₀.heap s.heap
 loc:∃m,s.heap.Ns X.env.locals m/\∀(i:Nat)(x:Str)(v:V),X.N[i]?=some x->σ[i]?=some (some v)->Vis X.env.scope x->∃u,RelV v u/\Look X.env s.heap m x u
 cell:∀x c,X.env.cells.lookup x=some c->∃v,s.heap.IsCell c v
 free:H X.env.locals=none
 freeC:∀x c,X.env.cells.lookup x=some c->H c=none
 pin:∀p∈X.pn++pins,s.heap.get? p.1=some p.2/\H p.1=none/\p.1≠X.env.locals/\p.1∉X.fs/\∀v,p.2.data ≠ .cell v
 hok:HOk X.prog X.w H s.heap
 len:σ.length=X.N.length
section
variable {X:Cx}{pins:List (Addr×Obj)}{σ:List (Option V)}{H H':Hp}{s:Ad}{h':Heap}
theorem Cx.Ok.nofr (ok:X.Ok){b:Addr}{o:Obj}(e:X.base.get? b=some o):b∉X.fs:=λa=>by have:=(ok.funs.mem a).1;rw[e]at this;cases this
theorem Inv.bs (I:Inv X pins σ H s):∀b o,X.base.get? b=some o->s.heap.get? b=some o/\H b=none:=λb o e =>
 ⟨I.base.keep b o (I.ok.bs b o e).1 (I.ok.bs b o e).2 (I.ok.nofr e) (I.ok.noex b o e),I.base.free b o (I.ok.bs b o e).1 (I.ok.bs b o e).2 (I.ok.noex b o e)⟩
theorem Inv.bk (I:Inv X pins σ H s):∀b o,X.base.get? b=some o->s.heap.get? b=some o:=λb o e=>(I.bs b o e).1
theorem Inv.mod (I:Inv X pins σ H s):Mod X.K X.mg X.base:=I.ok.mod
theorem Inv.kIn (I:Inv X pins σ H s):X.K.In s.heap:=I.ok.mod.kin.keeps I.bk
theorem Inv.nolimit (I:Inv X pins σ H s):s.heap.NoLimit:=I.ok.mod.nolimit.keeps I.bk
theorem Inv.lt (I:Inv X pins σ H s):X.env.locals<s.heap.objs.size:=let ⟨_,hn,_⟩:=I.loc;hn.lt
theorem Inv.sz (I:Inv X pins σ H s):X.s₀.heap.objs.size<=s.heap.objs.size:=A9 I.ok.above (BG I.lt)
theorem Inv.nofs (I:Inv X pins σ H s){a:Addr}(h:s.heap.objs.size<=a):a∉X.fs:=λb=>by obtain⟨_,o,c,_⟩:=I.ok.funs.mem b;exact absurd (A0 (AC c) (A9 I.sz h)) (Cd _)
theorem Inv.cne (I:Inv X pins σ H s):∀x c,X.env.cells.lookup x=some c->c≠X.env.locals:=λx c e z=>by obtain⟨v,o,f,d⟩:=I.cell x c e;obtain⟨m,⟨o',es,ep,a,b,_⟩,_⟩:=I.loc;rw[z,a]at f;cases f;rw[b]at d;cases d
theorem Inv.funs (I:Inv X pins σ H s):s.heap.FunFrames X.base X.outer:=by
 have all:∀(l:List Env),(∀b∈frs l,b∈X.fs)->X.s₀.heap.FunFrames X.base l->s.heap.FunFrames X.base l:=by
  intro l
  induction l with
  |nil=>intro _ _;trivial
  |cons env r ih =>intro f m;obtain⟨i,⟨L,o,d,h,k,j⟩,g⟩:=m;have c:L∈X.fs:=f L (by unfold frs;rw[Ed,d];exact Am);obtain⟨sl,e⟩:=I.base.slot L o k (I.ok.frf L c) c λz=>I.ok.exfs L z c;exact⟨i,⟨L,_,d,h,e,j⟩,ih (λb a=>f b (by unfold frs;rw[Ed,d];exact Ay _ a)) g⟩
 exact all X.outer (λ_ a=>a) I.ok.funs
theorem Inv.stack (I:Inv X pins σ H s):s.heap.FunFrames X.base X.stack:=by
 rcases I.ok.stk with e|⟨e,a⟩
 .rw[e];exact I.funs
 .rw[e];obtain⟨m,b,_⟩:=I.loc;refine .cons (by rw[I.ok.kind];decide) a b ?_ I.funs;exact Heap.get?_none_of_le (A9 I.ok.bsz I.ok.above)
theorem Inv.stkSub (I:Inv X pins σ H s):∀b∈frs X.stack,b∈X.env.locals::X.fs:=λb a=>by
 rcases I.ok.stk with e|⟨e,c⟩
 .rw[e]at a;exact Ay _ a
 .rw[e]at a;unfold frs at a;rw[Ed,c]at a;exact a
theorem Inv.stkFree (I:Inv X pins σ H s):∀b∈frs X.stack,H b=none:=λb a=>by
 rcases Aw.mp (I.stkSub b a) with e|a
 .rw[e];exact I.free
 .obtain⟨_,o,c,_⟩:=I.ok.funs.mem a;exact I.base.free b o c (I.ok.frf b a) λz=>I.ok.exfs b z a
theorem Inv.step {g':Array Ez}{t':Nat}{d':Drawn}{ch:List Addr}(I:Inv X pins σ H s)
  (g:∀b∈ch,(b∈X.ex\/X.s₀.heap.objs.size<=b)/\b≠X.env.locals/\(∀x c,X.env.cells.lookup x=some c->c≠b)/\∀p∈X.pn++pins,p.1≠b)
  (keep:∀b o,b≠X.env.locals->b∉X.fs->b∉ch->s.heap.get? b=some o->H b=none->h'.get? b=some o)
  (slot:∀b o,b≠X.env.locals->b∈X.fs->b∉ch->s.heap.get? b=some o->H b=none->∃D,h'.get? b=some {o with slots:=D})(free:∀b o,b∉ch->s.heap.get? b=some o->H b=none->H' b=none)
  (there:∀b o,b∉ch->s.heap.get? b=some o->∃o',h'.get? b=some o')
  (tups:∀b xs,H b=some (.tup xs)->H' b=some (.tup xs))(frzs:∀b o u,H b=some (.frz o u)->H' b=some (.frz o u))(tbls:∀b ps,H b=some (.tbl ps)->∃more,H' b=some (.tbl (ps++more)))
  (ns:∀m,s.heap.Ns X.env.locals m->h'.Ns X.env.locals m)(hok:HOk X.prog X.w H' h')(hg:AllBare g') :
  Inv X pins σ H' {s with heap:=h',gens:=g',drawn:=d',toks:=t'}:=by
 have C:∀b o,X.s₀.heap.get? b=some o->b≠X.env.locals:=λb o e=>AE (A0 (AC e) I.ok.above);have t:∀b o,X.s₀.heap.get? b=some o->b∉X.ex->b∉ch:=λb o e a j=>by
  rcases (g b j).1 with z|z
  .exact a z
  .exact absurd (A0 (AC e) z) (Cd _)
 have y:∀x c,X.env.cells.lookup x=some c->∀v,s.heap.IsCell c v->h'.IsCell c v:=λx c e v ⟨o,A,E⟩=>by
  have h:c∉ch:=λz=>(g c z).2.2.1 x c e rfl;by_cases F:c∈X.fs
  .obtain⟨D,q⟩:=slot c o (I.cne x c e) F h A (I.freeC x c e);exact⟨_,q,E⟩
  .exact⟨o,keep c o (I.cne x c e) F h A (I.freeC x c e),E⟩
 refine⟨I.ok,I.os,hg,⟨λb o e n j a=>?_,λb o e n j a=>?_,λb o e n a=>?_,λb o e a=>?_,λb xs e=>tups b xs (I.base.tups b xs e),λb o xs e=>frzs b o xs (I.base.frzs b o xs e),λb ps e=>?_⟩,?_,λx c e=>?_,?_,λx c e=>?_,λp J=>?_,hok,I.len⟩
 .exact keep b o (C b o e) j (t b o e a) (I.base.keep b o e n j a) (I.base.free b o e n a)
 .obtain⟨D,f⟩:=I.base.slot b o e n j a;obtain⟨G,B⟩:=slot b _ (C b o e) j (t b o e a) f (I.base.free b o e n a);exact⟨G,B⟩
 .obtain⟨o',f⟩:=I.base.there b o e a;exact free b o' (t b o e a) f (I.base.free b o e n a)
 .obtain⟨o',f⟩:=I.base.there b o e a;exact there b o' (t b o e a) f
 .obtain⟨O,f⟩:=I.base.tbls b ps e;obtain⟨P,B⟩:=tbls b _ f;exact⟨O++P,by rw[B,Array.append_assoc]⟩
 .obtain⟨m,N,Q⟩:=I.loc;refine⟨m,ns m N,λi x v f B M=>?_⟩;obtain⟨u,r,l⟩:=Q i x v f B M;refine⟨u,r,?_⟩;rcases l with l|⟨k,c,e,z⟩
  .exact .inl l
  .exact .inr ⟨k,c,e,y x c e _ z⟩
 .obtain⟨v,z⟩:=I.cell x c e;exact⟨v,y x c e v z⟩
 .obtain⟨m,⟨o,_,_,A,_⟩,_⟩:=I.loc;exact free _ o (λz=>(g _ z).2.1 Z) A I.free
 .obtain⟨v,o,A,E⟩:=I.cell x c e;exact free c o (λz=>(g c z).2.2.1 x c e Z) A (I.freeC x c e)
 .obtain⟨e,n,L,K,d⟩:=I.pin p J;have h:p.1∉ch:=λz=>(g p.1 z).2.2.2 p J rfl;exact⟨keep p.1 p.2 L K h e n,free p.1 p.2 h e n,L,K,d⟩
theorem Inv.un {t':Nat}(I:Inv X pins σ H s)(u:Un X.fs [] H H' s.heap h')(g:HOk X.prog X.w H' h'):Inv X pins σ H' {s with heap:=h',toks:=t'}:=by obtain⟨m,⟨o,es,ep,h,r⟩,_⟩:=id I.loc;obtain⟨sl,i⟩:=u.any h I.free (by simp);exact I.step (g':=s.gens) (d':=s.drawn) (ch:=[]) (λ_ z=>nomatch z) (λb o _ c _ e n=>u.keep b o e n c (by simp)) (λb o _ c _ e n=>u.slot b o e n c (by simp)) (λb o _ e n=>u.free b o e n (by simp)) (λb o _ e=>u.there b o e (by simp)) u.tups u.frzs u.tbls (λm' j=>by obtain⟨o',f,d,a,k⟩:=j;rw[h]at a;cases a;exact⟨_,f,d,i,k⟩) g I.bare
theorem Inv.call {g':Array Ez}{t':Nat}{d':Drawn}{ch:List Addr}(I:Inv X pins σ H s)(u:Un (frs X.stack) ch H H' s.heap h')(j:HOk X.prog X.w H' h')(q:AllBare g')
  (d:∀b∈ch,(b∈X.ex\/X.s₀.heap.objs.size<=b)/\b≠X.env.locals/\(∀x c,X.env.cells.lookup x=some c->c≠b)/\∀p∈X.pn++pins,p.1≠b) :
  Inv X pins σ H' {s with heap:=h',gens:=g',drawn:=d',toks:=t'}:=by
 obtain⟨m,⟨o,es,ep,k,r⟩,_⟩:=id I.loc;obtain⟨sl,g⟩:=u.any k I.free λz=>(d _ z).2.1 rfl;exact I.step (ch:=ch) d (λb o g l a e n=>u.keep b o e n (λz=>(Aw.mp (I.stkSub b z)).elim g l) a) (λb o _ _ a e n=>u.any e n a) (λb o a e n=>u.free b o e n a) (λb o a e=>u.there b o e a) u.tups u.frzs u.tbls (λm' t=>by obtain⟨o',i,h,f,v⟩:=t;rw[k]at f;cases f;exact⟨_,i,h,g,v⟩) j q
theorem Inv.turned {t':Nat}{it:Addr}(I:Inv X pins σ H s)(k:∀b o,b≠it->s.heap.get? b=some o->h'.get? b=some o)(j:H it=none)(f:it≠X.env.locals)
  (w:it∈X.ex\/X.s₀.heap.objs.size<=it)(i:∀x c,X.env.cells.lookup x=some c->c≠it)(l:∀p∈X.pn++pins,p.1≠it):Inv X pins σ H {s with heap:=h',toks:=t'}:=by
 have d:∀b u,H b=some u->b≠it:=λb u e z=>by rw[z,j]at e;cases e
 refine I.step (g':=s.gens) (d':=s.drawn) (ch:=[it]) (λb g=>?_) (λb o _ _ a e _=>k b o (λz=>a (by simp[z])) e) (λb o _ _ a e _=>⟨o.slots,k b o (λz=>a (by simp[z])) e⟩) (λ_ _ _ _ n=>n)
  (λb o a e=>⟨o,k b o (λz=>a (by simp[z])) e⟩) (λ_ _ e=>e) (λ_ _ _ e=>e) (λb ps e=>⟨#[],by rw[e];simp⟩) (λm h=>?_) (λb u e=>?_) I.bare
 .have e:b=it:=by simpa using g
  subst e;exact⟨w,f,i,l⟩
 .obtain⟨o,es,ep,t,r⟩:=h;exact⟨o,es,ep,k _ o (B6 f) t,r⟩
 .refine(I.hok b u e).stay (λc v a q=>k c v ?_ q) (λ_ q=>q) λ_ _ q=>q;rcases a with z|z
  .rw[z];exact d b u e
  .exact d c _ z
theorem Inv.tok (I:Inv X pins σ H s)(t:Nat):Inv X pins σ H {s with toks:=t}:=I.un (h':=s.heap) (t':=t) Un.refl I.hok
theorem Inv.kept {t':Nat}(I:Inv X pins σ H s)(k:∀b u,s.heap.get? b=some u->h'.get? b=some u):Inv X pins σ H {s with heap:=h',toks:=t'}:=I.un (Un.kept k) (I.hok.kept k)
theorem Inv.laid {a:Addr}{o:HO}{t':Nat}(I:Inv X pins σ H s)(k:∀b u,s.heap.get? b=some u->h'.get? b=some u)(c:s.heap.objs.size<=a)(d:ObjOk X.prog X.w (upd H a o) h' a o) :
  Inv X pins σ (upd H a o) {s with heap:=h',toks:=t'}:=I.un (Un.laid k c (I.hok.fresh c)) (I.hok.laid k c d)
theorem Inv.write {x e:Addr}{o:HO}{t':Nat}(I:Inv X pins σ H s)(d:Mut (H x))(c:e=x\/H e=some (.own x))(k:∀b u,b≠e->s.heap.get? b=some u->h'.get? b=some u)(a:∃u,h'.get? e=some u)
  (f:ObjOk X.prog X.w (upd H x o) h' x o):Inv X pins σ (upd H x o) {s with heap:=h',toks:=t'}:=I.un (Un.write d c k a) (I.hok.write d c k a f)
theorem Inv.pins_of {a:List (Addr×Obj)}(I:Inv X pins σ H s)(h:∀p∈a,s.heap.get? p.1=some p.2/\H p.1=none/\p.1≠X.env.locals/\p.1∉X.fs/\∀v,p.2.data ≠ .cell v):Inv X a σ H s :=
 ⟨I.ok,I.os,I.bare,I.base,I.loc,I.cell,I.free,I.freeC,λp b=>(Az.mp b).elim (λz=>I.pin p (B7 _ z)) (h p),I.hok,I.len⟩
theorem qp4 {N:List Str}(c:N.Nodup){i j:Nat}{x:Str}(a:N[i]?=some x)(b:N[j]?=some x):i=j:=by obtain⟨h1,d⟩:=Ac.mp a;obtain⟨h2,e⟩:=Ac.mp b;exact(List.getElem_inj c).mp (d.trans e.symm)
theorem qu0 {M:Model}{A:AT}{E:Value->Ad->Prop}{i:Nat}{x:Str}{v:V}{u:Value}{Q:Unit->Ad->Prop}(I:Inv X pins σ H s)(hN:X.N.Nodup)(K:X.N[i]?=some x)(t:Loc X.env.scope x)(r:RelV v u)
  (h:∀s',Inv X pins (σ.set i (some v)) H s'->(∃a,CF a s.heap s'.heap/\(a=X.env.locals\/X.env.cells.lookup x=some a))->Q () s')(hf:X.fn x=true\/X.env.scope.names.lookup x=some .local:=by first|exact .inl rfl|exact .inr rfl|assumption):wpAny M A (storeName X.env x u) Q E s:=by
 obtain⟨m,hn,hl⟩:=id I.loc;have Y:(X.env.scope.kind == .class || (X.env.scope.kind == .module && X.env.locals != X.env.globals))=false:=by rw[I.ok.kind];rfl
 have U:i<σ.length:=by rw[I.len];exact(Ac.mp K).1
 have cne:=I.cne;have B:∀{a:Addr}{h':Heap},(∃o,s.heap.get? a=some o/\H a=none)->CF a s.heap h'->HOk X.prog X.w H h':=λ{a h'} ha f b ob e=>by
  obtain⟨_,_,J⟩:=ha;refine(I.hok b ob e).stay (λc O l q=>(f.2 c ?_).trans q) (λ_ q=>q) λ_ _ q=>q;rintro rfl;rcases l with rfl|l
  .rw[J]at e;cases e
  .rw[J]at l;cases l
 rcases t with D|D
 .refine wpAny_storeName_local D hn (λh' af f=>?_) Y;obtain⟨oL,_,_,ae,_⟩:=id hn;refine h _ ⟨I.ok,I.os,I.bare,⟨λb o e n F t=>?_,λb o e n F t=>?_,I.base.free,λb o e t=>?_,I.base.tups,I.base.frzs,I.base.tbls⟩,⟨_,af,λj y v' g C e3=>?_⟩,λy c e=>?_,I.free,I.freeC,λp hp=>?_,B ⟨oL,ae,I.free⟩ f,by simpa using I.len⟩ ⟨_,f,.inl Z⟩
  .exact(f.2 b (AE (A0 (AC e) I.ok.above))).trans (I.base.keep b o e n F t)
  .obtain⟨sl,g⟩:=I.base.slot b o e n F t;exact⟨sl,(f.2 b (AE (A0 (AC e) I.ok.above))).trans g⟩
  .obtain⟨o',g⟩:=I.base.there b o e t;exact⟨o',(f.2 b (AE (A0 (AC e) I.ok.above))).trans g⟩
  .by_cases G:j=i
   .subst G;rw[K]at g;cases g;rw[DB U]at C;cases C;exact⟨u,r,.inl ⟨D,by simp⟩⟩
   .rw[DT (B6 G)]at C;obtain⟨u',r',q⟩:=hl j y v' g C e3;refine⟨u',r',?_⟩;rcases q with ⟨k,e⟩|⟨k,c,e,z⟩
    .refine .inl ⟨k,?_⟩;have:y≠x:=λe=>G (qp4 hN g (e ▸ K));simp[this,e]
    .exact .inr ⟨k,c,e,z.sameBut f (cne y c e)⟩
  .obtain⟨O,z⟩:=I.cell y c e;exact⟨O,z.sameBut f (cne y c e)⟩
  .obtain⟨e,n,P,nf,d⟩:=I.pin p hp;exact⟨(f.2 p.1 P).trans e,n,P,nf,d⟩
 .have L:X.fn x=true:=by
   rcases hf with z|z
   .exact z
   .rw[z]at D;cases D
  obtain⟨c,l⟩:=I.ok.has x (.inl D)
  obtain⟨O,z⟩:=I.cell x c l
  refine wpAny_storeName_cell I.ok.kind D l z (λh' T f=>?_)
  obtain⟨oc,W,ad⟩:=id z
  refine h {s with heap:=h'} ⟨I.ok,I.os,I.bare,⟨λb o e n F t=>?_,λb o e n F t=>?_,I.base.free,λb o e t=>?_,I.base.tups,I.base.frzs,I.base.tbls⟩,⟨m,hn.sameBut f (B6 (cne x c l)),λj y v' g C e3=>?_⟩,λy R e=>?_,I.free,I.freeC,λp hp=>?_,B ⟨oc,W,I.freeC x c l⟩ f,by simpa using I.len⟩ ⟨c,f,.inr l⟩
  .exact(f.2 b (AE (A0 (AC e) (I.ok.cab x c L l)))).trans (I.base.keep b o e n F t)
  .obtain⟨sl,g⟩:=I.base.slot b o e n F t;exact⟨sl,(f.2 b (AE (A0 (AC e) (I.ok.cab x c L l)))).trans g⟩
  .obtain⟨o',g⟩:=I.base.there b o e t;exact⟨o',(f.2 b (AE (A0 (AC e) (I.ok.cab x c L l)))).trans g⟩
  .by_cases G:j=i
   .subst G;rw[K]at g;cases g;rw[DB U]at C;cases C;exact⟨u,r,.inr ⟨.inl D,c,l,T⟩⟩
   .rw[DT (B6 G)]at C;obtain⟨u',r',q⟩:=hl j y v' g C e3;refine⟨u',r',?_⟩;rcases q with q|⟨k,R,e,z'⟩
    .exact .inl q
    .refine .inr ⟨k,R,e,z'.sameBut f ?_⟩;rintro rfl;exact G (qp4 hN g (I.ok.inj _ _ _ e l ▸ K))
  .by_cases S:R=c
   .subst S;exact⟨_,T⟩
   .obtain⟨w2,z2⟩:=I.cell y R e;exact⟨w2,z2.sameBut f S⟩
  .obtain⟨e,n,P,nf,d⟩:=I.pin p hp;refine⟨(f.2 p.1 ?_).trans e,n,P,nf,d⟩;intro q;rw[q,W]at e;have q':oc=p.2:=AA e;exact d O (by rw[<- q'];exact ad)
theorem qlf {M:Model}{A:AT}{E:Value->Ad->Prop}{i:Nat}{x:Str}{v:V}{u:Value}{Q:Unit->Ad->Prop}(I:Inv X pins σ H s)(d:X.N.Nodup)(b:X.N[i]?=some x)(e:Loc X.env.scope x)(r:RelV v u)
  (h:∀a,Inv X pins (σ.set i (some v)) H a->Q () a)(c:X.fn x=true\/X.env.scope.names.lookup x=some .local:=by first|exact .inl rfl|exact .inr rfl|assumption):wpAny M A (storeName X.env x u) Q E s :=
 qu0 I d b e r (λa f _=>h a f) c
theorem Inv.call' {a:Ad}{ch:List Addr}(I:Inv X pins σ H s)(h:a.os=s.os)(u:Un (frs X.stack) ch H H' s.heap a.heap)(d:HOk X.prog X.w H' a.heap)(g:AllBare a.gens)
  (f:∀b∈ch,(b∈X.ex\/X.s₀.heap.objs.size<=b)/\b≠X.env.locals/\(∀x c,X.env.cells.lookup x=some c->c≠b)/\∀p∈X.pn++pins,p.1≠b):Inv X pins σ H' a:=by
 obtain⟨h',g',d',t',o'⟩:=a;have e:o'=s.os:=h;subst e;exact I.call (g':=g') (t':=t') (d':=d') u d g f
end
abbrev XK:=Value->Option Addr->Hp->Prop
noncomputable abbrev St:=List (Option V)
abbrev VK:=V->Hp->Prop
abbrev TE:=St->Hp->VK->Prop
abbrev TT:=St->Hp->(Bool->Hp->Prop)->Prop
abbrev TA:=St->Hp->(List V->Hp->Prop)->Prop
structure Ends where
 nx:St->Hp->Prop
 rt:VK
 bk:St->Hp->Prop:=λ_ _=>False
 ct:St->Hp->Prop:=λ_ _=>False
abbrev TS:=Ends->St->Hp->Prop
def EP (X:Cx)(pins:List (Addr×Obj))(σ:St)(Q:VK)(u:Value)(s':Ad):Prop:=∃v H',Inv X pins σ H' s'/\RelV v u/\Q v H'
def TP (X:Cx)(pins:List (Addr×Obj))(σ:St)(Q:Bool->Hp->Prop)(b:Bool)(s':Ad):Prop:=∃H',Inv X pins σ H' s'/\Q b H'
def AP (X:Cx)(pins:List (Addr×Obj))(σ:St)(Q:List V->Hp->Prop)(us:List Value)(s':Ad):Prop:=∃vs H',Inv X pins σ H' s'/\Vals vs us/\Q vs H'
def SP (X:Cx)(pins:List (Addr×Obj))(D:Ends)(f:Flow)(s':Ad):Prop :=
 match f with
 |.next=>∃σ' H',Inv X pins σ' H' s'/\D.nx σ' H'
 |.brk=>∃σ' H',Inv X pins σ' H' s'/\D.bk σ' H'
 |.cont=>∃σ' H',Inv X pins σ' H' s'/\D.ct σ' H'
 |.ret u=>∃v σ' H',Inv X pins σ' H' s'/\RelV v u/\D.rt v H'
def PE (X:Cx)(e:Expr)(t:TE):Prop :=
 ∀(pins:List (Addr×Obj))(s:Ad)(σ:St)(H:Hp)(Q:VK),Inv X pins σ H s->t σ H Q->wpAny (model X.prog X.w) X.A (eval e X.env) (EP X pins σ Q) X.xe s
def PT (X:Cx)(e:Expr)(t:TT):Prop :=
 ∀(pins:List (Addr×Obj))(s:Ad)(σ:St)(H:Hp)(Q:Bool->Hp->Prop),Inv X pins σ H s->t σ H Q->wpAny (model X.prog X.w) X.A (isTrue e X.env (eval e X.env)) (TP X pins σ Q) X.xe s
def PW (X:Cx)(e:Expr)(t:TT):Prop :=
 ∀(whole:Sem Value)(pins:List (Addr×Obj))(s:Ad)(σ:St)(H:Hp)(Q:Bool->Hp->Prop),Inv X pins σ H s->t σ H Q->wpAny (model X.prog X.w) X.A (isTrue e X.env whole) (TP X pins σ Q) X.xe s
theorem PW.pt {X:Cx}{e:Expr}{t:TT}(h:PW X e t):PT X e t:=h _
def PA (X:Cx)(es:List Expr)(t:TA):Prop :=
 ∀(pos:Pos)(pins:List (Addr×Obj))(s:Ad)(σ:St)(H:Hp)(Q:List V->Hp->Prop),Inv X pins σ H s->t σ H Q->wpAny (model X.prog X.w) X.A (spliced (backTo pos (starEach es X.env))) (AP X pins σ Q) X.xe s
def PS (X:Cx)(st:Stmt)(t:TS):Prop :=
 ∀(pins:List (Addr×Obj))(s:Ad)(σ:St)(H:Hp)(D:Ends),Inv X pins σ H s->t D σ H->wpAny (model X.prog X.w) X.A (exec st X.env) (SP X pins D) X.xe s
def PSs (X:Cx)(st:List Stmt)(t:TS):Prop :=
 ∀(pins:List (Addr×Obj))(s:Ad)(σ:St)(H:Hp)(D:Ends),Inv X pins σ H s->t D σ H->wpAny (model X.prog X.w) X.A (execs st X.env) (SP X pins D) X.xe s
theorem thn {α:Type}{t:Sem α}{Q b:α->Ad->Prop}{M:Model}{A:AT}{E:Value->Ad->Prop}{s:Ad}(h:wpAny M A t Q E s)(c:∀a s,Q a s->b a s):wpAny M A t b E s:=BY h c λ_ _ x=>x
end L2
namespace L2
open PySem PySem.Spec PyProof.Rows
section
variable {X:Cx}
def tVar (i:Nat):TE:=λσ H Q=>∃v,σ[i]?=some (some v)/\Q v H
def tC (v:V):TE:=λ_ H Q=>Q v H
theorem pe_var {i:Nat}{x:Str}{pos:Pos}(n:X.N[i]?=some x)(o:Vis X.env.scope x)(f:(x == ("__debug__" : Str))=false:=by decide)(hcd:(x == ("__classdict__" : Str))=false:=by decide):PE X (.Name x pos) (tVar i):=by
 intro g s σ H Q I h;obtain⟨v,e,h⟩:=h;obtain⟨m,p,q⟩:=I.loc;obtain⟨u,r,l⟩:=q i x v n e o;have d:EP X g σ Q u s:=⟨v,H,I,r,h⟩;rcases l with ⟨a,k⟩|⟨a,c,j,b⟩
 .exact wpAny_Name (wpAny_loadName_local I.ok.kind a p k d) f
 .rcases a with a|a
  .exact wpAny_Name (wpAny_loadName_cell I.ok.kind a j b d) f
  .exact wpAny_Name (wpAny_loadName_free I.ok.kind a j b d hcd) f
theorem qi {i j pos}:PE X (.Constant (.int i) j pos) (tC (.int i)):=λ_ _ _ H _ I h=>wpAny_Constant_int ⟨.int i,H,I.tok _,⟨_,Z⟩,h⟩
theorem qbk {b j pos}:PE X (.Constant (.bool b) j pos) (tC (.bl b)):=λ_ _ _ H _ I h=>Constant_bool ⟨.bl b,H,I,Z,h⟩
theorem qap {j pos}:PE X (.Constant .none j pos) (tC .non):=λ_ _ _ H _ I h=>Constant_none ⟨.non,H,I,Z,h⟩
theorem zg {x j pos}:PE X (.Constant (.str x) j pos) (tC (.str x)):=λ_ _ _ H _ I h=>Calls.Constant_str ⟨.str x,H,I.tok _,⟨_,Z⟩,h⟩
def Gl (X:Cx)(x:Str):Prop:=X.env.kindOf x=some .globalImplicit
theorem qot {E:Value->Ad->Prop}{a:List (Addr×Obj)}{s:Ad}{σ:St}{H:Hp}{x:Str}{u:Value}{pos:Pos}{Q:Value->Ad->Prop}(I:Inv X a σ H s)(d:Gl X x)(b:X.mg x=some u)(h:Q u s)
  (c:(x == ("__debug__" : Str))=false:=by decide):wpAny (model X.prog X.w) X.A (eval (.Name x pos) X.env) Q E s :=
 Calls.Name_function_global I.ok.kind d (Calls.loadGlobal_global (by rw[I.ok.glob];exact I.mod.glob.keeps I.bk) b h) c
theorem qf9 {E:Value->Ad->Prop}{a:List (Addr×Obj)}{s:Ad}{σ:St}{H:Hp}{x:Str}{u:Value}{pos:Pos}{Q:Value->Ad->Prop}(I:Inv X a σ H s)(g:Gl X x)(b:X.mg x=none)(d:bootBuiltins x=some u)(h:Q u s)
  (e:x ≠ "__name__" := by decide)(hd:(x == ("__debug__" : Str))=false:=by decide):wpAny (model X.prog X.w) X.A (eval (.Name x pos) X.env) Q E s:=by
 obtain⟨mb,f,c⟩:=I.mod.blt;exact Calls.Name_function_global I.ok.kind g (Calls.loadGlobal_builtin (by rw[I.ok.glob];exact I.mod.glob.keeps I.bk) b (by rw[I.ok.blt];exact f.keeps I.bk) ((c x e).trans d) h) hd
theorem qb4 {x:Str}{v:V}{u:Value}{pos:Pos}(c:Gl X x)(a:X.mg x=some u)(r:RelV v u)(b:(x == ("__debug__" : Str))=false:=by decide):PE X (.Name x pos) (tC v) :=
 λ_ _ _ H _ I h=>qot I c a ⟨v,H,I,r,h⟩ b
theorem qk1 {x:Str}{v:V}{u:Value}{pos:Pos}(d:Gl X x)(a:X.mg x=none)(b:bootBuiltins x=some u)(r:RelV v u)(c:x ≠ "__name__" := by decide)(hd:(x == ("__debug__" : Str))=false:=by decide):PE X (.Name x pos) (tC v) :=
 λ_ _ _ H _ I h=>qf9 I d a b ⟨v,H,I,r,h⟩ c hd
variable {a b:Expr}{ta tb:TE}{pos:Pos}
def PC (X:Cx)(op:CmpOp)(a b:Expr)(t:TE):Prop :=
 ∀(pins:List (Addr×Obj))(s:Ad)(σ:St)(H:Hp)(Q:VK),Inv X pins σ H s->t σ H Q ->
  wpAny (model X.prog X.w) X.A (eval a X.env) (λv s₁=>wpAny (model X.prog X.w) X.A (eval b X.env) (λu s₂=>wpAny (model X.prog X.w) X.A (compareOp op v u) (EP X pins σ Q) X.xe s₂) X.xe s₁) X.xe s
def tB (t:TE):TT:=λσ H Q=>t σ H λx H1=>∃c,x=.bl c/\Q c H1
theorem qwm {op:CmpOp}{t:TE}(h:PC X op a b t)(e:behindInMarks op b=false:=by first|exact nobehind _ Ud Ud|rfl):PT X (.Compare a [op] [b] pos) (tB t):=by intro f s σ H Q I l;refine wpAny_isTrue_Compare1 (thn (h f s σ H _ I l) λv s1 e=>thn e λu s2 k=>thn k λc s3 g=>?_) e;obtain⟨x,i,n,j,m⟩:=g;obtain⟨d,rfl,q⟩:=m;cases j;exact BF ⟨i,n,q⟩
theorem zf {e:Expr}{t:TE}(h:PE X e t)(f:∀whole,isTrue e X.env whole=(do let v <- whole;standAt e.pos;holding [v] (truthy v)):=by intro _;rfl):PT X e (tB t):=by intro a s σ H Q I i;refine isTrue_plain (thn (h a s σ H _ I i) λv s1 b=>?_) (f _);obtain⟨x,c,k,g,j⟩:=b;obtain⟨d,rfl,q⟩:=j;cases g;exact BF ⟨c,k,q⟩
variable {tA tB':TT}{qcd:List Expr}
def tAnd (t u:TT):TT:=λσ H Q=>t σ H λc H1=>if c=true then u σ H1 Q else Q false H1
def tOr (t u:TT):TT:=λσ H Q=>t σ H λc H1=>if c=true then Q true H1 else u σ H1 Q
def tNot (t:TT):TT:=λσ H Q=>t σ H λc H1=>Q (!c) H1
theorem qbw (d:PT X a tA):PW X (.BoolOp .And [a] pos) tA:=by
 intro wh b s σ H Q I h;refine isTrue_and (thn (d b s σ H Q I h) λc s1 e=>?_);cases c with|true=>exact isTrue_and_nil e|false=>exact e
theorem qd3 (d:PT X a tA):PW X (.BoolOp .Or [a] pos) tA:=by
 intro wh b s σ H Q I h;refine isTrue_or (thn (d b s σ H Q I h) λc s1 e=>?_);cases c with|false=>exact isTrue_or_nil e|true=>exact e
theorem qcf (k:PT X a tA)(l:PW X (.BoolOp .And (b::qcd) pos) tB'):PW X (.BoolOp .And (a::b::qcd) pos) (tAnd tA tB'):=by
 intro j d s σ H Q I h;refine isTrue_and (thn (k d s σ H _ I h) λc m i=>?_);obtain⟨g,f,e⟩:=i;cases c with|true=>exact l j d m σ g Q f e|false=>exact⟨g,f,e⟩
theorem qdv (k:PT X a tA)(l:PW X (.BoolOp .Or (b::qcd) pos) tB'):PW X (.BoolOp .Or (a::b::qcd) pos) (tOr tA tB'):=by
 intro j d s σ H Q I h;refine isTrue_or (thn (k d s σ H _ I h) λc m i=>?_);obtain⟨g,f,e⟩:=i;cases c with|true=>exact⟨g,f,e⟩|false=>exact l j d m σ g Q f e
theorem qc0 (d:PT X a tA):PT X (.UnaryOp .Not a pos) (tNot tA):=by intro b s σ H Q I h;exact isTrue_not (d b s σ H (λc e=>Q (!c) e) I h)
def tAndV (ta tb:TE):TE:=λσ H Q=>ta σ H λx H1=>∃c,x=.bl c/\if c=true then tb σ H1 Q else Q (.bl false) H1
def tOrV (ta tb:TE):TE:=λσ H Q=>ta σ H λx H1=>∃c,x=.bl c/\if c=true then Q (.bl true) H1 else tb σ H1 Q
def tNotV (ta:TE):TE:=λσ H Q=>ta σ H λx H1=>∃c,x=.bl c/\Q (.bl (!c)) H1
theorem qdn {op}{t:TE}(h:PE X a t):PE X (.BoolOp op [a] pos) t:=λb s σ H Q I c=>BoolOp_one (h b s σ H Q I c)
theorem qd4 (l:PE X a ta)(j:PE X (.BoolOp .And (b::qcd) pos) tb):PE X (.BoolOp .And (a::b::qcd) pos) (tAndV ta tb):=by
 intro d s σ H Q I h;refine BoolOp_and (thn (l d s σ H _ I h) λv m g=>?_);obtain⟨x,f,i,k,e⟩:=g;obtain⟨c,rfl,e⟩:=e;cases k;refine BF ?_;cases c with|true=>exact j d m σ f Q i e|false=>exact⟨.bl false,f,i,Z,e⟩
theorem pe_or (l:PE X a ta)(j:PE X (.BoolOp .Or (b::qcd) pos) tb):PE X (.BoolOp .Or (a::b::qcd) pos) (tOrV ta tb):=by
 intro d s σ H Q I h;refine BoolOp_or (thn (l d s σ H _ I h) λv m g=>?_);obtain⟨x,f,i,k,e⟩:=g;obtain⟨c,rfl,e⟩:=e;cases k;refine BF ?_;cases c with|false=>exact j d m σ f Q i e|true=>exact⟨.bl true,f,i,Z,e⟩
theorem qr0 (g:PE X a ta):PE X (.UnaryOp .Not a pos) (tNotV ta):=by intro d s σ H Q I h;refine UnaryOp_ (thn (g d s σ H _ I h) λv s1 e=>?_);obtain⟨x,j,i,f,b⟩:=e;obtain⟨c,rfl,b⟩:=b;cases f;exact not_of (BF ⟨.bl (!c),j,i,Z,b⟩)
def tIf (t:TT)(ta tb:TE):TE:=λσ H Q=>t σ H λc H1=>if c=true then ta σ H1 Q else tb σ H1 Q
theorem qco {c:Expr}(m:PT X c tA)(l:PE X a ta)(n:PE X b tb):PE X (.IfExp c a b pos) (tIf tA ta tb):=by
 intro e s σ H Q I h;refine wpAny_IfExp (thn (m e s σ H _ I h) λd k j=>?_);obtain⟨i,g,f⟩:=j;cases d with|true=>exact l e k σ i Q g f|false=>exact n e k σ i Q g f
end
end L2
namespace L2
open PySem PySem.Spec PyProof.Rows
def SqL (K:Ag)(H:Hp)(a:Addr)(xs:List V):Prop :=
 Rd H a (.lst xs) \/
  ∃(o:Obj)(its:Array Value)(n:Nat),K.lookup a=some o/\o.cls=.type "list" /\ o.dict=none/\o.data=.seq its n/\its.size<=A5/\Vals xs its.toList
def SqT (K:Ag)(H:Hp)(a:Addr)(xs:List V):Prop :=
 Rd H a (.tup xs) \/
  ∃(o:Obj)(its:Array Value)(n:Nat),K.lookup a=some o/\o.cls=.type "tuple" /\ o.data=.seq its n/\its.size<=A5/\Vals xs its.toList
noncomputable def absV:Value->Option V
 |.none=>some .non
 |.bool b=>some (.bl b)
 |.int i _=>some (.int i)
 |.str x _=>some (.str x)
 |.bytes b _=>some (.byt b)
 |.float b _=>some (.flt b)
 |.ref a=>some (.ref a)
 |.type n=>some (.ty n)
 |_=>none
theorem RelV.abs {x:V}{u:Value}(r:RelV x u):absV u=some x:=by
 cases x with
 |non=>cases r;rfl
 |bl _=>cases r;rfl
 |int _=>obtain⟨t,rfl⟩:=r;rfl
 |str _=>obtain⟨t,rfl⟩:=r;rfl
 |byt _=>obtain⟨t,rfl⟩:=r;rfl
 |flt _=>obtain⟨t,rfl⟩:=r;rfl
 |ref _=>cases r;rfl
 |ty _=>cases r;rfl
theorem RelV.inj {x y:V}{u:Value}(r:RelV x u)(q:RelV y u):x=y:=AA (r.abs.symm.trans q.abs)
theorem Vals.inj:∀{xs ys:List V}{us:List Value},Vals xs us->Vals ys us->xs=ys
 |_,_,_,.nil,.nil=>rfl
 |_,_,_,.cons r t,.cons r' t'=>by rw[r.inj r',Vals.inj t t']
section
variable {X:Cx}{pins:List (Addr×Obj)}{σ:St}{H:Hp}{s:Ad}{a:Addr}{xs ys:List V}
theorem SqL.of {K:Ag}(h:H a=some (.lst xs)):SqL K H a xs:=.inl (.inl h)
theorem SqT.of {K:Ag}(h:H a=some (.tup xs)):SqT K H a xs:=.inl (.inl h)
theorem Inv.list (I:Inv X pins σ H s)(h:SqL X.K H a xs):∃its:List Value,Vals xs its/\PlainL s.heap a its.toArray/\xs.length<=A5:=by
 rcases h with h|⟨o,its,n,d,f,c,b,hz,r⟩
 .obtain⟨z,its,n,r,e⟩:=h.ok I.hok;exact⟨its,r,⟨_,n,e,Z,Z,Z⟩,z⟩
 .refine⟨its.toList,r,⟨o,n,I.kIn a o d,f,c,by simpa using b⟩,?_⟩;have e:=r.length;simp only[BN]at e;lia
theorem Inv.tuple (I:Inv X pins σ H s)(h:SqT X.K H a xs):∃its:List Value,Vals xs its/\IsTup s.heap a its.toArray/\xs.length<=A5:=by
 rcases h with h|⟨o,its,n,c,d,b,hz,r⟩
 .obtain⟨z,its,r,p⟩:=h.ok I.hok;exact⟨its,r,p,z⟩
 .refine⟨its.toList,r,⟨o,I.kIn a o c,d,n,by simpa using b⟩,?_⟩;have e:=r.length;simp only[BN]at e;lia
theorem Inv.list_inj (I:Inv X pins σ H s)(h:SqL X.K H a xs)(h':SqL X.K H a ys):xs=ys:=by
 obtain⟨its,r,⟨o,n,e,_,_,d⟩,_⟩:=I.list h;obtain⟨its',c,⟨o',n',b,_,_,d'⟩,_⟩:=I.list h';rw[e]at b;cases b;rw[d]at d';injection d' with d1 _;have:its=its':=by simpa using congrArg Array.toList d1
 subst this;exact r.inj c
end
noncomputable abbrev Cx.wish (X:Cx)(E:Value->Ad->Prop):Cx:={X with xe:=E}
abbrev Cx.nox (X:Cx):Cx:=X.wish λ_ _=>False
theorem Cx.Ok.wish {X:Cx}(ok:X.Ok)(E:Value->Ad->Prop):(X.wish E).Ok :=
 ⟨ok.mod,ok.kind,ok.glob,ok.blt,ok.above,ok.inj,ok.has,ok.cab,ok.hd,ok.frames,ok.stk,ok.exf,ok.bs,ok.bsz,ok.noex,ok.exfs,ok.funs,ok.frf⟩
theorem Cx.Ok.unwish {X:Cx}{E:Value->Ad->Prop}(ok:(X.wish E).Ok):X.Ok :=
 ⟨ok.mod,ok.kind,ok.glob,ok.blt,ok.above,ok.inj,ok.has,ok.cab,ok.hd,ok.frames,ok.stk,ok.exf,ok.bs,ok.bsz,ok.noex,ok.exfs,ok.funs,ok.frf⟩
section
variable {X:Cx}{pins:List (Addr×Obj)}{σ:St}{H:Hp}{s:Ad}{E:Value->Ad->Prop}
theorem Inv.wish (I:Inv X pins σ H s)(E:Value->Ad->Prop):Inv (X.wish E) pins σ H s:=⟨I.ok.wish E,I.os,I.bare,I.base,I.loc,I.cell,I.free,I.freeC,I.pin,I.hok,I.len⟩
theorem Inv.unwish (I:Inv (X.wish E) pins σ H s):Inv X pins σ H s:=⟨I.ok.unwish,I.os,I.bare,I.base,I.loc,I.cell,I.free,I.freeC,I.pin,I.hok,I.len⟩
theorem SP.unwish {D:Ends}{f:Flow}{a:Ad}(h:SP (X.wish E) pins D f a):SP X pins D f a:=by
 cases f with
 |next=>obtain⟨σ',H',I,q⟩:=h;exact⟨σ',H',I.unwish,q⟩
 |brk=>obtain⟨σ',H',I,q⟩:=h;exact⟨σ',H',I.unwish,q⟩
 |cont=>obtain⟨σ',H',I,q⟩:=h;exact⟨σ',H',I.unwish,q⟩
 |ret u=>obtain⟨v,σ',H',I,r,q⟩:=h;exact⟨v,σ',H',I.unwish,r,q⟩
theorem PSs.nox {st:List Stmt}{t:TS}(h:PSs X.nox st t):PSs X st t:=λa s σ H D I b =>
 BY (h a s σ H D (I.wish _) b) (λ_ _ q=>q.unwish) λ_ _ z=>Cu z
end
section
variable {X:Cx}{st:Stmt}{qcd:List Stmt}{t u:TS}{e:Expr}{te:TE}{pos:Pos}
def tNext:TS:=λD σ H=>D.nx σ H
def tSeq (t u:TS):TS:=λD σ H=>t {D with nx:=u D} σ H
theorem qae:PSs X [] tNext:=λ_ _ σ H _ I h=>Dx ⟨σ,H,I,h⟩
theorem qf (e:PS X st t)(c:PSs X qcd u):PSs X (st::qcd) (tSeq t u):=by
 intro a s σ H D I h;refine wpAny_execs_cons (thn (e a s σ H {D with nx:=u D} I h) λf b q=>?_);cases f with
 |next =>obtain⟨σ',H',d,q⟩:=q;exact c a b σ' H' D d q
 |ret v=>exact q
 |brk=>exact q
 |cont=>exact q
theorem qj (b:PS X st t):PSs X [st] t:=by
 intro a s σ H D I h;refine wpAny_execs_cons (thn (b a s σ H D I h) λf s1 q=>?_);cases f with|next=>exact Dx q|ret v=>exact q|brk=>exact q|cont=>exact q
def tBreak:TS:=λD σ H=>D.bk σ H
theorem qp5:PS X (.Break pos) tBreak:=λ_ _ σ H _ I h=>wpAny_Break ⟨σ,H,I,h⟩
theorem Inv.quiet {a:List (Addr×Obj)}{σ:St}{H:Hp}{s:Ad}(I:Inv X a σ H s):interactive X.env=false:=by simp[interactive,I.ok.kind]
def tDrop (te:TE):TS:=λD σ H=>te σ H λ_ H1=>D.nx σ H1
theorem qz (c:PE X e te)(d:swapsWith e none pos.line X.env=pure false:=by rfl):PS X (.Expr e pos) (tDrop te):=by intro a s σ H D I h;exact wpAny_Expr_any (thn (c a s σ H _ I h) λv s1 ⟨x,g,f,r1,b⟩=>⟨σ,g,f,b⟩) I.quiet d
def tRet (te:TE):TS:=λD σ H=>te σ H D.rt
theorem qo (c:PE X e te):PS X (.Return (some e) pos) (tRet te):=by intro a s σ H D I h;exact wpAny_Return_some (thn (c a s σ H _ I h) λv s1 ⟨x,g,f,d,b⟩=>⟨x,σ,g,f,d,b⟩)
def tIfS (c:TT)(t u:TS):TS:=λD σ H=>c σ H λb H1=>if b=true then t D σ H1 else u D σ H1
theorem zb {c:Expr}{a b:List Stmt}{j:TT}(m:PT X c j)(o:PSs X a t)(n:PSs X b u):PS X (.If c a b pos) (tIfS j t u):=by
 intro e s σ H D I h;refine wpAny_If (thn (m e s σ H _ I h) λd l g=>?_);obtain⟨f,k,i⟩:=g;cases d with|true=>exact o e l σ f D k i|false=>exact n e l σ f D k i
def tNever:TS:=λ_ _ _=>False
theorem qe9:PS X st tNever:=λ_ _ _ _ _ _ h=>h.elim
end
abbrev TG:=V->St->Hp->(St->Hp->Prop)->Prop
abbrev TGs:=List V->St->Hp->(St->Hp->Prop)->Prop
def PG (X:Cx)(target:Expr)(t:TG):Prop :=
 ∀(pins:List (Addr×Obj))(s:Ad)(σ:St)(H:Hp)(v:V)(u:Value)(Q:St->Hp->Prop),Inv X pins σ H s->RelV v u->t v σ H Q ->
  wpAny (model X.prog X.w) X.A (assign target X.env u) (λ_ s'=>∃σ' H',Inv X pins σ' H' s'/\Q σ' H') X.xe s
def PGs (X:Cx)(ts:List Expr)(t:TGs):Prop :=
 ∀(pins:List (Addr×Obj))(s:Ad)(σ:St)(H:Hp)(vs:List V)(us:List Value)(Q:St->Hp->Prop),Inv X pins σ H s->Vals vs us->t vs σ H Q ->
  wpAny (model X.prog X.w) X.A (assignInOrder ((assignEach ts X.env).map (·.2)) us) (λ_ s'=>∃σ' H',Inv X pins σ' H' s'/\Q σ' H') X.xe s
abbrev TSet:=V->V->V->Hp->(Hp->Prop)->Prop
def PSet (X:Cx)(t:TSet):Prop :=
 ∀(pins:List (Addr×Obj))(s:Ad)(σ:St)(H:Hp)(o i v:V)(ov iv u:Value)(Q:Hp->Prop),Inv X pins σ H s->RelV o ov->RelV i iv->RelV v u->t o i v H Q ->
  wpAny (model X.prog X.w) X.A (setItem ov iv u) (λ_ s'=>∃H',Inv X pins σ H' s'/\Q H') X.xe s
abbrev TIp:=V->V->Hp->VK->Prop
def PIp (X:Cx)(op:Operator)(t:TIp):Prop :=
 ∀(pins:List (Addr×Obj))(s:Ad)(σ:St)(H:Hp)(x y:V)(v u:Value)(Q:VK),Inv X pins σ H s->RelV x v->RelV y u->t x y H Q ->
  wpAny (model X.prog X.w) X.A (inplaceOp op v u) (EP X pins σ Q) X.xe s
section
variable {X:Cx}{pos:Pos}
def qbq (i:Nat):TG:=λv σ H Q=>Q (σ.set i (some v)) H
theorem qaf {i:Nat}{x:Str}(c:X.N.Nodup)(a:X.N[i]?=some x)(d:Loc X.env.scope x)(b:X.fn x=true\/X.env.scope.names.lookup x=some .local:=by first|exact .inl rfl|exact .inr rfl|assumption):PG X (.Name x pos) (qbq i):=by intro pins s σ H v u Q I r h;exact wpAny_assign_Name (qlf I c a d r (λs' e=>⟨_,H,e,h⟩) b)
def gNil:TGs:=λvs σ H Q=>vs=[]/\Q σ H
def gCons (t:TG)(u:TGs):TGs:=λvs σ H Q=>∃v r,vs=v::r/\t v σ H λσ' H'=>u r σ' H' Q
theorem qc1:PGs X [] gNil:=by intro pins s σ H vs us Q I r h;obtain⟨e,h⟩:=h;subst e;cases r;exact assignInOrder_nil ⟨σ,H,I,h⟩
theorem qam {e:Expr}{es:List Expr}{t:TG}{u:TGs}(j:PG X e t)(d:PGs X es u)
  (g:(assignEach (e::es) X.env).map (·.2)=assign e X.env::(assignEach es X.env).map (·.2):=by rfl):PGs X (e::es) (gCons t u):=by
 intro a s σ H vs us Q I r h;obtain⟨v,vr,i,h⟩:=h;subst i;cases r with
 |cons r rr =>rw[g];refine assignInOrder_cons (thn (j a s σ H _ _ _ I r h) λ_ l b=>?_);obtain⟨σ1,c,k,f⟩:=b;exact d a l σ1 c _ _ Q k rr f
def gTup (K:Ag)(n:Nat)(t:TGs):TG:=λv σ H Q=>∃a xs,v=.ref a/\SqT K H a xs/\xs.length=n/\t xs σ H Q
theorem qd5 {es:List Expr}{k:Nat}{t:TGs}{n:Nat}(f:X.calm=true)(h:PGs X es t)
  (g:(assignEach es X.env).length=n:=by rfl)(hst:(assignEach es X.env).findIdx? (·.1)=none:=by rfl):PG X (.Tuple es k pos) (gTup X.K n t):=by
 intro c s σ H v u Q I r d;obtain⟨a,xs,l,m,p,d⟩:=d;subst l;cases r;obtain⟨its,rv,j,hz⟩:=I.tuple m;refine assign_Tuple_tuple (I.ok.hd f) j (by simp[g,<- p,rv.length]) hst λh' i=>?_;have q:Inv X c σ H {s with heap:=h'}:=I.kept (t':=s.toks) λb o e=>i b o (AE (AC e)) e;exact h c _ σ H xs _ Q q (by simpa using rv) d
def gSub (to ti:TE)(t:TSet):TG:=λv σ H Q=>to σ H λo H1=>ti σ H1 λi H2=>t o i v H2 λH3=>Q σ H3
theorem pg_sub {o i:Expr}{e d:TE}{t:TSet}(A:PE X o e)(f:PE X i d)(C:PSet X t)
  (m:∀v,assign (.Subscript o i pos) X.env v=(do
   let ov <- holding [v] (eval o X.env)
   let c <- holding [v,ov] (eval i X.env)
   standAt pos
   holding [v,ov,c] (setItem ov c v)
   release [v,ov,c] []):=by intro _;rfl):PG X (.Subscript o i pos) (gSub e d t):=by
 intro b s σ H v u Q I r h
 rw[m]
 refine An (CJ (thn (A b s σ H _ I h) λov F a=>?_))
 obtain⟨x,k,E,l,n⟩:=a
 refine An (CJ (thn (f b F σ k _ E n) λc w a=>?_))
 obtain⟨y,j,D,p,z⟩:=a
 refine An (Ew (An (CJ (thn (C b w σ j x y v ov c u _ D l p r z) λ_ s3 a=>?_))))
 obtain⟨q,g,B⟩:=a
 exact wpAny_release ⟨σ,q,g,B⟩
def tAsg (te:TE)(g:TG):TS:=λD σ H=>te σ H λx H1=>g x σ H1 D.nx
theorem qwn {a e:Expr}{d:TE}{g:TG}(j:PE X e d)(f:PG X a g)(m:swapsWithSole [a] e pos.line X.env=pure false:=by rfl)(hw:swappedStores [a] e X.env=pure none:=by rfl)
  (h1:(assignEach [a] X.env).map (·.2)=[assign a X.env]:=by rfl):PS X (.Assign [a] e pos) (tAsg d g):=by
 intro b s σ H D I h;refine wpAny_Assign_stores (thn (j b s σ H _ I h) λv o c=>?_) m hw;obtain⟨x,i,n,k,l⟩:=c;rw[h1];exact thn (f b o σ i x v _ n k l) λ_ s2 q=>q
theorem qu {i:Nat}{x:Str}{e:Expr}{d:TE}{a:Pos}(l:X.N.Nodup)(f:X.N[i]?=some x)(n:Loc X.env.scope x)(j:PE X e d)(o:swapsWith e (some (.Name x a)) pos.line X.env=pure false:=by rfl)(hf:X.fn x=true\/X.env.scope.names.lookup x=some .local:=by first|exact .inl rfl|exact .inr rfl|assumption) :
  PS X (.Assign [.Name x a] e pos) (tAsg d (qbq i)):=by
 intro b s σ H D I h;refine wpAny_Assign_Name (thn (j b s σ H _ I h) λv s1 c=>?_) o;obtain⟨y,g,q,k,m⟩:=c;exact qlf q l f n k (λs2 p=>⟨_,g,p,m⟩) hf
def tAug (i:Nat)(te:TE)(ti:TIp):TS:=λD σ H=>∃x,σ[i]?=some (some x)/\te σ H λy H1=>ti x y H1 λz H2=>D.nx (σ.set i (some z)) H2
theorem qlg {i:Nat}{x:Str}{e:Expr}{q:TE}{op:Operator}{o:TIp}{g:Pos}(M:X.N.Nodup)(n:X.N[i]?=some x)(j:Loc X.env.scope x)(K:PE X e q)(V:PIp X op o)(S:X.fn x=true\/X.env.scope.names.lookup x=some .local:=by first|exact .inl rfl|exact .inr rfl|assumption) :
  PS X (.AugAssign (.Name x g) op e pos) (tAug i q o):=by
 intro b s σ H D I h;obtain⟨v,W,h⟩:=h;obtain⟨m,O,hl⟩:=I.loc;have p:Vis X.env.scope x:=by rcases j with k|k;exact .inl k;exact .inr (.inl k)
 obtain⟨u,r,l⟩:=hl i x v n W p;refine wpAny_AugAssign_Name ?_;have t:wpAny (model X.prog X.w) X.A (eval e X.env) (λw T=>wpAny (model X.prog X.w) X.A (inplaceOp op u w) (λr R=>wpAny (model X.prog X.w) X.A (storeName X.env x r) (λ_=>SP X b D .next) X.xe R) X.xe T) X.xe s:=by refine thn (K b s σ H _ I h) λw G d=>?_;obtain⟨y,F,I1,L,P⟩:=d;refine thn (V b G σ F v y u w _ I1 r L P) λz s2 d=>?_;obtain⟨zv,E,Y,Q,U⟩:=d;exact qlf Y M n j Q (λs3 B=>⟨_,E,B,U⟩) S
 rcases l with ⟨a,J⟩|⟨a,c,C,f⟩
 .exact wpAny_loadName_local I.ok.kind a O J t
 .rcases a with a|a
  .exact wpAny_loadName_cell I.ok.kind a C f t
  .rcases j with k|k
   .have:X.env.scope.names.lookup x=some .free:=a;rw[k]at this;cases this
   .have:X.env.scope.names.lookup x=some .free:=a;rw[k]at this;cases this
noncomputable def ipI (f:Int->Int->Int):TIp:=λx y H Q=>∃i j,x=.int i/\y=.int j/\Q (.int (f i j)) H
theorem qr1:PIp X .Add (ipI λi j=>i+j):=by intro pins s σ H x y v u Q I a b h;obtain⟨i,j,d,c,q⟩:=h;subst d;subst c;obtain⟨t,rfl⟩:=a;obtain⟨t',rfl⟩:=b;exact iadd_int ⟨.int _,H,I.tok _,⟨_,Z⟩,q⟩
theorem ip_sub:PIp X .Sub (ipI λi j=>i-j):=by intro pins s σ H x y v u Q I a b h;obtain⟨i,j,d,c,q⟩:=h;subst d;subst c;obtain⟨t,rfl⟩:=a;obtain⟨t',rfl⟩:=b;exact isub_int ⟨.int _,H,I.tok _,⟨_,Z⟩,q⟩
end
section
variable {X:Cx}{pos:Pos}
def tWhile (c:TT)(tb:TS):TS:=λD σ H=>∃W:Nat->St->Hp->Prop,(∃m,W m σ H)/\∀m σ H,W m σ H ->
 c σ H λb H1=>if b=true then ∃N:St->Hp->Prop,(∀σ' H',N σ' H'->∃m',m'<m/\W m' σ' H')/\tb {D with nx:=N,ct:=N,bk:=D.nx} σ H1 else D.nx σ H1
theorem qh9 {c:Expr}{e:List Stmt}{z:TT}{tb:TS}(x:Ba (model X.prog X.w) X.A X.env X.xe)(B:PT X c z)(C:PSs X e tb):PS X (.While c e [] pos) (tWhile z tb):=by
 intro a s σ H D I h;obtain⟨W,⟨F,E⟩,k⟩:=h;refine wpAny_While (codeAny_whileLoop (λn G=>∃σ' H',Inv X a σ' H' G/\W n σ' H') ?_ F ⟨σ,H,I,E⟩);rintro n M ⟨σ1,r,L,J⟩;refine BH x (thn (B a M σ1 r _ L (k n σ1 r J)) λb K t=>?_);obtain⟨q,y,g⟩:=t;cases b with
 |true =>
  obtain⟨N,u,g⟩:=g;rw[if_pos Z];refine BH x (thn (C a K σ1 q _ y g) λf s3 i=>?_);cases f with
  |next =>obtain⟨σ3,d,j,o⟩:=i;obtain⟨p,l,m⟩:=u σ3 d o;exact⟨p,l,σ3,d,j,m⟩
  |cont =>obtain⟨σ3,d,j,o⟩:=i;obtain⟨p,l,m⟩:=u σ3 d o;exact⟨p,l,σ3,d,j,m⟩
  |brk=>exact i
  |ret v=>exact i
 |false =>rw[if_neg AF];exact Dx ⟨σ1,q,y,g⟩
end
structure It where
 go:Nat->Hp->Prop
 yld:Nat->Hp->V->Hp->Prop
 stop:Nat->Hp->Prop
def qi9 (X:Cx)(pins:List (Addr×Obj))(H:Hp)(b:Addr):Prop :=
 H b=none/\b≠X.env.locals/\b∉X.fs/\(b∈X.ex\/X.s₀.heap.objs.size<=b)/\(∀x c,X.env.cells.lookup x=some c->c≠b)/\∀p∈X.pn++pins,p.1≠b
theorem Inv.fpOk {X:Cx}{a:List (Addr×Obj)}{σ:St}{H H':Hp}{s:Ad}{b:Addr}(I:Inv X a σ H s)(d:s.heap.objs.size<=b)(g:H' b=none):qi9 X a H' b:=by
 refine⟨g,Cm (A0 I.lt d),I.nofs d,.inr (A9 I.sz d),λx c e z=>?_,λp f z=>?_⟩
 .obtain⟨v,q⟩:=I.cell x c e;exact absurd (A0 q.lt (by rw[z];exact d)) (Cd _)
 .exact absurd (A0 (AC (I.pin p f).1) (by rw[z];exact d)) (Cd _)
structure Turn (P:AJ)(w:World)(K:Ag)(tg:Expr)(J:It)(fp:List Addr)(it:Addr)(tn:Nat->Heap->Prop):Prop where
 mem:it∈fp
 obj:∀i h,tn i h->∀b∈fp,∃o,h.get? b=some o/\∀v,o.data ≠ .cell v
 keep:∀i h h',tn i h->(∀b∈fp,∀o,h.get? b=some o->h'.get? b=some o)->tn i h'
 item:∀(X:Cx),X.prog=P->X.w=w->X.K=K->X.calm=true->∀(i:Nat)(pins:List (Addr×Obj))(s:Ad)(σ:St)(H:Hp)(E:Value->Ad->Prop),Inv X pins σ H s->(∀b∈fp,qi9 X pins H b)->tn i s.heap->J.go i H ->
  wpAny (model P w) X.A (pyNext (.ref it)) (λr s1=>∃u,r=some u /\
   wpAny (model P w) X.A (letOwnedTupleGo tg (.ref it) u) (λ_ s2=>∃x H',Inv X pins σ H' s2/\RelV x u/\J.yld i H x H'/\tn (i+1) s2.heap/\∀b∈fp,H' b=none) E s1) E s
 done:∀(X:Cx),X.prog=P->X.w=w->X.K=K->X.calm=true->∀(i:Nat)(pins:List (Addr×Obj))(s:Ad)(σ:St)(H:Hp)(E:Value->Ad->Prop),Inv X pins σ H s->(∀b∈fp,qi9 X pins H b)->tn i s.heap->J.stop i H ->
  wpAny (model P w) X.A (pyNext (.ref it)) (λr s1=>r=none/\Inv X pins σ H s1) E s
 self:∀(A:AT)(i:Nat)(s:Ad)(Q:Value->Ad->Prop)(E:Value->Ad->Prop),tn i s.heap->Q (.ref it) s->wpAny (model P w) A (pyIter (.ref it)) Q E s
abbrev TI:=St->Hp->(It->Hp->Prop)->Prop
def PIE (X:Cx)(pins:List (Addr×Obj))(σ:St)(tg:Expr)(R:It->Hp->Prop)(itv:Value)(s2:Ad):Prop :=
 ∃(it:Addr)(fp:List Addr)(tn:Nat->Heap->Prop)(J:It)(H':Hp),itv=.ref it/\Inv X pins σ H' s2/\Turn X.prog X.w X.K tg J fp it tn/\tn 0 s2.heap/\(∀b∈fp,qi9 X pins H' b)/\R J H'
def PI (X:Cx)(tg iter:Expr)(wi:TI):Prop :=
 ∀(pins:List (Addr×Obj))(s:Ad)(σ:St)(H:Hp)(R:It->Hp->Prop),Inv X pins σ H s->wi σ H R ->
  wpAny (model X.prog X.w) X.A (eval iter X.env) (λv s1=>wpAny (model X.prog X.w) X.A (pyIter v) (PIE X pins σ tg R) X.xe s1) X.xe s
theorem go_of {M:Model}{A:AT}{E:Value->Ad->Prop}{s:Ad}{b:Expr}{it:Addr}{u:Value}{o:Obj}{n:String}{vs:Array Value}{Q:Unit->Ad->Prop}(d:s.heap.get? it=some o)(e:o.cls=.type n)(f:o.data=.fields vs)
  (c:["enumerate","zip","dict_itemiterator","dict_reverseitemiterator","odict_iterator","itertools.zip_longest","itertools.pairwise"].contains n=false)(a:Q () s):wpAny M A (letOwnedTupleGo b (.ref it) u) Q E s:=by
 unfold letOwnedTupleGo;cases b <;>first
  |exact AQ a
  | (cases u <;>first
    |exact AQ a
    | (refine An (wpAny_load d ?_)
       rw[e,f]
       show wpAny M A (if (["enumerate","zip","dict_itemiterator","dict_reverseitemiterator","odict_iterator","itertools.zip_longest","itertools.pairwise"].contains n && vs[0]? == some (rawInt _))=true then _ else _) Q E s
       rw[if_neg (by intro h;rw[c,CN]at h;cases h)]
       exact AQ a))
noncomputable def Itl (K:Ag)(a:Addr):It :=
 ⟨λi H=>∃xs x,SqL K H a xs/\xs[i]?=some x,λi H x H'=>H'=H/\∀xs,SqL K H a xs->xs[i]?=some x,λi H=>∃xs,SqL K H a xs/\xs.length<=i⟩
noncomputable def Itr (lo:Int)(n:Nat):It:=⟨λi _=>i<n,λi H x H'=>H'=H/\x=.int (lo+i),λi _=>n<=i⟩
theorem qu1 {P:AJ}{w:World}{K:Ag}{L:Expr}(a it:Addr):Turn P w K L (Itl K a) [it] it (λi h=>h.IsListIter it a i) where
 mem:=by simp
 obj:=λi h st b f=>by
  have e:b=it:=by simpa using f
  subst e;obtain⟨o,e,c,d⟩:=st;exact⟨o,e,λv z=>by rw[d]at z;cases z⟩
 keep:=λi h h' st k=>st.at λo e=>k it (by simp) o e
 item:=by intro X n r C F i g s σ H E I j st m;subst n r C;obtain⟨xs,x,l,A⟩:=m;obtain⟨its,rv,p,hz⟩:=I.list l;obtain⟨u,N,G⟩:=rv.get A;obtain⟨D,B,J,t,q,y⟩:=j it (by simp);refine wpAny_pyNext_list_item st p.isList (x:=u) (by simpa using N) λh' st' Q=>?_;have R:Inv X g σ H {s with heap:=h'}:=I.turned (t':=s.toks) (λb o f e=>(Q.2 b f).trans e) D B t q y;obtain⟨o,e,c,d⟩:=id st';exact⟨u,Z,go_of (s:={s with heap:=h'}) e c d Ud ⟨x,H,R,G,⟨Z,λys M=>by rw[I.list_inj M l];exact A⟩,st',λb f=>(j b f).1⟩⟩
 done:=by intro X n r C F i g s σ H E I j st m;subst n r C;obtain⟨xs,l,A⟩:=m;obtain⟨its,rv,p,hz⟩:=I.list l;obtain⟨D,B,J,t,q,y⟩:=j it (by simp);have hl:=rv.length;exact wpAny_pyNext_list_end (I.ok.hd F) st p.isList (by simp;lia) λh' O=>⟨Z,I.turned (t':=s.toks) (λb o f e=>O b o f e) D B t q y⟩
 self:=λ_ _ _ _ _ st h=>wpAny_pyIter_listiter st h
theorem qr2 {P:AJ}{w:World}{K:Ag}{C:Expr}(it:Addr)(lo:Int)(n:Nat):Turn P w K C (Itr lo n) [it] it (λi h=>IsRangeIter h it (lo+(i:Nat)*1) ((n:Int)-(i:Nat)) 1) where
 mem:=by simp
 obj:=λi h st b a=>by
  have e:b=it:=by simpa using a
  subst e;exact⟨_,st,λv z=>by have F:Data.fields _=Data.cell v:=z;cases F⟩
 keep:=λi h h' st k=>k it (by simp) _ st
 item:=by intro X j m u f i c s σ H E I d st g;subst j m u;obtain⟨x,r,B,p,l,q⟩:=d it (by simp);have W:=Walks.range (prog:=X.prog) (w:=X.w) (I.ok.hd f) it lo 1 n;refine W.item i s _ _ g st λv h' tk A st' y=>?_;obtain⟨t,rfl⟩:=A;have G:Inv X c σ H {s with heap:=h',toks:=tk}:=I.turned (λb o a e=>y b o (by simpa using a) e) x r p l q;refine⟨_,Z,go_of (s:={s with heap:=h',toks:=tk}) (n := "range_iterator") st' Z Z Ud ⟨.int (lo+i),H,G,⟨t,?_⟩,⟨Z,Z⟩,st',λb a=>(d b a).1⟩⟩;rw[Int.mul_one]
 done:=by intro X j m u f i c s σ H E I d st g;subst j m u;obtain⟨x,r,B,p,l,q⟩:=d it (by simp);exact wpAny_pyNext_range_end (I.ok.hd f) st (by have:n<=i:=g;lia) λh' D=>⟨Z,I.turned (t':=s.toks) (λb o a e=>D b o a e) x r p l q⟩
 self:=λ_ _ _ _ _ st h=>wpAny_pyIter_rangeiter st h
end L2
namespace L2
open PySem PySem.Spec PyProof.Rows
section
variable {X:Cx}{tg:Expr}
def iList (K:Ag)(tl:TE):TI:=λσ H R=>tl σ H λx H1=>∃a,x=.ref a/\(∃xs,SqL K H1 a xs)/\R (Itl K a) H1
theorem qbf {l:Expr}{i:TE}(t:PE X l i):PI X tg l (iList X.K i):=by
 intro f s σ H R I h;refine thn (t f s σ H _ I h) λv d g=>?_;obtain⟨x,k,c,m,n⟩:=g;obtain⟨a,e,⟨xs,r⟩,q⟩:=n;subst e;cases m;obtain⟨its,rv,p,hz⟩:=c.list r;refine wpAny_pyIter_list p.isList ?_;refine⟨d.heap.objs.size,[d.heap.objs.size],_,_,k,Z,c.kept (t':=d.toks) λb o e=>Av _ e,qu1 a _,⟨_,AW _ Z,Z,Z⟩,λb j=>?_,q⟩;have e:b=d.heap.objs.size:=by simpa using j
 subst e;exact c.fpOk (Al _) (c.hok.fresh (Al _))
theorem qwo {c:List (Addr×Obj)}{σ:St}{H:Hp}{s:Ad}{R:It->Hp->Prop}{E:Value->Ad->Prop}{lo a:Int}{t u v:Tok}{tk:Nat}(I:Inv X c σ H s)(l : -(2 ^ 62)<=lo)(g:lo<2 ^ 62)(i : -(2 ^ 62)<=a)(h:a<2 ^ 62)
  (q:R (Itr lo (a-lo).toNat) H):wpAny (model X.prog X.w) X.A (pyIter (.ref s.heap.objs.size)) (PIE X c σ tg R) E {s with heap:=s.heap.push {cls:=.type "range",data:=.fields #[.int lo t,.int a u,.int 1 v]},toks:=tk}:=by
 refine wpAny_pyIter_range (IsRange.new ..) (small_one l g i h) ?_;have d:Inv X c σ H {s with heap:=s.heap.push {cls:=.type "range",data:=.fields #[.int lo t,.int a u,.int 1 v]},toks:=tk}:=I.kept λb o e=>Av _ e;refine⟨(s.heap.push {cls:=.type "range",data:=.fields #[.int lo t,.int a u,.int 1 v]}).objs.size,[(s.heap.push {cls:=.type "range",data:=.fields #[.int lo t,.int a u,.int 1 v]}).objs.size],_,_,H,Z,
  d.kept (t':=tk) λb o e=>Av _ e,qr2 _ lo (a-lo).toNat,?_,λb f=>?_,q⟩
 .have k:lo+((0:Nat):Int)*1=lo:=by simp
  have j:(((a-lo).toNat:Nat):Int)-((0:Nat):Int)=Bl.Range.rangeSize lo a 1:=by rw[rangeSize_one];split <;>lia
  show IsRangeIter _ _ (lo+((0:Nat):Int)*1) ((((a-lo).toNat:Nat):Int)-((0:Nat):Int)) 1;rw[k,j];exact AW _ rfl
 .have e:b=(s.heap.push {cls:=.type "range",data:=.fields #[.int lo t,.int a u,.int 1 v]}).objs.size:=by simpa using f
  subst e;exact d.fpOk (Al _) (d.hok.fresh (Al _))
def iRng1 (ta:TA):TI:=λσ H R=>ta σ H λvs H1=>∃j:Int,vs=[.int j] /\ -(2 ^ 62)<=j/\j<2 ^ 62/\R (Itr 0 j.toNat) H1
theorem qbl {a:Expr}{d:TA}{p pos:Pos}(g:Gl X "range")(i:X.mg "range"=none)(l:PA X [a] d)(n:starEach [a] X.env=[(false,eval a X.env)]:=by rfl):PI X tg (.Call (.Name "range" p) [a] [] pos) (iRng1 d):=by
 intro c s σ H R I h;refine Call_ (qf9 I g i boot_range (Cc (thn (l pos c s σ H _ I h) λus s1 f=>?_) n Z));obtain⟨vs,H1,o,k,b⟩:=f;obtain⟨j,e,b,m,q⟩:=b;subst e;cases k with
 |cons r rr =>cases rr;obtain⟨t,rfl⟩:=r;exact call_range_1 (qwo o (by lia) (by lia) b m (by simpa using q))
def tFor (wi:TI)(g:TG)(tb:TS):TS:=λD σ H=>wi σ H λJ H1=>∃W:Nat->Nat->St->Hp->Prop,(∃m,W 0 m σ H1)/\∀i m σ H,W i m σ H ->
 (J.stop i H/\D.nx σ H)\/(J.go i H/\∃N:St->Hp->Prop,(∀σ' H',N σ' H'->∃m',m'<m/\W (i+1) m' σ' H')/\∀x H',J.yld i H x H'->g x σ H' λσ2 H2=>tb {D with nx:=N,ct:=N,bk:=D.nx} σ2 H2)
noncomputable def qja (fp:List Addr)(h:Heap):List (Addr×Obj):=fp.filterMap λb=>(h.get? b).map λo=>(b,o)
theorem qd6 {fp:List Addr}{h:Heap}{b:Addr}{o:Obj}(a:b∈fp)(e:h.get? b=some o):(b,o)∈qja fp h:=BZ.mpr ⟨b,a,by rw[e];rfl⟩
theorem qu2 {fp:List Addr}{h:Heap}{p:Addr×Obj}(a:p∈qja fp h):p.1∈fp/\h.get? p.1=some p.2:=by
 obtain⟨b,d,e⟩:=BZ.mp a;cases q:h.get? b with|none=>rw[q]at e;cases e|some o =>rw[q]at e;have c:(b,o)=p:=AA e;subst c;exact⟨d,q⟩
theorem Inv.pinned {a:List (Addr×Obj)}{σ:St}{H:Hp}{s:Ad}{fp:List Addr}(I:Inv X a σ H s)(h:∀b∈fp,qi9 X a H b)(j:∀b∈fp,∃o,s.heap.get? b=some o/\∀v,o.data ≠ .cell v):Inv X (a++qja fp s.heap) σ H s :=
 I.pins_of λp l=>(Az.mp l).elim (λz=>I.pin p (A3 _ z)) λz=>by obtain⟨c,e⟩:=qu2 z;obtain⟨k,i,g,_⟩:=h p.1 c;obtain⟨o,f,d⟩:=j p.1 c;rw[e]at f;cases f;exact⟨e,k,i,g,d⟩
theorem Inv.unpinned {a pl:List (Addr×Obj)}{σ:St}{H:Hp}{s:Ad}(I:Inv X (a++pl) σ H s):Inv X a σ H s:=I.pins_of λp b=>I.pin p (A3 _ (B7 _ b))
theorem qa8 {q:Expr}{C:List Stmt}{wi:TI}{g:TG}{tb:TS}{pos:Pos}(E:Ba (model X.prog X.w) X.A X.env X.xe)(Q:X.calm=true)(hi:PI X tg q wi)(hg:PG X tg g)(j:PSs X C tb)
  (hs:∀x,foldedSetIterable q X.env x=pure x:=by intro _;rfl):PS X (.For tg q C [] pos) (tFor wi g tb):=by
 intro a s σ H D I h;refine wpAny_For (thn (hi a s σ H _ I h) λv s1 h1=>thn h1 λitv s2 h2=>?_) hs;obtain⟨it,fp,tn,J,H2,e,I2,T,ad,R,W,⟨m0,w0⟩,M⟩:=h2;subst e
 -- what stays true of the iterator's objects through the loop
 have t:∀{H':Hp},(∀b∈fp,H' b=none)->∀b∈fp,qi9 X a H' b:=λhn b j=>⟨hn b j,(R b j).2⟩;refine codeAny_forLoop_any (λn U=>∃i σ' H',Inv X a σ' H' U/\tn i U.heap/\(∀b∈fp,H' b=none)/\W i n σ' H') ?_ m0 ⟨0,σ,H2,I2,ad,λb j=>(R b j).1,w0⟩;rintro n P ⟨i,σ3,F,Y,G,K,w3⟩;rcases M i n σ3 F w3 with ⟨stop,qn⟩|⟨go,N,hN,step⟩
 .refine BH E (thn (T.done X Z Z Z Q i a P σ3 F X.xe Y (t K) G stop) λr s4 k=>?_);obtain⟨L,I4⟩:=k;subst L;exact Dx ⟨σ3,F,I4,qn⟩
 .refine BH E (thn (T.item X Z Z Z Q i a P σ3 F X.xe Y (t K) G go) λr s4 k=>?_);obtain⟨u,L,h4⟩:=k;subst L;refine BH E (thn h4 λ_ s5 k=>?_);obtain⟨x,V,I5,r5,y5,z,ae⟩:=k;have S:=I5.pinned (t ae) (T.obj _ _ z);refine BH E (thn (hg _ s5 σ3 V x u _ S r5 (step x V y5)) λ_ s6 k=>?_);obtain⟨σ6,H6,I6,q6⟩:=k;refine BH E (thn (j _ s6 σ6 H6 _ I6 q6) λf O p=>?_);have y:∀{σ7:St}{l:Hp},Inv X (a++qja fp s5.heap) σ7 l O->N σ7 l->∃m,m<n/\∃i σ' H',Inv X a σ' H' O/\tn i O.heap/\(∀b∈fp,H' b=none)/\W i m σ' H':=λ{σ7 l} c B=>by obtain⟨m',hm,w7⟩:=hN σ7 l B;refine⟨m',hm,i+1,σ7,l,c.unpinned,T.keep _ _ _ z λb j o e=>(c.pin (b,o) (A3 _ (A3 _ (qd6 j e)))).1,λb j=>?_,w7⟩;obtain⟨o,e,d⟩:=T.obj _ _ z b j;exact(c.pin (b,o) (A3 _ (A3 _ (qd6 j e)))).2.1
  cases f with
  |next=>obtain⟨σ7,l,c,B⟩:=p;exact y c B
  |cont=>obtain⟨σ7,l,c,B⟩:=p;exact y c B
  |brk=>obtain⟨σ7,l,c,p⟩:=p;exact⟨σ7,l,c.unpinned,p⟩
  |ret v=>obtain⟨x7,σ7,l,c,r7,p⟩:=p;exact⟨x7,σ7,l,c.unpinned,r7,p⟩
end
theorem qbm {K:Ag}{a:Addr}{xs:List V}{g:TG}{tb:TS}{D:Ends}{σ:St}{H:Hp}(b:Nat->St->Hp->Prop)(h:b 0 σ H)(k:∀i σ H,i<=xs.length->b i σ H->SqL K H a xs)
  (j:∀i x σ H,xs[i]?=some x->b i σ H->g x σ H λσ2 d=>tb {D with nx:=b (i+1),ct:=b (i+1),bk:=D.nx} σ2 d)(hd:∀σ H,b xs.length σ H->D.nx σ H) :
  ∃W:Nat->Nat->St->Hp->Prop,(∃m,W 0 m σ H)/\∀i m σ H,W i m σ H ->
   ((Itl K a).stop i H/\D.nx σ H)\/((Itl K a).go i H/\∃N:St->Hp->Prop,(∀σ' H',N σ' H'->∃m',m'<m/\W (i+1) m' σ' H')/\∀x H',(Itl K a).yld i H x H'->g x σ H' λσ2 d=>tb {D with nx:=N,ct:=N,bk:=D.nx} σ2 d):=by
 refine⟨λi m σ H=>m=xs.length-i/\i<=xs.length/\b i σ H,⟨xs.length,by simp,AS _,h⟩,?_⟩
 rintro i m σ H ⟨rfl,f,p⟩
 have q:=k i σ H f p
 by_cases c:i<xs.length
 .refine .inr ⟨⟨xs,xs[i],q,by simp[c]⟩,b (i+1),λσ' H' l=>⟨xs.length-(i+1),by lia,Z,c,l⟩,λx H' y=>?_⟩;obtain⟨e,y⟩:=y;subst e;exact j i x σ _ (y xs q) p
 .have e:i=xs.length:=by lia
  subst e;exact .inl ⟨⟨xs,q,Al _⟩,hd σ H p⟩
theorem qcj {lo:Int}{n:Nat}{g:TG}{tb:TS}{D:Ends}{σ:St}{H:Hp}(a:Nat->St->Hp->Prop)(d:a 0 σ H)
  (f:∀i σ H,i<n->a i σ H->g (.int (lo+i)) σ H λσ2 c=>tb {D with nx:=a (i+1),ct:=a (i+1),bk:=D.nx} σ2 c)(hd:∀σ H,a n σ H->D.nx σ H) :
  ∃W:Nat->Nat->St->Hp->Prop,(∃m,W 0 m σ H)/\∀i m σ H,W i m σ H ->
   ((Itr lo n).stop i H/\D.nx σ H)\/((Itr lo n).go i H/\∃N:St->Hp->Prop,(∀σ' H',N σ' H'->∃m',m'<m/\W (i+1) m' σ' H')/\∀x H',(Itr lo n).yld i H x H'->g x σ H' λσ2 c=>tb {D with nx:=N,ct:=N,bk:=D.nx} σ2 c):=by
 refine⟨λi m σ H=>m=n-i/\i<=n/\a i σ H,⟨n,by simp,AS _,d⟩,?_⟩
 rintro i m σ H ⟨rfl,hi,p⟩
 by_cases b:i<n
 .refine .inr ⟨b,a (i+1),λσ' H' h=>⟨n-(i+1),by lia,Z,b,h⟩,λx H' y=>?_⟩;obtain⟨e,y⟩:=y;subst e y;exact f i σ _ b p
 .have e:i=n:=by lia
  subst e;exact .inl ⟨Al _,hd σ H p⟩
end L2
namespace L2
open PySem PySem.Spec PyProof.Rows
abbrev R2:=V->V->Hp->VK->Prop
def OpR (X:Cx)(f:Value->Value->Sem Value)(r:R2):Prop :=
 ∀(pins:List (Addr×Obj))(s:Ad)(σ:St)(H:Hp)(x y:V)(v u:Value)(Q:VK),Inv X pins σ H s->RelV x v->RelV y u->r x y H Q ->
  wpAny (model X.prog X.w) X.A (f v u) (EP X pins σ Q) X.xe s
def UnR (X:Cx)(f:Value->Sem Value)(r:V->Hp->VK->Prop):Prop :=
 ∀(pins:List (Addr×Obj))(s:Ad)(σ:St)(H:Hp)(x:V)(v:Value)(Q:VK),Inv X pins σ H s->RelV x v->r x H Q ->
  wpAny (model X.prog X.w) X.A (f v) (EP X pins σ Q) X.xe s
def qga (X:Cx)(f:Value)(r:List V->Hp->VK->Prop):Prop :=
 ∀(pins:List (Addr×Obj))(s:Ad)(σ:St)(H:Hp)(xs:List V)(us:List Value)(Q:VK),Inv X pins σ H s->Vals xs us->r xs H Q ->
  wpAny (model X.prog X.w) X.A (call f us) (EP X pins σ Q) X.xe s
def TruR (X:Cx)(r:V->Hp->(Bool->Hp->Prop)->Prop):Prop :=
 ∀(pins:List (Addr×Obj))(s:Ad)(σ:St)(H:Hp)(x:V)(v:Value)(Q:Bool->Hp->Prop),Inv X pins σ H s->RelV x v->r x H Q ->
  wpAny (model X.prog X.w) X.A (truthy v) (TP X pins σ Q) X.xe s
def tOp (r:R2)(ta tb:TE):TE:=λσ H Q=>ta σ H λx H1=>tb σ H1 λy H2=>r x y H2 Q
def tUn (r:V->Hp->VK->Prop)(ta:TE):TE:=λσ H Q=>ta σ H λx H1=>r x H1 Q
def rI (C:Int->Int->Prop)(g:Int->Int->V):R2:=λx y H Q=>∃i j,x=.int i/\y=.int j/\C i j/\Q (g i j) H
def rI0 (g:Int->Int->V):R2:=λx y H Q=>∃i j,x=.int i/\y=.int j/\Q (g i j) H
def rU (g:Int->V):V->Hp->VK->Prop:=λx H Q=>∃i,x=.int i/\Q (g i) H
section
variable {X:Cx}{a b c:Expr}{ta tb tc:TE}{pos:Pos}
theorem binT (m:PE X a ta)(j:PE X b tb){c:List (Addr×Obj)}{s:Ad}{σ:St}{H:Hp}{R:V->V->Hp->Prop}(I:Inv X c σ H s)
  (h:ta σ H λx i=>tb σ i λy d=>R x y d){Q:Value->Ad->Prop}{f:Value->Value->Sem Value}
  (p:∀v u g x y d,Inv X c σ d g->RelV x v->RelV y u->R x y d->wpAny (model X.prog X.w) X.A (f v u) Q X.xe g) :
  wpAny (model X.prog X.w) X.A (eval a X.env) (λv k=>wpAny (model X.prog X.w) X.A (eval b X.env) (λu q=>wpAny (model X.prog X.w) X.A (f v u) Q X.xe q) X.xe k) X.xe s:=by
 refine thn (m c s σ H _ I h) λv B e=>?_;obtain⟨x,i,z,l,n⟩:=e;refine thn (j c B σ i _ z n) λu g e=>?_;obtain⟨y,d,t,o,r⟩:=e;exact p v u g x y d t l o r
theorem qv {op:Operator}{r:R2}(k:OpR X (binaryOp op) r)(i:PE X a ta)(f:PE X b tb):PE X (.BinOp a op b pos) (tOp r ta tb):=by intro c s σ H Q I h;exact wpAny_BinOp (binT i f I h λv u j x y e l d g q=>k c j σ e x y v u Q l d g q)
theorem qfa {op:UnaryOp}{r:V->Hp->VK->Prop}(e:UnR X (unaryOp op) r)(f:PE X a ta):PE X (.UnaryOp op a pos) (tUn r ta):=by intro b s σ H Q I h;exact UnaryOp_ (thn (f b s σ H _ I h) λv j ⟨x,i,g,d,c⟩=>e b j σ i x v Q g d c)
theorem opI {f:Value->Value->Sem Value}{C:Int->Int->Prop}{g:Int->Int->Int}
  (rule:∀(i j:Int)(t u:Tok)(s:Ad)(Q:Value->Ad->Prop)(E:Value->Ad->Prop),C i j->Q (.int (g i j) s.toks) {s with toks:=s.toks+1}->wpAny (model X.prog X.w) X.A (f (.int i t) (.int j u)) Q E s) :
  OpR X f (rI C λi j=>.int (g i j)):=by
 intro pins s σ H x y v u Q I b c h;obtain⟨i,j,rfl,rfl,a,q⟩:=h;obtain⟨t,rfl⟩:=b;obtain⟨t',rfl⟩:=c;exact rule i j t t' s _ _ a ⟨.int (g i j),H,I.tok _,⟨_,Z⟩,q⟩
theorem opI0 {f:Value->Value->Sem Value}{g:Int->Int->Int}
  (rule:∀(i j:Int)(t u:Tok)(s:Ad)(Q:Value->Ad->Prop)(E:Value->Ad->Prop),Q (.int (g i j) s.toks) {s with toks:=s.toks+1}->wpAny (model X.prog X.w) X.A (f (.int i t) (.int j u)) Q E s) :
  OpR X f (rI0 λi j=>.int (g i j)):=by
 intro pins s σ H x y v u Q I a b h;obtain⟨i,j,rfl,rfl,q⟩:=h;obtain⟨t,rfl⟩:=a;obtain⟨t',rfl⟩:=b;exact rule i j t t' s _ _ ⟨.int (g i j),H,I.tok _,⟨_,Z⟩,q⟩
theorem opB0 {f:Value->Value->Sem Value}{g:Int->Int->Bool}
  (rule:∀(i j:Int)(t u:Tok)(s:Ad)(Q:Value->Ad->Prop)(E:Value->Ad->Prop),Q (.bool (g i j)) s->wpAny (model X.prog X.w) X.A (f (.int i t) (.int j u)) Q E s) :
  OpR X f (rI0 λi j=>.bl (g i j)):=by
 intro pins s σ H x y v u Q I a b h;obtain⟨i,j,rfl,rfl,q⟩:=h;obtain⟨t,rfl⟩:=a;obtain⟨t',rfl⟩:=b;exact rule i j t t' s _ _ ⟨.bl (g i j),H,I,Z,q⟩
def CDiv (i j:Int):Prop:=0<j/\j<1073741824
def CPow (i j:Int):Prop:=0<=j/\j<=1000000/\i.natAbs<2 ^ 64
def CMul (i j:Int):Prop:=(-(2 ^ 64)<i/\i<2 ^ 64)\/(-(2 ^ 64)<j/\j<2 ^ 64)
theorem CMul.ok {i j:Int}(h:CMul i j):IntMulOk i j:=by
 rcases h with ⟨b,a⟩|⟨b,a⟩
 .exact .of_left (intBits_le_64 b a)
 .exact .of_right (intBits_le_64 b a)
theorem qah:OpR X (binaryOp .Add) (rI0 λi j=>.int (i+j)):=opI0 λ_ _ _ _ _ _ _ q=>add_int q
theorem qby:OpR X (binaryOp .Sub) (rI0 λi j=>.int (i-j)):=opI0 λ_ _ _ _ _ _ _ q=>sub_int q
theorem qbr:OpR X (binaryOp .Mult) (rI CMul λi j=>.int (i*j)):=opI λ_ _ _ _ _ _ _ a q=>mul_int q a.ok
theorem qa4:OpR X (binaryOp .FloorDiv) (rI CDiv λi j=>.int (i / j)):=opI λi j _ _ _ _ _ a q=>by have h1:(0:Int)<j:=a.1;have h2:j<1073741824:=a.2;exact floordiv_int (by lia) (by rw[Int.fdiv_eq_ediv_of_nonneg i (by lia)];exact q) (.inl (PyProof.noPylong_small (by lia)))
theorem qay:OpR X (binaryOp .Mod) (rI (λ_ j=>0<j) λi j=>.int (i % j)):=opI λi j _ _ _ _ _ a q=>by have h1:(0:Int)<j:=a;exact mod_int' (by lia) (by rw[Int.fmod_eq_emod_of_nonneg i (by lia)];exact q)
theorem op_pow:OpR X (binaryOp .Pow) (rI CPow λi j=>.int (i ^ j.toNat)):=opI λ_ _ _ _ _ _ _ a q=>pow_int_small a.1 a.2.1 a.2.2 q
theorem unI {f:Value->Sem Value}{g:Int->Int}
  (rule:∀(i:Int)(t:Tok)(s:Ad)(Q:Value->Ad->Prop)(E:Value->Ad->Prop),Q (.int (g i) s.toks) {s with toks:=s.toks+1}->wpAny (model X.prog X.w) X.A (f (.int i t)) Q E s) :
  UnR X f (rU λi=>.int (g i)):=by
 intro pins s σ H x v Q I a h;obtain⟨i,rfl,q⟩:=h;obtain⟨t,rfl⟩:=a;exact rule i t s _ _ ⟨.int (g i),H,I.tok _,⟨_,Z⟩,q⟩
theorem qda:UnR X (unaryOp .USub) (rU λi=>.int (-i)):=unI λ_ _ _ _ _ q=>neg_int q
end
noncomputable def qwp:V->V->Bool
 |.non,.non=>true | .non,.int _=>true | .int _,.non=>true | .non,.bl _=>true | .bl _,.non=>true | .non,.str _=>true | .str _,.non=>true
 |.int _,.int _=>true | .bl _,.bl _=>true | .str _,.str _=>true | .byt _,.byt _=>true
 |.int _,.str _=>true | .str _,.int _=>true | .bl _,.str _=>true | .str _,.bl _=>true
 |_,_=>false
def rEq:R2:=λx y H Q=>qwp x y=true/\Q (.bl (decide (x=y))) H
def rNe:R2:=λx y H Q=>qwp x y=true/\Q (.bl (!decide (x=y))) H
theorem qtk {i j:Int}:decide (V.int i=V.int j)=(i == j):=by rw[CD];simp
theorem qwq {i j:Bool}:decide (V.bl i=V.bl j)=(i == j):=by rw[CD];simp
theorem qtl {i j:Str}:decide (V.str i=V.str j)=(i == j):=by rw[CD];simp
theorem qtm {i j:Array UInt8}:decide (V.byt i=V.byt j)=(i.toList == j.toList):=by rw[CD];cases i;cases j;simp
section
variable {X:Cx}{a b c:Expr}{ta tb tc:TE}{pos:Pos}
theorem qaz {a:List (Addr×Obj)}{σ:St}{H:Hp}{s:Ad}{Q:VK}{k b:Bool}(I:Inv X a σ H s)(q:Q (.bl k) H)(e:k=b):EP X a σ Q (.bool b) s:=by subst e;exact⟨.bl k,H,I,Z,q⟩
theorem qbt:OpR X (compareOp .Eq) rEq:=by
 intro pins s σ H x y v u Q I c a h;obtain⟨b,q⟩:=h;cases x with
 |non =>
  cases c;cases y with
  |non=>cases a;exact PySem.EqNone.eq_none_none (qaz I q (by simp))
  |bl j=>cases a;exact PySem.EqNone.eq_none_bool (qaz I q (by simp))
  |int j=>obtain⟨t',rfl⟩:=a;exact PySem.EqNone.eq_none_int (qaz I q (by simp))
  |str j=>obtain⟨t',rfl⟩:=a;exact PySem.EqNone.eq_none_str (qaz I q (by simp))
  |_=>exact absurd (show false=true from b) AF
 |bl i =>
  cases c;cases y with
  |non=>cases a;exact PySem.EqNone.eq_bool_none (qaz I q (by simp))
  |bl j=>cases a;exact eq_bool (qaz I q qwq)
  |str j=>obtain⟨t',rfl⟩:=a;exact PySem.EqMixed.eq_bool_str (qaz I q (by simp))
  |_=>exact absurd (show false=true from b) AF
 |int i =>
  obtain⟨t,rfl⟩:=c;cases y with
  |non=>cases a;exact PySem.EqNone.eq_int_none (qaz I q (by simp))
  |int j=>obtain⟨t',rfl⟩:=a;exact eq_int (qaz I q qtk)
  |str j=>obtain⟨t',rfl⟩:=a;exact PySem.EqMixed.eq_int_str (qaz I q (by simp))
  |_=>exact absurd (show false=true from b) AF
 |str i =>
  obtain⟨t,rfl⟩:=c;cases y with
  |non=>cases a;exact PySem.EqNone.eq_str_none (qaz I q (by simp))
  |bl j=>cases a;exact PySem.EqMixed.eq_str_bool (qaz I q (by simp))
  |int j=>obtain⟨t',rfl⟩:=a;exact PySem.EqMixed.eq_str_int (qaz I q (by simp))
  |str j=>obtain⟨t',rfl⟩:=a;exact eq_str (qaz I q qtl)
  |_=>exact absurd (show false=true from b) AF
 |byt i =>
  obtain⟨t,rfl⟩:=c;cases y with
  |byt j=>obtain⟨t',rfl⟩:=a;exact PySem.W.eq_bytes (qaz I q qtm)
  |_=>exact absurd (show false=true from b) AF
 |_=>cases y <;>exact absurd (show false=true from b) AF
theorem qlh:OpR X (compareOp .NotEq) rNe:=by
 intro pins s σ H x y v u Q I c a h;obtain⟨b,q⟩:=h;cases x with
 |non =>
  cases c;cases y with
  |non=>cases a;exact PySem.EqNone.ne_none_none (qaz I q (by simp))
  |bl j=>cases a;exact PySem.EqNone.ne_none_bool (qaz I q (by simp))
  |int j=>obtain⟨t',rfl⟩:=a;exact PySem.EqNone.ne_none_int (qaz I q (by simp))
  |str j=>obtain⟨t',rfl⟩:=a;exact PySem.EqNone.ne_none_str (qaz I q (by simp))
  |_=>exact absurd (show false=true from b) AF
 |bl i =>
  cases c;cases y with
  |non=>cases a;exact PySem.EqNone.ne_bool_none (qaz I q (by simp))
  |bl j=>cases a;exact ne_bool (qaz I q (congrArg not qwq))
  |str j=>obtain⟨t',rfl⟩:=a;exact PySem.EqMixed.ne_bool_str (qaz I q (by simp))
  |_=>exact absurd (show false=true from b) AF
 |int i =>
  obtain⟨t,rfl⟩:=c;cases y with
  |non=>cases a;exact PySem.EqNone.ne_int_none (qaz I q (by simp))
  |int j=>obtain⟨t',rfl⟩:=a;exact ne_int (qaz I q (congrArg not qtk))
  |str j=>obtain⟨t',rfl⟩:=a;exact PySem.EqMixed.ne_int_str (qaz I q (by simp))
  |_=>exact absurd (show false=true from b) AF
 |str i =>
  obtain⟨t,rfl⟩:=c;cases y with
  |non=>cases a;exact PySem.EqNone.ne_str_none (qaz I q (by simp))
  |bl j=>cases a;exact PySem.EqMixed.ne_str_bool (qaz I q (by simp))
  |int j=>obtain⟨t',rfl⟩:=a;exact PySem.EqMixed.ne_str_int (qaz I q (by simp))
  |str j=>obtain⟨t',rfl⟩:=a;exact ne_str (qaz I q (congrArg not qtl))
  |_=>exact absurd (show false=true from b) AF
 |byt i =>
  obtain⟨t,rfl⟩:=c;cases y with
  |byt j=>obtain⟨t',rfl⟩:=a;exact PySem.W.ne_bytes (qaz I q (congrArg not qtm))
  |_=>exact absurd (show false=true from b) AF
 |_=>cases y <;>exact absurd (show false=true from b) AF
theorem qcx:OpR X (compareOp .Lt) (rI0 λi j=>.bl (decide (i<j))):=opB0 λ_ _ _ _ _ _ _ q=>lt_int q
theorem qf3:OpR X (compareOp .LtE) (rI0 λi j=>.bl (decide (i<=j))):=opB0 λ_ _ _ _ _ _ _ q=>le_int q
theorem qkb:OpR X (compareOp .Gt) (rI0 λi j=>.bl (decide (j<i))):=opB0 λ_ _ _ _ _ _ _ q=>gt_int q
theorem op_ge:OpR X (compareOp .GtE) (rI0 λi j=>.bl (decide (j<=i))):=opB0 λ_ _ _ _ _ _ _ q=>ge_int q
theorem qbz:OpR X (compareOp .Is) (λx y H Q=>y=.non/\Q (.bl (decide (x=.non))) H):=by
 intro pins s σ H x y v u Q I a b h;obtain⟨rfl,q⟩:=h;cases b;refine is_none_gen (qaz I q ?_);cases x <;>first
  | (cases a;rfl)
  | (obtain⟨t,rfl⟩:=a;rfl)
theorem qfk:OpR X (compareOp .IsNot) (λx y H Q=>y=.non/\Q (.bl (!decide (x=.non))) H):=by
 intro pins s σ H x y v u Q I a b h;obtain⟨rfl,q⟩:=h;cases b;refine isnot_none_gen (qaz I q ?_);cases x <;>first
  | (cases a;rfl)
  | (obtain⟨t,rfl⟩:=a;rfl)
theorem qab (b:Expr){op:CmpOp}(h:op ≠ .In:=by decide)(h2:op ≠ .NotIn:=by decide):behindInMarks op b=false:=by
 have a:(op == CmpOp.In)=false:=by cases op <;>first|rfl|exact absurd rfl h
 have c:(op == CmpOp.NotIn)=false:=by cases op <;>first|rfl|exact absurd rfl h2
 cases b <;>simp[behindInMarks,a,c]
theorem qbp {op:CmpOp}{r:R2}(l:OpR X (compareOp op) r)(j:PE X a ta)(f:PE X b tb)(i:behindInMarks op b=false):PE X (.Compare a [op] [b] pos) (tOp r ta tb):=by intro c s σ H Q I h;exact wpAny_Compare1 (binT j f I h λv u k x y e m d g q=>l c k σ e x y v u Q m d g q) i
def tTest (t:TE):TT:=λσ H Q=>t σ H λx H'=>∃k,x=.bl k/\Q k H'
theorem qt {op:CmpOp}{r:R2}(A:OpR X (compareOp op) r)(n:PE X a ta)(i:PE X b tb)(l:behindInMarks op b=false):PT X (.Compare a [op] [b] pos) (tTest (tOp r ta tb)):=by
 intro d s σ H Q I h;refine wpAny_isTrue_Compare1 (thn (n d s σ H _ I h) λv F ⟨x,j,E,m,o⟩=>thn (i d F σ j _ E o) λu t ⟨y,g,C,p,w⟩ =>
  thn (A d t σ g x y v u _ C m p w) λc s3 ⟨z,q,f,D,k,e,B⟩=>?_) l
 subst e;cases D;exact BF ⟨q,f,B⟩
def tChain (r r':R2)(ta tb tc:TE):TE:=λσ H Q=>ta σ H λx H1=>tb σ H1 λy H2=>r x y H2 λz H3=>∃k,z=.bl k /\
 (if k=true then tc σ H3 λw' H4=>r' y w' H4 Q else Q (.bl false) H3)
theorem qp6 {op g:CmpOp}{r j:R2}(P:OpR X (compareOp op) r)(m:OpR X (compareOp g) j)(G:PE X a ta)(w:PE X b tb)(q:PE X c tc)
  (C:lastMarks [op,g] [b,c]=false:=by with_unfolding_all rfl):PE X (.Compare a [op,g] [b,c] pos) (tChain r j ta tb tc):=by
 intro f s σ H Q I h;refine Compare_chain (thn (G f s σ H _ I h) λv V ⟨x,A,U,D,L⟩=>chain_link (thn (w f V σ A _ U L) λu M ⟨y,t,S,l,N⟩ =>
  thn (P f M σ t x y v u _ S D l N) λd p ⟨z,n,i,T,k,e,o⟩=>?_)) C
 subst e;cases T;refine BF ?_;cases k with|false=>exact ite_ff ⟨.bl false,n,i,Z,o⟩|true=>exact ite_tt (chain_last (thn (q f p σ n _ i o) λB J ⟨O,E,F,K,R⟩=>m f J σ E y O u B Q F l K R))
def TruV (K:Ag)(x:V)(H:Hp)(k:Bool):Prop :=
 match x with
 |.non=>k=false
 |.bl b=>k=b
 |.int i=>k=(i != 0)
 |.str y=>y.length<=A5/\k=((y.length:Int) != 0)
 |.byt y=>y.size<=A5/\k=((y.size:Int) != 0)
 |.ref p=>(∃xs,SqL K H p xs/\k = !xs.isEmpty)\/(∃xs,SqT K H p xs/\k = !xs.isEmpty) \/ ∃kvs,H p=some (.dK kvs)/\k = !kvs.isEmpty
 |_=>False
theorem qr3 {κ:Type}{kvs:List (κ×V)}{vs:List (κ×Value)}(r:KV kvs vs):(!vs.isEmpty) = !kvs.isEmpty:=by cases r <;>rfl
theorem qli {xs:List V}{its:List Value}(r:Vals xs its):(!its.toArray.isEmpty) = !xs.isEmpty:=by cases r <;>simp
theorem qjb:(A5:Nat)<2 ^ 63:=by rw[Bx];decide
theorem tru_ok:TruR X (λx H Q=>∃k,TruV X.K x H k/\Q k H):=by
 intro pins s σ H x v Q I c h;obtain⟨k,e,q⟩:=h;have hl:=qjb;have hs:A5=16777216:=Bx;cases x with
 |non =>cases c;have a:k=false:=e;subst a;exact truthy_none ⟨H,I,q⟩
 |bl b =>cases c;have a:k=b:=e;subst a;exact BF ⟨H,I,q⟩
 |int i =>obtain⟨t,rfl⟩:=c;have a:k=(i != 0):=e;subst a;exact PySem.P.truthy_int ⟨H,I,q⟩
 |str y =>obtain⟨t,rfl⟩:=c;obtain⟨hy,a⟩:y.length<=A5/\k=((y.length:Int) != 0):=e;subst a;exact PySem.P.truthy_str (by lia) ⟨H,I.tok _,q⟩
 |byt y =>obtain⟨t,rfl⟩:=c;obtain⟨hy,a⟩:y.size<=A5/\k=((y.size:Int) != 0):=e;subst a;exact PySem.W.truthy_bytes (by lia) ⟨H,I.tok _,q⟩
 |ref p =>
  cases c;have a:(∃xs,SqL X.K H p xs/\k = !xs.isEmpty)\/(∃xs,SqT X.K H p xs/\k = !xs.isEmpty) \/ ∃kvs,H p=some (.dK kvs)/\k = !kvs.isEmpty:=e;rcases a with ⟨xs,f,a⟩|⟨xs,f,a⟩|⟨kvs,f,a⟩
  .subst a;obtain⟨its,r,pl,hz⟩:=I.list f;have d:=r.length;exact wpAny_truthy_list pl.isList (by simp only[Ai];lia) ⟨H,I.tok _,by rw[qli r];exact q⟩
  .subst a;obtain⟨its,r,pl,hz⟩:=I.tuple f;have d:=r.length;exact truthy_tuple pl (by simp only[Ai];lia) ⟨H,I.tok _,by rw[qli r];exact q⟩
  .subst a;obtain⟨hz,hS,vs,r,m⟩:kvs.length<=A5/\(p == sysModules)=false/\∃vs,KV kvs vs/\s.heap.DictOf (qas X.prog X.w) p vs:=I.hok p _ f;have d:kvs.length=vs.length:=Dv.length r;exact wpAny_truthy_dict hS m (by lia) ⟨H,I.tok _,by rw[qr3 r];exact q⟩
 |_=>exact(show False from e).elim
theorem qwr (f:PE X a ta)(d:∀whole,isTrue a X.env whole=(do let v <- whole;standAt a.pos;holding [v] (truthy v))) :
  PT X a (λσ H Q=>ta σ H λx H'=>∃k,TruV X.K x H' k/\Q k H'):=by
 intro b s σ H Q I h;exact isTrue_plain (thn (f b s σ H _ I h) λv j ⟨x,i,g,e,c⟩=>tru_ok b j σ i x v Q g e c) (d _)
theorem qr4:OpR X (binaryOp .Add) (λx y H Q=>∃i j,x=.str i/\y=.str j/\i.length+j.length<=A5/\Q (.str (i++j)) H):=by intro pins s σ H x y v u Q I a b h;obtain⟨i,j,rfl,rfl,hz,q⟩:=h;obtain⟨t,rfl⟩:=a;obtain⟨t',rfl⟩:=b;exact add_str (λt' tk=>⟨.str (i++j),H,I.tok _,⟨_,Z⟩,q⟩) hz
theorem qkc {x:V}{us:List Value}(r:Vals [x] us):∃u,us=[u]/\RelV x u:=by
 cases r with|cons r1 r2=>cases r2;exact⟨_,Z,r1⟩
theorem vals2 {x y:V}{us:List Value}(r:Vals [x,y] us):∃u w',us=[u,w']/\RelV x u/\RelV y w':=by
 cases r with
 |cons r1 r2 =>
  cases r2 with|cons r3 r4=>cases r4;exact⟨_,_,Z,r1,r3⟩
theorem qjc (b:X.calm=true):qga X (.builtin "max") (λxs H Q=>∃i j,xs=[.int i,.int j]/\Q (.int (if j > i then j else i)) H):=by
 intro pins s σ H xs us Q I r h;obtain⟨i,j,rfl,q⟩:=h;obtain⟨u,w',rfl,⟨t,rfl⟩,⟨t',rfl⟩⟩:=vals2 r;refine max_two_ints (I.ok.hd b) λh' tk k=>⟨_,H,I.kept k,?_,q⟩;by_cases a:j > i
 .rw[if_pos a,if_pos a];exact⟨_,Z⟩
 .rw[if_neg a,if_neg a];exact⟨_,Z⟩
theorem qnx (b:X.calm=true):qga X (.builtin "min") (λxs H Q=>∃i j,xs=[.int i,.int j]/\Q (.int (if j<i then j else i)) H):=by
 intro pins s σ H xs us Q I r h;obtain⟨i,j,rfl,q⟩:=h;obtain⟨u,w',rfl,⟨t,rfl⟩,⟨t',rfl⟩⟩:=vals2 r;refine min_two_ints (I.ok.hd b) λh' tk k=>⟨_,H,I.kept k,?_,q⟩;by_cases a:j<i
 .rw[if_pos a,if_pos a];exact⟨_,Z⟩
 .rw[if_neg a,if_neg a];exact⟨_,Z⟩
theorem qu3:qga X (.type "int") (λxs H Q=>(∃i,xs=[.int i]/\Q (.int i) H) \/ ∃k,xs=[.bl k]/\Q (.int (if k then 1 else 0)) H):=by
 intro pins s σ H xs us Q I r h;rcases h with ⟨i,rfl,q⟩|⟨k,rfl,q⟩
 .obtain⟨u,rfl,t,rfl⟩:=qkc r;exact call_int_int ⟨.int i,H,I,⟨_,Z⟩,q⟩
 .obtain⟨u,rfl,a⟩:=qkc r;cases a;exact call_int_bool ⟨.int (if k then 1 else 0),H,I.tok _,⟨_,Z⟩,q⟩
def LenV (K:Ag)(x:V)(H:Hp)(n:Nat):Prop :=
 match x with
 |.str y=>y.length<=A5/\n=y.length
 |.byt y=>y.size<=A5/\n=y.size
 |.ref p=>(∃xs,SqL K H p xs/\n=xs.length) \/ ∃xs,SqT K H p xs/\n=xs.length
 |_=>False
theorem qa5:qga X (.builtin "len") (λxs H Q=>∃x n,xs=[x]/\LenV X.K x H n/\Q (.int n) H):=by
 intro pins s σ H xs us Q I r h;obtain⟨x,n,rfl,e,q⟩:=h;obtain⟨u,rfl,c⟩:=qkc r;have hl:=qjb;have hs:A5=16777216:=Bx;cases x with
 |str y =>obtain⟨t,rfl⟩:=c;obtain⟨hy,a⟩:y.length<=A5/\n=y.length:=e;subst a;exact len_str (by lia) ⟨.int _,H,I.tok _,⟨_,Z⟩,q⟩
 |byt y =>obtain⟨t,rfl⟩:=c;obtain⟨hy,a⟩:y.size<=A5/\n=y.size:=e;subst a;exact PySem.W.len_bytes (by lia) ⟨.int _,H,I.tok _,⟨_,Z⟩,q⟩
 |ref p =>
  cases c;have a:(∃xs,SqL X.K H p xs/\n=xs.length) \/ ∃xs,SqT X.K H p xs/\n=xs.length:=e;rcases a with ⟨xs,f,a⟩|⟨xs,f,a⟩
  .subst a;obtain⟨its,d,pl,hz⟩:=I.list f;have b:=d.length;exact Calls.call_len_list pl.isList (by simp only[Ai];lia) ⟨.int xs.length,H,I.tok _,⟨_,by simp only[Ai];rw[b]⟩,q⟩
  .subst a;obtain⟨its,d,pl,hz⟩:=I.tuple f;have b:=d.length;exact len_tuple pl (by simp only[Ai];lia) ⟨.int xs.length,H,I.tok _,⟨_,by simp only[Ai];rw[b]⟩,q⟩
 |_=>exact(show False from e).elim
end
end L2
namespace L2
open PySem PySem.Spec PyProof.Rows
structure ObjM (h:Heap)(x dx C:Addr)(mA:Str->Option Value):Prop where
 obj:h.get? x=some (Ct C dx)
 ns:h.Ns1 dx mA
 ne:dx≠x
theorem qu4 {h:Heap}{c:Addr}{d:Str->Option Value}(n:h.Ns1 c d):∃od,h.get? c=some od/\∀name,Ek name od=some (d name):=by
 obtain⟨o,es,ep,l,k,i,_,g⟩:=n;refine⟨o,l,λname=>?_⟩;have e:=g name;unfold nsFind findBy at e;rw[<- Array.find?_toList]at e;unfold Ek;rw[k];dsimp only;split
 .rename_i y q;rw[q]at e;exact congrArg some e
 .rename_i q;rw[q]at e;have a:es.toList.any (·.refKey)=false:=by rw[List.any_eq_false];intro y j;obtain⟨z,t,b⟩:=i y (Array.mem_toList_iff.mp j);simp[DictEntry.refKey,b]
  have f:¬es.toList.any (·.refKey)=true:=by rw[a];exact AF
  rw[if_neg f];exact congrArg some e
theorem ObjM.look {h:Heap}{x a C:Addr}{b:Str->Option Value}(I:ObjM h x a C b):∃od,PySem.W.InstAt h x (Ct C a) C (some od)/\∀name,Ek name od=some (b name) :=
 let ⟨od,ho,hl⟩:=qu4 I.ns
 ⟨od,⟨I.obj,Z,Z,ho⟩,hl⟩
section
variable {prog:AJ}{w:World}{A:AT}{E:Value->Ad->Prop}{s:Ad}{K:Ag}{x dx C f:Addr}{mA:Str->Option Value}{name:Str}{v:Value}
theorem get_map {a:Bool}{Q:Value->Ad->Prop}(X:K.In s.heap)(I:ObjM s.heap x dx C mA)(g:Dn K C name=true)(d:DC K C=true)
  (e:Bi K (.ref C) name=some none)(c:mA name=some v)(b:PySem.W.handedIn v=true)(h:Q v {s with toks:=s.toks+1}) :
  wpAny (model prog w) A (getAttr (.ref x) name a) Q E s:=by
 obtain⟨od,J,f⟩:=I.look;exact PySem.W.get_value X J (Ee g).1 (PySem.W.findObj_own d e Z (by rw[f,c])) b h
theorem qws {pl:Sem Bool}{Q:Value×List Value->Ad->Prop}(X:K.In s.heap)(I:ObjM s.heap x dx C mA)(a:Dn K C name=true)
  (b:Bi K (.ref C) name=some (some (.ref f)))(d:Eg K (.ref f)=true)(c:mA name=none)(h:Q (.ref f,[.ref x]) s) :
  wpAny (model prog w) A (getMethod (.ref x) name pl) Q E s:=by
 obtain⟨g,J,e⟩:=I.look;exact PySem.W.method_fn X J (Ee a).1 (Ee a).2 b (beq_iff_eq.mp d) (by show (Ek name g).map (·.isSome)=some false;rw[e,c];rfl) h
theorem set_map {ns:List Str}{Q:Unit->Ad->Prop}(X:K.In s.heap)(I:ObjM s.heap x dx C mA)
  (n:Bi K (.ref C) "__setattr__"=some (some (.builtin "object.__setattr__")))(p:Ep K C=true)(o:PySem.W.takerIn K C name=some none)(l:DC K C=true)
  (k:PySem.Within mA ns)(hsz:ns.length<=A5)
  (h:∀h',ObjM h' x dx C (λy=>if y=name then some v else mA y)->CF dx s.heap h'->Q () {s with heap:=h',toks:=s.toks+2}) :
  wpAny (model prog w) A (setAttr (.ref x) name v) Q E s:=by
 obtain⟨od,J,hl⟩:=I.look;refine PySem.W.set_plain X J n (PySem.W.osa_open (s:={s with toks:=s.toks+1}) (r:=none) X J p o λb=>?_);obtain⟨cd,j,e⟩:=PySem.W.any_some l;have m:s.heap.get? x=some ⟨.ref C,some dx,.plain,#[]⟩:=I.obj;refine An (AQ (An (An (wpAny_loadPart m (An (PySem.W.Looks.here (s:={s with toks:=s.toks+1}) (PySem.W.looks_clsIn X j) ?_))))));rw[e];refine AQ (a:=some dx) (An (AQ (An ?_)));refine wpAny_nsSet1 (s:={s with toks:=s.toks+1}) I.ns λh' c d=>?_;obtain⟨oD,esD,epD,g,i,f⟩:=c.count (PySem.Within.cons name v k);refine An (wpAny_lookBehind g (by rw[i];exact pastItsLine_dict (A9 f (by rw[AD];lia))) ?_);exact AQ (h _ ⟨(d.2 _ (B6 I.ne)).trans I.obj,c,I.ne⟩ d)
theorem qwt {R:Result->Ad->Prop}{vs:List Value}{kw:List (Str×Value)}(X:K.In s.heap)(c:PySem.W.makesIn K C=true)
  (b:Bi K (.ref C) "__init__"=some (some (.ref f)))(e:C9 K (.ref f)=some (.type "function"))
  (h:codeAny (model prog w) (A.under (.builtin "type.__call__" ⟨.ref C::vs,kw⟩)) (.call (.ref f) ⟨.ref (s.heap.objs.size+1)::vs,kw⟩) (PySem.W.InitBack (s.heap.objs.size+1) R)
   {s with heap:=(s.heap.push BR).push (Ct C s.heap.objs.size)}) :
  codeAny (model prog w) A (.call (.ref C) ⟨vs,kw⟩) R s:=by
 obtain⟨hh,g,d,t,os⟩:=s;exact PySem.W.make_core (PySem.W.makes_of X c) (PySem.W.looks_findIn X b) (λa=>PySem.W.bind_fn X a e) (.inl Z) h
end
noncomputable def qbi (f:Str)(v:V):List (Str×V)->List (Str×V)
 | []=>[(f,v)]
 | (g,x)::r=>if g=f then (g,v)::r else (g,x)::qbi f v r
theorem qkd (f g:Str)(v:V):∀fs:List (Str×V),(qbi f v fs).lookup g=if g=f then some v else fs.lookup g
 | []=>by
  show CU g [(f,v)]=_;by_cases h:g=f
  .have a:(g == f)=true:=beq_iff_eq.mpr h;simp only[CU,a,if_pos h]
  .have a:(g == f)=false:=beq_eq_false_iff_ne.mpr h;simp only[CU,a,if_neg h]
 | (k,x)::r=>by
  have c:=qkd f g v r;rw[show qbi f v ((k,x)::r)=(if k=f then (k,v)::r else (k,x)::qbi f v r) from Z];by_cases b:k=f
  .rw[if_pos b];by_cases h:g=k
   .have a:(g == k)=true:=beq_iff_eq.mpr h;simp only[CU,a,if_pos (h.trans b)]
   .have a:(g == k)=false:=beq_eq_false_iff_ne.mpr h;simp only[CU,a,if_neg (λe:g=f=>h (e.trans b.symm))]
  .rw[if_neg b];by_cases h:g=k
   .have a:(g == k)=true:=beq_iff_eq.mpr h;simp only[CU,a,if_neg (λe:g=f=>b (h.symm.trans e))]
   .have a:(g == k)=false:=beq_eq_false_iff_ne.mpr h;simp only[CU,a];exact c
theorem qjd (f:Str)(v:V):∀fs:List (Str×V),f∈(qbi f v fs).map (·.1)/\∀g,g∈fs.map (·.1)->g∈(qbi f v fs).map (·.1)
 | []=>⟨by simp[qbi],λg h=>by simp at h⟩
 | (k,x)::r=>by
  obtain⟨b,c⟩:=qjd f v r;rw[show qbi f v ((k,x)::r)=(if k=f then (k,v)::r else (k,x)::qbi f v r) from Z];by_cases a:k=f
  .rw[if_pos a];subst a;exact⟨by simp,λg h=>by simpa using h⟩
  .rw[if_neg a];refine⟨?_,λg h=>?_⟩
   .rw[Bc];exact Ay _ b
   .rw[Bc]at h |-;rcases Aw.mp h with e|e
    .exact Aw.mpr (.inl e)
    .exact Ay _ (c g e)
theorem qke (f:Str)(v:V):∀fs:List (Str×V),(qbi f v fs).length<=fs.length+1
 | []=>by simp[qbi]
 | (k,x)::r=>by
  have ih:=qke f v r;rw[show qbi f v ((k,x)::r)=(if k=f then (k,v)::r else (k,x)::qbi f v r) from Z];by_cases a:k=f
  .rw[if_pos a,AD,AD];lia
  .rw[if_neg a,AD,AD];lia
theorem RelO.some_of {v:V}{o:Option Value}(r:RelO (some v) o):∃u,o=some u/\RelV v u:=by
 cases o with|none=>exact(show False from r).elim|some u=>exact⟨u,Z,r⟩
theorem RelO.none_of {o:Option Value}(r:RelO none o):o=none:=by
 cases o with|none=>rfl|some u=>exact(show False from r).elim
theorem qu5 {v:V}{u:Value}(r:RelV v u):PySem.W.handedIn u=true:=by
 cases v with
 |non=>cases (show u=C8 from r);rfl
 |bl b=>cases (show u=Ej b from r);rfl
 |int i=>obtain⟨t,e⟩:=(show ∃t,u=Dm i t from r);cases e;rfl
 |str x=>obtain⟨t,e⟩:=(show ∃t,u=D7 x t from r);cases e;rfl
 |byt b=>obtain⟨t,e⟩:=(show ∃t,u=Value.bytes b t from r);cases e;rfl
 |flt b=>obtain⟨t,e⟩:=(show ∃t,u=Value.float b t from r);cases e;rfl
 |ref a=>cases (show u=Bo a from r);rfl
 |ty n=>cases (show u=Dl n from r);rfl
section
variable {P:AJ}{w:World}{H H':Hp}{h h':Heap}{a C dx:Addr}{fs fs':List (Str×V)}
theorem qk2 (c:HOk P w H h)(e:H a=some (.ins C dx fs)):∃b,ObjM h a dx C b/\(∀f,RelO (fs.lookup f) (b f))/\PySem.Within b (fs.map (·.1))/\fs.length<=1000/\H dx=some (.own a):=by obtain⟨d,z,g,i,b,n,r,q⟩:=(show ObjOk P w H h a (.ins C dx fs) from c a _ e);exact⟨b,⟨i,n,g⟩,r,q,z,d⟩
end
structure Cls (K:Ag)(C:Addr):Prop where
 pg:Dn K C Be=true
 hd:DC K C=true
 po:Ep K C=true
 sa:Bi K (.ref C) "__setattr__"=some (some (.builtin "object.__setattr__"))
theorem Cls.get {K:Ag}{C:Addr}(c:Cls K C)(f:Str):Dn K C f=true:=c.pg
def NoAttr (K:Ag)(C:Addr)(f:Str):Prop:=Bi K (.ref C) f=some none
theorem NoAttr.taker {K:Ag}{C:Addr}{f:Str}(n:NoAttr K C f):PySem.W.takerIn K C f=some none:=by unfold PySem.W.takerIn;rw[show Bi K (.ref C) f=some none from n];rfl
structure Meth (K:Ag)(C:Addr)(m:Str)(f:Addr):Prop where
 at_:Bi K (.ref C) m=some (some (.ref f))
 fn:Eg K (.ref f)=true
 kp:Bs K (.ref f)=true
section
variable {X:Cx}{pins:List (Addr×Obj)}{σ:St}{H:Hp}{s:Ad}{a C dx:Addr}{fs:List (Str×V)}{f:Str}{v:V}{A:AT}{E:Value->Ad->Prop}
theorem qlj {b:Bool}{Q:Value->Ad->Prop}(I:Inv X pins σ H s)(e:H a=some (.ins C dx fs))(c:Cls X.K C)(n:NoAttr X.K C f)(l:fs.lookup f=some v)
  (h:∀u s',Inv X pins σ H s'->RelV v u->Q u s'):wpAny (model X.prog X.w) A (getAttr (.ref a) f b) Q E s:=by
 obtain⟨i,O,r,_,_,_⟩:=qk2 I.hok e;obtain⟨u,g,d⟩:=RelO.some_of (v:=v) (o:=i f) (by rw[<- l];exact r f);exact get_map I.kIn O (c.get f) c.hd n g (qu5 d) (h u _ (I.tok _) d)
theorem qhp {m:Str}{g:Addr}{pl:Sem Bool}{Q:Value×List Value->Ad->Prop}(I:Inv X pins σ H s)(e:H a=some (.ins C dx fs))(c:Cls X.K C)(k:Meth X.K C m g)(l:fs.lookup m=none)
  (h:Q (.ref g,[.ref a]) s):wpAny (model X.prog X.w) A (getMethod (.ref a) m pl) Q E s:=by
 obtain⟨d,O,r,_,_,_⟩:=qk2 I.hok e;have b:d m=none:=RelO.none_of (by rw[<- l];exact r m);exact qws I.kIn O (c.get m) k.at_ k.fn b h
theorem qlk {y:V}{u:Value}{Q:Unit->Ad->Prop}(I:Inv X pins σ H s)(e:H a=some (.ins C dx fs))(c:Cls X.K C)(n:NoAttr X.K C f)(hl:fs.length<1000)(p:RelV y u)
  (h:∀s',Inv X pins σ (upd H a (.ins C dx (qbi f y fs))) s'->Q () s'):wpAny (model X.prog X.w) A (setAttr (.ref a) f u) Q E s:=by
 obtain⟨j,O,r,i,_,k⟩:=qk2 I.hok e;have hz:(fs.map (·.1)).length<=A5:=by rw[Ab,Bx];lia
 refine set_map I.kIn O c.sa c.po n.taker c.hd i hz λh' d t=>h _ ?_;have hd:∃o,h'.get? dx=some o:=let ⟨o,_,_,e',_⟩:=d.ns;⟨o,e'⟩;refine I.write (x:=a) (e:=dx) (by rw[e];exact CK) (.inr k) (λb q l z=>(t.2 b l).trans z) hd ?_;refine⟨by rw[qr O.ne];exact k,?_,O.ne,d.obj,_,d.ns,λg=>?_,λg m=>?_⟩
 .have:=qke f y fs;lia
 .show RelO ((qbi f y fs).lookup g) (if g=f then some u else j g);rw[qkd];by_cases q:g=f
  .rw[if_pos q,if_pos q];exact p
  .rw[if_neg q,if_neg q];exact r g
 .by_cases q:g=f
  .rw[q];exact(qjd f y fs).1
  .refine(qjd f y fs).2 g (i g λz=>m ?_);show (if g=f then some u else j g)=none;rw[if_neg q];exact z
theorem Inv.made (I:Inv X pins σ H s):Inv X pins σ (upd (upd H s.heap.objs.size (.own (s.heap.objs.size+1))) (s.heap.objs.size+1) (.ins C s.heap.objs.size []))
  {s with heap:=(s.heap.push BR).push (Ct C s.heap.objs.size)}:=by
 have d:(s.heap.push BR).get? s.heap.objs.size=some BR:=AW s.heap rfl;have i:((s.heap.push BR).push (Ct C s.heap.objs.size)).get? (s.heap.objs.size+1)=some (Ct C s.heap.objs.size):=by
  have:=AW (s.heap.push BR) (o:=Ct C s.heap.objs.size) rfl
  rwa [DD]at this
 have g:(s.heap.push BR).Ns s.heap.objs.size (λ_=>none):=⟨BR,#[],_,d,Z,(λe f=>absurd f (by simp)),λ_=>rfl⟩;have j:=I.laid (a:=s.heap.objs.size) (o:=.own (s.heap.objs.size+1)) (h':=s.heap.push BR) (t':=s.toks) (λb u q=>Av _ q) (Al _) ⟨_,d⟩;refine j.laid (a:=s.heap.objs.size+1) (o:=.ins C s.heap.objs.size []) (t':=s.toks) (λb u q=>Av _ q) (Ce (DD _ _)) ?_;have c:s.heap.objs.size≠s.heap.objs.size+1:=AE (Ca _);refine⟨by rw[qr c,qk],AS _,c,i,λ_=>none,(Heap.Ns1.of_empty g).at λo q=>Av _ q,λ_=>CK,λy h=>absurd Z h⟩
theorem attr_of {prog:AJ}{w:World}{env:Env}{e:Expr}{f:Str}{pos:Pos}{s:Ad}{Q:Value->Ad->Prop}(b:attributeBase e f env (eval e env)=eval e env)
  (h:wpAny (model prog w) A (eval e env) (λo a=>wpAny (model prog w) A (getAttr o f true) Q E a) E s):wpAny (model prog w) A (eval (.Attribute e f pos) env) Q E s :=
 Attribute_any_ h (by rw[arm_eval_Attribute,b])
end
def tFld (K:Ag)(ta:TE)(f:Str):TE:=λσ H Q=>ta σ H λx H1=>∃a C dx fs v,x=.ref a/\H1 a=some (.ins C dx fs)/\Cls K C/\NoAttr K C f/\fs.lookup f=some v/\Q v H1
def sFld (K:Ag)(ta tv:TE)(f:Str):TS:=λD σ H=>tv σ H λy H1=>ta σ H1 λx H2=>∃a C dx fs,x=.ref a/\H2 a=some (.ins C dx fs)/\Cls K C/\NoAttr K C f/\fs.length<1000 /\
 D.nx σ (upd H2 a (.ins C dx (qbi f y fs)))
def InOp (X:Cx)(op:Operator)(rd:V->V->Hp->VK->Prop):Prop :=
 ∀(pins:List (Addr×Obj))(s:Ad)(σ:St)(H:Hp)(x y:V)(u v:Value)(Q:VK),Inv X pins σ H s->RelV x u->RelV y v->rd x y H Q->wpAny (model X.prog X.w) X.A (inplaceOp op u v) (EP X pins σ Q) X.xe s
def sFldAug (K:Ag)(ta tv:TE)(rd:V->V->Hp->VK->Prop)(f:Str):TS:=λD σ H=>ta σ H λx H1=>∃a C dx fs v,x=.ref a/\H1 a=some (.ins C dx fs)/\Cls K C/\NoAttr K C f/\fs.lookup f=some v /\
 tv σ H1 λy H2=>rd v y H2 λz H3=>∃dx' fs',H3 a=some (.ins C dx' fs')/\fs'.length<1000/\D.nx σ (upd H3 a (.ins C dx' (qbi f z fs')))
section
variable {X:Cx}{o e value:Expr}{f:Str}{pos pos' tpos:Pos}{ta tv:TE}
theorem qac (m:PE X e ta)(j:attributeBase e f X.env (eval e X.env)=eval e X.env):PE X (.Attribute e f pos) (tFld X.K ta f):=by intro b s σ H Q I h;refine attr_of j (thn (m b s σ H _ I h) λu s1 d=>?_);obtain⟨x,k,r,i,a,C,dx,fs,v,ex,o,c,n,l,q⟩:=d;subst ex;obtain rfl:u=Bo a:=i;exact qlj r o c n l λu' s2 p g=>⟨v,k,p,g,q⟩
theorem qa2 (m:PE X o ta)(k:PE X value tv)(t:swapsWith value (some (.Attribute o f pos')) pos.line X.env=pure false):PS X (.Assign [.Attribute o f pos'] value pos) (sFld X.K ta tv f):=by intro b s σ H D I h;refine plainObj_wpAny_Assign_Attribute (thn (k b s σ H _ I h) λu z ⟨y,i,w,j,q⟩=>thn (m b z σ i _ w q) λov s2 d=>?_) t;obtain⟨x,H2,v,g,a,C,dx,fs,ex,p,c,n,l,r⟩:=d;subst ex;obtain rfl:ov=Bo a:=g;exact qlk v p c n l j λs3 e=>⟨σ,_,e,r⟩
theorem qu6 {op:Operator}{rd:V->V->Hp->VK->Prop}(F:PE X o ta)(B:PE X value tv)(g:InOp X op rd):PS X (.AugAssign (.Attribute o f tpos) op value pos) (sFldAug X.K ta tv rd f):=by intro b s σ H D I h;refine wpAny_AugAssign_AttributeAny (thn (F b s σ H _ I h) λov s1 d=>?_);obtain⟨x,r,Q,m,a,C,dx,fs,v,ex,J,c,n,l,q⟩:=d;subst ex;obtain rfl:ov=Bo a:=m;refine qlj Q J c n l λu G N j=>thn (B b G σ r _ N q) λA k ⟨y,p,i,t,L⟩=>thn (g b k σ p v y u A _ i j t L) λw4 s4 d=>?_;obtain⟨z,H3,E,P,dx',fs',e,w,M⟩:=d;exact qlk E e c n w P λs5 O=>⟨σ,_,O,M⟩
def rAdd:V->V->Hp->VK->Prop:=λx y H Q=>∃i j,x=.int i/\y=.int j/\Q (.int (i+j)) H
theorem in_add:InOp X .Add rAdd:=by rintro pins s σ H x y u v Q I a b ⟨i,j,rfl,rfl,q⟩;obtain⟨t,rfl⟩:=(show ∃t,u=Dm i t from a);obtain⟨t',rfl⟩:=(show ∃t',v=Dm j t' from b);exact PyProof.Rows.iadd_int ⟨.int (i+j),H,I.tok _,⟨_,Z⟩,q⟩
end
section
variable {X:Cx}{pins:List (Addr×Obj)}{σ:St}{H:Hp}{s:Ad}{A:AT}{E Q:Value->Ad->Prop}{c:Value}{b:Bool}
inductive TyOf (K:Ag) (H:Hp):V->Value->Prop where
 |non:TyOf K H .non (.type "NoneType")
 |bl (x:Bool):TyOf K H (.bl x) (.type "bool")
 |int (i:Int):TyOf K H (.int i) (.type "int")
 |str (x:Str):TyOf K H (.str x) (.type "str")
 |flt (x:UInt64):TyOf K H (.flt x) (.type "float")
 |lst {a:Addr} {xs:List V} (e:H a=some (.lst xs)):TyOf K H (.ref a) (.type "list")
 |frz {a:Addr} {o:Obj} {xs:List V} (e:H a=some (.frz o (.lst xs))):TyOf K H (.ref a) (.type "list")
 |tup {a:Addr} {xs:List V} (e:H a=some (.tup xs)):TyOf K H (.ref a) (.type "tuple")
 |dK {a:Addr} {kvs:List (Key×V)} (e:H a=some (.dK kvs)):TyOf K H (.ref a) (.type "dict")
 |dT {a:Addr} {kvs:List (List Key×V)} (e:H a=some (.dT kvs)):TyOf K H (.ref a) (.type "dict")
 |ins {a C dx:Addr} {fs:List (Str×V)} (e:H a=some (.ins C dx fs)) (cl:Cls K C) (ha:Bi K (.ref C) "__class__"=some (some (.builtin "object.__class__")))
   (hn:PySem.W.specialIn K (.builtin "object.__class__") "__get__"=some (some (.builtin "getset_descriptor.__get__"))) (htk:PySem.W.takesIn K (.builtin "object.__class__")=some true)
   (hm:PySem.W.mroIn K C (.type "object")=some true):TyOf K H (.ref a) (.ref C)
theorem qu7 {x:V}{u t:Value}(I:Inv X pins σ H s)(d:RelV x u)(ty:TyOf X.K H x t)(e:AY X.K t c=some b)(h:∀tk,Q (.bool b) {s with toks:=tk}) :
  wpAny (model X.prog X.w) A (call (.builtin "isinstance") [u,c]) Q E s:=by
 cases ty with
 |non=>cases (show u=C8 from d);exact BK PySem.W.kitx_none I.kIn CK e (λz=>nomatch z) h
 |bl y=>cases (show u=Ej y from d);exact BK PySem.W.kitx_bool I.kIn CK e (λz=>nomatch z) h
 |int i=>obtain⟨t,q⟩:=(show ∃t,u=Dm i t from d);cases q;exact BK PySem.W.kitx_int I.kIn CK e (λz=>nomatch z) h
 |str y=>obtain⟨t,q⟩:=(show ∃t,u=D7 y t from d);cases q;exact BK PySem.W.kitx_str I.kIn CK e (λz=>nomatch z) h
 |flt y=>obtain⟨t,q⟩:=(show ∃t,u=Value.float y t from d);cases q;exact BK PySem.W.kitx_float I.kIn CK e (λz=>nomatch z) h
 | @lst a xs ea =>cases (show u=Bo a from d);obtain⟨_,_,n,_,f⟩:=(show ObjOk X.prog X.w H s.heap a (.lst xs) from I.hok a _ ea);exact BK PySem.W.kitx_list I.kIn ⟨_,f,Z⟩ e (λz=>nomatch z) h
 | @frz a ob xs ea =>cases (show u=Bo a from d);obtain⟨_,_,_,n,_,f⟩:=(show ObjOk X.prog X.w H s.heap a (.frz ob (.lst xs)) from I.hok a _ ea);exact BK PySem.W.kitx_list I.kIn ⟨_,f,Z⟩ e (λz=>nomatch z) h
 | @tup a xs ea =>cases (show u=Bo a from d);obtain⟨_,_,_,p⟩:=(show ObjOk X.prog X.w H s.heap a (.tup xs) from I.hok a _ ea);obtain⟨o,f,g,_⟩:=p;exact BK PySem.W.kitx_tuple I.kIn ⟨o,f,g⟩ e (λz=>nomatch z) h
 | @dK a kvs ea =>cases (show u=Bo a from d);obtain⟨_,_,vs,_,p⟩:=(show ObjOk X.prog X.w H s.heap a (.dK kvs) from I.hok a _ ea);obtain⟨o,es,ep,f,g,_⟩:=p;exact BK PySem.W.kitx_dict I.kIn ⟨o,f,g.1⟩ e (λz=>nomatch z) h
 | @dT a kvs ea =>cases (show u=Bo a from d);obtain⟨_,_,xs,_,o,es,ep,f,g,_⟩:=(show ObjOk X.prog X.w H s.heap a (.dT kvs) from I.hok a _ ea);exact BK PySem.W.kitx_dict I.kIn ⟨o,f,g.1⟩ e (λz=>nomatch z) h
 | @ins a C dx fs ea cl ha hn htk hm =>cases (show u=Bo a from d);obtain⟨mA,O,_⟩:=qk2 I.hok ea;obtain⟨od,J,_⟩:=O.look;exact BK (PySem.W.kitx_own (cl.get _) cl.hd ha hn htk hm) I.kIn J e (λz=>nomatch z) h
end
end L2
namespace L2
open PySem PySem.Spec PyProof.Rows
structure Room (k:Nat)(A:AT):Prop where
 hd:A.handled=none
 dp:A.depth+3*k+5<recursionLimit
 un:A.units+16*k+200<cLine
theorem Room.mono {j k:Nat}{A:AT}(r:Room k A)(h:j<=k):Room j A:=⟨r.hd,by have:=r.dp;lia,by have:=r.un;lia⟩
theorem Room.deeper {k:Nat}{A:AT}(r:Room (k+1) A)(env:Env):Room k (A.deeper env) :=
 ⟨r.hd,by have:=r.dp;show A.depth+1+3*k+5<_;lia,by have:=r.un;show A.units+3+16*k+200<_;lia⟩
theorem Room.in1 {k:Nat}{A:AT}(r:Room (k+1) A):Room k A.in1 :=
 ⟨r.hd,by have:=r.dp;show A.depth+3*k+5<_;lia,by have:=r.un;show A.units+1+16*k+200<_;lia⟩
theorem qr5 {A:AT}{C:Addr}{us:List Value}{kw:List (Str×Value)}:(A.under (.builtin "type.__call__" ⟨.ref C::us,kw⟩)).depth=A.depth+1:=by
 first|rfl|simp[AT.under,Code.weight,Code.isCreation,Code.isGuard,Code.isCaller,Code.frames,Code.isFrame,guardIds]
theorem qr6 {A:AT}{C:Addr}{us:List Value}{kw:List (Str×Value)}:(A.under (.builtin "type.__call__" ⟨.ref C::us,kw⟩)).units=A.units+1:=by
 first|rfl|simp[AT.under,Code.cUnits,Code.frames,Code.isFrame]
theorem Room.make {k:Nat}{A:AT}(r:Room (k+1) A)(C:Addr)(us:List Value)(kw:List (Str×Value)):Room k (A.under (.builtin "type.__call__" ⟨.ref C::us,kw⟩)) :=
 ⟨r.hd,by have:=r.dp;rw[qr5];lia,by have:=r.un;rw[qr6];lia⟩
theorem Room.depth {k:Nat}{A:AT}(r:Room k A):A.depth<recursionLimit:=by have:=r.dp;lia
theorem Room.units {k:Nat}{A:AT}(r:Room k A):A.units+64<cLine:=by have:=r.un;lia
theorem Room.units0 {k:Nat}{A:AT}(r:Room k A):A.units<cLine:=by have:=r.un;lia
def tNil:TA:=λ_ H Q=>Q [] H
def tCons (ta:TE)(tr:TA):TA:=λσ H Q=>ta σ H λx H1=>tr σ H1 λxs H2=>Q (x::xs) H2
section
variable {X:Cx}{e:Expr}{es:List Expr}{te:TE}{t:TA}{pos:Pos}
theorem qg:PA X [] tNil:=λ_ _ _ _ H Q I h=>DE ⟨[],H,I,.nil,h⟩
theorem qd (i:PE X e te)(d:PA X es t)(m:starEach (e::es) X.env=(false,eval e X.env)::starEach es X.env:=by rfl):PA X (e::es) (tCons te t):=by intro pos a s σ H Q I h;rw[m];show wpAny _ _ (spliced ((false,eval e X.env)::backTo pos (starEach es X.env))) _ _ s;refine CW (thn (i a s σ H _ I h) λu p b=>?_);obtain⟨x,f,o,g,j⟩:=b;exact thn (d pos a p σ f _ o j) λus s2 ⟨xs,c,n,k,l⟩=>⟨x::xs,c,n,.cons g k,l⟩
def tTup (t:TA):TE:=λσ H Q=>t σ H λxs H1=>xs.length<=A5/\∀p,H1 p=none->Q (.ref p) (upd H1 p (.tup xs))
def tLst (t:TA):TE:=λσ H Q=>t σ H λxs H1=>xs.length<=A5/\∀p,H1 p=none->Q (.ref p) (upd H1 p (.lst xs))
theorem zj {x1}(h:PA X es t):PE X (.Tuple es x1 pos) (tTup t):=by intro c s σ H Q I i;refine wpAny_Tuple_spliced (thn (h pos c s σ H _ I i) λus a ⟨xs,d,f,r,z,q⟩=>⟨by rw[<- r.length];exact z,?_⟩);have g:d a.heap.objs.size=none:=f.hok.fresh (Al _);refine⟨.ref a.heap.objs.size,upd d a.heap.objs.size (.tup xs),f.laid (t':=a.toks) (λb u e=>Av _ e) (Al _) ?_,Z,q _ g⟩;exact⟨z,us,r,⟨_,AW _ Z,Z,_,Z⟩⟩
theorem zh (h:PA X es t):PE X (.List es pos) (tLst t):=by intro c s σ H Q I i;refine wpAny_List_spliced (thn (h pos c s σ H _ I i) λus a ⟨xs,d,f,r,z,q⟩=>⟨by rw[<- r.length];exact z,?_⟩);have g:d a.heap.objs.size=none:=f.hok.fresh (Al _);refine⟨.ref a.heap.objs.size,upd d a.heap.objs.size (.lst xs),f.laid (t':=a.toks) (λb u e=>Av _ e) (Al _) ?_,Z,q _ g⟩;exact⟨z,us,0,r,AW _ Z⟩
end
abbrev Sp:=List V->Hp->VK->XK->Prop
abbrev CXT:=List Env->Hp->Ad->XK->Value->Ad->Prop
structure Env0 (P:AJ)(w:World)(K:Ag)(mg:Str->Option Value)(base:Heap)(A:AT)(outer:List Env)(s:Ad)(H:Hp):Prop where
 frames:A.frames=some outer
 mod:Mod K mg base
 bs:∀b o,base.get? b=some o->s.heap.get? b=some o/\H b=none
 bsz:base.objs.size<=s.heap.objs.size
 funs:s.heap.FunFrames base outer
 frf:∀b∈frs outer,H b=none
 hok:HOk P w H s.heap
 bare:AllBare s.gens
def CE (outer:List Env)(P:AJ)(w:World)(H:Hp)(s:Ad)(Q:VK)(u:Value)(s':Ad):Prop :=
 ∃v H',s'.os=s.os/\AllBare s'.gens/\Un (frs outer) [] H H' s.heap s'.heap/\HOk P w H' s'.heap/\RelV v u/\Q v H'
def CR (CX:CXT)(outer:List Env)(P:AJ)(w:World)(H:Hp)(s:Ad)(Q:VK)(E:XK)(r:Result)(s':Ad):Prop :=
 match r with
 |.ok (.ret u)=>CE outer P w H s Q u s'
 |.ok _=>False
 |.error e=>CX outer H s E e s'
structure FnOk (P:AJ)(w:World)(K:Ag)(mg:Str->Option Value)(base:Heap)(CX:CXT)(k:Nat)(f:Addr)(fd:Au)(ps:List Str)(sp:Sp):Prop where
 len:∀vs H Q E,sp vs H Q E->vs.length=ps.length
 run:∀(A:AT)(outer:List Env)(s:Ad)(H:Hp)(args:Args)(us:List Value)(vs:List V)(Q:VK)(E:XK),Room k A->Env0 P w K mg base A outer s H->BindsTo s fd args (ps.zip us)->Vals vs us->sp vs H Q E ->
  codeAny (model P w) A (.call (.ref f) args) (CR CX outer P w H s Q E) s
theorem Env0.make {P:AJ}{w:World}{K:Ag}{mg:Str->Option Value}{base:Heap}{A:AT}{outer:List Env}{s:Ad}{H:Hp}(e:Env0 P w K mg base A outer s H)(C:Addr)(us:List Value)(kw:List (Str×Value)) :
  Env0 P w K mg base (A.under (.builtin "type.__call__" ⟨.ref C::us,kw⟩)) outer s H:=⟨by first|exact e.frames | (simpa [AT.under,Code.envs,Code.isFrame,pushEnvs] using e.frames),e.mod,e.bs,e.bsz,e.funs,e.frf,e.hok,e.bare⟩
section
variable {X:Cx}{pins:List (Addr×Obj)}{σ:St}{H:Hp}{s s':Ad}
theorem Inv.env0 (I:Inv X pins σ H s):Env0 X.prog X.w X.K X.mg X.base X.A X.stack s H :=
 ⟨I.ok.frames,I.ok.mod,I.bs,A9 I.ok.bsz I.sz,I.stack,I.stkFree,I.hok,I.bare⟩
theorem Inv.after {Q:VK}{u:Value}(I:Inv X pins σ H s)(h:CE X.stack X.prog X.w H s Q u s'):EP X pins σ Q u s':=by obtain⟨v,H',os,a,un,c,r,q⟩:=h;obtain⟨f,g,d,t,e⟩:=s';obtain rfl:e=s.os:=os;exact⟨v,H',I.call (h':=f) (g':=g) (d':=d) (t':=t) (ch:=[]) un c a (λb z=>absurd z (by simp)),r,q⟩
end
def tCall (sp:Sp)(dvs:List V)(E:XK)(t:TA):TE:=λσ H Q=>t σ H λvs H1=>sp (vs++dvs) H1 Q E
def tMeth (C:Addr)(m:Str)(sp:Sp)(dvs:List V)(E:XK)(ta:TE)(t:TA):TE:=λσ H Q=>ta σ H λx H1=>∃a dx fs,x=.ref a/\H1 a=some (.ins C dx fs)/\fs.lookup m=none /\
 t σ H1 λvs H2=>sp (x::(vs++dvs)) H2 Q E
def tMake (C:Addr)(sp:Sp)(dvs:List V)(E:XK)(t:TA):TE:=λσ H Q=>t σ H λvs H1=>∀x dx,H1 x=none->H1 dx=none->dx≠x ->
 sp (.ref x::(vs++dvs)) (upd (upd H1 dx (.own x)) x (.ins C dx [])) (λv H2=>v=.non/\Q (.ref x) H2) E
def Binds (K:Ag)(fd:Au)(ps:List Str)(ds:List Value):Prop :=
 ∀(s:Ad)(us:List Value),K.In s.heap->(us++ds).length=ps.length->BindsTo s fd ⟨us,[]⟩ (ps.zip (us++ds))
theorem Binds.all {K:Ag}{fd:Au}{ps:List Str}(h:∀us:List Value,us.length=ps.length->bindArgs fd ⟨us,[]⟩=pure (ps.zip us)):Binds K fd ps []:=λs us _ a=>by rw[Bu]at a |-;exact .of_eq (h us a)
def qgb (CX:CXT)(X:Cx)(E:XK):Prop:=∀(pins:List (Addr×Obj))(σ:St)(H:Hp)(s:Ad)(e:Value)(s':Ad),Inv X pins σ H s->CX X.stack H s E e s'->X.xe e s'
section
variable {X:Cx}{CX:CXT}{k:Nat}{f C:Addr}{fd:Au}{ps:List Str}{sp:Sp}{dvs:List V}{ds:List Value}{E:XK}{x m:Str}{p pos apos:Pos}{e o:Expr}{es:List Expr}{ta:TE}{t:TA}
theorem qou {a:List (Addr×Obj)}{σ:St}{H:Hp}{s:Ad}{Q:VK}{us:List Value}{vs:List V}(F:FnOk X.prog X.w X.K X.mg X.base CX k f fd ps sp)(m:Room k X.A)(l:Binds X.K fd ps ds)(g:Vals dvs ds)(i:qgb CX X E)
  (I:Inv X a σ H s)(r:Vals vs us)(h:sp (vs++dvs) H Q E):wpAny (model X.prog X.w) X.A (call (.ref f) us) (EP X a σ Q) X.xe s:=by
 have c:Vals (vs++dvs) (us++ds):=r.append g;have j:(us++ds).length=ps.length:=by rw[<- c.length];exact F.len _ _ _ _ h
 refine wpAny_call (codeAny_mono (F.run X.A X.stack s H ⟨us,[]⟩ (us++ds) (vs++dvs) Q E m I.env0 (l s us I.kIn j) c h) λr d b=>?_);cases r with
 |error e=>exact i a σ H s e d I b
 |ok fl =>
  cases fl with|ret u=>exact I.after b|next=>exact Cu b|brk=>exact Cu b|cont=>exact Cu b
theorem zc (F:FnOk X.prog X.w X.K X.mg X.base CX k f fd ps sp)(g:Room k X.A)(i:Gl X x)(j:X.mg x=some (.ref f))(m:Bs X.K (.ref f)=true)(d:Binds X.K fd ps ds)(n:Vals dvs ds)(o:qgb CX X E)
  (l:PA X (e::es) t)(b:(x == ("__debug__" : Str))=false:=by decide)(he:starEach (e::es) X.env=(false,eval e X.env)::starEach es X.env:=by rfl)(hpl:(backTo pos (starEach es X.env)).any (·.1)=false:=by rfl) :
  PE X (.Call (.Name x p) (e::es) [] pos) (tCall sp dvs E t):=by
 intro a s σ H Q I h;refine Cj (qot I i j ?_ b);refine D3 (h₀:=X.base) I.ok.mod.kin m (thn (l pos a s σ H _ I h) λus s1 ⟨vs,H1,c,r,q⟩=>⟨c.kIn,?_⟩) he hpl;exact qou F g d n o c r q
theorem qal {pl:Sem Bool}(B:PE X o ta)(c:Cls X.K C)(i:Meth X.K C m f)(F:FnOk X.prog X.w X.K X.mg X.base CX k f fd ps sp)(v:Room k X.A)(z:Binds X.K fd ps ds)(G:Vals dvs ds)(J:qgb CX X E)(D:PA X (e::es) t)
  (d:starEach (e::es) X.env=(false,eval e X.env)::starEach es X.env:=by rfl)(hpl:(backTo pos (starEach es X.env)).any (·.1)=false:=by rfl)
  (ht:eval (.Call (.Attribute o m apos) (e::es) [] pos) X.env=(do
   let ov <- eval o X.env
   standAt apos.atName
   let (f,first) <- holding [ov] (getMethod ov m pl)
   callWith pos f first (backTo pos (starEach (e::es) X.env)) (backToKw pos (keywordEach [] X.env))):=by rfl) :
  PE X (.Call (.Attribute o m apos) (e::es) [] pos) (tMeth C m sp dvs E ta t):=by
 intro b s σ H Q I h;refine DK (pl:=pl) (thn (B b s σ H _ I h) λu N g=>?_) ht;obtain⟨x,y,n,p,a,dx,fs,ex,L,l,q⟩:=g;subst ex;obtain rfl:u=Bo a:=p;refine qhp n L c i l ?_;refine D3 (first:=[.ref a]) (h₀:=X.base) I.ok.mod.kin i.kp (thn (D pos b N σ y _ n q) λus s2 ⟨vs,H2,j,r,M⟩=>⟨j.kIn,?_⟩) d hpl;exact qou (us:=.ref a::us) (vs:=.ref a::vs) F v z G J j (.cons Z r) M
theorem qbj {pl:Sem Bool}(p:PE X o ta)(c:Cls X.K C)(g:Meth X.K C m f)(F:FnOk X.prog X.w X.K X.mg X.base CX k f fd ps sp)(n:Room k X.A)(j:Binds X.K fd ps ds)(r:Vals dvs ds)(t:qgb CX X E)
  (y:eval (.Call (.Attribute o m apos) [] [] pos) X.env=(do
   let ov <- eval o X.env
   standAt apos.atName
   let (f,first) <- holding [ov] (getMethod ov m pl)
   callWith pos f first (backTo pos (starEach [] X.env)) (backToKw pos (keywordEach [] X.env))):=by rfl) :
  PE X (.Call (.Attribute o m apos) [] [] pos) (tMeth C m sp dvs E ta tNil):=by
 intro b s σ H Q I h;refine DK (pl:=pl) (thn (p b s σ H _ I h) λu s1 e=>?_) y;obtain⟨x,H1,d,i,a,dx,fs,ex,v,l,q⟩:=e;subst ex;obtain rfl:u=Bo a:=i;refine qhp d v c g l ?_;exact PySem.W.callWith_K0 (first:=[.ref a]) d.kIn g.kp (qou (us:=[.ref a]) (vs:=[.ref a]) F n j r t d (.cons Z .nil) q)
structure Mk (K:Ag)(C f:Addr):Prop where
 makes:PySem.W.makesIn K C=true
 init:Bi K (.ref C) "__init__"=some (some (.ref f))
 fn:Eg K (.ref f)=true
 kp:Bs K (.ref C)=true
theorem qwu {b:List (Addr×Obj)}{σ:St}{H:Hp}{s:Ad}{Q:VK}{us:List Value}{vs:List V}(M:Mk X.K C f)(F:FnOk X.prog X.w X.K X.mg X.base CX k f fd ps sp)(l:Room (k+1) X.A)(m:Binds X.K fd ps ds)(o:Vals dvs ds)
  (p:qgb CX X E)(I:Inv X b σ H s)(r:Vals vs us)
  (h:∀x dx,H x=none->H dx=none->dx≠x->sp (.ref x::(vs++dvs)) (upd (upd H dx (.own x)) x (.ins C dx [])) (λv j=>v=.non/\Q (.ref x) j) E) :
  wpAny (model X.prog X.w) X.A (call (.ref C) us) (EP X b σ Q) X.xe s:=by
 have g:=h (s.heap.objs.size+1) s.heap.objs.size (I.hok.fresh (C7 _)) (I.hok.fresh (Al _)) (AE (Ca _));have c:=Inv.made (C:=C) I;have d:Vals (V.ref (s.heap.objs.size+1)::(vs++dvs)) (Bo (s.heap.objs.size+1)::(us++ds)):=.cons rfl (r.append o);have y:(Bo (s.heap.objs.size+1)::us++ds).length=ps.length:=by have e:=d.length;rw[F.len _ _ _ _ g]at e;exact e.symm
 refine wpAny_call (qwt (f:=f) I.kIn M.makes M.init (beq_iff_eq.mp M.fn) (codeAny_mono (F.run _ X.stack _ _ ⟨Bo (s.heap.objs.size+1)::us,[]⟩ (Bo (s.heap.objs.size+1)::(us++ds)) _ _ E (l.make C us [])
  (c.env0.make C us []) (m _ (Bo (s.heap.objs.size+1)::us) c.kIn y) d g) λr n a=>?_))
 cases r with
 |error e=>exact p b σ _ _ e n c a
 |ok fl =>
  cases fl with
  |ret u =>obtain⟨v,H',i,rv,t,q⟩:=c.after a;subst t;exact⟨rv,⟨V.ref (s.heap.objs.size+1),H',i,Z,q⟩⟩
  |next=>exact Cu a
  |brk=>exact Cu a
  |cont=>exact Cu a
theorem qer (M:Mk X.K C f)(F:FnOk X.prog X.w X.K X.mg X.base CX k f fd ps sp)(g:Room (k+1) X.A)(i:Gl X x)(j:X.mg x=some (.ref C))(d:Binds X.K fd ps ds)(m:Vals dvs ds)(n:qgb CX X E)
  (l:PA X (e::es) t)(b:(x == ("__debug__" : Str))=false:=by decide)(he:starEach (e::es) X.env=(false,eval e X.env)::starEach es X.env:=by rfl)(hpl:(backTo pos (starEach es X.env)).any (·.1)=false:=by rfl) :
  PE X (.Call (.Name x p) (e::es) [] pos) (tMake C sp dvs E t):=by
 intro a s σ H Q I h;refine Cj (qot I i j ?_ b);refine D3 (h₀:=X.base) I.ok.mod.kin M.kp (thn (l pos a s σ H _ I h) λus s1 ⟨vs,H1,c,r,q⟩=>⟨c.kIn,?_⟩) he hpl;exact qwu M F g d m n c r q
end
section
variable {X:Cx}{CX:CXT}{k:Nat}{f C:Addr}{fd:Au}{ps ks:List Str}{sp:Sp}{E:XK}{x m:Str}{p pos apos kpos:Pos}{e o:Expr}{es:List Expr}{kws:List Keyword}{te ta:TE}{t tk:TA}{nm:Option Str}
variable {g:List Value->List Value->List Value}{gV:List V->List V->List V}
end
structure FnScope (N P:List Str)(sc:Scope):Prop where
 kind:sc.kind=.function
 co:sc.isCoroutine=false
 gen:sc.isGenerator=false
 nd:N.Nodup
 pre:N.take P.length=P
 par:∀x∈P,sc.names.lookup x=some .local\/sc.names.lookup x=some .cell
 nofree:∀y∈sc.names,y.2 ≠ .free
theorem qny {a:Str->Option Bw}{x:Str}:∀{binds:List (Str×Value)}{m:Str->Option Value},(∀v,(x,v)∉binds)->bindL a binds m x=m x
 | [],_,_=>rfl
 | (n,v)::r,m,h=>by
  unfold bindL;rw[qny λw b=>h w (Ay _ b)];split
  .have:x≠n:=by rintro rfl;exact h v Am
   simp[this]
  .rfl
theorem qnz {a:Str->Option Bw}{x:Str}:∀{binds:List (Str×Value)}{m:Str->Option Value},(∀v,(x,v)∉binds)->bindC a binds m x=m x
 | [],_,_=>rfl
 | (n,v)::r,m,h=>by
  unfold bindC;rw[qnz λw b=>h w (Ay _ b)];split
  .rfl
  .have:x≠n:=by rintro rfl;exact h v Am
   simp[this]
theorem qn0 {a:Str->Option Bw}{x:Str}{v:Value}:∀{P:List Str}{vs:List Value}{i:Nat}{m:Str->Option Value},P.Nodup->P[i]?=some x->vs[i]?=some v->a x=some .local ->
  bindL a (P.zip vs) m x=some v
 | [],_,_,_,_,h,_,_=>by simp at h
 |_::_,[],_,_,_,_,h,_=>by simp at h
 |p::P,w::vs,0,m,nd,h1,h2,hk=>by simp at h1 h2;subst h1;subst h2;show bindL a ((p,w)::P.zip vs) m p=_;unfold bindL;rw[qny λv b=>(Cv.mp nd).1 (List.of_mem_zip b).1,if_pos hk];simp
 |p::P,w::vs,i+1,m,nd,h1,h2,hk=>by show bindL a ((p,w)::P.zip vs) m x=_;unfold bindL;exact qn0 (i:=i) (Cv.mp nd).2 (by simpa using h1) (by simpa using h2) hk
theorem qn1 {a:Str->Option Bw}{x:Str}{v:Value}:∀{P:List Str}{vs:List Value}{i:Nat}{m:Str->Option Value},P.Nodup->P[i]?=some x->vs[i]?=some v->a x≠some .local ->
  bindC a (P.zip vs) m x=some v
 | [],_,_,_,_,h,_,_=>by simp at h
 |_::_,[],_,_,_,_,h,_=>by simp at h
 |p::P,w::vs,0,m,nd,h1,h2,hk=>by simp at h1 h2;subst h1;subst h2;show bindC a ((p,w)::P.zip vs) m p=_;unfold bindC;rw[qnz λv b=>(Cv.mp nd).1 (List.of_mem_zip b).1,if_neg hk];simp
 |p::P,w::vs,i+1,m,nd,h1,h2,hk=>by show bindC a ((p,w)::P.zip vs) m x=_;unfold bindC;exact qn1 (i:=i) (Cv.mp nd).2 (by simpa using h1) (by simpa using h2) hk
noncomputable def start (N:List Str)(vs:List V):St:=vs.map some++List.replicate (N.length-vs.length) none
noncomputable def qp7 (CX:CXT)(P:AJ)(w:World)(K:Ag)(mg:Str->Option Value)(base:Heap)(N:List Str)(qual:Str)(scope:Scope)(f:Addr)(cd:Value)(A:AT)(outer:List Env)(s:Ad)(H:Hp)(E:XK):Cx where
 prog:=P
 w:=w
 K:=K
 mg:=mg
 base:=base
 A:=A.deeper (envOfC qual scope s.heap.objs.size f cd)
 N:=N
 s₀:=s
 H₀:=H
 env:=envOfC qual scope s.heap.objs.size f cd
 outer:=outer
 stack:=envOfC qual scope s.heap.objs.size f cd::outer
 ex:=[]
 calm:=true
 fn:=λ_=>true
 pn:=[]
 xe:=λe s'=>wpAny (model P w) (A.deeper (envOfC qual scope s.heap.objs.size f cd)) (leaving (envOfC qual scope s.heap.objs.size f cd) e) (λ_ s''=>CX outer H s E e s'') (λe' s''=>CX outer H s E e' s'') s'
theorem qp8 {a:Scope}{n:Nat}{x:Str}(h:a.names.lookup x=some .cell):∃c,(cellsFrom n a.names []).lookup x=some c:=by have q:=PySem.W.cellsFrom_some a.names n [] (.inl h);exact BV.mp q
theorem qu8 {CX:CXT}{P:AJ}{w:World}{K:Ag}{mg:Str->Option Value}{base:Heap}{N ps:List Str}{j:Str}{scope:Scope}{f:Addr}{B:Value}{A:AT}{outer:List Env}{s I:Ad}{H:Hp}{E:XK}{us:List Value}{vs:List V}
  (S:FnScope N ps scope)(L:A.handled=none)(g:Env0 P w K mg base A outer s H)(hl:vs.length=ps.length)(r:Vals vs us)
  (x:InCallC s s.heap.objs.size (bindL (envOfC j scope s.heap.objs.size f B).kindOf (ps.zip us) λ_=>none) (cellsFrom (s.heap.objs.size+1) scope.names []) (bindC (envOfC j scope s.heap.objs.size f B).kindOf (ps.zip us) λ_=>none) I) :
  Inv (qp7 CX P w K mg base N j scope f B A outer s H E) [] (start N vs) H I:=by
 have hpl:ps.length<=N.length:=by have:=congrArg D8 S.pre;rw[Bj]at this;lia
 obtain⟨C,tk,rfl,F⟩:=x.done;have m:∀b:Addr,b∉(qp7 CX P w K mg base N j scope f B A outer s H E).ex:=λb z=>absurd (show b∈([]:List Addr) from z) (by simp);refine⟨⟨g.mod,S.kind,Z,Z,Al _,λy z c C d=>?_,λy l=>?_,λy c _ h=>?_,λ_=>L,AT.frames_deeper g.frames,.inr ⟨Z,Z⟩,λb z=>absurd z (m b),g.bs,g.bsz,λb _ _=>m b,λb z=>absurd z (m b),g.funs,g.frf⟩,
  rfl,g.bare,Un.kept F,⟨_,x.toInCall.ns,λi y v C d h3=>?_⟩,λy c h=>⟨_,x.cell y c h⟩,g.hok.fresh (Al _),λy c h=>?_,λp o=>absurd (show p∈([]:List (Addr×Obj)) from o) (by simp),g.hok.kept F,?_⟩
 .exact name_of_addr x.apart (Cg C) (Cg d)
 .have l:scope.names.lookup y=some .cell\/scope.names.lookup y=some .free:=l;rcases l with l|l
  .exact qp8 l
  .exact absurd rfl (S.nofree _ (Cg l))
 .exact BG (x.above y c (Cg h))
 .have t:i<vs.length:=by
   unfold start at d
   by_cases t:i<vs.length
   .exact t
   .rw[AK (by simpa using t)]at d;rw[List.getElem?_replicate]at d;split at d <;>cases d
  have J:vs[i]?=some v:=by
   unfold start at d;rw[AI (by simpa using t),Ah]at d;cases e:vs[i]? with|none=>rw[e]at d;cases d|some a=>rw[e]at d;cases d;rfl
  obtain⟨u,G,rv⟩:=r.get J
  have o:ps[i]?=some y:=by rw[<- S.pre,List.getElem?_take_of_lt (by lia)];exact C
  have D:ps.Nodup:=by rw[<- S.pre];exact S.nd.sublist (Er _ _)
  refine⟨u,rv,?_⟩
  rcases S.par y (A4 o) with k|k
  .exact .inl ⟨k,qn0 D o G k⟩
  .obtain⟨c,e⟩:=qp8 (n:=s.heap.objs.size+1) k;refine .inr ⟨.inl k,c,e,?_⟩;have q:=x.cell y c e;rw[qn1 D o G (by show scope.names.lookup y≠_;rw[k];decide)]at q;exact q
 .exact g.hok.fresh (BG (x.above y c (Cg h)))
 .unfold start;show _=N.length;rw[Af,Ab,List.length_replicate];lia
theorem qwv {CX:CXT}{P:AJ}{w:World}{K:Ag}{mg:Str->Option Value}{base:Heap}{k:Nat}{f:Addr}{name a:Str}{d:Arguments}{g:List Stmt}{scope:Scope}{O kV z D c ct oc:Value}{G X:Option Addr}
  {L:Array (Option Value)}{N ps:List Str}{sp:Sp}(U:K.lookup f=some ⟨oc,X,.func (Bk name a d g scope O kV z D G c ct),L⟩)(F:BE K c a=true)(S:FnScope N ps scope)
  (len:∀vs H Q E,sp vs H Q E->vs.length=ps.length)
  (j:∀(A:AT)(outer:List Env)(s:Ad)(H:Hp)(vs:List V)(Q:VK)(E:XK),Room k (A.deeper (envOfC a scope s.heap.objs.size f c))->sp vs H Q E ->
   ∃t,PSs (qp7 CX P w K mg base N a scope f c A outer s H E) g t/\t {nx:=λ_ H'=>Q .non H',rt:=Q} (start N vs) H) :
  FnOk P w K mg base CX (k+1) f (Bk name a d g scope O kV z D G c ct) ps sp:=by
 refine⟨len,λA outer s H args us vs Q E B i Y r p=>?_⟩;have hl:=len _ _ _ _ p;have R:K.In s.heap:=i.mod.kin.keeps λb o e=>(i.bs b o e).1;have M:s.heap.NoLimit:=i.mod.nolimit.keeps λb o e=>(i.bs b o e).1;have l:∀y∈ps.zip us,scope.names.lookup y.1=some .local\/(scope.names.lookup y.1=some .cell/\((cellsFrom (s.heap.objs.size+1) scope.names []).lookup y.1).isSome=true):=λ⟨n,v⟩ hy=>by
  rcases S.par n (List.of_mem_zip hy).1 with q|q
  .exact .inl q
  .exact .inr ⟨q,PySem.W.cellsFrom_some _ _ _ (.inl q)⟩
 refine codeAny_call_function B.depth (R _ _ U) rfl S.co S.gen rfl (PySem.W.codeRec_of R F) (Y _ _ _ _ ?_);refine wpAny_newFunctionEnv_cells S.kind l λenv he T x=>?_;subst he;refine⟨M.keeps x.toInCall.keep,codeAny_func ?_⟩;obtain⟨t,ht,hq⟩:=j A outer s H vs Q E (B.deeper _) p;have I:Inv (qp7 CX P w K mg base N a scope f c A outer s H E) [] (start N vs) H T:=qu8 S B.hd i hl r x;refine BY (ht [] T (start N vs) H _ I hq) (λfl C h=>?_) λe C h=>h;have m:∀{σ':St}{H':Hp}{v:V}{u:Value},Inv (qp7 CX P w K mg base N a scope f c A outer s H E) [] σ' H' C->RelV v u->Q v H'->CE outer P w H s Q u C :=
  λ{σ' H' v u} J rv q=>⟨v,H',J.os,J.bare,J.base,J.hok,rv,q⟩
 cases fl with
 |ret u =>obtain⟨v,σ',H',J,rv,q⟩:=h;exact m J rv q
 |next =>obtain⟨σ',H',J,q⟩:=h;exact m (v:=V.non) (u:=C8) J rfl q
 |brk =>obtain⟨_,_,_,q⟩:=h;exact Cu q
 |cont =>obtain⟨_,_,_,q⟩:=h;exact Cu q
end L2
namespace L2
open PySem PySem.Spec PyProof.Rows
section
variable {X:Cx}{x:Str}{p pos:Pos}{e:Expr}{es:List Expr}{t:TA}{id T:String}{r:List V->Hp->VK->Prop}
def tCB (r:List V->Hp->VK->Prop)(t:TA):TE:=λσ H Q=>t σ H λvs H1=>r vs H1 Q
theorem zd (b:qga X (.builtin id) r)(c:Gl X x)(f:X.mg x=none)(i:bootBuiltins x=some (.builtin id))(k:PA X (e::es) t)(j:x ≠ "__name__" := by decide)(hdb:(x == ("__debug__" : Str))=false:=by decide)
  (he:starEach (e::es) X.env=(false,eval e X.env)::starEach es X.env:=by rfl)(hpl:(backTo pos (starEach es X.env)).any (·.1)=false:=by rfl):PE X (.Call (.Name x p) (e::es) [] pos) (tCB r t):=by
 intro a s σ H Q I h;refine Cj (qf9 I c f i ?_ j hdb);exact PyProof.Rows.callWith_builtin1 (thn (k pos a s σ H _ I h) λus n ⟨vs,d,m,g,l⟩=>b a n σ d vs us Q m g l) he hpl
theorem qdz (b:qga X (.type T) r)(c:Gl X x)(f:X.mg x=none)(i:bootBuiltins x=some (.type T))(k:PA X (e::es) t)(j:x ≠ "__name__" := by decide)(hdb:(x == ("__debug__" : Str))=false:=by decide)
  (he:starEach (e::es) X.env=(false,eval e X.env)::starEach es X.env:=by rfl)(hpl:(backTo pos (starEach es X.env)).any (·.1)=false:=by rfl):PE X (.Call (.Name x p) (e::es) [] pos) (tCB r t):=by
 intro a s σ H Q I h;refine Cj (qf9 I c f i ?_ j hdb);exact Cc (thn (k pos a s σ H _ I h) λus n ⟨vs,d,m,g,l⟩=>b a n σ d vs us Q m g l) he hpl
end
end L2
namespace HT
open PySem PyProof.Rows
section
open PySem.SeqAt
open PySem.AutoSeq1 (wpAny_loadPart')
open PySem.MeetsSeq PySem.MeetsSeq2 PySem.MeetsSeq3
end
section
variable {prog:AJ}{w:World}{A:AT}{E:Value->Ad->Prop}{s:Ad}
noncomputable def sIx (n d:Nat):Option Int->Nat
 |none=>d
 |some v=>if v<0 then (v+(n:Int)).toNat else min v.toNat n
theorem sIx_le (n d:Nat)(b:d<=n)(o:Option Int):sIx n d o<=n:=by
 cases o with
 |none=>exact b
 |some v =>
  show (if v<0 then (v+(n:Int)).toNat else min v.toNat n)<=n;by_cases a:v<0
  .rw[if_pos a];lia
  .rw[if_neg a];exact Nat.min_le_right _ _
theorem qtn (v:Int)(n d:Nat):(if v<0 then max (v+(n:Int)) 0 else min v (n:Int))=((sIx n d (some v):Nat):Int):=by
 show (if v<0 then max (v+(n:Int)) 0 else min v (n:Int))=(((if v<0 then (v+(n:Int)).toNat else min v.toNat n):Nat):Int);by_cases a:v<0
 .simp only[if_pos a];lia
 .simp only[if_neg a];lia
theorem qr7 (lo a:Option Int)(n:Nat):Bl.Slice.sliceAdjust lo a 1 (n:Int)=(((sIx n 0 lo:Nat):Int),((sIx n n a:Nat):Int)):=by
 have b:¬((1:Int)<0):=by lia
 unfold Bl.Slice.sliceAdjust;simp only[b,if_false];refine Prod.ext ?_ ?_
 .cases lo with
  |none=>rfl
  |some v=>exact qtn v n 0
 .cases a with
  |none=>rfl
  |some v=>exact qtn v n n
theorem qr8 (i j:Nat):Bl.Slice.slicePlaces (i:Int) (j:Int) 1=j-i:=by
 unfold Bl.Slice.slicePlaces;have a:(1:Int) > 0:=by lia
 simp only[a,if_true,Int.ediv_one];split <;>lia
theorem qll {v:Value}{o:Option Int}{Q:Option Int->Ad->Prop}(p:IsPart v o)(h:Q o s):wpAny (model prog w) A (Bl.Slice.slicePartIndex v) Q E s:=by
 cases p with|none=>exact slicePart_none h|int i t=>exact slicePart_int h
theorem qje {f:Addr}{e d:Value}{lo a:Option Int}{n:Nat}{Q:Int×Int×Nat->Ad->Prop}(i:s.heap.IsSliceOf f e d .none)(pl:IsPart e lo)(g:IsPart d a)
  (h:Q (((sIx n 0 lo:Nat):Int),1,sIx n n a-sIx n 0 lo) s):wpAny (model prog w) A (Bl.Slice.sliceApplied (.ref f) (pure (n:Int))) Q E s:=by
 obtain⟨os,b,hcs,c⟩:=id i;unfold Bl.Slice.sliceApplied Bl.Slice.sliceFields;refine An (An (wpAny_field b c (x:=e) Z (An (wpAny_field b c (x:=d) Z (An (wpAny_field b c (x:=.none) Z (AQ ?_)))))));refine An (slicePart_none ?_);show wpAny _ _ (if ((1:Int) == 0)=true then _ else _) _ _ s;rw[if_neg Ud];refine An (qll pl (An (qll g (An (AQ ?_)))));show wpAny _ _ (match Bl.Slice.sliceAdjust lo a 1 (n:Int) with | (lo,a)=>pure (lo,(1:Int),Bl.Slice.slicePlaces lo a 1)) _ _ s;rw[qr7 lo a n];show wpAny _ _ (pure (((sIx n 0 lo:Nat):Int),(1:Int),Bl.Slice.slicePlaces ((sIx n 0 lo:Nat):Int) ((sIx n n a:Nat):Int) 1)) _ _ s;rw[qr8];exact AQ h
theorem qww (xs:Array Value)(i k:Nat):((Aq k).filterMap λ(m:Nat)=>xs[((i:Int)+(m:Int)*1).toNat]?).toArray=((xs.toList.drop i).take k).toArray:=by
 have e:(λ(m:Nat)=>xs[((i:Int)+(m:Int)*1).toNat]?)=λm=>xs[i+m]?:=by
  funext m;have:((i:Int)+(m:Int)*1).toNat=i+m:=by lia
  rw[this]
 rw[e];have:=pick_run xs i k;rw[List.filterMap_map]at this;have a:((λx=>xs[x]?) ∘ λx=>i+x)=λm=>xs[i+m]?:=rfl;rw[a]at this;rw[this]
theorem getItem_tuple_cut {t e:Addr}{a:Array Value}{n f:Value}{lo c:Option Int}{Q:Value->Ad->Prop}(d:IsTup s.heap t a)(l:s.heap.IsSliceOf e n f .none)(pl:IsPart n lo)(o:IsPart f c)
  (r:¬(sIx a.size 0 lo=0/\sIx a.size a.size c=a.size))
  (h:Q (.ref s.heap.objs.size) {s with heap:=s.heap.push {cls:=.type "tuple",data:=.seq ((a.toList.drop (sIx a.size 0 lo)).take (sIx a.size a.size c-sIx a.size 0 lo)).toArray} })
  (hsz:a.size<=A5):wpAny (model prog w) A (getItem (.ref t) (.ref e)) Q E s:=by
 have b:sizeOk (.seq ((a.toList.drop (sIx a.size 0 lo)).take (sIx a.size a.size c-sIx a.size 0 lo)).toArray):=by show ((a.toList.drop (sIx a.size 0 lo)).take (sIx a.size a.size c-sIx a.size 0 lo)).toArray.size<=A5;rw[Ai,Bj,BL,BN];lia
 have hj:sIx a.size a.size c<=a.size:=sIx_le _ _ (Al _) c;obtain⟨p,g,j,hds⟩:=id l;have i:s.TypeIs (.ref e) "slice" := ⟨p,g,j⟩;unfold getItem;try with_reducible refine CJ ?_
 first|refine An (AQ ?_)|skip
 refine An (wpAny_sequenceKey d.typeIs Ud ?_);refine An (wpAny_callSpecial?_slot (name:=Aa "__getitem__") d.typeIs CM
  (wpAny_call_entry CM d.typeIs entry_tuple_getitem ?_ (args_tuple_getitem _ _)))
 show wpAny _ _ (Bl.Tuple.tupleItemsOf (.ref t) >>= _) _ _ s;refine An (tupleItemsOf_ d ?_);refine An (wpAny_typeOf i ?_);rw[if_pos Ud];refine An (qje l pl o ?_);have k:¬((((sIx a.size 0 lo:Nat):Int) == 0 && (1:Int) == 1 && (sIx a.size a.size c-sIx a.size 0 lo) == a.size)=true):=by intro q;rw[By,By]at q;have q1:((sIx a.size 0 lo:Nat):Int)=0:=eq_of_beq q.1.1;have q2:sIx a.size a.size c-sIx a.size 0 lo=a.size:=eq_of_beq q.2;exact r ⟨by lia,by lia⟩
 show wpAny _ _ (if (((sIx a.size 0 lo:Nat):Int) == 0 && (1:Int) == 1 && (sIx a.size a.size c-sIx a.size 0 lo) == a.size)=true then _ else _) _ _ s;rw[if_neg k,qww];first
  |exact An (m:=Bl.Tuple.tupleExact _) (Di (AQ ⟨_,rfl,AQ h⟩) b)
  |exact An (m:=Bl.Tuple.tupleExact _) (Di (An (AQ (AQ ⟨_,rfl,AQ h⟩))) b)
  |exact An (An (m:=Bl.Tuple.tupleExact _) (Di (AQ (AQ ⟨_,rfl,AQ h⟩)) b))
  |exact An (An (m:=Bl.Tuple.tupleExact _) (Di (AQ ⟨_,rfl,AQ h⟩) b))
end
end HT
namespace L2
open PySem PySem.Spec PyProof.Rows
abbrev TO:=St->Hp->(Option Int->Hp->Prop)->Prop
def PO (X:Cx)(e:Option Expr)(t:TO):Prop :=
 ∀(pins:List (Addr×Obj))(s:Ad)(σ:St)(H:Hp)(Q:Option Int->Hp->Prop),Inv X pins σ H s->t σ H Q ->
  wpAny (model X.prog X.w) X.A (evalPart e X.env) (λu s'=>∃o H',Inv X pins σ H' s'/\IsPart u o/\Q o H') X.xe s
def tNoPart:TO:=λ_ H Q=>Q none H
def tPart (t:TE):TO:=λσ H Q=>t σ H λx H1=>∃i,x=.int i/\Q (some i) H1
section
variable {X:Cx}{e:Expr}{te:TE}{lo hi:Option Expr}{tl th:TO}{pos p2:Pos}
theorem qg2:PO X none tNoPart:=by intro pins s σ H Q I h;rw[evalPart_none];exact AQ ⟨none,H,I,.none,h⟩
theorem qg3 (h:PE X e te):PO X (some e) (tPart te):=by intro a s σ H Q I f;rw[evalPart_some];refine thn (h a s σ H _ I f) λu s1 b=>?_;obtain⟨x,c,j,d,g⟩:=b;obtain⟨i,rfl,q⟩:=g;obtain⟨t,rfl⟩:=d;exact⟨some i,c,j,.int i t,q⟩
def SlR (X:Cx)(r:V->Option Int->Option Int->Hp->VK->Prop):Prop :=
 ∀(pins:List (Addr×Obj))(s:Ad)(σ:St)(H:Hp)(x:V)(v vl vu:Value)(lo hi:Option Int)(sl:Addr)(Q:VK),Inv X pins σ H s->RelV x v->s.heap.IsSliceOf sl vl vu .none->IsPart vl lo->IsPart vu hi->r x lo hi H Q ->
  ∃T id,typeLookup (.type T) "__getitem__"=pure (some (.builtin id))/\s.TypeIs v T/\wpAny (model X.prog X.w) X.A (getItem v (.ref sl)) (EP X pins σ Q) X.xe s
def tSl (r:V->Option Int->Option Int->Hp->VK->Prop)(te:TE)(tl th:TO):TE:=λσ H Q=>te σ H λx H1=>tl σ H1 λl H2=>th σ H2 λu H3=>r x l u H3 Q
theorem qfb {r:V->Option Int->Option Int->Hp->VK->Prop}(p:SlR X r)(t:PE X e te)(L:PO X lo tl)(E:PO X hi th):PE X (.Subscript e (.Slice lo hi none p2) pos) (tSl r te tl th):=by intro a s σ H Q I h;refine Subscript_ (thn (t a s σ H _ I h) λv N d=>?_);obtain⟨x,o,M,y,C⟩:=d;refine wpAny_Slice (thn (L a N σ o _ M C) λg D ⟨l,m,K,pl,F⟩=>thn (E a D σ m _ K F) λf c d=>?_);obtain⟨u,i,j,k,G⟩:=d;rw[evalPart_none];refine AQ ?_;have z:Inv X a σ i {c with heap:=c.heap.push {cls:=.type "slice",data:=.fields #[g,f,.none]} }:=j.kept (t':=c.toks) λb ob q=>Av _ q;obtain⟨T,id,B,J,n⟩:=p a {c with heap:=c.heap.push {cls:=.type "slice",data:=.fields #[g,f,.none]} } σ i x v g f l u c.heap.objs.size Q z y (Heap.IsSliceOf.new ..) pl k G;show wpAny (model X.prog X.w) X.A (subscriptTail e (.Slice lo hi none p2) v (.ref c.heap.objs.size)) (EP X a σ Q) X.xe {c with heap:=c.heap.push {cls:=.type "slice",data:=.fields #[g,f,.none]} };exact tail_any (ops:=[.ref c.heap.objs.size,v]) J B n (by with_unfolding_all rfl)
def qkq (xs:List V)(lo hi:Option Int):List V:=(xs.drop (HT.sIx xs.length 0 lo)).take (HT.sIx xs.length xs.length hi-HT.sIx xs.length 0 lo)
theorem qkf (xs:List V)(lo a:Option Int):(qkq xs lo a).length<=xs.length:=by unfold qkq;rw[Bj,BL];lia
def rSlT (K:Ag):V->Option Int->Option Int->Hp->VK->Prop:=λx lo hi H Q=>∃a xs,x=.ref a/\SqT K H a xs /\
 ¬(HT.sIx xs.length 0 lo=0/\HT.sIx xs.length xs.length hi=xs.length)/\∀p,H p=none->Q (.ref p) (upd H p (.tup (qkq xs lo hi)))
theorem sl_tup:SlR X (rSlT X.K):=by
 intro pins s σ H x v vl vu lo d sl Q I g k pl f h;obtain⟨a,xs,rfl,j,i,q⟩:=h;cases g;obtain⟨its,r,e,hz⟩:=I.tuple j;have c:its.toArray.size=xs.length:=by rw[Ai];exact r.length.symm
 refine⟨"tuple",_,CM.lookup,e.typeIs,?_⟩;refine HT.getItem_tuple_cut e k pl f (by rw[c];exact i) ?_ (by rw[c];exact hz);rw[c];refine⟨.ref s.heap.objs.size,_,I.laid (t':=s.toks) (o:=.tup (qkq xs lo d)) (λb ob q=>Av _ q) (Al _) ?_,Z,q _ (I.hok.fresh (Al _))⟩;exact⟨A9 (qkf xs lo d) hz,_,(r.drop (HT.sIx xs.length 0 lo)).take (HT.sIx xs.length xs.length d-HT.sIx xs.length 0 lo),IsTup.new _ _⟩
end
end L2
namespace L2
open PySem PySem.Spec PyProof.Rows
noncomputable def ixN (n:Nat)(i:Int):Option Nat:=if 0<=i then (if i<n then some i.toNat else none) else if -(n:Int)<=i then some (i+n).toNat else none
def atI {α:Type}(xs:List α)(i:Int):Option α:=(ixN xs.length i).bind λj=>xs[j]?
theorem qto {n:Nat}{i:Int}{j:Nat}(h:ixN n i=some j):seqIndex? i n=some j/\j<n /\ -(n:Int)<=i/\i<n:=by
 unfold ixN at h;by_cases b:0<=i
 .rw[if_pos b]at h;by_cases a:i<n
  .rw[if_pos a]at h;have e:i.toNat=j:=AA h;exact⟨by rw[seqIndex_of b a,e],by lia,by lia,a⟩
  .rw[if_neg a]at h;cases h
 .rw[if_neg b]at h;by_cases a : -(n:Int)<=i
  .rw[if_pos a]at h;have e:(i+n).toNat=j:=AA h;exact⟨by rw[seqIndex_neg (by lia) a,e],by lia,a,by lia⟩
  .rw[if_neg a]at h;cases h
theorem qov {α:Type}{xs:List α}{i:Int}{v:α}(h:atI xs i=some v):∃j,seqIndex? i xs.length=some j/\xs[j]?=some v/\j<xs.length /\ -(xs.length:Int)<=i/\i<xs.length:=by
 unfold atI at h;cases e:ixN xs.length i with
 |none=>rw[e]at h;cases h
 |some j =>rw[e]at h;obtain⟨d,a,b,c⟩:=qto e;exact⟨j,d,h,a,b,c⟩
theorem qa0 {α:Type}{xs:List α}{j:Nat}{v:α}(h:xs[j]?=some v):atI xs (j:Int)=some v:=by
 have hj:j<xs.length:=(Ac.mp h).1;have e:ixN xs.length (j:Int)=some j:=by unfold ixN;rw[if_pos (by lia),if_pos (by lia)];simp
 unfold atI;rw[e];exact h
theorem qd7 {α:Type}(xs:List α)(v:α):atI (xs++[v]) (-1)=some v:=by
 have a:(xs++[v]).length=xs.length+1:=by simp
 have e:ixN (xs++[v]).length (-1)=some xs.length:=by
  unfold ixN;rw[a,if_neg Ud,if_pos (by lia)]
  congr 1
  lia
 unfold atI;rw[e];show (xs++[v])[xs.length]?=some v;simp
def PlainIx (b:Expr):Prop:=∀o i,subscripted b false o i=operate [o,i] (getItem o i)
def IxR (X:Cx)(r:R2):Prop :=
 ∀(value slice:Expr)(pins:List (Addr×Obj))(s:Ad)(σ:St)(H:Hp)(x y:V)(v u:Value)(Q:VK),Inv X pins σ H s->RelV x v->RelV y u->r x y H Q ->
  subscripted slice false v u=operate [v,u] (getItem v u)->wpAny (model X.prog X.w) X.A (subscriptTail value slice v u) (EP X pins σ Q) X.xe s
def MtR (X:Cx)(id:String)(r:V->List V->Hp->VK->Prop):Prop :=
 ∀(pins:List (Addr×Obj))(s:Ad)(σ:St)(H:Hp)(x:V)(xs:List V)(v:Value)(us:List Value)(Q:VK),Inv X pins σ H s->RelV x v->Vals xs us->r x xs H Q ->
  wpAny (model X.prog X.w) X.A (call (.builtin id) (v::us)) (EP X pins σ Q) X.xe s
section
variable {X:Cx}{a b:Expr}{ta tb:TE}{pos:Pos}
theorem zp {r:R2}(f:IxR X r)(j:PE X a ta)(g:PE X b tb)(l:PlainIx b):PE X (.Subscript a b pos) (tOp r ta tb):=by intro c s σ H Q I h;exact Subscript_ (binT j g I h λv u k x y e m d i q=>f a b c k σ e x y v u Q m d i q (l _ _))
def rIxL (K:Ag):R2:=λx y H Q=>∃p xs i v,x=.ref p/\y=.int i/\SqL K H p xs/\atI xs i=some v/\Q v H
def rIxT (K:Ag):R2:=λx y H Q=>∃p xs i v,x=.ref p/\y=.int i/\SqT K H p xs/\atI xs i=some v/\Q v H
def rIxS:R2:=λx y H Q=>∃z i c,x=.str z/\y=.int i/\z.length<=A5/\atI z.cps.toList i=some c/\Q (.str ⟨#[c]⟩) H
theorem zr:IxR X (rIxL X.K):=by
 intro value slice a s σ H x y v u Q I l m h k;obtain⟨p,xs,i,z,rfl,rfl,C,n,q⟩:=h;cases l;obtain⟨t,rfl⟩:=m;obtain⟨its,r,pl,hz⟩:=I.list C;obtain⟨j,b,o,h3,A,D⟩:=qov n;obtain⟨w,g,f⟩:=r.get o;have E:=r.length;have hn:=qjb;have c:EP X a σ Q w s:=⟨z,H,I,f,q⟩;by_cases e:0<=i
 .have d:i.toNat=j:=by
   rw[seqIndex_of e D]at b
   exact AA b
  exact item_listR pl.isList e (by lia) (by rw[d];simpa using g) c k
 .have d:(i+(its.toArray.size:Int)).toNat=j:=by
   rw[seqIndex_neg (by lia) A]at b
   rw[Ai,<- E]
   exact AA b
  exact subscriptTail_builtinR (x:=w) pl.isList.typeIs slot_list_getitem.lookup
   (wpAny_getItem_list_neg (Q:=λr B=>r=w/\EP X a σ Q r B) pl.isList (by lia) (by rw[Ai] <;>lia) (by lia) (by rw[d];simpa using g) ⟨Z,c⟩) k
theorem zq:IxR X (rIxT X.K):=by
 intro value slice a s σ H x y v u Q I d e h m;obtain⟨p,xs,i,z,rfl,rfl,n,f,q⟩:=h;cases d;obtain⟨t,rfl⟩:=e;obtain⟨its,r,pl,hz⟩:=I.tuple n;obtain⟨j,A,g,h3,h4,h5⟩:=qov f;obtain⟨w,k,b⟩:=r.get g;have o:=r.length;have hn:=qjb;have c:EP X a σ Q w s:=⟨z,H,I,b,q⟩;exact subscriptTail_builtinR (x:=w) pl.typeIs slot_tuple_getitem.lookup
  (getItem_tuple (j:=j) (Q:=λr l=>r=w/\EP X a σ Q r l) pl (by lia) (by lia) (by rw[Ai,<- o];exact A) (by simpa using k) ⟨Z,c⟩) m
theorem ix_str:IxR X rIxS:=by
 intro value slice pins s σ H x y v u Q I b d h l;obtain⟨z,i,c,rfl,rfl,hz,e,q⟩:=h;obtain⟨t,rfl⟩:=b;obtain⟨t',rfl⟩:=d;obtain⟨j,a,f,h3,g,n⟩:=qov e;have o:z.cps.toList.length=z.length:=by simp[Str.length]
 rw[o]at a g n;have hn:=qjb;exact tail_any (typeIs_str s z t) slot_str_getitem.lookup (getItem_str (c:=c) (by have m:decide (i < -(2 ^ 63:Int))=false:=decide_eq_false (by lia);have k:decide (i ≥ 2 ^ 63)=false:=decide_eq_false (by lia);rw[m,k,Dw]) (by rw[a];simpa using f) ⟨.str ⟨#[c]⟩,H,I.tok _,⟨_,Z⟩,q⟩) l
theorem qr9 (its:List Value)(n j:Nat)(u:Value):B9 (·.setIfInBounds j u) {cls:=.type "list",data:=.seq its.toArray n}={cls:=.type "list",data:=.seq (its.set j u).toArray n}:=by simp[B9]
theorem Inv.lst {a:List (Addr×Obj)}{σ:St}{H:Hp}{s:Ad}{p:Addr}{xs:List V}(I:Inv X a σ H s)(h:H p=some (.lst xs)) :
  ∃(its:List Value)(n:Nat),Vals xs its/\s.heap.get? p=some {cls:=.type "list",data:=.seq its.toArray n}/\xs.length<=A5:=by
 obtain⟨z,its,n,r,e⟩:=I.hok p _ h;exact⟨its,n,r,e,z⟩
theorem Inv.lstUpd {a:List (Addr×Obj)}{σ:St}{H:Hp}{s:Ad}{p:Addr}{xs ys:List V}{its its':List Value}{n c:Nat}{f:Obj->Obj}(I:Inv X a σ H s)(h:H p=some (.lst xs))
  (g:s.heap.get? p=some {cls:=.type "list",data:=.seq its.toArray n})(hf:f {cls:=.type "list",data:=.seq its.toArray n}={cls:=.type "list",data:=.seq its'.toArray c})(r:Vals ys its')(hz:ys.length<=A5)(t:Nat) :
  Inv X a σ (upd H p (.lst ys)) {s with heap:=s.heap.update p f,toks:=t}:=by
 have e:(s.heap.update p f).get? p=some {cls:=.type "list",data:=.seq its'.toArray c}:=by rw[Heap.get?_update_self f g (by rw[hf] <;>rfl),hf]
 refine I.write (x:=p) (e:=p) (by rw[h];trivial) (.inl Z) (λb u d q=>(DF _ _ (B6 d)).trans q) ⟨_,e⟩ ?_;exact⟨hz,its',c,r,e⟩
def rSetL:V->V->V->Hp->(Hp->Prop)->Prop:=λo i v H Q=>∃p xs k j,o=.ref p/\i=.int k/\H p=some (.lst xs)/\ixN xs.length k=some j/\Q (upd H p (.lst (xs.set j v)))
theorem qwx:PSet X rSetL:=by
 intro e s σ H o i v ov iv u Q I y x rv h;obtain⟨p,xs,k,j,rfl,rfl,m,z,q⟩:=h;cases y;obtain⟨t,rfl⟩:=x;obtain⟨its,n,r,c,hz⟩:=I.lst m;obtain⟨a,h2,w,l⟩:=qto z;have d:=r.length;have hn:=qjb;have f:Inv X e σ (upd H p (.lst (xs.set j v))) {s with heap:=s.heap.update p (B9 (·.setIfInBounds j u))} :=
  I.lstUpd m c (qr9 its n j u) (r.set rv j) (by rw[List.length_set];exact hz) s.toks
 by_cases g:0<=k
 .have b:k.toNat=j:=by
   rw[seqIndex_of g l]at a
   exact AA a
  exact PySem.W.ki_setAt c g (by lia) (by rw[Ai,<- d];exact l) (by rw[b];exact⟨_,f,q⟩)
 .have b:(k+(its.toArray.size:Int)).toNat=j:=by
   rw[seqIndex_neg (by lia) w]at a
   rw[Ai,<- d]
   exact AA a
  exact PySem.W.ki_setBack c (by lia) (by rw[Ai,<- d];exact w) (by lia) (by rw[b];exact⟨_,f,q⟩)
theorem qow (lo a:Option Int)(n:Nat):(sliceBounds lo a none n).1=((HT.sIx n 0 lo:Nat):Int)/\(sliceBounds lo a none n).2.1=((HT.sIx n n a:Nat):Int)/\(sliceBounds lo a none n).2.2=1:=by
 refine⟨?_,?_,Z⟩
 .cases lo with
  |none=>simp[sliceBounds,HT.sIx]
  |some i =>
   simp only[sliceBounds,HT.sIx,Option.getD_none,show (1:Int) > 0 by decide,if_true];by_cases h:i<0
   .simp only[h,if_true] <;>lia
   .simp only[h,if_false] <;>lia
 .cases a with
  |none=>simp[sliceBounds,HT.sIx]
  |some i =>
   simp only[sliceBounds,HT.sIx,Option.getD_none,show (1:Int) > 0 by decide,if_true];by_cases h:i<0
   .simp only[h,if_true] <;>lia
   .simp only[h,if_false] <;>lia
theorem qnc (its:List Value)(lo a:Option Int):slicePick its.toArray lo a none=((its.drop (HT.sIx its.length 0 lo)).take (HT.sIx its.length its.length a-HT.sIx its.length 0 lo)).toArray:=by obtain⟨d,b,c⟩:=qow lo a its.toArray.size;unfold slicePick;rw[d,b,c];simp only[sliceRange_one,pick_run,Ai] <;>rfl
def rSlL (K:Ag):V->Option Int->Option Int->Hp->VK->Prop:=λx lo hi H Q=>∃a xs,x=.ref a/\SqL K H a xs/\∀p,H p=none->Q (.ref p) (upd H p (.lst (qkq xs lo hi)))
theorem qia:SlR X (rSlL X.K):=by intro pins s σ H x v vl vu lo c sl Q I g j pl f h;obtain⟨a,xs,rfl,i,q⟩:=h;cases g;obtain⟨its,r,e,hz⟩:=I.list i;have d:=r.length;refine⟨"list",_,slot_list_getitem.lookup,e.isList.typeIs,?_⟩;refine wpAny_getItem_list_slice e.isList j pl f .none (by simp) ?_ (by rw[Ai] <;>lia);rw[qnc,<- d];refine⟨.ref s.heap.objs.size,_,I.laid (t':=s.toks) (o:=.lst (qkq xs lo c)) (λb ob q=>Av _ q) (Al _) ?_,Z,q _ (I.hok.fresh (Al _))⟩;exact⟨A9 (qkf xs lo c) hz,_,0,(r.drop (HT.sIx xs.length 0 lo)).take (HT.sIx xs.length xs.length c-HT.sIx xs.length 0 lo),AW _ Z⟩
noncomputable def qbv:V->Bool
 |.non=>true
 |.bl _=>true
 |.int _=>true
 |.str _=>true
 |_=>false
noncomputable def eqV:V->V->Bool
 |.non,.non=>true
 |.bl a,.bl b=>a == b
 |.bl a,.int b=>(if a then 1 else 0) == b
 |.int a,.bl b=>a == (if b then 1 else 0)
 |.int a,.int b=>a == b
 |.str a,.str b=>a == b
 |_,_=>false
theorem qox {A:AT}{s:Ad}{y x:V}{u v:Value}(e:RelV y u)(c:RelV x v)(fy:qbv y=true)(d:qbv x=true):AZ A s u v (eqV y x):=by
 cases y with
 |non =>
  cases e;cases x with
  |non=>cases c;exact AZ.same _
  |bl b=>cases c;exact AZ.none_bool b
  |int b=>obtain⟨t,rfl⟩:=c;exact AZ.none_int b t
  |str b=>obtain⟨t,rfl⟩:=c;exact AZ.none_str b t
  |_=>exact absurd (show false=true from d) AF
 |bl a =>
  cases e;cases x with
  |non=>cases c;exact AZ.bool_none a
  |bl b=>cases c;exact AZ.bool_bool a b
  |int b=>obtain⟨t,rfl⟩:=c;exact AZ.bool_int a b t
  |str b=>obtain⟨t,rfl⟩:=c;exact AZ.bool_str a b t
  |_=>exact absurd (show false=true from d) AF
 |int a =>
  obtain⟨t',rfl⟩:=e;cases x with
  |non=>cases c;exact AZ.int_none a t'
  |bl b=>cases c;exact AZ.int_bool a t' b
  |int b=>obtain⟨t,rfl⟩:=c;exact AZ.int_int a t' b t
  |str b=>obtain⟨t,rfl⟩:=c;exact AZ.int_str a t' b t
  |_=>exact absurd (show false=true from d) AF
 |str a =>
  obtain⟨t',rfl⟩:=e;cases x with
  |non=>cases c;exact AZ.str_none a t'
  |bl b=>cases c;exact AZ.str_bool a t' b
  |int b=>obtain⟨t,rfl⟩:=c;exact AZ.str_int a t' b t
  |str b=>obtain⟨t,rfl⟩:=c;exact AZ.str_str a t' b t
  |_=>exact absurd (show false=true from d) AF
 |_=>exact absurd (show false=true from fy) AF
def eqU (x:V)(u:Value):Bool:=match u with
 |.none=>eqV .non x
 |.bool b=>eqV (.bl b) x
 |.int i _=>eqV (.int i) x
 |.str z _=>eqV (.str z) x
 |_=>false
theorem qwy {x y:V}{u:Value}(r:RelV y u)(f:qbv y=true):eqU x u=eqV y x:=by
 cases y with
 |non=>cases r;rfl
 |bl b=>cases r;rfl
 |int i=>obtain⟨t,rfl⟩:=r;rfl
 |str z=>obtain⟨t,rfl⟩:=r;rfl
 |_=>exact absurd (show false=true from f) AF
theorem qib {x:V}:∀{xs:List V}{us:List Value},Vals xs us->xs.all qbv=true->us.any (eqU x)=xs.any λy=>eqV y x
 |_,_,.nil,_=>rfl
 |y::xs,u::us,.cons r t,f=>by rw[List.all_cons,By]at f;rw[De,De,qwy r f.1,qib t f.2]
theorem qgc {A:AT}{s:Ad}{x:V}{v:Value}(c:RelV x v)(b:qbv x=true):∀{xs:List V}{us:List Value},Vals xs us->xs.all qbv=true->∀u∈us,AZ A s u v (eqU x u)
 |_,_,.nil,_=>λu a=>by cases a
 |y::xs,u::us,.cons r t,f=>λu' a=>by
  rw[List.all_cons,By]at f;rcases Aw.mp a with rfl|a
  .rw[qwy r f.1];exact qox r c f.1 b
  .exact qgc c b t f.2 u' a
def inV (x:V)(xs:List V):Bool:=xs.any λy=>eqV y x
def rIn (K:Ag)(neg:Bool):R2:=λx y H Q=>∃p xs,y=.ref p/\(SqL K H p xs\/SqT K H p xs)/\qbv x=true/\xs.all qbv=true/\Q (.bl (if neg then !inV x xs else inV x xs)) H
theorem qdb:OpR X (compareOp .In) (rIn X.K false):=by
 intro pins s σ H x y v u Q I c e h;obtain⟨p,xs,rfl,a,d,fs,q⟩:=h;cases e;rcases a with a|a
 .obtain⟨its,r,pl,hz⟩:=I.list a;refine SeqAt.in_listAt (eqU x) pl.isList (λw b=>qgc c d r fs w (by simpa using b)) ⟨.bl _,H,I,Z,?_⟩;rw[show its.toArray.any (eqU x)=its.any (eqU x) by simp,qib r fs];exact q
 .obtain⟨its,r,pl,hz⟩:=I.tuple a;refine SeqAt.in_tupleAt (eqU x) pl (λw b=>qgc c d r fs w (by simpa using b)) ⟨.bl _,H,I,Z,?_⟩;rw[show its.toArray.any (eqU x)=its.any (eqU x) by simp,qib r fs];exact q
theorem qic:OpR X (compareOp .NotIn) (rIn X.K true):=by
 intro pins s σ H x y v u Q I c e h;obtain⟨p,xs,rfl,a,d,fs,q⟩:=h;cases e;rcases a with a|a
 .obtain⟨its,r,pl,hz⟩:=I.list a;refine SeqAt.notIn_listAt (eqU x) pl.isList (λw b=>qgc c d r fs w (by simpa using b)) ⟨.bl _,H,I,Z,?_⟩;rw[show its.toArray.any (eqU x)=its.any (eqU x) by simp,qib r fs];exact q
 .obtain⟨its,r,pl,hz⟩:=I.tuple a;refine SeqAt.notIn_tupleAt (eqU x) pl (λw b=>qgc c d r fs w (by simpa using b)) ⟨.bl _,H,I,Z,?_⟩;rw[show its.toArray.any (eqU x)=its.any (eqU x) by simp,qib r fs];exact q
theorem qfl:qga X (.type "list") (λxs H Q=>∃p ys,xs=[.ref p]/\(SqL X.K H p ys\/SqT X.K H p ys)/\∀l,H l=none->Q (.ref l) (upd H l (.lst ys))):=by
 intro m s σ H xs us Q I r h;obtain⟨p,ys,rfl,d,q⟩:=h;obtain⟨u,rfl,t⟩:=qkc r;cases t;have f:∀(its:List Value),Vals ys its->ys.length<=A5->∀(h':Heap)(c:Nat),(∀b o',s.heap.get? b=some o'->h'.get? b=some o') ->
   h'.get? s.heap.objs.size=some {cls:=.type "list",dict:=none,data:=.seq its.toArray c,slots:=#[]}->EP X m σ Q (.ref s.heap.objs.size) {s with heap:=h'}:=λits a hz h' c kp e =>
  ⟨.ref s.heap.objs.size,_,I.laid (t':=s.toks) kp (Al _) (show ObjOk X.prog X.w _ h' _ (.lst ys) from ⟨hz,its,c,a,e⟩),Z,q _ (I.hok.fresh (Al _))⟩
 rcases d with d|d
 .obtain⟨its,a,pl,hz⟩:=I.list d;have g:=a.length;obtain⟨o,k,i,n,j⟩:=pl.isList;exact call_list_seq p (.inl Z) k i j (λh' c kp e=>f its a hz h' c kp e) (by simp only[Ai] <;>lia)
 .obtain⟨its,a,pl,hz⟩:=I.tuple d;have g:=a.length;obtain⟨o,k,i,n,j⟩:=pl;exact call_list_seq p (.inr Z) k i j (λh' c kp e=>f its a hz h' c kp e) (by simp only[Ai] <;>lia)
def tyV (K:Ag)(T:String)(x:V)(H:Hp):Prop:=match x with
 |.str _=>T = "str"
 |.int _=>T = "int"
 |.ref p=>(T = "list" /\ ∃xs,SqL K H p xs)\/(T = "tuple" /\ ∃o,K.lookup p=some o/\o.cls=.type "tuple" /\ o.dict=none) \/
   (T = "dict" /\ ((∃kvs,H p=some (.dK kvs)) \/ ∃kvs,H p=some (.dT kvs)))\/(T = "set" /\ ∃S n,H p=some (.set S n))
 |_=>False
theorem qwz {g:List (Addr×Obj)}{σ:St}{H:Hp}{s:Ad}{T:String}{x:V}{v:Value}(I:Inv X g σ H s)(r:RelV x v)(ty:tyV X.K T x H) :
  s.TypeIs v T/\∀a,v=.ref a->∃ob,s.heap.get? a=some ob/\ob.dict=none:=by
 cases x with
 |str z =>obtain⟨t,rfl⟩:=r;cases (show T = "str" from ty);exact⟨typeIs_str s z t,λ_ e=>nomatch e⟩
 |int i =>obtain⟨t,rfl⟩:=r;cases (show T = "int" from ty);exact⟨typeIs_int s i t,λ_ e=>nomatch e⟩
 |ref p =>
  cases r;rcases ty with ⟨rfl,xs,j⟩|⟨rfl,o,b,h,d⟩|⟨rfl,b⟩|⟨rfl,S,n,b⟩
  .obtain⟨its,_,pl,_⟩:=I.list j;refine⟨pl.isList.typeIs,λa e=>?_⟩;cases e;obtain⟨o,n,e,c,d,_⟩:=pl;exact⟨o,e,d⟩
  .refine⟨⟨o,I.kIn p o b,h⟩,λa e=>?_⟩;cases e;exact⟨o,I.kIn _ o b,d⟩
  .have z:∃o,s.heap.get? p=some o/\o.ExactDict:=by
    rcases b with ⟨kvs,b⟩|⟨kvs,b⟩
    .obtain⟨_,_,_,_,o,_,_,e,ex,_⟩:=I.hok p _ b;exact⟨o,e,ex⟩
    .obtain⟨_,_,_,_,o,_,_,e,ex,_⟩:=I.hok p _ b;exact⟨o,e,ex⟩
   obtain⟨o,e,ex⟩:=z
   refine⟨⟨o,e,ex.1⟩,λa f=>?_⟩
   cases f
   exact⟨o,e,ex.2.1⟩
  .obtain⟨o,_,_,_,e,ex,_⟩:=I.hok p _ b;refine⟨⟨o,e,ex.1⟩,λa f=>?_⟩;cases f;exact⟨o,e,ex.2.1⟩
 |_=>exact Cu ty
def tBM0 (K:Ag)(T:String)(r:V->List V->Hp->VK->Prop)(to:TE):TE:=λσ H Q=>to σ H λx H1=>tyV K T x H1/\r x [] H1 Q
def tBM (K:Ag)(T:String)(r:V->List V->Hp->VK->Prop)(to:TE)(t:TA):TE:=λσ H Q=>to σ H λx H1=>tyV K T x H1/\t σ H1 λxs H2=>r x xs H2 Q
variable {o e:Expr}{es:List Expr}{to:TE}{t:TA}{name:Str}{apos cpos:Pos}{T id:String}{r:V->List V->Hp->VK->Prop}
theorem qw0 (m:PlainAttrs T)(c:Slot T name id)(f:typeOf (.builtin id)=pure (.type "method_descriptor"))(j:MtR X id r)(n:PE X o to)
  (b:attributeBase o name X.env (eval o X.env)=eval o X.env:=by rfl)(hline:(apos.endLine == cpos.line)=true:=by rfl):PE X (.Call (.Attribute o name apos) [] [] cpos) (tBM0 X.K T r to):=by
 intro a s σ H Q I h;refine wpAny_Call_method0_late b hline (thn (n a s σ H _ I h) λv q d=>?_);obtain⟨x,i,g,e,ty,l⟩:=d;obtain⟨p,k⟩:=qwz g e ty;exact⟨T,id,m,c,f,p,k,CY Z (PySem.evalArgs_none (j a q σ i x [] v [] Q g e .nil l))⟩
theorem qcp (z:PlainAttrs T)(d:Slot T name id)(i:typeOf (.builtin id)=pure (.type "method_descriptor"))(p:MtR X id r)(C:PE X o to)(u:PA X (e::es) t)
  (c:attributeBase o name X.env (eval o X.env)=eval o X.env:=by rfl)
  (hfew:((backTo cpos (starEach (e::es) X.env)).all (λx=>!x.1) && (backToKw cpos (keywordEach [] X.env)).all (λx=>x.1.isSome)
   && decide ((e::es).length+([]:List Keyword).length+(if ([]:List Keyword).isEmpty then 0 else 1)<30))=true:=by rfl)
  (hline:(apos.endLine == cpos.line)=true:=by rfl)(hs:starEach (e::es) X.env=(false,eval e X.env)::starEach es X.env:=by rfl)(hplain:(backTo cpos (starEach es X.env)).any (·.1)=false:=by rfl) :
  PE X (.Call (.Attribute o name apos) (e::es) [] cpos) (tBM X.K T r to t):=by
 intro b s σ H Q I h;refine wpAny_Call_method_late c hfew hline rfl (thn (C b s σ H _ I h) λv F f=>?_);obtain⟨x,n,k,g,ty,w⟩:=f;obtain⟨E,q⟩:=qwz k g ty;refine⟨T,id,z,d,i,E,q,?_⟩;have j:=u cpos b F σ n _ k w;rw[hs]at j |-;refine CY (by show (false || (backTo cpos (starEach es X.env)).any (·.1))=false;rw[hplain] <;>rfl) (DU ?_);exact thn j λus A ⟨vs,l,D,y,B⟩=>p b A σ l x vs v us Q D g y B
/- xs.append(e),list.index on a module's tuple .. are MtR facts of 06m -/
end
end L2
namespace L2
open PySem PySem.Spec PyProof.Rows
def MtM (X:Cx)(id:String)(r:V->List V->Hp->VK->Prop):Prop :=
 ∀(pins:List (Addr×Obj))(s:Ad)(σ:St)(H:Hp)(x:V)(xs:List V)(v:Value)(us:List Value)(Q:VK),Inv X pins σ H s->RelV x v->Vals xs us->r x xs H Q ->
  wpAny (model X.prog X.w) X.A (call (.builtin id) (v::us)) (EP X pins σ Q) X.xe s
theorem Vals.one {x:V}{us:List Value}(h:Vals [x] us):∃u,us=[u]/\RelV x u:=by cases h with|cons r t=>cases t;exact⟨_,Z,r⟩
theorem Vals.two {x y:V}{us:List Value}(h:Vals [x,y] us):∃u v,us=[u,v]/\RelV x u/\RelV y v:=by cases h with|cons r t=>cases t with|cons q t=>cases t;exact⟨_,_,Z,r,q⟩
theorem Vals.zero:∀{us:List Value},Vals [] us->us=[]
 |_,.nil=>rfl
theorem Vals.dropLast {xs:List V}{us:List Value}(h:Vals xs us):Vals xs.dropLast us.dropLast:=by
 induction h with
 |nil=>exact .nil
 |cons r t ih =>
  cases t with|nil=>exact .nil|cons q t'=>exact .cons r ih
theorem Vals.reverse {xs:List V}{us:List Value}(h:Vals xs us):Vals xs.reverse us.reverse:=by
 induction h with
 |nil=>exact .nil
 |cons r t ih=>rw[Dj,Dj];exact Vals.append ih (.cons r .nil)
theorem qsa {α:Type}(l:List α):l.eraseIdx (l.length-1)=l.dropLast:=by
 induction l with
 |nil=>rfl
 |cons a r ih =>
  cases r with
  |nil=>rfl
  |cons b r =>
   have e:(a::b::r).length-1=((b::r).length-1)+1:=by have h1:(a::b::r).length=r.length+2:=rfl;have h2:(b::r).length=r.length+1:=rfl;lia
   rw[e,List.eraseIdx_cons_succ,ih];all_goals rfl
section
variable {X:Cx}{pins:List (Addr×Obj)}{σ:St}{H:Hp}{s:Ad}{l b:Addr}{xs ys zs:List V}
theorem Inv.lset {its its':List Value}{n:Nat}{f:Array Value->Array Value}{t':Nat}(I:Inv X pins σ H s)(c:H l=some (.lst xs))
  (e:s.heap.get? l=some {cls:=.type "list",data:=.seq its.toArray n})(hf:f its.toArray=its'.toArray)(hv:Vals ys its')(hz:ys.length<=A5) :
  Inv X pins σ (upd H l (.lst ys)) {s with heap:=s.heap.update l (B9 f),toks:=t'}:=by
 have q:=PySem.IsL.update e f;rw[hf]at q;refine I.write (x:=l) (e:=l) (by rw[c];exact trivial) (.inl Z) (λb' u b a=>(DF s.heap (B9 f) (B6 b)).trans a) ⟨_,q⟩ ?_;exact⟨hz,its',_,hv,q⟩
theorem Inv.lnew {its:List Value}{t':Nat}(I:Inv X pins σ H s)(a:Vals ys its)(hz:ys.length<=A5) :
  Inv X pins σ (upd H s.heap.objs.size (.lst ys)) {s with heap:=s.heap.push {cls:=.type "list",data:=.seq its.toArray},toks:=t'} :=
 I.laid (λ_ _ q=>Av _ q) (Al _) ⟨hz,its,0,a,AW _ Z⟩
theorem Inv.fresh (I:Inv X pins σ H s):H s.heap.objs.size=none:=I.hok.fresh (Al _)
theorem Inv.lstM (I:Inv X pins σ H s)(a:H l=some (.lst xs)):xs.length<=A5/\∃(its:List Value)(n:Nat),Vals xs its/\xs.length=its.length/\s.heap.get? l=some {cls:=.type "list",data:=.seq its.toArray n}:=by obtain⟨z,its,n,r,e⟩:=I.hok l _ a;exact⟨z,its,n,r,r.length,e⟩
theorem qlm {n:Nat}(h:n<=A5):Bl.List.listTooLong n=false:=by unfold Bl.List.listTooLong;exact decide_eq_false (by lia)
end
section
variable {X:Cx}
def rAppend:V->List V->Hp->VK->Prop:=λx vs H Q=>∃l xs y,x=.ref l/\vs=[y]/\H l=some (.lst xs)/\xs.length<A5/\Q .non (upd H l (.lst (xs++[y])))
theorem qau:MtM X "list.append" rAppend:=by intro pins s σ H x vs v us Q I c rv h;obtain⟨l,xs,y,rfl,rfl,a,hz,q⟩:=h;cases c;obtain⟨u,rfl,b⟩:=rv.one;obtain⟨z,its,n,r,hl,e⟩:=I.lstM a;refine DM F.slot_list_append ⟨_,e,Z⟩ F.entry_list_append (F.args_list_append_2 _ _) (PySem.list_append l its.toArray n u (by rw[Ai];lia)) ⟨e,?_⟩;refine⟨.non,_,I.lset (its':=its++[u]) a e (by simp) (r.append (.cons b .nil)) ?_,Z,q⟩;rw[Af,AU];lia
def rExtend:V->List V->Hp->VK->Prop:=λx vs H Q=>∃l b xs zs,x=.ref l/\vs=[.ref b]/\H l=some (.lst xs)/\H b=some (.lst zs)/\xs.length+zs.length<=A5/\Q .non (upd H l (.lst (xs++zs)))
theorem qu9:MtM X "list.extend" rExtend:=by
 intro pins s σ H x vs v us Q I i rv h;obtain⟨l,b,xs,zs,rfl,rfl,d,g,hz,q⟩:=h;cases i;obtain⟨u,rfl,f⟩:=rv.one;cases f;obtain⟨z,its,n,r,hl,e⟩:=I.lstM d;obtain⟨z2,a,j,k,hl2,m⟩:=I.lstM g;have hsz:its.toArray.size+a.toArray.size<=A5:=by rw[Ai,Ai];lia
 have c:¬(!its.toArray.isEmpty && Bl.List.listTooLong (its.toArray.size+a.toArray.size))=true:=by rw[qlm hsz,Co];exact AF
 refine DM F.slot_list_extend ⟨_,e,Z⟩ F.entry_list_extend (F.args_list_extend_2 _ _)
  (AutoSeq1.list_extend_list_list_0 l its.toArray n b a.toArray j c (by rw[Ai];lia) (by lia)) ⟨e,m,?_⟩
 refine⟨.non,_,I.lset (its':=its++a) d e (by simp) (r.append k) ?_,Z,q⟩;rw[Af];lia
def rPop:V->List V->Hp->VK->Prop:=λx vs H Q=>∃l xs y,x=.ref l/\vs=[]/\H l=some (.lst xs)/\xs[xs.length-1]?=some y/\Q y (upd H l (.lst xs.dropLast))
theorem mt_pop:MtM X "list.pop" rPop:=by
 intro pins s σ H x vs v us Q I f rv h;obtain⟨l,xs,y,rfl,rfl,c,g,q⟩:=h;cases f;have b:=rv.zero;subst b;obtain⟨z,its,n,r,j,e⟩:=I.lstM c;obtain⟨u,i,d⟩:=r.get g;have a:its.toArray[its.toArray.size-1]?=some u:=by show its.toArray[its.length-1]?=some u;rw[<- DL,<- j];exact i
 refine DM F.slot_list_pop ⟨_,e,Z⟩ F.entry_list_pop (F.args_list_pop_1 _) (MeetsSeq.list_pop_last l its.toArray n u a (by rw[Ai];lia)) ⟨e,?_⟩;refine⟨y,_,I.lset (its':=its.dropLast) c e ?_ r.dropLast ?_,d,q⟩
 .show its.toArray.eraseIdxIfInBounds (its.toArray.size-1)=its.dropLast.toArray;rw[Ai,List.eraseIdxIfInBounds_toArray,qsa]
 .rw[CG];lia
def qw1:V->List V->Hp->VK->Prop:=λx vs H Q=>∃l xs,x=.ref l/\vs=[]/\H l=some (.lst xs)/\Q .non (upd H l (.lst xs.reverse))
theorem qsb:MtM X "list.reverse" qw1:=by intro pins s σ H x vs v us Q I c rv h;obtain⟨l,xs,rfl,rfl,b,q⟩:=h;cases c;have a:=rv.zero;subst a;obtain⟨z,its,n,r,hl,e⟩:=I.lstM b;refine DM F.slot_list_reverse ⟨_,e,Z⟩ F.entry_list_reverse (F.args_list_reverse_1 _) (AutoSeq1.list_reverse_list_0 l its.toArray n (by rw[Ai];lia)) ⟨e,?_⟩;refine⟨.non,_,I.lset (its':=its.reverse) b e (by simp) r.reverse ?_,Z,q⟩;rw[BO];lia
def rCat:R2:=λx y H Q=>∃l b xs zs,x=.ref l/\y=.ref b/\H l=some (.lst xs)/\H b=some (.lst zs)/\xs.length+zs.length<=A5/\∀p,H p=none->Q (.ref p) (upd H p (.lst (xs++zs)))
theorem qoy:OpR X (binaryOp .Add) rCat:=by
 intro pins s σ H x y v u Q I d f h;obtain⟨l,b,xs,zs,rfl,rfl,k,c,hz,q⟩:=h;cases d;cases f;obtain⟨z,its,n,r,hl,e⟩:=I.lstM k;obtain⟨z2,a,n2,g,hl2,i⟩:=I.lstM c;refine PySem.P.add_list e i ?_ (by rw[Ai,Ai];lia);have j:its.toArray++a.toArray=(its++a).toArray:=by simp
 rw[j];exact⟨.ref _,_,I.lnew (t':=s.toks) (r.append g) (by rw[Af];lia),Z,q _ I.fresh⟩
end
section
variable {prog:AJ}{w:World}{A:AT}{E:Value->Ad->Prop}{s:Ad}
end
section
variable {X:Cx}
end
end L2
namespace Att
open PySem PySem.W PySem.Calls PyProof.Rows
theorem qkr {P:Params}{h:Heap}:∀(c:List Int)(vs:List Value),WellAll P h vs (c.map WData.int)->IntsAre vs c:=by
 intro c
 induction c with
 |nil =>intro vs w;rw[List.map_nil]at w;cases w;exact .nil
 |cons n c ih =>
  intro vs w;rw[Bc]at w;cases w with|cons a b =>cases a;exact .cons _ _ (ih _ b)
theorem qva {l:OpenLaw}{n:Nat}(p:l.most=some n){P:Params}{h:Heap}{args:List WData}{e:List Value}
  (c:l.row.toRowW.claim.pre args=true)(j:WellAll P h e args) :
  ∃a vs b,e=[Bo a]/\args=[WData.list (b.map WData.int)]/\h.get? a=some {cls:=.type "list",data:=.seq vs.toArray}/\IntsAre vs b/\b.length<=n:=by
 have m:WShape.hasAll [] args [.list .int]=true:=(pre_splitW c).1;have k:l.pre.holds [] {args:=args}=true:=(pre_splitW c).2;obtain⟨d,r,rfl,u,o⟩:=hasAllW_cons m;obtain rfl:=hasAllW_nil o;obtain⟨xs,rfl,s⟩:=hasW_list u;obtain⟨b,rfl⟩:=items_int s;have i:b.length<=n:=by
  unfold OpenLaw.pre at k;have f:(WTm.not (.lt (.lit (.int (n:Int))) (.len (.arg 0)))).holds [] {args:=[.list (b.map .int)]}=true:=by have f:=(holds_andW k).1;rw[p]at f;exact f
  have g:=condW_of f (w_not (w_lt w_lit (w_len_list (w_arg Z))));rw[Ab]at g;refine Nat.le_of_not_lt λq=>?_;have t:(n:Int)<((b.length:Nat):Int):=by lia
  first
   | (rw[decide_eq_true t]at g;exact absurd g Ud)
   | (simp at g;lia)
 cases j with
 |cons w1 w2 =>
  cases w2;cases w1 with|list ho hall=>exact⟨_,_,b,Z,Z,ho,qkr b _ hall,i⟩
theorem qvb (l:OpenLaw)(args:List WData):l.row.toRowW.claim.post args (.bool true) args=true :=
 postW_of (r:=l.row.toRowW) (X:=(true == true))
  (show WShape.has [] (.bool true) .bool=true by first|rfl|decide|simp[WShape.has,WShape.arms,WShape.armsAll])
  (show (WTm.eq .res (.lit (.bool true))).value [] {args:=args,res:=some (.bool true),after:=args}=some (.bool (true == true)) from w_eq_bool (w_res Z) w_lit) rfl
theorem attach_call {l:OpenLaw}{n:Nat}{q:AJ}{c:List Str}{D:(Str->Option Value)->Heap->Prop}{z:World->Heap->Prop}{d:DefRec}
  (I:l.most=some n)(C:d.params.defaults=[])
  (call:∀(w:World)(t b:Ad)(mg u:Str->Option Value)(e:Addr)(o:Obj)(p h g:Value)(a:Addr)(vs:List Value)(k:List Int),
   Ground q c [] D w t mg u b.heap->z w b.heap ->
   b.heap.get? e=some o->o.data=.func (docDef d.name d.params d.body d.scope p h g)->b.heap.CodeRec h d.name->mg d.name=some (.ref e) ->
   b.heap.get? a=some {cls:=.type "list",data:=.seq vs.toArray}->IntsAre vs k->k.length<=n->b.gens=#[] ->
   codeAny (model l.prog w) callerA (.call (.ref e) ⟨[.ref a],[]⟩) (λr i=>r=.ok (.ret (.bool true))/\OldK b.heap i.heap/\i.os=b.os/\AllBare i.gens) b) :
  WalkO q c D z l.row.toRowW d [] (λf vs=>PySem.call f vs):=by
 intro w t b mg u G Y e o p h g L kV N M x B A E args vals as s hlay hrd y hlo;obtain rfl:L=.none:=Dflts.none B C;obtain rfl:kV=.none:=Dflts.noKw B;obtain⟨a,vs,k,rfl,rfl,v,j,m⟩:=qva I s y;refine enter_call (codeAny_mono (call w t b mg u e o p h g a vs k G Y N (fd_plain M) x A v j m E) λr i O=>?_);obtain⟨rfl,H,K,J⟩:=O;exact⟨.inl ⟨.bool true,.bool true,[],Z,λ_=>rfl,.bool true,qvb l _,λ_=>⟨Es,λ_ F=>(nomatch F)⟩⟩,H,K,J⟩
section
variable {prog:AJ}{w:World}{A:AT}{E:Value->Ad->Prop}{s:Ad}{K:Frag}
noncomputable def ledger (h:Heap)(L d:Addr):List (Addr×Obj):=(Aq h.objs.size).filterMap λa=>if a=L\/a=d then none else (h.get? a).map λo=>(a,o)
end
end Att
namespace L2
open PySem PySem.Spec PyProof.Rows
theorem qn2:∀{vs:List Value}{a:List Int},IntsAre vs a->Vals (a.map V.int) vs
 |_,_,.nil=>.nil
 |_,_,.cons n t h=>.cons ⟨t,Z⟩ (qn2 h)
end L2
namespace L2
open PySem PySem.Spec PyProof.Rows
abbrev KOf {K:Ag}{h:Heap}(_:K.In h):Ag:=K
end L2
/- THE LAST THEOREM (shape;LID,My.* are yours):
   My.Adr: a structure of the addresses that your layer names (classes,functions);My.Txt K t: a structure (Prop) of the equations over K;
   My.txt_mk:{K} {implicit addresses ..} (e1:nsIn K A6 "law"=some (some (.ref f))) (e2:K.lookup f=some ⟨oc,od,.func (fnOf "law" "law" params body scope dV kV doc pm an cdv ct),sl⟩) (e3:codeIn K cdv "law"=true) .. : ∃t,My.Txt K t
set_option maxRecDepth 100000 in
set_option maxHeartbeats 0 in
theorem PySem.Challenge.cw_LID_holds : PySem.Challenge.rw_LID.Holds:=by
 w_on;o_law;k_head;(case hw=>w_witness2)
 k_fill
 refine L2.walk_of (l:=PySem.Challenge.rw_LID) (n:=63) (k:=40) (x := "script") (CX:=λw=>..) (sp:=λ_=>My.sp_law) rfl Ud rfl ⟨Z,Ud,Ud⟩ (λw h Y=>PySem.W.kIn_of Y) ?F ?S ?C
 case F =>
  intro w mg g h e G d;have T:∃t,My.Txt (L2.KOf e) t:=by
   dsimp only[L2.KOf]                          -- K must stand as «<heap const> w.params» for k_is;refine' My.txt_mk ?e1 ?e2 ?e3 ..
   (case e1=>PySem.W.k_is)                    -- in the order: a name->its address->its object->its parts
   (case e2=>PySem.W.k_is)
   ..
  obtain⟨t,T⟩:=T;have f:=d.symm.trans (Bg e G T.law);cases f                                       -- g is the law's own address;exact⟨_,λs u=>.of_eq Z,λbase kb c=>My.law_fn T kb c⟩     -- if «.of_eq rfl» comes too early: refine' ⟨_,?b,λbase kb c=>My.law_fn T kb c⟩;exact λs u=>.of_eq rfl
 case S=>exact λw H a ns hl hO hS=>..
 case C=>exact ..
(the tactic k_is has no namespace: write k_is) -/
namespace L2
open PySem PySem.Spec PyProof.Rows
noncomputable def qak (s:Stmt)(j:Nat):Stmt:=match s with
 |.ClassDef _ _ _ body _ _ _ _ _ _ _=>body.getD j (.Pass ⟨0,0,0,0⟩)
 |_=>.Pass ⟨0,0,0,0⟩
noncomputable def qa9 (s:Stmt):Arguments:=match s with
 |.FunctionDef _ a _ _ _ _ _ _ _ _=>a
 |_=>{posonlyargs:=[],args:=[],vararg:=none,kwonlyargs:=[],kw_defaults:=[],kwarg:=none,defaults:=[]}
noncomputable def qaw (s:Stmt):List Stmt:=match s with
 |.FunctionDef _ _ b _ _ _ _ _ _ _=>b
 |_=>[]
noncomputable def qaa (s:Stmt):Scope:=match s with
 |.FunctionDef _ _ _ _ _ _ sc _ _ _=>sc
 |_=>{kind:=.function,names:=[],isGenerator:=false,isCoroutine:=false}
abbrev CX0:CXT:=λ_ _ _ _ _ _=>False
abbrev E0:XK:=λ_ _ _=>False
theorem qad {X:Cx}:qgb CX0 X E0:=λ_ _ _ _ _ _ _ h=>h.elim
structure Fun (K:Ag)(x qual:Str)(st:Stmt)(f:Addr)(fd:Au):Prop where
 ex:∃(oc:Value)(od:Option Addr)(kV doc pm:Value)(an:Option Addr)(cdv ct:Value)(osl:Array (Option Value)),
  fd=Bk x qual (qa9 st) (qaw st) (qaa st) .none kV doc pm an cdv ct/\K.lookup f=some ⟨oc,od,.func fd,osl⟩/\BE K cdv qual=true
 kp:Bs K (.ref f)=true
section
variable {P:AJ}{w:World}{K:Ag}{mg:Str->Option Value}{base:Heap}
theorem Fun.ok {x a:Str}{st:Stmt}{f:Addr}{fd:Au}{N ps:List Str}{k:Nat}{sp:Sp}(F:Fun K x a st f fd)(S:FnScope N ps (qaa st))(len:∀vs H Q E,sp vs H Q E->vs.length=ps.length)
  (c:∀(b:Value)(A:AT)(outer:List Env)(s:Ad)(H:Hp)(vs:List V)(Q:VK)(E:XK),Room k (A.deeper (envOfC a (qaa st) s.heap.objs.size f b))->sp vs H Q E ->
   ∃t,PSs (qp7 CX0 P w K mg base N a (qaa st) f b A outer s H E).nox (qaw st) t/\t {nx:=λ_ H'=>Q .non H',rt:=Q} (start N vs) H):FnOk P w K mg base CX0 (k+1) f fd ps sp:=by
 obtain⟨oc,od,kV,doc,pm,an,b,ct,osl,rfl,g,d⟩:=F.ex
 refine qwv g d S len λA outer s H vs Q E i e=>?_
 obtain⟨t,h,q⟩:=c b A outer s H vs Q E i e
 exact⟨t,h.nox,q⟩
theorem Fun.binds {x a:Str}{st:Stmt}{f:Addr}{fd:Au}{ps:List Str}(F:Fun K x a st f fd)
  (h:∀(kV c d:Value)(e:Option Addr)(b ct:Value)(us:List Value),us.length=ps.length->bindArgs (Bk x a (qa9 st) (qaw st) (qaa st) .none kV c d e b ct) ⟨us,[]⟩=pure (ps.zip us)):Binds K fd ps []:=by
 obtain⟨oc,od,kV,c,d,e,b,ct,osl,rfl,lk,hcd⟩:=F.ex;exact .all (h kV c d e b ct)
theorem qoz {x a:Str}{st:Stmt}{f:Addr}{j:Value}{i h:Option Addr}{e:Array (Option Value)}{kV d g b ct:Value}(l:K.lookup f=some ⟨j,i,.func (Bk x a (qa9 st) (qaw st) (qaa st) .none kV d g h b ct),e⟩)
  (c:BE K b a=true)(k:Bs K (.ref f)=true):Fun K x a st f (Bk x a (qa9 st) (qaw st) (qaa st) .none kV d g h b ct):=⟨⟨j,i,kV,d,g,h,b,ct,e,Z,l,c⟩,k⟩
end
theorem qb9 {A:AT}{k:Nat}(a:Room k A):A.units+1<cLine:=CZ (Nat.add_le_add_left (by decide:1<=64) _) a.units
theorem qn3 {n:Nat}(h:n<=1000):n<A5:=CZ h Ud
section
variable {X:Cx}
theorem pv (i:Nat){x:Str}{pos:Pos}(a:X.N[i]?=some x:=by rfl)(hv:Vis X.env.scope x:=by first|exact Ar rfl|exact DN (Ar rfl)|exact DN (DN rfl))(hd:(x == ("__debug__" : Str))=false:=by decide)
  (hcd:(x == ("__classdict__" : Str))=false:=by decide):PE X (.Name x pos) (tVar i):=pe_var a hv hd hcd
end
theorem qbs {A B:Prop}(h:B):if false=true then A else B:=by rw[if_neg AF];exact h
theorem qdo {A B:Prop}(h:A):if true=true then A else B:=by rw[if_pos Z];exact h
theorem qba {c A B:Prop}[Decidable c](b:c->A)(a:¬c->B):if c then A else B:=by
 by_cases h:c
 .rw[if_pos h];exact b h
 .rw[if_neg h];exact a h
theorem iteNS {c A B:Prop}[Decidable c](a:c)(h:B):if (!decide c)=true then A else B:=by rw[decide_eq_true a];exact qbs h
def Same (H H':Hp):Prop:=∀b o,H b=some o->H' b=some o
theorem Same.refl (H:Hp):Same H H:=λ_ _ h=>h
theorem Same.trans {H e d:Hp}(a:Same H e)(b:Same e d):Same H d:=λc o h=>b c o (a c o h)
theorem Same.free {H H':Hp}(e:Same H H'){l:Addr}(h:H' l=Option.none):H l=Option.none:=by
 cases q:H l with|none=>rfl|some o =>rw[e l o q]at h;cases h
theorem Same.seq {K:Ag}{H H':Hp}{a:Addr}{xs:List V}(e:Same H H')(h:SqL K H a xs):SqL K H' a xs:=by
 rcases h with (h|⟨o,h⟩)|h
 .exact .inl (.inl (e _ _ h))
 .exact .inl (.inr ⟨o,e _ _ h⟩)
 .exact .inr h
end L2
namespace L2
open PySem PySem.Spec PyProof.Rows
section
variable {κ:Type}[DecidableEq κ]
noncomputable def qbn (kvs:List (κ×V))(k:κ):Option V:=(kvs.find? λkv=>decide (kv.1=k)).map (·.2)
noncomputable def qc7 (kvs:List (κ×V))(k:κ)(v:V):List (κ×V) :=
 if (kvs.any λkv=>decide (kv.1=k))=true then kvs.map (λkv=>if kv.1=k then (kv.1,v) else kv) else kvs++[(k,v)]
theorem qca {p:κ×V}{r:List (κ×V)}{k:κ}(e:p.1=k):qbn (p::r) k=some p.2:=by simp[qbn,Cw,e]
theorem qb0 {p:κ×V}{r:List (κ×V)}{k:κ}(e:¬p.1=k):qbn (p::r) k=qbn r k:=by simp[qbn,Cw,e]
theorem qfc (k:κ):∀kvs:List (κ×V),(kvs.any λa=>decide (a.1=k))=(qbn kvs k).isSome
 | []=>rfl
 |p::r=>by
  rw[De];by_cases e:p.1=k
  .simp only[qca e,decide_eq_true e,Bool.true_or,Option.isSome_some]
  .rw[qb0 e,decide_eq_false e,DR];exact qfc k r
theorem qp9 (k j:κ)(y:V):∀kvs:List (κ×V),qbn (kvs.map λa=>if a.1=k then (a.1,y) else a) j=(qbn kvs j).map λx=>if j=k then y else x
 | []=>rfl
 |p::r=>by
  have b:=qp9 k j y r;rw[Bc];by_cases h:p.1=k
  .rw[if_pos h];by_cases e:p.1=j
   .rw[qca (p:=(p.1,y)) e,qca e,Dy,if_pos (e.symm.trans h)]
   .rw[qb0 (p:=(p.1,y)) e,qb0 e,b]
  .rw[if_neg h];by_cases e:p.1=j
   .rw[qca (p:=p) e,qca e,Dy,if_neg (λz=>h (e.trans z))]
   .rw[qb0 (p:=p) e,qb0 e,b]
theorem qn4 (k j:κ)(y:V):∀kvs:List (κ×V),qbn kvs k=none->qbn (kvs++[(k,y)]) j=if j=k then some y else qbn kvs j
 | [],_=>by
  by_cases e:k=j
  .rw[if_pos e.symm];exact qca (p:=(k,y)) e
  .rw[if_neg (λz=>e z.symm)];exact qb0 (p:=(k,y)) e
 |p::r,hn=>by
  rw[List.cons_append];have a:¬p.1=k:=λz=>by rw[qca z]at hn;cases hn
  rw[qb0 a]at hn;have b:=qn4 k j y r hn;by_cases e:p.1=j
  .rw[qca e,qca e,if_neg (λz=>a (e.trans z))]
  .rw[qb0 e,qb0 e,b]
theorem qln (kvs:List (κ×V))(k j:κ)(y:V):qbn (qc7 kvs k y) j=if j=k then some y else qbn kvs j:=by
 unfold qc7;by_cases a:(kvs.any λb=>decide (b.1=k))=true
 .rw[if_pos a,qp9];rw[qfc]at a;by_cases e:j=k
  .obtain⟨x,c⟩:=BV.mp a;rw[if_pos e,e,c,Dy,if_pos Z]
  .rw[if_neg e];cases qbn kvs j with|none=>rfl|some x=>rw[Dy,if_neg e]
 .rw[if_neg a];refine qn4 k j y kvs ?_;rw[qfc]at a;cases q:qbn kvs k with|none=>rfl|some x=>rw[q]at a;exact(a Z).elim
theorem qdk (kvs:List (κ×V))(k:κ)(v:V):(qc7 kvs k v).length<=kvs.length+1:=by
 unfold qc7;split
 .rw[Ab];lia
 .rw[Af,AD,Ea];lia
theorem qid {kvs:List (κ×V)}{k:κ}(v:V)(h:qbn kvs k=none):qc7 kvs k v=kvs++[(k,v)]:=by unfold qc7;rw[qfc,h];exact if_neg Ud
theorem RelO.isSome_eq {o:Option V}{u:Option Value}(r:RelO o u):o.isSome=u.isSome:=by
 cases o with
 |none=>cases u with
  |none=>rfl
  |some _=>exact(show False from r).elim
 |some _=>cases u with
  |none=>exact(show False from r).elim
  |some _=>rfl
theorem RelO.getD {o:Option V}{u:Option Value}{d:V}{d':Value}(r:RelO o u)(rd:RelV d d'):RelV (o.getD d) (u.getD d'):=by
 cases o with
 |none=>cases u with
  |none=>exact rd
  |some _=>exact(show False from r).elim
 |some _=>cases u with
  |none=>exact(show False from r).elim
  |some _=>exact r
theorem KV.val {kvs:List (κ×V)}{vs:List (κ×Value)}(r:KV kvs vs)(k:κ):RelO (qbn kvs k) (valueAt vs k):=by
 unfold KV at r
 induction r with
 |nil=>exact CK
 | @cons p q ps qs h t ih =>
  obtain⟨c,d⟩:=h;by_cases e:p.1=k
  .have a:q.1=k:=c.symm.trans e;have b:valueAt (q::qs) k=some q.2:=by simp[valueAt,Cw,a]
   rw[qca e,b];exact d
  .have a:¬q.1=k:=λz=>e (c.trans z);have b:valueAt (q::qs) k=valueAt qs k:=by simp[valueAt,Cw,a]
   rw[qb0 e,b];exact ih
theorem KV.any {kvs:List (κ×V)}{vs:List (κ×Value)}(r:KV kvs vs)(k:κ):(kvs.any λa=>decide (a.1=k))=vs.any λa=>decide (a.1=k):=by
 unfold KV at r
 induction r with
 |nil=>rfl
 |cons h t ih=>rw[De,De,ih,h.1]
theorem KV.repl {kvs:List (κ×V)}{vs:List (κ×Value)}(r:KV kvs vs)(k:κ){y:V}{u:Value}(d:RelV y u) :
  KV (kvs.map λa=>if a.1=k then (a.1,y) else a) (vs.map λa=>if a.1=k then (a.1,u) else a):=by
 unfold KV at r |-
 induction r with
 |nil=>exact .nil
 | @cons p q ps qs h t ih =>
  rw[Bc,Bc];refine .cons ?_ ih;obtain⟨b,c⟩:=h;by_cases e:p.1=k
  .rw[if_pos e,if_pos (b.symm.trans e)];exact⟨b,d⟩
  .rw[if_neg e,if_neg (λz=>e (b.trans z))];exact⟨b,c⟩
theorem KV.put {kvs:List (κ×V)}{vs:List (κ×Value)}(r:KV kvs vs)(k:κ){y:V}{u:Value}(a:RelV y u):KV (qc7 kvs k y) (stored vs k u):=by
 unfold qc7 stored;rw[r.any k];by_cases e:(vs.any λb=>decide (b.1=k))=true
 .rw[if_pos e,if_pos e];exact r.repl k a
 .rw[if_neg e,if_neg e];exact Dv.snoc r ⟨Z,a⟩
theorem KV.keys {kvs:List (κ×V)}{vs:List (κ×Value)}(r:KV kvs vs):kvs.map (·.1)=vs.map (·.1):=by
 unfold KV at r
 induction r with
 |nil=>rfl
 |cons h t ih=>rw[Bc,Bc,ih,h.1]
theorem KV.length {kvs:List (κ×V)}{vs:List (κ×Value)}(r:KV kvs vs):kvs.length=vs.length:=Dv.length r
end
theorem qlo {P:AJ}{w:World}{k:Key}{u:Value}(r:RelV (kV k) u):(qas P w).is k u=true:=by
 cases k with
 |inl i=>obtain⟨t,e⟩:=(show ∃t,u=Dm i t from r);subst e;exact qp2 P w i t
 |inr x=>obtain⟨t,e⟩:=(show ∃t,u=D7 x t from r);subst e;exact qp3 P w x t
theorem qn5 {P:AJ}{w:World}:∀{ks:List Key}{us:List Value},Vals (ks.map kV) us->ItemsAre (qas P w) ks us
 | [],_,r=>by rw[List.map_nil]at r;cases r;exact .nil
 |k::ks,_,r=>by
  rw[Bc]at r;cases r with|cons h t=>exact .cons (qlo h) (qn5 t)
abbrev KT (H:Hp):List (List Key×V)->List (List Key×Addr×Value)->Prop:=Dv λp q=>p.1=q.1/\H q.2.1=some (.tup (p.1.map kV))/\RelV p.2 q.2.2
theorem KT.val {H:Hp}{kvs:List (List Key×V)}{xs:List (List Key×Addr×Value)}(r:KT H kvs xs)(k:List Key):RelO (qbn kvs k) ((atKey xs k).map (·.2)):=by
 induction r with
 |nil=>exact CK
 | @cons p q ps qs h t ih =>
  obtain⟨c,_,d⟩:=h;by_cases e:p.1=k
  .have a:q.1=k:=c.symm.trans e;have b:atKey (q::qs) k=some q.2:=by simp[atKey,Cw,a]
   rw[qca e,b];exact d
  .have a:¬q.1=k:=λz=>e (c.trans z);have b:atKey (q::qs) k=atKey qs k:=by simp[atKey,Cw,a]
   rw[qb0 e,b];exact ih
theorem KT.repl {H:Hp}{kvs:List (List Key×V)}{xs:List (List Key×Addr×Value)}(r:KT H kvs xs)(k:List Key){y:V}{u:Value}(f:RelV y u) :
  KT H (kvs.map λb=>if b.1=k then (b.1,y) else b) (xs.map (putAt k u)):=by
 induction r with
 |nil=>exact .nil
 | @cons p q ps qs h t ih =>
  rw[Bc,Bc];refine .cons ?_ ih;obtain⟨a,c,d⟩:=h;unfold putAt;by_cases e:p.1=k
  .rw[if_pos e,if_pos (a.symm.trans e)];exact⟨a,c,f⟩
  .rw[if_neg e,if_neg (λz=>e (a.trans z))];exact⟨a,c,d⟩
theorem KT.put {H:Hp}{kvs:List (List Key×V)}{xs:List (List Key×Addr×Value)}(r:KT H kvs xs)(k:List Key){b:Addr}{y:V}{u:Value}(d:H b=some (.tup (k.map kV)))(a:RelV y u) :
  KT H (qc7 kvs k y) (storedH xs k b u):=by
 have e:(kvs.any λc=>decide (c.1=k))=(atKey xs k).isSome:=by rw[qfc,(r.val k).isSome_eq,Et]
 unfold qc7 storedH;rw[e];by_cases q:(atKey xs k).isSome=true
 .rw[if_pos q,if_pos q];exact r.repl k a
 .rw[if_neg q,if_neg q];exact Dv.snoc r ⟨Z,d,a⟩
theorem KT.keeps {H H':Hp}{kvs:List (List Key×V)}{xs:List (List Key×Addr×Value)}(r:KT H kvs xs)(a:∀b ys,H b=some (.tup ys)->H' b=some (.tup ys)):KT H' kvs xs :=
 Dv.mapP r λ_ _ z=>⟨z.1,a _ _ z.2.1,z.2.2⟩
section
variable {P:AJ}{w:World}{H:Hp}{h:Heap}{a:Addr}
theorem rd_of {u:HO}(ok:HOk P w H h)(e:Rd H a u):ObjOk P w H h a u:=e.ok ok
theorem qes {kvs:List (Key×V)}(ok:HOk P w H h)(e:Rd H a (.dK kvs)):kvs.length<=A5/\(a == sysModules)=false/\∃vs,KV kvs vs/\h.DictOf (qas P w) a vs :=
 show ObjOk P w H h a (.dK kvs) from rd_of ok e
theorem qw2 {kvs:List (Key×V)}(ok:HOk P w H h)(e:H a=some (.dK kvs)):kvs.length<=A5/\(a == sysModules)=false/\∃vs,KV kvs vs/\h.DictOf (qas P w) a vs:=qes ok (.inl e)
theorem qhq {ks:List Key}(ok:HOk P w H h)(e:H a=some (.tup (ks.map kV))):(tupleKind (qas P w)).is h ks a:=by obtain⟨_,its,r,o,d,b,n,c⟩:=(show ObjOk P w H h a (.tup (ks.map kV)) from ok a _ e);exact⟨o,its.toArray,n,d,b,c,by simpa using qn5 r⟩
theorem qkg {kvs:List (List Key×V)}(ok:HOk P w H h)(e:Rd H a (.dT kvs)):kvs.length<=A5/\(a == sysModules)=false /\
  ∃xs,KT H kvs xs/\h.DictOfH (tupleKind (qas P w)) a xs:=by
 obtain⟨z,y,xs,r,o,es,ep,g,c,f,d,i⟩:=(show ObjOk P w H h a (.dT kvs) from rd_of ok e);refine⟨z,y,xs,r,o,es,ep,g,c,f,d,λx b=>?_,i⟩;have all:∀{l:List (List Key×V)}{m:List (List Key×Addr×Value)},KT H l m->∀x∈m,(tupleKind (qas P w)).is h x.1 x.2.1:=by
  intro l m q
  induction q with
  |nil=>intro x b;exact nomatch b
  | @cons p q ps qs hq t ih =>
   intro x b;rcases Aw.mp b with e|b
   .subst e;exact qhq ok (by rw[<- hq.1];exact hq.2.1)
   .exact ih x b
 exact all r x b
theorem dt_of {kvs:List (List Key×V)}(ok:HOk P w H h)(e:H a=some (.dT kvs)):kvs.length<=A5/\(a == sysModules)=false /\
  ∃xs,KT H kvs xs/\h.DictOfH (tupleKind (qas P w)) a xs:=qkg ok (.inl e)
end
def DGet (H:Hp)(a:Addr)(y:V)(r:Option V):Prop :=
 (∃kvs k,Rd H a (.dK kvs)/\y=kV k/\r=qbn kvs k) \/ ∃kvs k b,Rd H a (.dT kvs)/\y=.ref b/\H b=some (.tup (k.map kV))/\r=qbn kvs k
def DPut (H:Hp)(a:Addr)(y v:V)(H':Hp):Prop :=
 (∃kvs k,H a=some (.dK kvs)/\y=kV k/\kvs.length<A5/\H'=upd H a (.dK (qc7 kvs k v))) \/
 ∃kvs k b,H a=some (.dT kvs)/\y=.ref b/\H b=some (.tup (k.map kV))/\kvs.length<A5/\H'=upd H a (.dT (qc7 kvs k v))
theorem DGet.k {H:Hp}{a:Addr}{kvs:List (Key×V)}{k:Key}(e:H a=some (.dK kvs)):DGet H a (kV k) (qbn kvs k):=.inl ⟨kvs,k,.inl e,Z,Z⟩
theorem DPut.k {H:Hp}{a:Addr}{kvs:List (Key×V)}{k:Key}{v:V}(e:H a=some (.dK kvs))(b:kvs.length<A5):DPut H a (kV k) v (upd H a (.dK (qc7 kvs k v))):=.inl ⟨kvs,k,e,Z,b,Z⟩
section
variable {X:Cx}{pins:List (Addr×Obj)}{σ:St}{H:Hp}{s:Ad}{a:Addr}{y v:V}{u r:Value}{o:Option V}{A:AT}{E:Value->Ad->Prop}
theorem Inv.big (I:Inv X pins σ H s):sysModules<s.heap.objs.size:=by have h:A6<s.heap.objs.size:=(I.mod.glob.keeps I.bk).lt;exact Nat.lt_trans Ud h
theorem qvc {Q:Value->Ad->Prop}(r:A.units+1<cLine)(I:Inv X pins σ H s)(g:DGet H a y (some v))(n:RelV y u)(h:∀c s',Inv X pins σ H s'->RelV v c->Q c s') :
  wpAny (model X.prog X.w) A (getItem (.ref a) u) Q E s:=by
 rcases g with ⟨kvs,k,e,j,l⟩|⟨kvs,k,b,e,j,x,l⟩
 .subst j;obtain⟨z,t,vs,f,i⟩:=qes I.hok e;obtain⟨c,m,d⟩:=RelO.some_of (v:=v) (o:=valueAt vs k) (by rw[l];exact f.val k);exact wpAny_getItem_of (qlo n) i.mapOf m (h c _ (I.tok _) d)
 .subst j;cases (show u=Bo b from n);obtain⟨z,t,xs,f,i⟩:=qkg I.hok e;obtain⟨c,m,d⟩:=RelO.some_of (v:=v) (o:=(atKey xs k).map (·.2)) (by rw[l];exact f.val k);obtain⟨p,B,q⟩:=Option.map_eq_some_iff.mp m;refine wpAny_getItem_heap (CA r) (qhq I.hok x) i B ?_;rw[q];exact h c _ (I.tok _) d
theorem d_in {Q:Value->Ad->Prop}(m:A.units+1<cLine)(I:Inv X pins σ H s)(g:DGet H a y o)(j:RelV y u)(h:∀s',Inv X pins σ H s'->Q (.bool o.isSome) s') :
  wpAny (model X.prog X.w) A (compareOp .In u (.ref a)) Q E s:=by
 rcases g with ⟨kvs,k,e,f,l⟩|⟨kvs,k,b,e,f,n,l⟩
 .subst f;obtain⟨z,i,vs,c,d⟩:=qes I.hok e;refine wpAny_in_of (qlo j) i d.mapOf ?_;rw[<- (c.val k).isSome_eq,<- l];exact h _ (I.tok _)
 .subst f;cases (show u=Bo b from j);obtain⟨z,i,xs,c,d⟩:=qkg I.hok e;refine wpAny_in_heap (CA m) (qhq I.hok n) i d ?_;have q:=(c.val k).isSome_eq;rw[Et]at q;rw[<- q,<- l];exact h _ (I.tok _)
theorem d_notIn {Q:Value->Ad->Prop}(m:A.units+1<cLine)(I:Inv X pins σ H s)(g:DGet H a y o)(j:RelV y u)(h:∀s',Inv X pins σ H s'->Q (.bool (!o.isSome)) s') :
  wpAny (model X.prog X.w) A (compareOp .NotIn u (.ref a)) Q E s:=by
 rcases g with ⟨kvs,k,e,f,l⟩|⟨kvs,k,b,e,f,n,l⟩
 .subst f;obtain⟨z,i,vs,c,d⟩:=qes I.hok e;refine wpAny_notIn_of (qlo j) i d.mapOf ?_;rw[<- (c.val k).isSome_eq,<- l];exact h _ (I.tok _)
 .subst f;cases (show u=Bo b from j);obtain⟨z,i,xs,c,d⟩:=qkg I.hok e;refine wpAny_notIn_heap (CA m) (qhq I.hok n) i d ?_;have q:=(c.val k).isSome_eq;rw[Et]at q;rw[<- q,<- l];exact h _ (I.tok _)
theorem qtp {h':Heap}{t':Nat}{c:HO}(I:Inv X pins σ H s)(i:Mut (H a))(g:CF a s.heap h')(f:∃q,h'.get? a=some q)(d:ObjOk X.prog X.w (upd H a c) h' a c) :
  Inv X pins σ (upd H a c) {s with heap:=h',toks:=t'} :=
 I.write (x:=a) (e:=a) i (.inl Z) (λb q h z=>(g.2 b h).trans z) f d
theorem dk_new {P:AJ}{w:World}{H':Hp}{h':Heap}{kvs:List (Key×V)}{vs:List (Key×Value)}(z:kvs.length<=A5)(d:(a == sysModules)=false)(b:KV kvs vs)(c:h'.DictOf (qas P w) a vs) :
  ObjOk P w H' h' a (.dK kvs):=⟨z,d,vs,b,c⟩
theorem qvd {H':Hp}{Q:Unit->Ad->Prop}(K:A.units+1<cLine)(I:Inv X pins σ H s)(g:DPut H a y v H')(x:RelV y u)(rv:RelV v r)(h:∀s',Inv X pins σ H' s'->Q () s') :
  wpAny (model X.prog X.w) A (setItem (.ref a) u r) Q E s:=by
 rcases g with ⟨kvs,k,e,m,l,p⟩|⟨kvs,k,b,e,m,B,l,p⟩
 .subst m p;obtain⟨z,n,vs,d,j⟩:=qw2 I.hok e;have hz:vs.length<=A5:=by rw[<- d.length];exact z
  have t:(qc7 kvs k v).length<=A5:=by have:=qdk kvs k v;lia
  refine wpAny_setItem_pairs (hsz:=hz) (qlo x) j λh' f o=>h _ ?_;have D:∃q,h'.get? a=some q:=let ⟨q,_,_,i,_⟩:=f;⟨q,i⟩;exact qtp I (by rw[e];exact CK) o D (dk_new t n (d.put k rv) f)
 .subst m p;cases (show u=Bo b from x);obtain⟨z,n,xs,d,j⟩:=dt_of I.hok e;have hz:xs.length<=A5:=by rw[<- Dv.length d];exact z
  have t:(qc7 kvs k v).length<=A5:=by have:=qdk kvs k v;lia
  refine wpAny_setItem_heap (hsz:=hz) (CA K) (qhq I.hok B) j λh' f o=>h _ ?_;obtain⟨q,es,ep,i,F,J,G,_,L⟩:=f;refine qtp I (by rw[e];exact CK) o ⟨q,i⟩ ⟨t,n,_,(d.put k B rv).keeps λc ys C=>?_,q,es,ep,i,F,J,G,L⟩;rw[qr (ne_of C e (λz=>nomatch z))];exact C
end
section
variable {X:Cx}{pins:List (Addr×Obj)}{σ:St}{H:Hp}{s:Ad}{a:Addr}{kvs:List (Key×V)}{k:Key}{u:Value}{A:AT}{E:Value->Ad->Prop}
end
def NoSl (i:Expr):Prop:=∀ov iv,subscripted i false ov iv=operate [ov,iv] (getItem ov iv)
theorem subD_of {prog:AJ}{w:World}{A:AT}{E:Value->Ad->Prop}{s:Ad}{env:Env}{b a:Expr}{pos:Pos}{T id:String}{Q:Value->Ad->Prop}
  (n:typeLookup (.type T) "__getitem__"=pure (some (.builtin id)))(m:NoSl a)
  (h:wpAny (model prog w) A (eval b env) (λo f=>wpAny (model prog w) A (eval a env) (λi d=>d.TypeIs o T/\wpAny (model prog w) A (getItem o i) Q E d) E f) E s) :
  wpAny (model prog w) A (eval (.Subscript b a pos) env) Q E s:=by
 refine Subscript_ (BY h (λo f k=>BY k (λi d e=>?_) λ_ _ x=>x) λ_ _ x=>x);obtain⟨g,e⟩:=e;unfold subscriptTail;refine An ?_;rw[getitemInPython_of_ne g.not_modules];refine An (wpAny_specialOf g n ?_);have c:wpAny (model prog w) A (subscripted a false o i) (λr j=>wpAny (model prog w) A (letTemporaryGo b o r >>= λ_=>pure r) Q E j) E d:=by rw[m o i];exact wpAny_operating (BY e (λr j l=>An (wpAny_letTemporaryGo (AQ l))) λ_ _ x=>x)
 first
  |exact AQ (An c)
  |exact An (AQ (An c))
  |exact An c
theorem qqa {X:Cx}{d:List (Addr×Obj)}{σ:St}{H:Hp}{s:Ad}{a:Addr}{y:V}{o:Option V}(I:Inv X d σ H s)(g:DGet H a y o):s.TypeIs (.ref a) "dict" := by
 rcases g with ⟨kvs,k,e,_,_⟩|⟨kvs,k,b,e,_,_,_⟩
 .obtain⟨_,_,vs,_,c⟩:=qes I.hok e;exact c.typeIs
 .obtain⟨_,_,xs,_,c⟩:=qkg I.hok e;exact c.typeIs
def tDGet (td ty:TE):TE:=λσ H Q=>td σ H λx H1=>ty σ H1 λy H2=>∃a v,x=.ref a/\DGet H2 a y (some v)/\Q v H2
def tDNotIn (ty td:TE):TE:=λσ H Q=>ty σ H λy H1=>td σ H1 λx H2=>∃a o,x=.ref a/\DGet H2 a y o/\Q (.bl (!o.isSome)) H2
def sDPut (td ty tv:TE):TS:=λD σ H=>tv σ H λv H1=>td σ H1 λx H2=>ty σ H2 λy H3=>∃a H4,x=.ref a/\DPut H3 a y v H4/\D.nx σ H4
section
variable {X:Cx}{o i e value:Expr}{pos pos' tpos:Pos}{td ty tv:TE}
theorem qb5 (q:X.A.units+1<cLine)(t:PE X o td)(f:PE X i ty)(w:NoSl i):PE X (.Subscript o i pos) (tDGet td ty):=by intro b s σ H Q I h;refine subD_of PySem.F.slot_dict_getitem.lookup w (thn (t b s σ H _ I h) λu B ⟨x,m,z,k,p⟩=>thn (f b B σ m _ z p) λiv s2 c=>?_);obtain⟨y,l,e,n,a,v,ex,g,r⟩:=c;subst ex;obtain rfl:u=Bo a:=k;exact⟨qqa e g,qvc q e g n λw' s3 j d=>⟨v,l,j,d,r⟩⟩
theorem qve (n:X.A.units+1<cLine)(d:PE X i ty)(q:PE X o td):PC X .NotIn i o (tDNotIn ty td):=by intro b s σ H Q I h;refine thn (d b s σ H _ I h) λiv v ⟨y,k,t,l,m⟩=>thn (q b v σ k _ t m) λu s2 c=>?_;obtain⟨x,j,r,f,a,ov,ex,g,p⟩:=c;subst ex;obtain rfl:u=Bo a:=f;exact d_notIn n r g l λs3 e=>⟨.bl (!ov.isSome),j,e,Z,p⟩
theorem qg4 (w:X.A.units+1<cLine)(B:PE X o td)(d:PE X i ty)(n:PE X value tv)(E:swapsWith value (some (.Subscript o i pos')) pos.line X.env=pure false) :
  PS X (.Assign [.Subscript o i pos'] value pos) (sDPut td ty tv):=by
 intro b s σ H D I h;refine wpAny_Assign_Subscript (thn (n b s σ H _ I h) λr J ⟨v,k,G,rv,q⟩=>thn (B b J σ k _ G q) λu t ⟨x,j,F,f,z⟩=>thn (d b t σ j _ F z) λiv s3 c=>?_) E;obtain⟨y,H3,e,l,a,m,ex,g,C⟩:=c;subst ex;obtain rfl:u=Bo a:=f;exact qvd w e g l rv λs4 p=>⟨σ,m,p,C⟩
end
theorem qw3 {P:AJ}{w:World}{H:Hp}(h:Heap)(a:sysModules<h.objs.size):ObjOk P w H (h.push {cls:=.type "dict",data:=.dict #[]}) h.objs.size (.dK []) :=
 ⟨AS _,beq_eq_false_iff_ne.mpr (B6 (AE a)),[],.nil,Heap.DictOf.new h⟩
def tDNewK:TE:=λ_ H Q=>∀p,H p=none->Q (.ref p) (upd H p (.dK []))
section
variable {X:Cx}{pos:Pos}
theorem qfd:PE X (.Dict [] [] pos) tDNewK:=λpins s σ H Q I h =>
 wpAny_Dict_empty ⟨.ref s.heap.objs.size,_,I.laid (a:=s.heap.objs.size) (o:=.dK []) (t':=s.toks) (λ_ _ q=>Av _ q) (Al _) (qw3 s.heap I.big),Z,h _ (I.hok.fresh (Al _))⟩
end
structure M1 (X:Cx)(o:Expr)(m:Str)(apos:Pos)(e:Expr)(cpos:Pos):Prop where
 base:attributeBase o m X.env (eval o X.env)=eval o X.env
 few:((backTo cpos (starEach [e] X.env)).all (λx=>!x.1) && (backToKw cpos (keywordEach [] X.env)).all (λx=>x.1.isSome)
  && decide (([e]:List Expr).length+([]:List Keyword).length+(if ([]:List Keyword).isEmpty then 0 else 1)<30))=true
 line:(apos.endLine == cpos.line)=true
 trees:backTo cpos (starEach [e] X.env)=[(false,eval e X.env)]
structure M2 (X:Cx)(o:Expr)(m:Str)(apos:Pos)(e f:Expr)(cpos:Pos):Prop where
 base:attributeBase o m X.env (eval o X.env)=eval o X.env
 few:((backTo cpos (starEach [e,f] X.env)).all (λx=>!x.1) && (backToKw cpos (keywordEach [] X.env)).all (λx=>x.1.isSome)
  && decide (([e,f]:List Expr).length+([]:List Keyword).length+(if ([]:List Keyword).isEmpty then 0 else 1)<30))=true
 line:(apos.endLine == cpos.line)=true
 trees:backTo cpos (starEach [e,f] X.env)=[(false,eval e X.env),(false,eval f X.env)]
def IsD (H:Hp)(a:Addr):Prop:=(∃kvs,Rd H a (.dK kvs)) \/ ∃kvs,Rd H a (.dT kvs)
theorem qw4 {X:Cx}{j:List (Addr×Obj)}{σ:St}{H:Hp}{s:Ad}{a:Addr}(I:Inv X j σ H s)(d:IsD H a) :
  s.TypeIs (.ref a) "dict" /\ (∀b,Bo a=.ref b->∃c,s.heap.get? b=some c/\c.dict=none)/\(a == sysModules)=false:=by
 rcases d with ⟨kvs,e⟩|⟨kvs,e⟩
 .obtain⟨_,h,vs,_,f⟩:=qes I.hok e;refine⟨f.typeIs,λb q=>?_,h⟩;cases q;obtain⟨c,_,_,i,g,_⟩:=f;exact⟨c,i,g.2.1⟩
 .obtain⟨_,h,xs,_,f⟩:=qkg I.hok e;refine⟨f.typeIs,λb q=>?_,h⟩;cases q;obtain⟨c,_,_,i,g,_⟩:=f;exact⟨c,i,g.2.1⟩
section
variable {X:Cx}{pins:List (Addr×Obj)}{σ:St}{H:Hp}{s:Ad}{a:Addr}{y d:V}{u r:Value}{o:Option V}{A:AT}{E:Value->Ad->Prop}
theorem d_get1 {Q:Value->Ad->Prop}(m:A.units+1<cLine)(I:Inv X pins σ H s)(g:DGet H a y o)(j:RelV y u)(h:∀w' s',Inv X pins σ H s'->RelV (o.getD .non) w'->Q w' s') :
  wpAny (model X.prog X.w) A (call (.builtin "dict.get") [.ref a,u]) Q E s:=by
 rcases g with ⟨kvs,k,e,f,l⟩|⟨kvs,k,b,e,f,n,l⟩
 .subst f;obtain⟨z,i,vs,d,c⟩:=qes I.hok e;refine Eh BU c.typeIs C4 (D9 _ _) (meets_dict_get (qas X.prog X.w) a (qlo j) i) ⟨_,c.mapOf,h _ _ (I.tok _) ?_⟩;rw[l];exact(d.val k).getD rfl
 .subst f;cases (show u=Bo b from j);obtain⟨z,i,xs,d,c⟩:=qkg I.hok e;refine Eh BU c.typeIs C4 (D9 _ _) (meetsH_dict_get (tupleKind (qas X.prog X.w)) a b i) ⟨CA m,k,xs,qhq I.hok n,c,h _ _ (I.tok _) ?_⟩;rw[l];exact(d.val k).getD rfl
theorem d_get2 {Q:Value->Ad->Prop}(n:A.units+1<cLine)(I:Inv X pins σ H s)(g:DGet H a y o)(m:RelV y u)(rd:RelV d r)(h:∀w' s',Inv X pins σ H s'->RelV (o.getD d) w'->Q w' s') :
  wpAny (model X.prog X.w) A (call (.builtin "dict.get") [.ref a,u,r]) Q E s:=by
 rcases g with ⟨kvs,k,e,i,l⟩|⟨kvs,k,b,e,i,p,l⟩
 .subst i;obtain⟨z,j,vs,f,c⟩:=qes I.hok e;refine Eh BU c.typeIs C4 (PySem.F.args_dict_get_3 _ _ _) (meets_dict_get_default (qas X.prog X.w) a (qlo m) j r) ⟨_,c.mapOf,h _ _ (I.tok _) ?_⟩;rw[l];exact(f.val k).getD rd
 .subst i;cases (show u=Bo b from m);obtain⟨z,j,xs,f,c⟩:=qkg I.hok e;refine Eh BU c.typeIs C4 (PySem.F.args_dict_get_3 _ _ _) (meetsH_dict_get_default (tupleKind (qas X.prog X.w)) a b j r) ⟨CA n,k,xs,qhq I.hok p,c,h _ _ (I.tok _) ?_⟩;rw[l];exact(f.val k).getD rd
end
def tDGet2 (td ty tx:TE):TE:=λσ H Q=>td σ H λx H1=>∃a,x=.ref a/\IsD H1 a/\ty σ H1 λy H2=>tx σ H2 λz H3=>∃o,DGet H3 a y o/\Q (o.getD z) H3
section
variable {X:Cx}{o e f:Expr}{apos cpos:Pos}{td ty tx:TE}
theorem qw5 (D:X.A.units+1<cLine)(G:PE X o td)(r:PE X e ty)(w:PE X f tx)(m:M2 X o "get" apos e f cpos):PE X (.Call (.Attribute o "get" apos) [e,f] [] cpos) (tDGet2 td ty tx):=by
 intro b s σ H Q I h;refine wpAny_Call_method m.base m.few m.line PySem.F.plainAttrs_dict BU PySem.F.type_dict_get (thn (G b s σ H _ I h) λu O c=>?_);obtain⟨x,p,j,l,a,ex,d,v⟩:=c;subst ex;obtain rfl:u=Bo a:=l;obtain⟨K,N,_⟩:=qw4 j d;refine⟨K,N,?_⟩;rw[m.trees];refine CY rfl (DU (CW (thn (r b O σ p _ j v) λiv C ⟨y,n,L,q,E⟩ =>
  CW (thn (w b C σ n _ L E) λfv s3 ⟨z,B,k,M,ov,g,J⟩=>DE ?_))))
 exact d_get2 D k g q M λw' s4 t i=>⟨_,B,t,i,J⟩
end
section
variable {X:Cx}{pins:List (Addr×Obj)}{σ:St}{H:Hp}{s:Ad}{a:Addr}{kvs:List (Key×V)}{A:AT}{E:Value->Ad->Prop}
end
section
variable {X:Cx}{pins:List (Addr×Obj)}{σ:St}{H:Hp}{s:Ad}{a:Addr}{y:V}{u:Value}{A:AT}{E:Value->Ad->Prop}
end
end L2
namespace L2
open PySem PySem.Spec PyProof.Rows
section
variable {κ:Type}[DecidableEq κ]
theorem valV_in {kvs:List (κ×V)}{k:κ}{v:V}(h:qbn kvs k=some v):k∈kvs.map (·.1):=by
 have q:(kvs.any λa=>decide (a.1=k))=true:=by rw[qfc,h];all_goals rfl
 obtain⟨p,b,e⟩:=CO.mp q;exact Bd.mpr ⟨p,b,of_decide_eq_true e⟩
end
end L2
namespace Add
open PySem PySem.Spec PyProof.Rows L2
theorem pos {j:Int}(h:0<j):0<j:=h
theorem mulL {i j:Int}(h : -1000000<i)(h':i<1000000):CMul i j:=.inl ⟨by lia,by lia⟩
section
variable {K:Ag}
theorem qqb:AY K (.type "int") (.type "int")=some true:=by kernel_rfl
theorem qo0:AY K (.type "int") (.type "bool")=some false:=by kernel_rfl
theorem qks:AY K (.type "tuple") (.type "tuple")=some true:=by kernel_rfl
end
section
variable {X:Cx}
theorem qie:qga X (.builtin "isinstance") (λxs H Q=>∃x t c b,xs=[x,.ty c]/\TyOf X.K H x t/\AY X.K t (.type c)=some b/\Q (.bl b) H):=by intro pins s σ H xs us Q I r h;obtain⟨x,t,c,b,rfl,ty,e,q⟩:=h;obtain⟨u,u',rfl,a,d⟩:=Vals.two r;cases (show u'=Dl c from d);exact qu7 I a ty e λtk=>⟨.bl b,H,I.tok tk,Z,q⟩
def qnd:List V->List V->Bool
 | [],[]=>true
 |x::xs,y::ys=>eqV x y && qnd xs ys
 |_,_=>false
def eAt (xs ys:List V)(j:Nat):Bool:=match xs[j]?,ys[j]? with
 |some x,some y=>eqV x y
 |_,_=>false
theorem qw6:∀(xs ys:List V),((Aq (min xs.length ys.length)).all (eAt xs ys) && (xs.length == ys.length))=qnd xs ys
 | [],[]=>rfl
 | [],_::_=>by simp[qnd]
 |_::_,[]=>by simp[qnd]
 |x::xs,y::ys=>by
  have a:=qw6 xs ys;have e:min (x::xs).length (y::ys).length=min xs.length ys.length+1:=by simp only[AD];lia
  rw[e,List.range_succ_eq_map,List.all_cons,List.all_map];have f:(eAt (x::xs) (y::ys) ∘ Nat.succ)=eAt xs ys:=by funext j;simp[eAt,Function.comp]
  have g:((x::xs).length == (y::ys).length)=(xs.length == ys.length):=by simp
  rw[f,g];show ((eqV x y && (Aq (min xs.length ys.length)).all (eAt xs ys)) && (xs.length == ys.length))=(eqV x y && qnd xs ys);rw[<- a,Bool.and_assoc]
theorem qw7 {A:AT}{s:Ad}{xs ys:List V}{us a:List Value}(r:Vals xs us)(f:Vals ys a)(o:xs.all qbv=true)(fy:ys.all qbv=true) :
  ∀j (h:j<us.toArray.size) (d:j<a.toArray.size),AZ A s us.toArray[j] a.toArray[j] (eAt xs ys j):=by
 intro j h d;have b:j<xs.length:=by rw[r.length];simpa using h
 have c:j<ys.length:=by rw[f.length];simpa using d
 obtain⟨u,g,l⟩:=r.get (i:=j) (x:=xs[j]) (by simp[b]);obtain⟨w,e,k⟩:=f.get (i:=j) (x:=ys[j]) (by simp[c]);have p:us.toArray[j]=u:=by
  have:us[j]?=some us[j]:=by simp
  rw[this]at g;simpa using AA g
 have n:a.toArray[j]=w:=by
  have:a[j]?=some a[j]:=by simp
  rw[this]at e;simpa using AA e
 have m:eAt xs ys j=eqV xs[j] ys[j]:=by simp[eAt,b,c]
 rw[p,n,m];exact qox l k (Cb.mp o _ (BI b)) (Cb.mp fy _ (BI c))
def rEqT (K:Ag)(f:Bool->Bool):R2:=λx y H Q=>∃a b xs ys,x=.ref a/\y=.ref b/\SqT K H a xs/\SqT K H b ys/\xs.all qbv=true/\ys.all qbv=true/\Q (.bl (f (qnd xs ys))) H
theorem op_neT (n:X.A.units<cLine):OpR X (compareOp .NotEq) (rEqT X.K λz=>!z):=by
 intro pins s σ H x y v u Q I g j h;obtain⟨a,b,xs,ys,rfl,rfl,k,i,o,fy,q⟩:=h;cases g;cases j;obtain⟨its,d,l,_⟩:=I.tuple k;obtain⟨c,f,m,_⟩:=I.tuple i;refine Ei.tuples (show s.heap.IsTuple a its.toArray from l) (show s.heap.IsTuple b c.toArray from m) n (qw7 d f o fy) _ _ _ _ ?_;have e:((Aq (min its.toArray.size c.toArray.size)).all (eAt xs ys) && (its.toArray.size == c.toArray.size))=qnd xs ys:=by rw[<- qw6 xs ys,Ai,Ai,d.length,f.length]
 rw[e];exact⟨.bl (!qnd xs ys),H,I,Z,q⟩
end
section
variable {X:Cx}{tg:Expr}
end
section
open PySem.SeqAt
open PySem.AutoSeq1 (wpAny_loadPart')
open PySem.MeetsSeq PySem.MeetsSeq2 PySem.MeetsSeq3
open HT
end
section
variable {prog:AJ}{w:World}{A:AT}{E:Value->Ad->Prop}{s:Ad}
end
section
variable {X:Cx}
end
theorem qhr {env:Env}:∀(names:List (Str×Bw))(b:List (Str×Addr)),(∀x∈names,x.2=.free->∃c,env.cells.lookup x.1=some c) ->
  (∀x c,b.lookup x=some c->env.cells.lookup x=some c) ->
  ∃f,(forIn names b λ(x:Str×Bw)(y:List (Str×Addr))=>if (x.2 == Br)=true then (do let a <- cellOf env x.1;pure (Dd ((x.1,a)::y))) else (pure (Dd y):Sem (ForInStep (List (Str×Addr)))))=pure f /\
   (∀x c,f.lookup x=some c->env.cells.lookup x=some c)/\(∀x,(b.lookup x).isSome=true->(f.lookup x).isSome=true)/\∀x∈names,x.2=.free->(f.lookup x.1).isSome=true
 | [],b,_,ha=>⟨b,Z,ha,λ_ h=>h,λ_ h=>absurd h (by simp)⟩
 | (n,k)::r,b,hf,ha=>by
  have v:∀x∈r,x.2=.free->∃c,env.cells.lookup x.1=some c:=λx g=>hf x (Ay _ g);rw[List.forIn_cons];cases l:(k == Br) with
  |false =>
   obtain⟨f,e,p,j,s⟩:=qhr r b v ha;refine⟨f,?_,p,j,λx g i=>?_⟩
   .simp only[l,El,if_false];exact e
   .rcases Aw.mp g with z|z
    .subst z;have A:k=.free:=i;subst A;exact absurd l Ud
    .exact s x z i
  |true =>
   have w:k=.free:=by simpa using l
   obtain⟨c,u⟩:=hf (n,k) Am w;have t:∀x d,((n,c)::b).lookup x=some d->env.cells.lookup x=some d:=λx d e=>by
    rw[BM]at e;cases q:x == n with
    |true =>
     rw[q]at e;have B:x=n:=by simpa using q
     subst B;rw[u];exact e
    |false=>rw[q]at e;exact ha x d e
   obtain⟨f,e,p,j,s⟩:=qhr r ((n,c)::b) v t;have m:((((n,c)::b).lookup n).isSome)=true:=by simp
   refine⟨f,?_,p,λx g=>j x ?_,λx g i=>?_⟩
   .have o:cellOf env n=pure c:=by unfold cellOf;rw[u]
    simp only[l,if_true,o];exact e
   .rw[BM];cases q:x == n with|true=>rfl|false=>exact g
   .rcases Aw.mp g with z|z
    .subst z;exact j n m
    .exact s x z i
theorem qhs {env:Env}{scope:Scope}(b:∀x∈scope.names,x.2=.free->∃c,env.cells.lookup x.1=some c) :
  ∃a,closureFor scope env=pure a/\(∀x c,a.lookup x=some c->env.cells.lookup x=some c)/\∀x∈scope.names,x.2=.free->(a.lookup x.1).isSome=true:=by
 obtain⟨a,e,d,_,g⟩:=qhr scope.names [] b (λx c h=>absurd h (by simp));refine⟨a,?_,d,g⟩;unfold closureFor;exact(congrArg (λz=>z >>= λf=>(pure f:Sem (List (Str×Addr)))) e).trans rfl
noncomputable def qlp (N:List Str)(js:List (Option Nat))(XN:List Str)(xs scope:Scope):Bool :=
 (scope.kind == .function) && (scope.names.all λx=>x.2 != .cell) && (scope.names.all λx=>x.2 != .local || (scope.names.lookup x.1 == some .local)) &&
 (scope.names.all λx=>x.2 != .free || (xs.names.lookup x.1 == some .cell || xs.names.lookup x.1 == some .free)) && (N.length == js.length) &&
 ((N.zip js).all λp=>match p.2 with|none=>true|some j=>(XN[j]? == some p.1) && (xs.names.lookup p.1 == some .cell || xs.names.lookup p.1 == some .free) && (scope.names.any λx=>x.1 == p.1 && x.2 == .free) && (scope.names.lookup p.1 == some .free))
structure CompNm (N:List Str)(js:List (Option Nat))(XN:List Str)(xs scope:Scope):Prop where
 kind:scope.kind=.function
 nocell:∀x∈scope.names,x.2 ≠ .cell
 names:∀x∈scope.names,x.2=.local->scope.names.lookup x.1=some .local
 clos:∀x∈scope.names,x.2=.free->(xs.names.lookup x.1=some .cell\/xs.names.lookup x.1=some .free)
 len:N.length=js.length
 free:∀(i j:Nat)(x:Str),N[i]?=some x->js[i]?=some (some j)->XN[j]?=some x/\(xs.names.lookup x=some .cell\/xs.names.lookup x=some .free)/\(x,Br)∈scope.names/\scope.names.lookup x=some .free
theorem qjf {N:List Str}{js:List (Option Nat)}{XN:List Str}{xs scope:Scope}(h:qlp N js XN xs scope=true):CompNm N js XN xs scope:=by
 unfold qlp at h;simp only[By,Cb,beq_iff_eq,Dz,bne_iff_ne,ne_eq]at h;obtain⟨⟨⟨⟨⟨t,g⟩,o⟩,k⟩,u⟩,n⟩:=h;refine⟨t,λx a=>g x a,λx a e=>?_,λx a e=>?_,u,λi j x s q=>?_⟩
 .rcases o x a with z|z
  .exact absurd e z
  .exact z
 .rcases k x a with z|z
  .exact absurd e z
  .exact z
 .have hz:(N.zip js)[i]?=some (x,some j):=by rw[List.getElem?_zip_eq_some];exact⟨s,q⟩
  have:=n _ (A4 hz);simp only[By,beq_iff_eq,Dz,CO]at this;obtain⟨⟨⟨l,v⟩,y,p,m,d⟩,r⟩:=this;refine⟨l,v,?_,r⟩;obtain⟨w,f⟩:=y;have c:w=x:=m;have b:f=.free:=d;subst c b;exact p
theorem qqc {env:Env}{scope:Scope}{x:Str}(h:scope.names.lookup x=some .free):(relabel scope env).names.lookup x=some .cell\/(relabel scope env).names.lookup x=some .free:=by
 have b:∀(l:List (Str×Bw)),l.lookup x=some .free->((l.map λ(n,k)=>if (k == Br && env.scope.kind == .function && env.kindOf n == some .cell) then (n,Bw.cell) else (n,k)).lookup x=some .cell\/(l.map λ(n,k)=>if (k == Br && env.scope.kind == .function && env.kindOf n == some .cell) then (n,Bw.cell) else (n,k)).lookup x=some .free):=by
  intro l
  induction l with
  |nil=>intro h;simp at h
  |cons y r ih =>
   obtain⟨n,k⟩:=y;intro h;rw[BM]at h;rw[Bc];cases q:x == n with
   |false =>
    rw[q]at h;have:=ih h;by_cases a:(k == Br && env.scope.kind == .function && env.kindOf n == some .cell)=true
    .simpa [a,BM,q] using this
    .simpa [a,BM,q] using this
   |true =>
    rw[q]at h;have h':k=.free:=AA h;subst h';by_cases a:(Br == Br && env.scope.kind == .function && env.kindOf n == some .cell)=true
    .exact .inl (by show CU x ((if (Br == Br && env.scope.kind == .function && env.kindOf n == some .cell)=true then (n,Bw.cell) else (n,Br))::_)=_;rw[if_pos a,BM,q])
    .exact .inr (by show CU x ((if (Br == Br && env.scope.kind == .function && env.kindOf n == some .cell)=true then (n,Bw.cell) else (n,Br))::_)=_;rw[if_neg a,BM,q])
 exact b scope.names h
noncomputable def qb6 (X:Cx)(N:List Str)(scope:Scope)(cl:List (Str×Addr))(C:Addr)(s:Ad)(H:Hp)(fp:List Addr)(E:Value->Ad->Prop):Cx :=
 {X with N:=N,s₀:=s,H₀:=H,env:=compEnvC scope cl C X.env,outer:=X.stack,ex:=fp,fn:=λ_=>false,pn:=[],xe:=E}
noncomputable def qdc (js:List (Option Nat))(σ:L2.St):L2.St:=js.map λj=>j.bind λk=>(σ[k]?).join
section
variable {prog:AJ}{w:World}{A:AT}{R:Result->Ad->Prop}{s:Ad}
theorem qsc {g a i:Expr}{d:List Expr}{scope:Scope}{pos:Pos}{it f:Value}{env:Env}(I:Nat->Ad->Prop)
  (k:∀n s,I n s->wpAny (model prog w) A (pyNext it) (λr l=>match r with
   |none=>R (.ok .next) l
   |some v=>wpAny (model prog w) A (letOwnedTupleGo a it v) (λ_ j=>wpAny (model prog w) A (assign a env v) (λ_ y =>
     wpAny (model prog w) A (forIn d true λc r=>if r=true then do let ok <- isTrue c env (eval c env);pure (Dd ok) else pure (Dd r)) (λok o =>
      if ok=true then wpAny (model prog w) A (eval g env) (λx t =>
       wpAny (model prog w) A (call (.builtin "list.append") [f,x]) (λ_ p=>∃m,m<n/\I m p) (notedBy (model prog w) A env λe b=>R (.error e) b) t) (notedBy (model prog w) A env λe b=>R (.error e) b) o
      else ∃m,m<n/\I m o) (notedBy (model prog w) A env λe b=>R (.error e) b) y) (notedBy (model prog w) A env λe b=>R (.error e) b) j)
     (notedBy (model prog w) A env λe b=>R (.error e) b) l) (notedBy (model prog w) A env λe b=>R (.error e) b) s)
  (n:Nat)(h:I n s):codeAny (model prog w) A (.compLoop (.ListComp g [⟨a,i,d,0⟩] scope pos) 0 it f env) R s:=by
 refine codeAny_loop rfl I (λn s B=>?_) n h;show wpAny _ A ((compTurn (.ListComp g [⟨a,i,d,0⟩] scope pos) 0 it f env).onRaise (λx=>do noteFrame x env;theTreesLotGoes x)) _ _ s;refine wpAny_noted ?_;rw[compTurn_list];refine An (Ew (An (BY (k n s B) (λr l u=>?_) λ_ _ h'=>h')));cases r with
 |none=>exact AQ u
 |some v =>
  refine An (BY u (λ_ j q=>?_) λ_ _ h'=>h');refine An (BY q (λ_ y C=>An (BY C (λok o z=>?_) λ_ _ h'=>h')) λ_ _ h'=>h');cases ok with|false=>exact AQ ⟨Z,z⟩|true =>exact An (An (BY z (λx t E=>An (BY E (λ_ p D=>AQ (AQ ⟨Z,D⟩)) λ_ _ h'=>h')) λ_ _ h'=>h'))
end
def PTs (X:Cx)(ifs:List Expr)(t:TT):Prop :=
 ∀(pins:List (Addr×Obj))(s:Ad)(σ:L2.St)(H:Hp)(Q:Bool->Hp->Prop),Inv X pins σ H s->t σ H Q ->
  wpAny (model X.prog X.w) X.A (forIn ifs true λc r=>if r=true then do let ok <- isTrue c X.env (eval c X.env);pure (Dd ok) else pure (Dd r)) (TP X pins σ Q) X.xe s
def qtq:TT:=λ_ H Q=>Q true H
theorem qfm {X:Cx}:PTs X [] qtq:=λ_ _ _ H _ I h=>wpAny_tests_nil ⟨H,I,h⟩
theorem qtr {X:Cx}{c:Expr}{t:TT}(b:PT X c t):PTs X [c] t:=λa s σ H Q I h=>wpAny_tests_one (b a s σ H Q I h)
def qjg (js:List (Option Nat))(g:TG)(tc:TT)(te:TE)(σ:L2.St)(Q:VK)(J:It)(H1:Hp):Prop:=∀p,H1 p=none ->
 ∃W:Nat->Nat->L2.St->Hp->Prop,(∃m,W 0 m (qdc js σ) (upd H1 p (.lst [])))/\∀i m σ' H',W i m σ' H' ->
  (J.stop i H'/\Q (.ref p) H')\/(J.go i H'/\∃N:L2.St->Hp->Prop,(∀σ2 H2,N σ2 H2->∃m',m'<m/\W (i+1) m' σ2 H2) /\
   ∀x H2,J.yld i H' x H2->g x σ' H2 λσ3 H3=>tc σ3 H3 λk H4=>if k=true then te σ3 H4 λv H5=>∃xs,H5 p=some (.lst xs)/\xs.length<A5/\N σ3 (upd H5 p (.lst (xs++[v]))) else N σ3 H4)
def tComp (js:List (Option Nat))(wi:TI)(g:TG)(tc:TT)(te:TE):TE:=λσ H Q=>wi σ H (qjg js g tc te σ Q)
section
variable {X:Cx}{N XN:List Str}{js:List (Option Nat)}{xs scope:Scope}{elt target iter:Expr}{ifs:List Expr}{pos:Pos}{g:TG}{tc:TT}{te:TE}
theorem qlq {I:List (Addr×Obj)}{σ:L2.St}{H2:Hp}{D:Ad}{it:Addr}{fp:List Addr}{tn:Nat->Heap->Prop}{J:It}{f:List (Str×Addr)}{Q:V->Hp->Prop}{RR:Value->Addr->Result->Ad->Prop}{E:Value->Ad->Prop}
  (O:X.calm=true)(hN:X.N=XN)(hS:X.env.scope=xs)(nm:CompNm N js XN xs scope)(F:∀x c,f.lookup x=some c->X.env.cells.lookup x=some c)(ak:∀x∈scope.names,x.2=.free->(f.lookup x.1).isSome=true)
  (hg:∀(f:List (Str×Addr))(C:Addr)(s:Ad)(H:Hp)(fp:List Addr)(E:Value->Ad->Prop),PG (qb6 X N scope f C s H fp E) target g)
  (ht:∀(f:List (Str×Addr))(C:Addr)(s:Ad)(H:Hp)(fp:List Addr)(E:Value->Ad->Prop),PTs (qb6 X N scope f C s H fp E) ifs tc)
  (he:∀(f:List (Str×Addr))(C:Addr)(s:Ad)(H:Hp)(fp:List Addr)(E:Value->Ad->Prop),PE (qb6 X N scope f C s H fp E) elt te)
  (I2:Inv X I σ H2 D)(T:Turn X.prog X.w X.K target J fp it tn)(aj:tn 0 D.heap)(f2:∀b∈fp,qi9 X I H2 b)
  (hW:qjg js g tc te σ Q J H2)
  (cg:∀(p C:Addr)(H':Hp)(G:Ad)(m:Str->Option Value),Inv X I σ H' G->G.heap.Ns C m->D.heap.objs.size<=C->H' C=none->Q (.ref p) H'->RR (.ref p) C (.ok .next) G) :
  wpAny (model X.prog X.w) X.A (newList []) (λav s₃=>wpAny (model X.prog X.w) X.A (newFunctionEnv scope X.env.globals f [] X.env.qual none .none (some X.env)) (λam s₄ =>
   codeAny (model X.prog X.w) X.A (.compStart (.ListComp elt [⟨target,iter,ifs,0⟩] scope pos) 0 (.ref it) av {am with scope:=relabel scope X.env}) (RR av am.locals) s₄) E s₃) E D:=by
 refine Di (wpAny_newFunctionEnv nm.nocell (by intro y hy;simp at hy) (λh₁ Y U=>?_) nm.kind)
 obtain⟨W,⟨m0,w0⟩,af⟩:=hW D.heap.objs.size I2.fresh
 have B:Inv X I σ (upd H2 D.heap.objs.size (.lst [])) {D with heap:=D.heap.push {cls:=.type "list",data:=.seq ([]:List Value).toArray} }:=I2.lnew (ys:=[]) (its:=[]) (t':=D.toks) .nil (AS _)
 generalize bu:({D with heap:=D.heap.push {cls:=.type "list",data:=.seq ([]:List Value).toArray} }:Ad)=s3 at B Y U |-
 have ar:s3.heap=D.heap.push {cls:=.type "list",data:=.seq ([]:List Value).toArray}:=by rw[<- bu]
 have z3:s3.heap.objs.size=D.heap.objs.size+1:=by rw[ar,DD]
 generalize hP:D.heap.objs.size=P at w0 af B z3 |-
 have aq:∀b∈fp,upd H2 P (.lst []) b=none:=λb a=>by
  have nb:b≠P:=by obtain⟨o,eo,_⟩:=T.obj 0 D.heap aj b a;have:=AC eo;rw[hP]at this;exact AE this
  rw[qr nb];exact(f2 b a).1
 generalize hH:upd H2 P (.lst [])=H3 at w0 B aq
 have R:∀b∈fp,b≠X.env.locals/\b∉X.fs/\(b∈X.ex\/X.s₀.heap.objs.size<=b)/\(∀x c,X.env.cells.lookup x=some c->c≠b)/\∀p∈X.pn++I,p.1≠b:=λb a=>(f2 b a).2
 have al:∀b∈fp,b<s3.heap.objs.size:=λb a=>by obtain⟨o,eo,_⟩:=T.obj 0 D.heap aj b a;have hl:=AC eo;exact A0 hl (by rw[z3,hP];exact C7 _)
 have au:tn 0 s3.heap:=T.keep 0 _ _ aj λb _ o e=>by rw[ar];exact Av _ e
 generalize hC:s3.heap.objs.size=C at Y U z3 al |-
 have M:∀b o,s3.heap.get? b=some o->h₁.get? b=some o:=λb o e=>U.extBut b o (by have hl:=AC e;rw[hC]at hl;exact AE hl) (Av _ e)
 have stk:∀b∈fp,b∉frs X.stack:=λb a z=>by
  rcases Aw.mp (B.stkSub b z) with q|q
  .exact(R b a).1 q
  .exact(R b a).2.1 q
 have ok:∀E',(qb6 X N scope f C s3 H3 fp E').Ok:=λE'=>{
  mod:=B.ok.mod
  kind:=nm.kind
  glob:=B.ok.glob
  blt:=B.ok.blt
  above:=Ce hC
  inj:=λx y c h1 h2=>B.ok.inj x y c (F x c h1) (F y c h2)
  has:=λx hx=>by
   have c8:(x,Br)∈scope.names:=by
    have hl:(relabel scope X.env).names.lookup x=some .cell\/(relabel scope X.env).names.lookup x=some .free:=hx;have cw:∀(l:List (Str×Bw)),(∀y∈l,y.2 ≠ .cell)->((l.map λ(n,k)=>if (k == Br && X.env.scope.kind == .function && X.env.kindOf n == some .cell) then (n,Bw.cell) else (n,k)).lookup x=some .cell\/(l.map λ(n,k)=>if (k == Br && X.env.scope.kind == .function && X.env.kindOf n == some .cell) then (n,Bw.cell) else (n,k)).lookup x=some .free)->(x,Br)∈l:=by
     intro l
     induction l with
     |nil=>intro _ h;rcases h with h|h <;>simp at h
     |cons y r ih =>
      obtain⟨n,k⟩:=y;intro hn h;have hr:=ih (λy hy=>hn y (Ay _ hy));have hk:k ≠ .cell:=hn (n,k) Am;rw[Bc]at h;cases q:x == n with
      |false =>
       refine Ay _ (hr ?_);by_cases O:(k == Br && X.env.scope.kind == .function && X.env.kindOf n == some .cell)=true
       .simpa [O,BM,q] using h
       .simpa [O,BM,q] using h
      |true =>
       have q':x=n:=by simpa using q
       subst q';by_cases O:(k == Br && X.env.scope.kind == .function && X.env.kindOf x == some .cell)=true
       .have:k=.free:=by
         simp only[By,beq_iff_eq]at O
         exact O.1.1
        subst this
        exact Am
       .have h':k=.cell\/k=.free:=by simpa [O,BM] using h
        rcases h' with z|z
        .exact absurd z hk
        .subst z;exact Am
    exact cw scope.names nm.nocell hl
   exact BV.mp (ak _ c8 Z)
  cab:=λ_ _ h _=>nomatch h
  hd:=B.ok.hd
  frames:=B.ok.frames
  stk:=.inl Z
  exf:=λb a=>⟨AE (al b a),λx c e=>(R b a).2.2.2.1 x c (F x c e)⟩
  bs:=B.bs
  bsz:=A9 B.ok.bsz B.sz
  noex:=λb o e a=>by
   rcases (R b a).2.2.1 with z|z
   .exact B.ok.noex b o e z
   .have h1:=AC e;have h2:=B.ok.bsz;exact absurd (A0 h1 (A9 h2 z)) (Cd _)
  exfs:=stk
  funs:=B.stack
  frf:=B.stkFree}
 have start:∀E',Inv (qb6 X N scope f C s3 H3 fp E') [] (qdc js σ) H3 {s3 with heap:=h₁,toks:=s3.toks+([]:List (Str×Value)).length}:=λE'=>{
  ok:=ok E'
  os:=rfl
  bare:=B.bare
  base:=Un.kept M
  loc:=by
   refine⟨_,Y,λi x v e1 e2 e3=>?_⟩;have S:((js[i]?).map λj=>j.bind λk=>(σ[k]?).join)=some (some v):=by
    have:=e2;unfold qdc at this
    rwa [Ah]at this
   cases hj:js[i]? with
   |none=>rw[hj]at S;cases S
   |some jo =>
    rw[hj]at S;cases jo with
    |none=>cases S
    |some j =>
     have L:(σ[j]?).join=some v:=AA S;have e4:σ[j]?=some (some v):=by
      cases q:σ[j]? with
      |none=>rw[q]at L;cases L
      |some o=>rw[q]at L;cases o with
       |none=>cases L
       |some y=>cases L;rfl
     obtain⟨a1,a2,a3,a4⟩:=nm.free i j x e1 hj;obtain⟨mX,hnX,lX⟩:=B.loc;have ay:Vis X.env.scope x:=by rw[hS];exact .inr a2
     obtain⟨u,ru,lu⟩:=lX j x v (by rw[hN];exact a1) e4 ay;refine⟨u,ru,?_⟩;rcases lu with ⟨k1,_⟩|⟨k1,c,e5,z⟩
     .exfalso;have ag:X.env.scope.names.lookup x=some .local:=k1;rw[hS]at ag;rcases a2 with q|q <;>rw[q]at ag <;>cases ag
     .obtain⟨c',e6⟩:=BV.mp (ak _ a3 Z);have e7:=F x c' e6;rw[e5]at e7;cases e7;refine .inr ⟨?_,c,e6,?_⟩
      .rcases e3 with q|q|q
       .exfalso;have:=qqc (env:=X.env) a4;rcases this with t|t <;>(have q':(relabel scope X.env).names.lookup x=some .local:=q;rw[t]at q';cases q')
       .exact .inl q
       .exact .inr q
      .obtain⟨o,ho,hd⟩:=z;exact⟨o,M c o ho,hd⟩
  cell:=λx c e=>by obtain⟨v,o,ho,hd⟩:=B.cell x c (F x c e);exact⟨v,o,M c o ho,hd⟩
  free:=B.hok.fresh (Ce hC)
  freeC:=λx c e=>B.freeC x c (F x c e)
  pin:=λp hp=>absurd (show p∈([]:List (Addr×Obj)) from hp) (by simp)
  hok:=B.hok.kept M
  len:=by unfold qdc;rw[Ab];exact nm.len.symm}
 have done:∀{E':Value->Ad->Prop}{σ':L2.St}{H':Hp}{G:Ad},Inv (qb6 X N scope f C s3 H3 fp E') [] σ' H' G->Q (.ref P) H'->RR (.ref P) C (.ok .next) G:=λ{E' σ' H' G} J' q=>by obtain⟨m',cp,_⟩:=J'.loc;refine cg P C H' G m' (B.call' (ch:=fp) J'.os J'.base J'.hok J'.bare λb a=>⟨(R b a).2.2.1,(R b a).1,(R b a).2.2.2.1,(R b a).2.2.2.2⟩) cp (by rw[z3,hP];exact C7 _) J'.free q
 have ah:∀s₄:Ad,s₄={s3 with heap:=h₁,toks:=s3.toks+([]:List (Str×Value)).length} ->
   codeAny (model X.prog X.w) X.A (.compLoop (.ListComp elt [⟨target,iter,ifs,0⟩] scope pos) 0 (.ref it) (.ref P) (compEnvC scope f C X.env)) (RR (.ref P) C) s₄:=by
  rintro s₄ rfl;generalize bi:notedBy (model X.prog X.w) X.A (compEnvC scope f C X.env) (λe G=>RR (.ref P) C (.error e) G)=NB;have ad:∀{H':Hp},(∀b∈fp,H' b=none)->∀b∈fp,qi9 (qb6 X N scope f C s3 H3 fp NB) [] H' b:=λhn b a =>
   ⟨hn b a,AE (al b a),stk b a,.inl a,λx c e=>(R b a).2.2.2.1 x c (F x c e),λp hp=>absurd (show p∈([]:List (Addr×Obj)) from hp) (by simp)⟩
  refine qsc (λn G=>∃i σ' H',Inv (qb6 X N scope f C s3 H3 fp NB) [] σ' H' G/\tn i G.heap/\(∀b∈fp,H' b=none)/\W i n σ' H') ?_ m0 ⟨0,qdc js σ,H3,start NB,T.keep 0 _ _ au λb _ o e=>M b o e,aq,w0⟩;rw[bi];rintro n s5 ⟨i,σ5,H5,I5,aw,ax,w5⟩;rcases af i n σ5 H5 w5 with ⟨stop,qn⟩|⟨go,Nx,bf,step⟩
  .refine thn (T.done (qb6 X N scope f C s3 H3 fp NB) Z Z Z O i [] s5 σ5 H5 NB I5 (ad ax) aw stop) λr s6 ⟨hr,I6⟩=>?_;subst hr;exact done I6 qn
  .refine thn (T.item (qb6 X N scope f C s3 H3 fp NB) Z Z Z O i [] s5 σ5 H5 NB I5 (ad ax) aw go) λr s6 ⟨u,hr,h6⟩=>?_;subst hr;refine thn h6 λ_ s7 ⟨x,H7,I7,r7,y7,ai,bq⟩=>?_;have cq:=I7.pinned (ad bq) (T.obj _ _ ai);have ae:∀{σ8:L2.St}{H8:Hp}{s8:Ad},Inv (qb6 X N scope f C s3 H3 fp NB) ([]++qja fp s7.heap) σ8 H8 s8->Nx σ8 H8->∃m,m<n/\∃i σ' H',Inv (qb6 X N scope f C s3 H3 fp NB) [] σ' H' s8/\tn i s8.heap/\(∀b∈fp,H' b=none)/\W i m σ' H':=λ{σ8 H8 s8} I8 n8=>by obtain⟨m',hm,w8⟩:=bf σ8 H8 n8;refine⟨m',hm,i+1,σ8,H8,I8.unpinned,T.keep _ _ _ ai λb a o e=>(I8.pin (b,o) (A3 _ (A3 _ (qd6 a e)))).1,λb a=>?_,w8⟩;obtain⟨o,e,d⟩:=T.obj _ _ ai b a;exact(I8.pin (b,o) (A3 _ (A3 _ (qd6 a e)))).2.1
   refine thn (hg f C s3 H3 fp NB _ s7 σ5 H7 x u _ cq r7 (step x H7 y7)) λ_ s8 ⟨σ8,H8,I8,q8⟩=>?_;refine thn (ht f C s3 H3 fp NB _ s8 σ8 H8 _ I8 q8) λk s9 ⟨H9,I9,q9⟩=>?_;cases k with
   |false =>rw[if_neg Ud]at q9 |-;exact ae I9 q9
   |true =>rw[if_pos Z]at q9 |-;refine thn (he f C s3 H3 fp NB _ s9 σ8 H9 _ I9 q9) λuv c9 ⟨v,ca,bz,bt,cr,c7,bw,bh⟩=>?_;refine thn (qau (X:=qb6 X N scope f C s3 H3 fp NB) _ c9 σ8 ca (.ref P) [v] (.ref P) [uv] (λ_ ao=>Nx σ8 ao) bz Z (.cons bt .nil) ⟨P,cr,v,Z,Z,c7,bw,bh⟩) λ_ s11 ⟨_,ao,bc,_,bj⟩=>?_;exact ae bc bj
 exact codeAny_compStart_list (ah _ Z) (T.self _ 0 _ _ _ (T.keep 0 _ _ au λb _ o e=>M b o e) (ah _ Z))
end
section
variable {X:Cx}{N XN:List Str}{js:List (Option Nat)}{xs scope:Scope}{elt target iter:Expr}{ifs:List Expr}{pos:Pos}{wi:TI}{g:TG}{tc:TT}{te:TE}
theorem qkh {a:List (Addr×Obj)}{σ σ':L2.St}{H H':Hp}{s f:Ad}{C:Addr}{h':Heap}(g:Inv X a σ H s)(J:Inv X a σ' H' f)(d:s.heap.objs.size<=C)(i:H' C=none)(j:CF C f.heap h'):Inv X a σ' H' {f with heap:=h'} :=
 J.turned (t':=f.toks) (it:=C) (λb o h e=>j.extBut b o h e) i (Cm (A0 g.lt d)) (.inr (A9 g.sz d))
  (λx c e=>by obtain⟨v,q⟩:=g.cell x c e;exact AE (A0 q.lt d)) λp k=>AE (A0 (AC (g.pin p k).1) d)
theorem qfn (t:X.calm=true)(B:X.N=XN)(c:X.env.scope=xs)(i:qlp N js XN xs scope=true)(n:PI X target iter wi)
  (y:∀(a:List (Str×Addr))(C:Addr)(s:Ad)(H:Hp)(fp:List Addr)(E:Value->Ad->Prop),PG (qb6 X N scope a C s H fp E) target g)
  (P:∀(a:List (Str×Addr))(C:Addr)(s:Ad)(H:Hp)(fp:List Addr)(E:Value->Ad->Prop),PTs (qb6 X N scope a C s H fp E) ifs tc)
  (z:∀(a:List (Str×Addr))(C:Addr)(s:Ad)(H:Hp)(fp:List Addr)(E:Value->Ad->Prop),PE (qb6 X N scope a C s H fp E) elt te)
  (O:∀x,foldedSetIterable iter X.env x=pure x:=by intro _;rfl):PE X (.ListComp elt [⟨target,iter,ifs,0⟩] scope pos) (tComp js wi g tc te):=by
 intro b s σ H Q I h;have nm:=qjf i;obtain⟨a,hcl,o,u⟩:=qhs (env:=X.env) (scope:=scope) λx L e=>I.ok.has x.1 (by
  rcases nm.clos x L e with q|q
  .exact .inl (by show X.env.scope.names.lookup _=_;rw[c];exact q)
  .exact .inr (by show X.env.scope.names.lookup _=_;rw[c];exact q))
 rw[eval_ListComp];refine wpAny_comprehension_free (use:=none) rfl O hcl nm.kind nm.names (thn (n b s σ H _ I h) λv s1 R=>thn R λitv s2 D=>?_);obtain⟨it,fp,tn,J,H2,e,k,T,l,G,M⟩:=D;subst e;refine qlq (RR:=λd C=>compPost (model X.prog X.w) X.A X.xe none (EP X b σ Q) d C) t B c nm o u y P z k T l G M λp C H' s' m r F K f q=>?_;exact⟨m,F,λh' j=>⟨.ref p,H',qkh k r K f j,Z,q⟩⟩
theorem qlr {i:Nat}{x:Str}{d j:Pos}(r:X.N.Nodup)(U:X.N[i]?=some x)(f:X.env.scope.names.lookup x=some .local)(hc:X.calm=true)(W:X.N=XN)(l:X.env.scope=xs)(P:qlp N js XN xs scope=true)(hi:PI X target iter wi)
  (hg:∀(c:List (Str×Addr))(C:Addr)(s:Ad)(H:Hp)(fp:List Addr)(E:Value->Ad->Prop),PG (qb6 X N scope c C s H fp E) target g)
  (ht:∀(c:List (Str×Addr))(C:Addr)(s:Ad)(H:Hp)(fp:List Addr)(E:Value->Ad->Prop),PTs (qb6 X N scope c C s H fp E) ifs tc)
  (he:∀(c:List (Str×Addr))(C:Addr)(s:Ad)(H:Hp)(fp:List Addr)(E:Value->Ad->Prop),PE (qb6 X N scope c C s H fp E) elt te)
  (R:swapsWith (.ListComp elt [⟨target,iter,ifs,0⟩] scope pos) (some (.Name x d)) j.line X.env=pure true:=by rfl)
  (hs:∀x,foldedSetIterable iter X.env x=pure x:=by intro _;rfl):PS X (.Assign [.Name x d] (.ListComp elt [⟨target,iter,ifs,0⟩] scope pos) j) (tAsg (tComp js wi g tc te) (qbq i)):=by
 intro a s σ H D I h;have nm:=qjf P;obtain⟨c,hcl,c1,c2⟩:=qhs (env:=X.env) (scope:=scope) λx hx e=>I.ok.has x.1 (by
  rcases nm.clos x hx e with q|q
  .exact .inl (by show X.env.scope.names.lookup _=_;rw[l];exact q)
  .exact .inr (by show X.env.scope.names.lookup _=_;rw[l];exact q))
 rw[exec_Assign_Name_used _ _ _ _ R];refine An (Ew (An ?_));show wpAny _ X.A (do let _ <- comprehension (.ListComp elt [⟨target,iter,ifs,0⟩] scope pos) scope X.env _ (newList []) false (eval iter X.env) (some (assign (.Name x d) X.env))) _ _ s;refine An (BY (wpAny_comprehension_free (use:=some (assign (.Name x d) X.env)) (Q:=λ_ b=>SP X a D .next b) Z hs hcl nm.kind nm.names
  (thn (hi a s σ H _ I h) λv s1 h1=>thn h1 λitv s2 h2=>?_)) (λ_ b hq=>AQ (AQ hq)) λ_ _ e=>e)
 obtain⟨it,fp,tn,J,H2,e,k,T,M,f2,Y⟩:=h2;subst e;refine qlq (Q:=λx H1=>qbq i x σ H1 D.nx) (RR:=λG C=>compPost (model X.prog X.w) X.A X.xe (some (assign (.Name x d) X.env)) (λ_ b=>SP X a D .next b) G C) hc W l nm c1 c2 hg ht he k T M f2 Y λp C H' b m O hn n L q=>?_;obtain⟨o,es,ep,ho,S,V⟩:=id hn;have Jp:Inv X (a++[(C,o)]) σ H' b:=O.pins_of λz hz=>(Az.mp hz).elim (λy=>O.pin z (A3 _ y)) λy=>by
  have e:z=(C,o):=by simpa using y
  subst e;exact⟨ho,L,Cm (A0 k.lt n),k.nofs n,λv z=>by rw[S]at z;cases z⟩
 refine thn (qaf (X:=X) (pos:=d) r U (.inl f) (.inr f) (a++[(C,o)]) b σ H' (.ref p) (.ref p) _ Jp Z q) λ_ s'' ⟨σ'',B,t,K⟩=>?_;have u:=t.pin (C,o) (A3 _ (A3 _ (by simp)));refine⟨m,⟨o,es,ep,u.1,S,V⟩,λh' F=>⟨σ'',B,qkh k t.unpinned n u.2.1 F,K⟩⟩
end
def qn6 (J:It)(H:Hp)(xs:List V):Prop:=∀H',Same H H'->(∀i x,xs[i]?=some x->J.go i H'/\∀y H2,J.yld i H' y H2->y=x/\H2=H')/\J.stop xs.length H'
theorem qd8 {K:Ag}{H:Hp}{a:Addr}{xs:List V}(h:SqL K H a xs):qn6 (Itl K a) H xs:=λH' e =>
 ⟨λi x b=>⟨⟨xs,x,e.seq h,b⟩,λy H2 c=>by obtain⟨d,f⟩:=c;have:=f xs (e.seq h);rw[b]at this;exact⟨(AA this).symm,d⟩⟩,⟨xs,e.seq h,Al _⟩⟩
theorem qet {H:Hp}{lo:Int}{n:Nat}:qn6 (Itr lo n) H ((Aq n).map λi=>V.int (lo+(i:Nat))):=λH' _ =>
 ⟨λi x a=>by
  rw[Ah]at a;cases q:(Aq n)[i]? with
  |none=>rw[q]at a;cases a
  |some j =>
   have c:i<n:=by obtain⟨f,_⟩:=Ac.mp q;simpa using f
   have e:j=i:=by obtain⟨_,d⟩:=Ac.mp q;simpa using d.symm
   rw[q]at a;subst e;exact⟨c,λy H2 b=>⟨b.2.trans (AA a),b.1⟩⟩,by show n<=_;simp⟩
theorem qg5 {js:List (Option Nat)}{g:TG}{k:TE}{J:It}{σ:L2.St}{H:Hp}{Q:VK}{xs:List V}(f:V->V)(c:L2.St->Prop)(F:qn6 J H xs)(hz:xs.length<=A5)(A:c (qdc js σ))
  (step:∀(x:V)(σ':L2.St)(H':Hp)(R:L2.St->VK),x∈xs->Same H H'->c σ'->(∀σ3,c σ3->R σ3 (f x) H')->g x σ' H' λσ3 h=>k σ3 h (R σ3))
  (B:∀(x:V)(σ':L2.St)(H':Hp)(R s:L2.St->Hp->Prop),(∀σ3 h,R σ3 h->s σ3 h)->g x σ' H' R->g x σ' H' s)
  (q:∀p,H p=none->Q (.ref p) (upd H p (.lst (xs.map f)))) :
  qjg js g qtq k σ Q J H:=by
 intro p t;have l:∀o,Same H (upd H p o):=λo b u e=>by rw[qr (qag e t)];exact e
 refine⟨λi m σ' H'=>m=xs.length-i/\i<=xs.length/\c σ'/\H'=upd H p (.lst ((xs.take i).map f)),⟨xs.length,by simp,AS _,A,by simp⟩,?_⟩;rintro i m σ' H' ⟨rfl,hi,C,rfl⟩;obtain⟨E,w⟩:=F _ (l (.lst ((xs.take i).map f)));by_cases d:i<xs.length
 .have ex:xs[i]?=some xs[i]:=by simp[d]
  obtain⟨G,y⟩:=E i _ ex;refine .inr ⟨G,λσ2 j=>c σ2/\j=upd H p (.lst ((xs.take (i+1)).map f)),λσ2 j ⟨a,b⟩=>⟨xs.length-(i+1),by lia,Z,d,a,b⟩,λx j D=>?_⟩;obtain⟨rfl,rfl⟩:=y x j D;refine B _ _ _ _ _ (λσ3 h z=>?_) (step xs[i] σ' _ (λσ3 v r=>∃ys,r p=some (.lst ys)/\ys.length<A5/\(c σ3/\upd r p (.lst (ys++[v]))=upd H p (.lst ((xs.take (i+1)).map f)))) (BI d) (l _) C λσ3 n=>?_)
  .exact z
  .refine⟨_,qk,?_,n,?_⟩
   .rw[Ab,Bj];lia
   .rw[qtj,B8,ex,Ax];rfl
 .have e:i=xs.length:=by lia
  subst e;refine .inl ⟨w,?_⟩;rw[Bz];exact q p t
theorem qeu {i:Nat}(x:V)(σ':L2.St)(H':Hp)(R a:L2.St->Hp->Prop)(h:∀σ3 H3,R σ3 H3->a σ3 H3)(z:qbq i x σ' H' R):qbq i x σ' H' a:=h _ _ z
section
variable {X:Cx}{tg:Expr}
end
section
variable {X:Cx}
theorem qw8 {a b}{es:List Expr}{env:Env}:starEach (.List a b::es) env=(false,eval (.List a b) env)::starEach es env:=by rw[starEach];intro e p' h;cases h
theorem zo {a b c}{es:List Expr}{env:Env}:starEach (.Tuple a b c::es) env=(false,eval (.Tuple a b c) env)::starEach es env:=by rw[starEach];intro e p' h;cases h
theorem qw9 {a b c d}{es:List Expr}{env:Env}:starEach (.ListComp a b c d::es) env=(false,eval (.ListComp a b c d) env)::starEach es env:=by rw[starEach];intro e p' h;cases h
theorem ql {a b c}{es:List Expr}{env:Env}:starEach (.Constant a b c::es) env=(false,eval (.Constant a b c) env)::starEach es env:=by rw[starEach];intro e p' h;cases h
theorem qe {a b}{es:List Expr}{env:Env}:starEach (.Name a b::es) env=(false,eval (.Name a b) env)::starEach es env:=by rw[starEach];intro e p' h;cases h
theorem zl {a b c d}{es:List Expr}{env:Env}:starEach (.Call a b c d::es) env=(false,eval (.Call a b c d) env)::starEach es env:=by rw[starEach];intro e p' h;cases h
theorem zm {a b c d}{es:List Expr}{env:Env}:starEach (.BinOp a b c d::es) env=(false,eval (.BinOp a b c d) env)::starEach es env:=by rw[starEach];intro e p' h;cases h
theorem qxa {a b c d}{es:List Expr}{env:Env}:starEach (.Compare a b c d::es) env=(false,eval (.Compare a b c d) env)::starEach es env:=by rw[starEach];intro e p' h;cases h
theorem zn {a b c}{es:List Expr}{env:Env}:starEach (.Subscript a b c::es) env=(false,eval (.Subscript a b c) env)::starEach es env:=by rw[starEach];intro e p' h;cases h
theorem qao {a b c}{es:List Expr}{env:Env}:starEach (.Attribute a b c::es) env=(false,eval (.Attribute a b c) env)::starEach es env:=by rw[starEach];intro e p' h;cases h
theorem qxb {a b c d}{es:List Expr}{env:Env}:starEach (.IfExp a b c d::es) env=(false,eval (.IfExp a b c d) env)::starEach es env:=by rw[starEach];intro e p' h;cases h
end
section
variable {K:Ag}
theorem qqd:AY K (.type "str") (.type "str")=some true:=by kernel_rfl
end
section
variable {prog:AJ}{w:World}{A:AT}{E:Value->Ad->Prop}{h:Heap}{g:Array Ez}{d:Drawn}{t:Nat}{os:OsState}
variable {nm q:Str}{C N:Addr}{bs bm bmB:List Value}{hdct:Bool}{sn:List Str}{sub:List Value}{ab:Bool}{col:Option Bool}{dd:Option Addr}{k0 k1 k2 k3 k5:Option Value}{B Bn newId nid initId inN:String}{bmN:List Value}
end
section
open PySem.W
variable {prog:AJ}{w:World}{A:AT}{E:Value->Ad->Prop}{s:Ad}{K:Frag}{x C:Addr}{ox:Obj}{od:Option Obj}{name:Str}{expr:Bool}
end
section
open PySem.W
variable {prog:AJ}{w:World}{A:AT}{E:Value->Ad->Prop}{s:Ad}{K:Frag}{x C:Addr}{ox:Obj}{od:Option Obj}{name:Str}{expr:Bool}
end
section
open PySem.W
variable {prog:AJ}{w:World}{A:AT}{E:Value->Ad->Prop}{s:Ad}{K:Frag}{x C:Addr}{o:Obj}{name:Str}{v:Value}
end
section
variable {prog:AJ}{w:World}{A:AT}{E:Value->Ad->Prop}{K:Ag}{C fI:Addr}{s:Ad}{qcd:List Value}
end
section
variable {P:AJ}{w:World}{H:Hp}{h:Heap}{x C dx:Addr}{od:Option Addr}{fr:Bool}{fs:List (Str×V)}
end
section
variable {X:Cx}{pins:List (Addr×Obj)}{σ:L2.St}{H:Hp}{s:Ad}{A:AT}{E:Value->Ad->Prop}
variable {CX:CXT}{k:Nat}{f:Addr}{fd:Au}{ps:List Str}{sp:Sp}{ds:List Value}{dvs:List V}{EX:XK}
end
section
variable {X:Cx}{pins:List (Addr×Obj)}{σ:L2.St}{H:Hp}{s:Ad}{E:Value->Ad->Prop}
end
section
variable {X:Cx}
theorem qqe:∀{x:V},qbv x=true->eqV x x=true
 |.non,_=>rfl
 |.bl b,_=>by cases b <;>rfl
 |.int i,_=>by simp[eqV]
 |.str y,_=>by simp[eqV]
 |.byt _,h=>by simp[qbv]at h
 |.flt _,h=>by simp[qbv]at h
 |.ref _,h=>by simp[qbv]at h
 |.ty _,h=>by simp[qbv]at h
end
noncomputable def xNo (K:Ag)(C:Addr)(ns:List Str):Bool:=ns.all λn=>Bi K (.ref C) n == some none
theorem qp {K:Ag}{C:Addr}{a:List Str}{n:Str}(h:xNo K C a=true)(m:n∈a):Bi K (.ref C) n=some none:=beq_iff_eq.mp (Cb.mp h n m)
structure MethAt (K:Ag)(x qual:Str)(st:Stmt)(ps:List Str)(f:Addr)(fd:Au):Prop where
 fn:Fun K x qual st f fd
 bd:Binds K fd ps []
 ty:C9 K (.ref f)=some (.type "function")
section
variable {X:Cx}{K:Ag}
theorem qo1 {e:Expr}{f:Str}{pos:Pos}{a:TE}(d:X.K=K)(b:PE X e a)(c:attributeBase e f X.env (eval e X.env)=eval e X.env):PE X (.Attribute e f pos) (tFld K a f):=d ▸ qac b c
end
section
variable {M:Model}{A:AT}{E:Value->Ad->Prop}{s:Ad}{base:Heap}{env:Env}{outer:List Env}{L x C:Addr}{od:Option Addr}{vs:Array Value}{sl:Array (Option Value)}
end
section
variable {X:Cx}{pins:List (Addr×Obj)}{σ:L2.St}{H:Hp}{s:Ad}{E:Value->Ad->Prop}{x C:Addr}{od:Option Addr}
end
section
variable {P:AJ}{w:World}{K:Ag}{mg:Str->Option Value}{base:Heap}
end
section
variable {X:Cx}{k:Nat}{f C:Addr}{fd:Au}{ps:List Str}{sp:Sp}{dvs:List V}{ds:List Value}{EX:L2.St->XK}{x m:Str}{p pos apos:Pos}{e o:Expr}{es:List Expr}{ta:TE}{t:TA}
end
abbrev _root_.L2.Cx.tr (X:Cx)(pins:List (Addr×Obj))(W:Value->Ad->Prop):Cx:={X with pn:=X.pn++pins,xe:=W}
section
variable {X:Cx}{pins pins':List (Addr×Obj)}{σ:L2.St}{H:Hp}{s:Ad}{W:Value->Ad->Prop}{e:Value}
end
abbrev TH:=Ends->L2.St->Addr->Addr->Option Addr->Hp->Prop
section
variable {X:Cx}{pins:List (Addr×Obj)}{σ:L2.St}{H:Hp}{s:Ad}{E:Value->Ad->Prop}
end
def PC (X:Cx)(t:Expr)(c:Value):Prop:=∀(e:Value)(E:Value->Ad->Prop)(pins:List (Addr×Obj))(s:Ad)(σ:L2.St)(H:Hp)(Q:Value->Ad->Prop),Inv X pins σ H s->Q c s->wpAny (model X.prog X.w) (X.A.mark (some e)) (eval t X.env) Q E s
section
variable {X:Cx}{t:Expr}{b₀:Stmt}{body:List Stmt}{pos:Pos}{qcd:List ExceptHandler}{c:Value}{ts:Addr->TS}{tr:TH}
end
section
variable {X:Cx}
theorem qxc {e:Expr}:PE X e λ_ _ _=>False:=λ_ _ _ _ _ _ h=>h.elim
end
noncomputable abbrev TJ:=Str->TE
section
variable {X:Cx}{e:Expr}{es:List Expr}{te:TE}{tj:TJ}{pos:Pos}
end
open Builtin Builtin.Str
section
variable {X:Cx}
end
end Add
namespace Add
open PySem PySem.Spec PyProof.Rows L2
section
variable {K:Ag}{C f:Addr}{m:Str}
noncomputable def qne (K:Ag)(C:Addr):Bool:=Dn K C Be && DC K C && Ep K C && (Bi K (.ref C) "__setattr__" == some (some (.builtin "object.__setattr__")))
theorem qgd (h:qne K C=true):Cls K C:=by unfold qne at h;simp only[By,beq_iff_eq]at h;obtain⟨⟨⟨d,a⟩,c⟩,b⟩:=h;exact⟨d,a,c,b⟩
noncomputable def mkB (K:Ag)(C f:Addr):Bool:=PySem.W.makesIn K C && (Bi K (.ref C) "__init__" == some (some (.ref f))) && Eg K (.ref f) && Bs K (.ref C)
theorem qki (h:mkB K C f=true):Mk K C f:=by unfold mkB at h;simp only[By,beq_iff_eq]at h;obtain⟨⟨⟨d,a⟩,c⟩,b⟩:=h;exact⟨d,a,c,b⟩
noncomputable def qax (K:Ag)(C:Addr)(m:Str)(f:Addr):Bool:=(Bi K (.ref C) m == some (some (.ref f))) && Eg K (.ref f) && Bs K (.ref f)
theorem qaj (h:qax K C m f=true):Meth K C m f:=by unfold qax at h;simp only[By,beq_iff_eq]at h;obtain⟨⟨c,a⟩,b⟩:=h;exact⟨c,a,b⟩
end
open Builtin Builtin.Str
section
variable {X:Cx}
end
end Add
namespace Add
open PySem PySem.Spec PyProof.Rows L2
open Builtin Builtin.Str
end Add
namespace Add
open PySem PySem.Spec PyProof.Rows L2
theorem qan {H H':Hp}{p:Addr}{o:HO}(s:Same H H')(n:H p=none):Same H (upd H' p o):=λb u e=>by rw[qr (qag e n)];exact s _ _ e
theorem qn7 {js:List (Option Nat)}{g:TG}{s:TE}{J:It}{σ:L2.St}{H:Hp}{Q:VK}{xs:List V}(f:V->V)(h:L2.St->Prop)(F:qn6 J H xs)(hz:xs.length<=A5)(B:h (qdc js σ))
  (step:∀(x:V)(σ':L2.St)(H':Hp)(R:L2.St->VK),x∈xs->Same H H'->h σ'->(∀σ3 d,h σ3->Same H' d->R σ3 (f x) d)->g x σ' H' λσ3 l=>s σ3 l (R σ3))
  (C:∀(x:V)(σ':L2.St)(H':Hp)(R w:L2.St->Hp->Prop),(∀σ3 l,R σ3 l->w σ3 l)->g x σ' H' R->g x σ' H' w)
  (u:∀p H',H p=none->Same H H'->H' p=some (.lst (xs.map f))->Q (.ref p) H') :
  qjg js g qtq s σ Q J H:=by
 intro p q;refine⟨λi m σ' H'=>m=xs.length-i/\i<=xs.length/\h σ'/\Same H H'/\H' p=some (.lst ((xs.take i).map f)),⟨xs.length,by simp,AS _,B,qan (Same.refl H) q,by rw[qk];rfl⟩,?_⟩;rintro i m σ' H' ⟨rfl,hi,D,n,o⟩;obtain⟨G,y⟩:=F _ n;by_cases j:i<xs.length
 .have ex:xs[i]?=some xs[i]:=by simp[j]
  obtain⟨I,A⟩:=G i _ ex;refine .inr ⟨I,λσ2 k=>h σ2/\Same H k/\k p=some (.lst ((xs.take (i+1)).map f)),λσ2 k ⟨a,b,c⟩=>⟨xs.length-(i+1),by lia,Z,j,a,b,c⟩,λx k E=>?_⟩;obtain⟨rfl,rfl⟩:=A x k E;refine C _ _ _ _ _ (λσ3 l z=>?_) (step xs[i] σ' _ (λσ3 v d=>∃ys,d p=some (.lst ys)/\ys.length<A5/\(h σ3/\Same H (upd d p (.lst (ys++[v])))/\upd d p (.lst (ys++[v])) p=some (.lst ((xs.take (i+1)).map f)))) (BI j) n D λσ3 d t r=>?_)
  .exact z
  .refine⟨_,r _ _ o,?_,t,qan (n.trans r) q,?_⟩
   .rw[Ab,Bj];lia
   .rw[qk,B8,ex,Ax];rfl
 .have e:i=xs.length:=by lia
  subst e;refine .inl ⟨y,?_⟩;rw[Bz]at o;exact u p _ q n o
theorem qn8 {js:List (Option Nat)}{g:TG}{y:TT}{q:TE}{J:It}{σ:L2.St}{H:Hp}{Q:VK}{xs:List V}(b:V->Bool)(f:V->V)(c:L2.St->Prop)(F:qn6 J H xs)(hz:xs.length<=A5)(E:c (qdc js σ))
  (step:∀(x:V)(σ':L2.St)(H':Hp)(N:L2.St->Hp->Prop)(R:L2.St->VK),x∈xs->Same H H'->c σ'->(∀σ3,c σ3->b x=false->N σ3 H')->(∀σ3,c σ3->b x=true->R σ3 (f x) H') ->
   g x σ' H' λσ3 l=>y σ3 l λk s=>if k=true then q σ3 s (R σ3) else N σ3 s)
  (I:∀(x:V)(σ':L2.St)(H':Hp)(R A:L2.St->Hp->Prop),(∀σ3 l,R σ3 l->A σ3 l)->g x σ' H' R->g x σ' H' A)
  (t:∀p,H p=none->Q (.ref p) (upd H p (.lst ((xs.filter b).map f)))) :
  qjg js g y q σ Q J H:=by
 intro p B;have r:∀o,Same H (upd H p o):=λo=>qan (Same.refl H) B;have M:∀i,((xs.take i).filter b).length<=i:=λi=>A9 (Df b (xs.take i)) (by rw[Bj];lia);refine⟨λi m σ' H'=>m=xs.length-i/\i<=xs.length/\c σ'/\H'=upd H p (.lst (((xs.take i).filter b).map f)),⟨xs.length,by simp,AS _,E,by simp⟩,?_⟩;rintro i m σ' H' ⟨rfl,hi,G,rfl⟩;obtain⟨L,C⟩:=F _ (r (.lst (((xs.take i).filter b).map f)));by_cases h:i<xs.length
 .have ex:xs[i]?=some xs[i]:=by simp[h]
  obtain⟨O,D⟩:=L i _ ex;have u:(xs.take (i+1)).filter b=(xs.take i).filter b++(if b xs[i]=true then [xs[i]] else []):=by
   rw[B8,ex,Ck]
   congr 1
   show List.filter b [xs[i]]=_;rw[DO];rfl
  refine .inr ⟨O,λσ2 d=>c σ2/\d=upd H p (.lst (((xs.take (i+1)).filter b).map f)),λσ2 d ⟨a,b⟩=>⟨xs.length-(i+1),by lia,Z,h,a,b⟩,λx d K=>?_⟩;obtain⟨rfl,rfl⟩:=D x d K;refine I _ _ _ _ _ (λσ3 l z=>?_) (step xs[i] σ' _ (λσ2 d=>c σ2/\d=upd H p (.lst (((xs.take (i+1)).filter b).map f))) (λσ3 v w=>∃ys,w p=some (.lst ys)/\ys.length<A5/\(c σ3/\upd w p (.lst (ys++[v]))=upd H p (.lst (((xs.take (i+1)).filter b).map f)))) (BI h) (r _) G (λσ3 j n=>?_) λσ3 j n=>?_)
  .exact z
  .refine⟨j,?_⟩;rw[u,n];simp
  .refine⟨_,qk,?_,j,?_⟩
   .rw[Ab];have:=M i;lia
   .rw[qtj,u,n,if_pos Z,Ax];rfl
 .have e:i=xs.length:=by lia
  subst e;refine .inl ⟨C,?_⟩;rw[Bz];exact t p B
end Add
namespace Wri
open PySem PySem.Spec PyProof.Rows PySem.W PySem.W.KIN PySem.NumText
noncomputable def plain (x:Str):Bool:=decide (x=Aa "0") || !decide (x.cps.toList.head?=some 48)
end Wri
namespace Add
open PySem PySem.Spec PyProof.Rows L2
inductive Tups (H:Hp):List V->List (List V)->Prop where
 |nil:Tups H [] []
 |cons {a:Addr} {r vs:List V} {rs:List (List V)} (h:H a=some (.tup r)) (t:Tups H vs rs):Tups H (.ref a::vs) (r::rs)
theorem Tups.same {H H':Hp}{vs:List V}{rs:List (List V)}(t:Tups H vs rs)(s:Same H H'):Tups H' vs rs:=by
 induction t with
 |nil=>exact .nil
 |cons h _ ih=>exact .cons (s _ _ h) ih
theorem Tups.length {H:Hp}{vs:List V}{rs:List (List V)}(t:Tups H vs rs):vs.length=rs.length:=by
 induction t with
 |nil=>rfl
 |cons _ _ ih=>rw[AD,AD,ih]
theorem Tups.get {H:Hp}{vs:List V}{rs:List (List V)}(t:Tups H vs rs):∀{i:Nat}{r:List V},rs[i]?=some r->∃a,vs[i]?=some (.ref a)/\H a=some (.tup r):=by
 induction t with
 |nil=>intro i r h;cases i <;>cases h
 |cons h _ ih =>
  intro i r' h';cases i with|zero=>cases h';exact⟨_,Z,h⟩|succ i=>exact ih (i:=i) h'
theorem Tups.get' {H:Hp}{vs:List V}{rs:List (List V)}(t:Tups H vs rs){i:Nat}{v:V}(h:vs[i]?=some v):∃a r,v=.ref a/\rs[i]?=some r/\H a=some (.tup r):=by
 have b:i<rs.length:=by rw[<- t.length];exact(Ac.mp h).1
 obtain⟨a,e,q⟩:=t.get (i:=i) (r:=rs[i]) (by simp[b]);rw[h]at e;cases e;exact⟨a,_,Z,by simp[b],q⟩
theorem Tups.app {H:Hp}{vs us:List V}{rs ts:List (List V)}(t:Tups H vs rs)(u:Tups H us ts):Tups H (vs++us) (rs++ts):=by
 induction t with
 |nil=>exact u
 |cons h _ ih=>exact .cons h ih
theorem Tups.snoc {H:Hp}{vs:List V}{rs:List (List V)}{a:Addr}{r:List V}(t:Tups H vs rs)(h:H a=some (.tup r)):Tups H (vs++[.ref a]) (rs++[r]):=t.app (.cons h .nil)
theorem Tups.take {H:Hp}{vs:List V}{rs:List (List V)}(t:Tups H vs rs):∀n,Tups H (vs.take n) (rs.take n):=by
 induction t with
 |nil=>intro n;rw[List.take_nil,List.take_nil];exact .nil
 |cons h _ ih =>
  intro n;cases n with|zero=>exact .nil|succ n=>exact .cons h (ih n)
theorem Tups.drop {H:Hp}{vs:List V}{rs:List (List V)}(t:Tups H vs rs):∀n,Tups H (vs.drop n) (rs.drop n):=by
 induction t with
 |nil=>intro n;rw[List.drop_nil,List.drop_nil];exact .nil
 |cons h t ih =>
  intro n;cases n with|zero=>exact .cons h t|succ n=>exact ih n
theorem Tups.upd {H:Hp}{vs:List V}{rs:List (List V)}{p:Addr}{xs:List V}{o:HO}(t:Tups H vs rs)(a:H p=some (.lst xs)):Tups (L2.upd H p o) vs rs:=by
 induction t with
 |nil=>exact .nil
 |cons h _ ih=>exact .cons (by rw[qr (λz=>by rw[z,a]at h;cases h)];exact h) ih
theorem Tups.setLast {H:Hp}{vs:List V}{rs:List (List V)}{v:V}{r b:List V}{a:Addr}(t:Tups H (vs++[v]) (rs++[r]))(h:H a=some (.tup b)):Tups H (vs++[.ref a]) (rs++[b]):=by have:=t.take vs.length;have c:=t.length;simp only[Af,AD,Ea]at c;rw[List.take_left,show vs.length=rs.length by lia,List.take_left]at this;exact this.snoc h
section
variable {X:Cx}
theorem qk3 {a:Addr}{u:Value}(r:RelV (.ref a) u):u=.ref a:=by cases r;rfl
theorem qk4 {K:Ag}(h:X.K=K):IxR X (rIxT K):=by subst h;exact zq
theorem qqf {K:Ag}(h:X.K=K):IxR X (rIxL K):=by subst h;exact zr
end
end Add
namespace Lay
section
variable {W:Type}[DecidableEq W]
noncomputable abbrev Row (W:Type):=Int×Int×W
noncomputable def qbd (a:W)(rs:List (Row W))(d:Int):W:=rs.foldl (λa r=>if r.1<=d/\d<=r.2.1 then r.2.2 else a) a
noncomputable def cnt (es:List Int)(d:Int):Nat:=(es.filter λe=>decide (e<d)).length
noncomputable abbrev ends (rs:List (Row W)):List Int:=rs.map λr=>r.2.1
structure Dis (rs:List (Row W)):Prop where
 ok:∀r∈rs,r.1<=r.2.1
 pw:rs.Pairwise λr s=>r.2.1<s.1
noncomputable def left (rs:List (Row W))(f:Int):List (Row W):=rs.filterMap λr=>if r.1<f then some (r.1,min r.2.1 (f-1),r.2.2) else none
noncomputable def right (rs:List (Row W))(l:Int):List (Row W):=rs.filterMap λr=>if l<r.2.1 then some (max r.1 (l+1),r.2.1,r.2.2) else none
def over (rs:List (Row W))(f l:Int)(w:W):List (Row W):=left rs f++(f,l,w)::right rs l
theorem qsd:∀{es:List Int}{d:Int}{k:Nat},k<=es.length->(∀i e,es[i]?=some e->i<k->e<d)->(∀i e,es[i]?=some e->k<=i->¬e<d)->cnt es d=k
 | [],d,k,hk,_,_=>by
  have:k=0:=by simpa using hk
  subst this;rfl
 |e::es,d,0,_,h1,h2=>by have a:=qsd (es:=es) (d:=d) (k:=0) (AS _) (λ_ _ _ z=>absurd z (B0 _)) λi x b _=>h2 (i+1) x b (AS _);have c:=h2 0 e rfl (Al _);unfold cnt at a |-;rw[DO,if_neg (by simpa using c)];exact a
 |e::es,d,k+1,hk,h1,h2=>by have a:=qsd (es:=es) (d:=d) (k:=k) (by simpa using hk) (λi x b z=>h1 (i+1) x b (by lia)) λi x b z=>h2 (i+1) x b (by lia);have c:=h1 0 e rfl (by lia);unfold cnt at a |-;rw[DO,if_pos (by simpa using c),AD,a]
theorem qd9 (e:Int)(es:List Int)(d:Int):cnt (e::es) d=if e<d then cnt es d+1 else cnt es d:=by unfold cnt;rw[DO];by_cases h:e<d <;>simp[h]
theorem qo2 (es:List Int)(d:Int):cnt es d<=es.length:=Df _ _
theorem qif {es:List Int}{d:Int}(h:∀e∈es,¬e<d):cnt es d=0:=by unfold cnt;rw[List.filter_eq_nil_iff.mpr (λe a=>by simpa using h e a)];rfl
theorem Dis.tail {r:Row W}{rs:List (Row W)}(h:Dis (r::rs)):Dis rs:=⟨λs a=>h.ok s (Ay _ a),(BA.mp h.pw).2⟩
theorem Dis.later {r:Row W}{rs:List (Row W)}(h:Dis (r::rs)){s:Row W}(a:s∈rs):r.2.1<s.1/\s.1<=s.2.1:=⟨(BA.mp h.pw).1 s a,h.ok s (Ay _ a)⟩
theorem qxd {rs:List (Row W)}{f:Int}(h:∀s∈rs,¬s.1<f):left rs f=[]:=by unfold left;rw[List.filterMap_eq_nil_iff];intro s a;rw[if_neg (h s a)]
theorem qjh:∀{rs:List (Row W)}(f:Int),Dis rs->left rs f=rs.take (cnt (ends rs) f)++(match rs[cnt (ends rs) f]? with|some r=>if r.1<f then [(r.1,f-1,r.2.2)] else [] | none=>[])
 | [],f,_=>rfl
 |r::rs,f,h=>by
  have j:=h.ok r Am;by_cases c:r.2.1<f
  .have e:cnt (ends (r::rs)) f=cnt (ends rs) f+1:=by rw[show ends (r::rs)=r.2.1::ends rs from Z,qd9,if_pos c]
   have k:=qjh f h.tail;rw[e,List.take_succ_cons,DA,List.cons_append,<- k];show DG _ (r::rs)=_;have g:min r.2.1 (f-1)=r.2.1:=Int.min_eq_left (Int.le_sub_one_of_lt c);rw[BJ (b:=r) (by rw[if_pos (Em j c),g])];rfl
  .have e:cnt (ends (r::rs)) f=0:=qif λx l=>by
    obtain⟨s,a,rfl⟩:=Bd.mp l
    rcases Aw.mp a with rfl|a
    .exact c
    .exact λz=>c (CH (Bf (h.later a).1 (h.later a).2) z)
   have i:left rs f=[]:=qxd λs a z=>c (CH (h.later a).1 z)
   rw[e,DH,List.nil_append,List.getElem?_cons_zero]
   show DG _ (r::rs)=_
   by_cases d:r.1<f
   .have g:min r.2.1 (f-1)=f-1:=Int.min_eq_right (Bp (Do (Int.sub_lt_self f Ud)) (BC.mp c));rw[BJ (b:=(r.1,f-1,r.2.2)) (by rw[if_pos d,g])];show _::left rs f=_;rw[i];exact(if_pos d).symm
   .rw[CL (by rw[if_neg d])];show left rs f=_;rw[i];exact(if_neg d).symm
theorem qn9:∀{rs:List (Row W)}{l:Int},(∀s∈rs,l<s.1/\s.1<=s.2.1)->right rs l=rs
 | [],_,_=>rfl
 |r::rs,l,h=>by have a:=h r Am;have d:=qn9 (l:=l) λs e=>h s (Ay _ e);show DG _ (r::rs)=_;have c:max r.1 (l+1)=r.1:=Int.max_eq_left a.1;rw[BJ (b:=r) (by rw[if_pos (Bf a.1 a.2),c])];show r::right rs l=_;rw[d]
theorem qht:∀{rs:List (Row W)}(l:Int),Dis rs->right rs l=(match rs[cnt (ends rs) (l+1)]? with|some r=>if r.1<=l then (l+1,r.2.1,r.2.2)::rs.drop (cnt (ends rs) (l+1)+1) else rs.drop (cnt (ends rs) (l+1))|none=>[])
 | [],l,_=>rfl
 |r::rs,l,h=>by
  have h0:=h.ok r Am;by_cases c:r.2.1<l+1
  .have e:cnt (ends (r::rs)) (l+1)=cnt (ends rs) (l+1)+1:=by rw[show ends (r::rs)=r.2.1::ends rs from Z,qd9,if_pos c]
   have i:=qht l h.tail;rw[e,DA,List.drop_succ_cons,List.drop_succ_cons,<- i];show DG _ (r::rs)=_;rw[CL (by rw[if_neg (BC.mpr (DV c))])];rfl
  .have e:cnt (ends (r::rs)) (l+1)=0:=qif λx j=>by
    obtain⟨s,a,rfl⟩:=Bd.mp j
    rcases Aw.mp a with rfl|a
    .exact c
    .exact λz=>c (CH (Bf (h.later a).1 (h.later a).2) z)
   have g:right rs l=rs:=qn9 λs a=>⟨CH (BC.mp c) (h.later a).1,(h.later a).2⟩
   rw[e,List.getElem?_cons_zero]
   show DG _ (r::rs)=if r.1<=l then (l+1,r.2.1,r.2.2)::rs else r::rs
   by_cases d:r.1<=l
   .have f:max r.1 (l+1)=l+1:=Int.max_eq_right (En d);rw[BJ (b:=(l+1,r.2.1,r.2.2)) (by rw[if_pos (show l<r.2.1 from BC.mp c),f]),if_pos d];show _::right rs l=_;rw[g]
   .have f:max r.1 (l+1)=r.1:=Int.max_eq_left (Int.not_le.mp d);rw[BJ (b:=r) (by rw[if_pos (show l<r.2.1 from BC.mp c),f]),if_neg d];show _::right rs l=_;rw[g]
theorem qea (a:W)(rs b:List (Row W))(d:Int):qbd a (rs++b) d=qbd (qbd a rs d) b d:=by unfold qbd;rw[Dk]
theorem qcb (a:W)(r:Row W)(rs:List (Row W))(d:Int):qbd a (r::rs) d=qbd (if r.1<=d/\d<=r.2.1 then r.2.2 else a) rs d:=rfl
theorem qji:∀(a:W)(rs:List (Row W))(f d:Int),qbd a (left rs f) d=if d<f then qbd a rs d else a
 |a,[],f,d=>by show a=if d<f then a else a;split <;>rfl
 |a,r::rs,f,d=>by
  by_cases c:r.1<f
  .have e:left (r::rs) f=(r.1,min r.2.1 (f-1),r.2.2)::left rs f:=BJ (by rw[if_pos c]);rw[e,qcb,qji];by_cases q:d<f
   .rw[if_pos q,if_pos q,qcb];have hz:(r.1<=d/\d<=min r.2.1 (f-1))↔(r.1<=d/\d<=r.2.1):=and_congr_right λ_=>⟨λz=>Bp z (Int.min_le_left _ _),λz=>Int.le_min.mpr ⟨z,Int.le_sub_one_of_lt q⟩⟩;simp only[hz]
   .rw[if_neg q,if_neg q,if_neg (show ¬(r.1<=d/\d<=min r.2.1 (f-1)) from λz=>q (Int.lt_of_le_sub_one (Bp z.2 (Int.min_le_right _ _))))]
  .have e:left (r::rs) f=left rs f:=CL (by rw[if_neg c]);rw[e,qji];by_cases q:d<f
   .rw[if_pos q,if_pos q,qcb,if_neg (λz=>c (Em z.1 q))]
   .rw[if_neg q,if_neg q]
theorem qhu:∀(a:W)(rs:List (Row W))(l d:Int),qbd a (right rs l) d=if l<d then qbd a rs d else a
 |a,[],l,d=>by show a=if l<d then a else a;split <;>rfl
 |a,r::rs,l,d=>by
  by_cases c:l<r.2.1
  .have e:right (r::rs) l=(max r.1 (l+1),r.2.1,r.2.2)::right rs l:=BJ (by rw[if_pos c]);rw[e,qcb,qhu];by_cases q:l<d
   .rw[if_pos q,if_pos q,qcb];have hz:(max r.1 (l+1)<=d/\d<=r.2.1)↔(r.1<=d/\d<=r.2.1):=and_congr_left λ_=>⟨λz=>Bp (Int.le_max_left _ _) z,λz=>Int.max_le.mpr ⟨z,q⟩⟩;simp only[hz]
   .rw[if_neg q,if_neg q,if_neg (show ¬(max r.1 (l+1)<=d/\d<=r.2.1) from λz=>q (Bp (Int.le_max_right _ _) z.1))]
  .have e:right (r::rs) l=right rs l:=CL (by rw[if_neg c]);rw[e,qhu];by_cases q:l<d
   .rw[if_pos q,if_pos q,qcb,if_neg (λz=>c (Bf q z.2))]
   .rw[if_neg q,if_neg q]
theorem qvf (a:W)(rs:List (Row W)){f l:Int}(w:W)(h:f<=l)(d:Int):qbd a (over rs f l w) d=if f<=d/\d<=l then w else qbd a rs d:=by
 unfold over;rw[qea,qcb,qji,qhu];by_cases b:d<f
 .rw[if_pos b,if_neg (BC.mpr (Bp (Do b) h)),if_neg (show ¬(f<=d/\d<=l) from λz=>BC.mpr z.1 b)]
 .by_cases c:l<d
  .rw[if_neg b,if_pos c,if_neg (show ¬(f<=d/\d<=l) from λz=>BC.mpr z.2 c)];exact(if_neg (show ¬(f<=d/\d<=l) from λz=>BC.mpr z.2 c)).symm
  .rw[if_neg b,if_neg c,if_pos (show f<=d/\d<=l from ⟨BC.mp b,BC.mp c⟩)];exact(if_pos (show f<=d/\d<=l from ⟨BC.mp b,BC.mp c⟩)).symm
theorem qqg {rs:List (Row W)}{f l:Int}(w:W)(h:Dis rs)(n:f<=l):Dis (over rs f l w):=by
 have o:∀r∈left rs f,r.1<=r.2.1/\r.2.1<f:=λr i=>by
  obtain⟨s,m,e⟩:=BZ.mp i;have:=h.ok s m;split at e
  .injection e with e;subst e;show s.1<=min s.2.1 (f-1)/\min s.2.1 (f-1)<f;lia
  .cases e
 have i:∀r∈right rs l,r.1<=r.2.1/\l<r.1:=λr i=>by
  obtain⟨s,m,e⟩:=BZ.mp i;have:=h.ok s m;split at e
  .injection e with e;subst e;show max s.1 (l+1)<=s.2.1/\l<max s.1 (l+1);lia
  .cases e
 refine⟨λr g=>?_,?_⟩
 .rcases Az.mp g with g|g
  .exact(o r g).1
  .rcases Aw.mp g with rfl|g
   .exact n
   .exact(i r g).1
 .refine Bm.mpr ⟨?_,BA.mpr ⟨λr g=>(i r g).2,?_⟩,λa q b k=>?_⟩
  .refine List.pairwise_filterMap.mpr (h.pw.imp λ{r s} j x d y c=>?_);split at d
   .split at c
    .injection d with d;injection c with c;subst d;subst c;exact Em (Int.min_le_left _ _) j
    .cases c
   .cases d
  .refine List.pairwise_filterMap.mpr (h.pw.imp λ{r s} j x d y c=>?_);split at d
   .split at c
    .injection d with d;injection c with c;subst d;subst c;exact Bf j (Int.le_max_left _ _)
    .cases c
   .cases d
  .have p:=o a q;rcases Aw.mp k with rfl|k
   .exact p.2
   .exact CH (Bf p.2 n) (i b k).2
noncomputable def jn1 (told:List (Row W))(r:Row W):List (Row W):=match told.getLast? with
 |some t=>if t.2.2=r.2.2/\t.2.1+1=r.1 then told.dropLast++[(t.1,r.2.1,r.2.2)] else told++[r]
 |none=>told++[r]
def Nx (r s:Row W):Prop:=r.2.1<s.1/\(s.1=r.2.1+1->r.2.2≠s.2.2)
structure Ap (rs:List (Row W)):Prop where
 ok:∀r∈rs,r.1<=r.2.1
 nx:∀i r s,rs[i]?=some r->rs[i+1]?=some s->Nx r s
theorem qo3 {rs:List (Row W)}{t:Row W}(h:Ap rs)(j:t.1<=t.2.1)(g:∀z,rs.getLast?=some z->Nx z t):Ap (rs++[t]):=by
 refine⟨λr b=>?_,λi r s d a=>?_⟩
 .rcases Az.mp b with b|b
  .exact h.ok r b
  .rw[Aj.mp b];exact j
 .have f:i+1<rs.length+1:=by
   have:=(Ac.mp a).1
   simpa using this
  rw[AI (Nat.lt_of_succ_lt_succ f)]at d
  by_cases c:i+1<rs.length
  .rw[AI c]at a;exact h.nx i r s d a
  .have e:i+1=rs.length:=Nat.le_antisymm (Nat.le_of_lt_succ f) (DP.mp c);rw[AK (DP.mp c),e,Da]at a;cases a;refine g r ?_;rw[Dr,show rs.length-1=i by rw[<- e];rfl];exact d
theorem ap_init {rs:List (Row W)}{t:Row W}(h:Ap (rs++[t])):Ap rs/\t.1<=t.2.1/\∀z,rs.getLast?=some z->Nx z t:=by
 refine⟨⟨λr f=>h.ok r (B7 _ f),λi r s b a=>?_⟩,h.ok t (by simp),λz hz=>?_⟩
 .have e:=(Ac.mp b).1;have d:=(Ac.mp a).1;exact h.nx i r s (by rw[AI e];exact b) (by rw[AI d];exact a)
 .rw[Dr]at hz;have g:=(Ac.mp hz).1;refine h.nx (rs.length-1) z t (by rw[AI g];exact hz) ?_;have c:=Nat.sub_add_cancel (CZ (AS _) g);rw[AK (Ce c.symm),c,Da];rfl
theorem qfe {α:Type}(xs:List α)(x:α):(xs++[x]).getLast?=some x:=by simp
theorem qeb (rs:List (Row W))(t r:Row W):jn1 (rs++[t]) r=if t.2.2=r.2.2/\t.2.1+1=r.1 then rs++[(t.1,r.2.1,r.2.2)] else rs++[t]++[r]:=by unfold jn1;rw[qfe];simp
theorem jn1_ok {b:List (Row W)}{r:Row W}(h:Ap b)(j:r.1<=r.2.1)(m:∀z,b.getLast?=some z->z.2.1<r.1) :
  Ap (jn1 b r)/\(∀z,(jn1 b r).getLast?=some z->z.2.1=r.2.1)/\∀a d,qbd a (jn1 b r) d=qbd a (b++[r]) d:=by
 rcases BD b with rfl|⟨rs,t,rfl⟩
 .refine⟨qo3 h j (λz hz=>by cases hz),λz hz=>?_,λ_ _=>rfl⟩;have:z=r:=by simpa [jn1] using hz.symm
  rw[this]
 .rw[B4]at h m |-;rw[qeb];obtain⟨o,l,n⟩:=ap_init h;have k:=m t (qfe rs t);by_cases c:t.2.2=r.2.2/\t.2.1+1=r.1
  .rw[if_pos c];refine⟨qo3 o (show t.1<=r.2.1 from Bp l (Bp (Do k) j)) (λz hz=>?_),λz hz=>?_,λa d=>?_⟩
   .have:=n z hz;exact⟨this.1,λe=>by rw[<- c.1];exact this.2 e⟩
   .rw[qfe]at hz;cases hz;rfl
   .rw[qea,qea,qea];show (if t.1<=d/\d<=r.2.1 then r.2.2 else _)=if r.1<=d/\d<=r.2.1 then r.2.2 else if t.1<=d/\d<=t.2.1 then t.2.2 else _;rw[c.1];by_cases f:r.1<=d/\d<=r.2.1
    .rw[if_pos f,if_pos ⟨Bp l (Bp (Do k) f.1),f.2⟩]
    .rw[if_neg f];by_cases i:t.1<=d/\d<=t.2.1
     .rw[if_pos i,if_pos ⟨i.1,Bp i.2 (Bp (Do k) j)⟩]
     .rw[if_neg i,if_neg λz=>(Int.lt_or_le d r.1).elim (λy=>i ⟨z.1,DV (by rw[c.2];exact y)⟩) λy=>f ⟨y,z.2⟩]
  .rw[if_neg c];refine⟨qo3 h j (λz hz=>?_),λz hz=>?_,λ_ _=>rfl⟩
   .rw[qfe]at hz;cases hz;exact⟨k,λe g=>c ⟨g,e.symm⟩⟩
   .rw[qfe]at hz;cases hz;rfl
def jn (rs:List (Row W)):List (Row W):=rs.foldl jn1 []
theorem jn_ok {rs:List (Row W)}(h:Dis rs):Ap (jn rs)/\∀a d,qbd a (jn rs) d=qbd a rs d:=by
 have step:∀(f b:List (Row W))(c:List (Row W)),Dis (b++f)->Ap c->(∀z,c.getLast?=some z->∃y∈b,z.2.1=y.2.1)->(∀a d,qbd a c d=qbd a b d) ->
   Ap (f.foldl jn1 c)/\∀a d,qbd a (f.foldl jn1 c) d=qbd a (b++f) d:=by
  intro f
  induction f with
  |nil=>intro b c _ k _ j;exact⟨k,λa d=>by rw[Bu];exact j a d⟩
  |cons r f ih =>
   intro b c g k p j;have n:=g.ok r (by simp);have l:∀z,c.getLast?=some z->z.2.1<r.1:=λz hz=>by obtain⟨y,t,e⟩:=p z hz;rw[e];exact(Bm.mp g.pw).2.2 y t r Am
   obtain⟨m,o,q⟩:=jn1_ok k n l;have e:b++r::f=(b++[r])++f:=by simp
   rw[e];rw[e]at g;refine ih (b++[r]) (jn1 c r) g m (λz hz=>⟨r,by simp,o z hz⟩) λa d=>?_;rw[q,qea,qea,j]
 exact step rs [] [] h ⟨(λ_ h=>absurd h AB),λi r s h=>by cases h⟩ (λz hz=>by cases hz) λ_ _=>rfl
def lay (rs:List (Row W)):List (Row W):=rs.foldl (λlaid r=>over laid r.1 r.2.1 r.2.2) []
theorem qxe (rs:List (Row W))(r:Row W):lay (rs++[r])=over (lay rs) r.1 r.2.1 r.2.2:=by unfold lay;rw[Dk];rfl
theorem qxf {rs:List (Row W)}(h:∀r∈rs,r.1<=r.2.1):Dis (lay rs)/\∀a d,qbd a (lay rs) d=qbd a rs d:=by
 have step:∀(c b laid:List (Row W)),(∀r∈c,r.1<=r.2.1)->Dis laid->(∀a d,qbd a laid d=qbd a b d) ->
   Dis (c.foldl (λlaid r=>over laid r.1 r.2.1 r.2.2) laid)/\∀a d,qbd a (c.foldl (λlaid r=>over laid r.1 r.2.1 r.2.2) laid) d=qbd a (b++c) d:=by
  intro c
  induction c with
  |nil=>intro b laid _ g f;exact⟨g,λa d=>by rw[Bu];exact f a d⟩
  |cons r c ih =>
   intro b laid i g f;have j:=i r Am;have e:b++r::c=(b++[r])++c:=by simp
   rw[e];refine ih (b++[r]) _ (λs k=>i s (Ay _ k)) (qqg r.2.2 g j) λa d=>?_;rw[qvf a laid r.2.2 j,qea,f];rfl
 exact step rs [] [] h ⟨(λ_ h=>absurd h AB),Es⟩ λ_ _=>rfl
def ov (rs:List (Row W)):List (Row W):=jn (lay rs)
theorem qxg {rs:List (Row W)}(h:∀r∈rs,r.1<=r.2.1):Ap (ov rs)/\∀a d,qbd a (ov rs) d=qbd a rs d:=by obtain⟨f,b⟩:=qxf h;obtain⟨e,c⟩:=jn_ok f;exact⟨e,λa d=>(c a d).trans (b a d)⟩
theorem qhv {rs:List (Row W)}(h:Ap rs):Dis rs:=by
 refine⟨h.ok,?_⟩;rw[Bh];intro i j b hj hij;have step:∀n,∀(a:i+1+n<rs.length),(rs[i]'b).2.1<(rs[i+1+n]'a).1:=by
  intro n
  induction n with
  |zero=>intro a;exact(h.nx i (rs[i]'b) (rs[i+1]'a) (Ae _) (Ae _)).1
  |succ n ih =>intro a;have g:=ih (Nat.lt_of_succ_lt a);have k:=(h.nx (i+1+n) (rs[i+1+n]'(Nat.lt_of_succ_lt a)) (rs[i+1+n+1]'a) (Ae _) (Ae _)).1;have m:=h.ok rs[i+1+n] (BI _);exact CH (Bf g m) k
 have:=step (j-i-1) (by lia);simpa [show i+1+(j-i-1)=j by lia] using this
theorem qts {rs:List (Row W)}(h:Dis rs):(ends rs).Pairwise (· < ·):=by refine Cq.mpr ?_;refine(List.Pairwise.and_mem.mp h.pw).imp λ{r s} q=>?_;have:=h.ok s q.2.1;have:=q.2.2;lia
end
end Lay
namespace Srt
open PySem PySem.W PyProof.Rows
def Sat {α:Type}(n:Nat)(r:Nat->Nat->Bool):KasT α->(α->Prop)->Prop
 |.ret a,Q=>Q a
 |.ask i j k,Q=>i<n/\j<n/\Sat n r (k (r i j)) Q
theorem Sat.mono {α:Type}{n:Nat}{r:Nat->Nat->Bool}:∀{t:KasT α}{Q b:α->Prop},Sat n r t Q->(∀a,Q a->b a)->Sat n r t b
 |.ret _,_,_,h,q=>q _ h
 |.ask i j k,_,_,h,q=>⟨h.1,h.2.1,Sat.mono (t:=k (r i j)) h.2.2 q⟩
theorem Sat.bind {α β:Type}{n:Nat}{r:Nat->Nat->Bool}{f:α->KasT β}:∀{t:KasT α}{Q:β->Prop},Sat n r t (λa=>Sat n r (f a) Q)->Sat n r (t.bind f) Q
 |.ret _,_,h=>h
 |.ask i j k,_,h=>⟨h.1,h.2.1,Sat.bind (t:=k (r i j)) h.2.2⟩
theorem Sat.wp {α:Type}{n:Nat}{r:Nat->Nat->Bool}{b:Nat->Nat->(Bool->Ad->Prop)->Ad->Prop}{s:Ad}(d:∀i j C,i<n->j<n->C (r i j) s->b i j C s):∀{t:KasT α}{Q:α->Prop}{c:α->Ad->Prop},Sat n r t Q->(∀a,Q a->c a s)->t.kasWp b c s
 |.ret a,_,_,h,q=>q a h
 |.ask i j k,_,_,h,q=>d i j _ h.1 h.2.1 (Sat.wp d (t:=k (r i j)) h.2.2 q)
structure Ord (r:Nat->Nat->Bool):Prop where
 asym:∀i j,r i j=true->r j i=false
 trans:∀i j k,r j i=false->r k j=false->r k i=false
section
variable {n:Nat}{r:Nat->Nat->Bool}
noncomputable abbrev at' (p:Array Nat)(i:Nat):Nat:=p.getD i 0
structure Gd (n:Nat)(p:Array Nat):Prop where
 perm:p.Perm (Aq n).toArray
theorem Gd.size {p:Array Nat}(h:Gd n p):p.size=n:=by rw[h.perm.size_eq];simp
theorem Gd.lt {p:Array Nat}(h:Gd n p)(b:0<n)(i:Nat):at' p i<n:=by
 by_cases a:i<p.size
 .have e:at' p i=p[i]:=by simp[at',a]
  rw[e];have:p[i]∈p:=Array.getElem_mem a;have:=h.perm.mem_iff.mp this;simpa using this
 .have e:at' p i=0:=by simp[at',a]
  rw[e];exact b
def Up (r:Nat->Nat->Bool)(p:Array Nat)(k:Nat):Prop:=∀i j,i<=j->j<k->r (at' p j) (at' p i)=false
def qnf (r:Nat->Nat->Bool)(p:Array Nat)(k:Nat):Prop:=∀i j,i<=j->j<k->r (at' p i) (at' p j)=false
theorem Ord.irr (o:Ord r)(i:Nat):r i i=false:=by
 cases h:r i i with|false=>rfl|true=>rw[o.asym i i h]at h;cases h
theorem up_succ (o:Ord r){p:Array Nat}{k:Nat}(h:Up r p k)(h1:1<=k)(e:r (at' p k) (at' p (k-1))=false):Up r p (k+1):=by
 intro i j a hj;by_cases c:j<k
 .exact h i j a c
 .have b:j=k:=by lia
  subst b;by_cases d:i=j
  .rw[d];exact o.irr _
  .exact o.trans _ _ _ (h i (j-1) (by lia) (by lia)) e
theorem qff (o:Ord r){p:Array Nat}{k:Nat}(h:qnf r p k)(h1:1<=k)(e:r (at' p (k-1)) (at' p k)=false):qnf r p (k+1):=by
 intro i j a hj;by_cases c:j<k
 .exact h i j a c
 .have b:j=k:=by lia
  subst b;by_cases d:i=j
  .rw[d];exact o.irr _
  .exact o.trans _ _ _ e (h i (j-1) (by lia) (by lia))
theorem qse (o:Ord r){p:Array Nat}(g:Gd n p)(a:0<n):∀(f k:Nat),Up r p k->1<=k->Sat n r (kas_asc p f k) λm=>k<=m/\m<=k+f/\Up r p m/\(m=k+f\/r (at' p m) (at' p (m-1))=true)
 |0,k,h,_=>⟨Al _,Al _,h,.inl Z⟩
 |f+1,k,h,h1=>by
  refine⟨g.lt a _,g.lt a _,?_⟩;cases c:r (at' p k) (at' p (k-1)) with
  |true=>dsimp only;rw[if_pos Z];exact⟨Al _,by lia,h,.inr c⟩
  |false =>
   dsimp only;rw[if_neg (by simp)];refine(qse o g a f (k+1) (up_succ o h h1 c) (by lia)).mono λm b=>⟨by lia,by lia,b.2.2.1,?_⟩;rcases b.2.2.2 with e|e
   .exact .inl (by lia)
   .exact .inr e
theorem qge {p:Array Nat}{i j:Nat}(a:j<=p.size)(k:Nat):at' (kas_rev p i j) k=if i<=k/\k<j then at' p (i+j-1-k) else at' p k:=by
 unfold at' kas_rev;rw[C5,getElem?_mirror_all a];split
 .rw[C5]
 .rw[C5]
theorem qls {p:Array Nat}(g:Gd n p)(i j:Nat):Gd n (kas_rev p i j):=⟨(mirror_perm _ _ _ _).trans g.perm⟩
def qvg (r:Nat->Nat->Bool)(p:Array Nat)(a b:Nat):Prop:=∀i j,a<=i->i<b->a<=j->j<b->r (at' p i) (at' p j)=false
theorem qlt (o:Ord r){p:Array Nat}{a b:Nat}(e:b<=p.size)(h:qnf r p b)(f:qvg r p a b):qnf r (kas_rev p a b) b:=by
 intro i j d c;rw[qge e,qge e];by_cases g:a<=i
 .rw[if_pos ⟨g,by lia⟩,if_pos ⟨by lia,c⟩];exact f _ _ (by lia) (by lia) (by lia) (by lia)
 .rw[if_neg (by lia)];by_cases k:a<=j
  .rw[if_pos ⟨k,c⟩];exact h _ _ (by lia) (by lia)
  .rw[if_neg (by lia)];exact h _ _ d c
theorem rev_up {p:Array Nat}{b:Nat}(a:b<=p.size)(h:qnf r p b):Up r (kas_rev p 0 b) b:=by intro i j hij c;rw[qge a,qge a,if_pos ⟨by lia,c⟩,if_pos ⟨by lia,by lia⟩];exact h _ _ (by lia) (by lia)
theorem qk5 (o:Ord r)(b:0<n):∀(f:Nat)(p:Array Nat)(k q:Nat),Gd n p->qnf r p k->q+1<=k->k+f<=n->qvg r p (k-(q+1)) k ->
  Sat n r (kas_desc f p k q) λt=>Gd n t.1/\qnf r t.1 t.2.1/\t.2.2+1<=t.2.1/\t.2.1<=k+f/\qvg r t.1 (t.2.1-(t.2.2+1)) t.2.1
 |0,p,k,q,g,h,h1,_,hf=>⟨g,h,h1,Al _,hf⟩
 |f+1,p,k,q,g,h,h1,hk,hf=>by
  have hs:=g.size;refine⟨g.lt b _,g.lt b _,?_⟩;cases c:r (at' p k) (at' p (k-1)) with
  |true =>
   dsimp only;rw[if_pos Z];have v:=o.asym _ _ c;have one:∀w:Array Nat,qvg r w (k+1-(0+1)) (k+1):=λw i j _ _ _ _=>by
    have:i=j:=by lia
    rw[this];exact o.irr _
   by_cases u:q > 0
   .rw[if_pos u];have x:=qlt o (show k<=p.size by lia) h hf;have e:r (at' (kas_rev p (k-(q+1)) k) (k-1)) (at' (kas_rev p (k-(q+1)) k) k)=false:=by rw[qge (by lia),qge (by lia),if_pos ⟨by lia,by lia⟩,if_neg (by lia)];exact o.trans _ _ _ v (hf _ _ (by lia) (by lia) (by lia) (by lia))
    refine(qk5 o b f _ (k+1) 0 (qls g _ _) (qff o x (by lia) e) (by lia) (by lia) (one _)).mono λt a=>⟨a.1,a.2.1,a.2.2.1,by lia,a.2.2.2.2⟩
   .rw[if_neg u];exact(qk5 o b f _ (k+1) 0 g (qff o h (by lia) v) (by lia) (by lia) (one _)).mono λt a=>⟨a.1,a.2.1,a.2.2.1,by lia,a.2.2.2.2⟩
  |false =>
   dsimp only;rw[if_neg (by simp)];refine⟨g.lt b _,g.lt b _,?_⟩;cases d:r (at' p (k-1)) (at' p k) with
   |true=>dsimp only;rw[if_pos Z];exact⟨g,h,h1,by show k<=k+(f+1);lia,hf⟩
   |false =>
    dsimp only;rw[if_neg (by simp)];have s:qvg r p (k+1-(q+1+1)) (k+1):=by
     intro i j hi hi' hj hj';by_cases m:i=k
     .by_cases l:j=k
      .rw[m,l];exact o.irr _
      .rw[m];exact o.trans _ _ _ (hf (k-1) j (by lia) (by lia) (by lia) (by lia)) c
     .by_cases l:j=k
      .rw[l];exact o.trans _ _ _ d (hf i (k-1) (by lia) (by lia) (by lia) (by lia))
      .exact hf i j (by lia) (by lia) (by lia) (by lia)
    exact(qk5 o b f p (k+1) (q+1) g (qff o h (by lia) d) (by lia) (by lia) s).mono λt a=>⟨a.1,a.2.1,a.2.2.1,by lia,a.2.2.2.2⟩
theorem qqh (o:Ord r)(b:0<n){p:Array Nat}{k:Nat}(g:Gd n p)(h:qnf r p k)(c:1<=k)(d:k<=n):Sat n r (kas_tail3 k n p) λt=>Gd n t.2/\Up r t.2 t.1/\1<=t.1/\t.1<=n:=by refine Sat.bind ((qse o (qls g 0 k) b (n-k) k (rev_up (by rw[g.size];exact d) h) c).mono λm a=>?_);exact⟨qls g 0 k,a.2.2.1,by show 1<=m;lia,by show m<=n;lia⟩
theorem qkj (o:Ord r)(b:0<n){p:Array Nat}{k:Nat}(g:Gd n p)(h:qnf r p (k+1))(hk:k+1<=n):Sat n r (kas_descPart k n p) λt=>Gd n t.2/\Up r t.2 t.1/\1<=t.1/\t.1<=n:=by
 refine Sat.bind ((qk5 o b (n-(k+1)) p (k+1) 0 g h (by lia) (by lia) (λi j _ _ _ _=>by
  have:i=j:=by lia
  rw[this];exact o.irr _)).mono λt f=>?_)
 obtain⟨a,d,h2,h3,e⟩:=f;have hs:=a.size;by_cases c:t.2.2 > 0
 .rw[if_pos c];exact qqh o b (qls a _ _) (qlt o (by lia) d e) (by lia) (by lia)
 .rw[if_neg c];exact qqh o b a d (by lia) (by lia)
theorem qxh (o:Ord r)(a:0<n){p:Array Nat}(g:Gd n p):Sat n r (kas_count n p) λt=>Gd n t.2/\Up r t.2 t.1/\1<=t.1/\t.1<=n:=by
 refine Sat.bind ((qse o g a (n-1) 1 (λi j s h=>by
  have:i=j:=by lia
  rw[this];exact o.irr _) (Al _)).mono λm v=>?_)
 obtain⟨l,h2,f,b⟩:=v;by_cases c:(m == n)=true
 .rw[if_pos c];exact⟨g,f,l,by show m<=n;lia⟩
 .rw[if_neg c];have cn:m≠n:=λz=>c (by rw[z];exact beq_self_eq_true n);have e:r (at' p m) (at' p (m-1))=true:=by
   rcases b with b|b
   .lia
   .exact b
  by_cases q:m > 1
  .rw[if_pos q];refine⟨g.lt a _,g.lt a _,?_⟩;cases d:r (at' p 0) (at' p (m-1)) with|true=>dsimp only;rw[if_pos Z];exact⟨g,f,l,by show m<=n;lia⟩|false =>dsimp only;rw[if_neg (by simp)];have k:qvg r p 0 m:=λi j _ u _ h=>o.trans _ _ _ (f j (m-1) (by lia) (by lia)) (o.trans _ _ _ d (f 0 i (by lia) u));have w:qnf r (kas_rev p 0 m) m:=qlt o (by rw[g.size];lia) (λi j _ h=>k i j (by lia) (by lia) (by lia) h) k;refine qkj o a (qls g _ _) (qff o w l ?_) (by lia);rw[qge (by rw[g.size];lia),qge (by rw[g.size];lia),if_pos ⟨by lia,by lia⟩,if_neg (by lia)];exact o.trans _ _ _ (o.asym _ _ e) (k _ _ (by lia) (by lia) (by lia) (by lia))
  .rw[if_neg q];have:m=1:=by lia
   subst this;refine qkj o a g (qff o (λi j s h=>?_) (by lia) (o.asym _ _ e)) (by lia);have:i=j:=by lia
   rw[this];exact o.irr _
theorem qlu (o:Ord r)(h:0<n){p:Array Nat}{k:Nat}(g:Gd n p)(j:Up r p k):∀(f a b:Nat),b-a<=f->a<=b->b<=k->(∀i,i<a->r (at' p k) (at' p i)=false)->(∀i,b<=i->i<k->r (at' p k) (at' p i)=true) ->
  Sat n r (kas_place p k f a b) λl=>l<=k/\(∀i,i<l->r (at' p k) (at' p i)=false)/\∀i,l<=i->i<k->r (at' p k) (at' p i)=true
 |0,a,b,hf,hab,hb,h1,h2=>⟨by lia,h1,λi e=>h2 i (by lia)⟩
 |f+1,a,b,hf,hab,hb,h1,h2=>by
  unfold kas_place;by_cases c:a ≥ b
  .rw[if_pos c];exact⟨by lia,h1,λi e=>h2 i (by lia)⟩
  .rw[if_neg c];refine⟨g.lt h _,g.lt h _,?_⟩;cases d:r (at' p k) (at' p ((a+b) / 2)) with
   |true =>
    dsimp only;rw[if_pos Z];refine qlu o h g j f a ((a+b) / 2) (by lia) (by lia) (by lia) h1 λi e m=>?_;by_cases q:b<=i
    .exact h2 i q m
    .cases z:r (at' p k) (at' p i) with
     |true=>rfl
     |false =>have:=o.trans _ _ _ (j ((a+b) / 2) i e m) z;rw[d]at this;cases this
   |false =>dsimp only;rw[if_neg (by simp)];refine qlu o h g j f ((a+b) / 2+1) b (by lia) (by lia) hb (λi e=>?_) h2;exact o.trans _ _ _ (j i ((a+b) / 2) (by lia) (by lia)) d
theorem qoa {p:Array Nat}{k d:Nat}(b:k<p.size)(a:d<=k)(i:Nat):at' (bubble p k d) i=if i=k-d then at' p k else if k-d<i/\i<=k then at' p (i-1) else at' p i:=by
 have e:∀(q:Array Nat)(j:Nat),at' q j=q[j]?.getD 0:=λq j=>C5;rw[e,e,e,e,getElem?_bubble b d a];split
 .rfl
 .split <;>rfl
theorem qxi (o:Ord r)(b:0<n):∀(f:Nat)(p:Array Nat)(k:Nat),Gd n p->Up r p k->k+f=n->Sat n r (kas_bin f p k) λq=>Gd n q/\Up r q n
 |0,p,k,g,h,e=>by
  have t:k=n:=by lia
  subst t;exact⟨g,h⟩
 |f+1,p,k,g,h,e=>by
  have hs:=g.size;refine Sat.bind ((qlu o b g h k 0 k (by lia) (by lia) (Al _) (λi m=>by lia) (λi m hk=>by lia)).mono λl u=>?_);obtain⟨h0,v,s⟩:=u;refine qxi o b f _ (k+1) ⟨(bubble_perm _ _ _).trans g.perm⟩ (λi j c hj=>?_) (by lia);rw[qoa (by lia) (by lia),qoa (by lia) (by lia),show k-(k-l)=l by lia];by_cases d:i=l
  .rw[if_pos d];by_cases a:j=l
   .rw[if_pos a];exact o.irr _
   .rw[if_neg a,if_pos ⟨by lia,by lia⟩];exact o.asym _ _ (s (j-1) (by lia) (by lia))
  .rw[if_neg d];by_cases a:j=l
   .rw[if_pos a,if_neg (by lia)];exact v i (by lia)
   .rw[if_neg a];by_cases c1:l<i
    .rw[if_pos (show l<j/\j<=k by lia),if_pos (show l<i/\i<=k by lia)];exact h _ _ (by lia) (by lia)
    .rw[if_neg (show ¬(l<i/\i<=k) by lia)];by_cases c2:l<j
     .rw[if_pos (show l<j/\j<=k by lia)];exact h _ _ (by lia) (by lia)
     .rw[if_neg (show ¬(l<j/\j<=k) by lia)];exact h _ _ c (by lia)
theorem sort_ok (o:Ord r)(a:0<n):Sat n r (kas_sort n) λq=>Gd n q/\Up r q n:=by
 refine Sat.bind ((qxh o a ⟨.refl _⟩).mono λt b=>?_);obtain⟨g,h,h1,h2⟩:=b;by_cases c:t.1<n
 .rw[if_pos c];have:max t.1 1=t.1:=by lia
  rw[this];exact qxi o a _ _ _ g h (by lia)
 .rw[if_neg c];have:t.1=n:=by lia
  rw[this]at h;exact⟨g,h⟩
end
end Srt
namespace Srt
open PySem PySem.W PySem.Calls PyProof.Rows
section
variable {prog:AJ}{w:World}{A:AT}{E:Value->Ad->Prop}{s:Ad}
noncomputable abbrev qhi (vs:List Value)(p:Array Nat):List Value:=p.toList.map λi=>vs.getD i C8
theorem qvh (vs:List Value):qhi vs (Aq vs.length).toArray=vs:=by
 unfold qhi;refine Cr λi=>?_;rw[Ah];by_cases h:i<vs.length
 .simp[h]
 .simp[h]
end
end Srt
namespace Add
open PySem PySem.Spec PyProof.Rows L2 Srt PySem.W
noncomputable def encP (r:Int×Int):List V:=[.int r.1,.int r.2]
theorem qsf {α:Type}(xs:List α)(d:α):(Aq xs.length).map (λi=>xs.getD i d)=xs:=by
 refine Cr λi=>?_;rw[Ah];by_cases h:i<xs.length
 .simp[h]
 .simp[h]
section
variable {X:Cx}{pins:List (Addr×Obj)}{σ:L2.St}{H:Hp}{s:Ad}
theorem qob {us:List V}{its:List Value}(rv:Vals us its):∀(js:List Nat),(∀i∈js,i<its.length)->Vals (js.map λi=>us.getD i V.non) (js.map λi=>its.getD i C8)
 | [],_=>.nil
 |i::js,h=>by
  have b:=h i Am;have a:i<us.length:=by rw[rv.length];exact b
  obtain⟨v,c,r⟩:=rv.get (i:=i) (x:=us[i]) (by simp[a]);refine .cons ?_ (qob rv js λj d=>h j (Ay _ d));show L2.RelV (us.getD i V.non) (its.getD i C8);rw[Ak,Ak,c,Ae a];exact r
end
end Add
namespace Mrg
noncomputable abbrev S2:=Int×Int
noncomputable def inB (rs:List S2)(d:Int):Bool:=rs.any λr=>decide (r.1<=d) && decide (d<=r.2)
noncomputable def mg1 (told:List S2)(r:S2):List S2:=match told.getLast? with
 |some t=>if r.1<=t.2+1 then told.dropLast++[(t.1,if r.2 > t.2 then r.2 else t.2)] else told++[r]
 |none=>told++[r]
def mg (rs:List S2):List S2:=rs.foldl mg1 []
end Mrg
namespace Add
open PySem PySem.Spec PyProof.Rows L2
theorem qtt {X:Cx}{f:List (Addr×Obj)}{σ:L2.St}{H:Hp}{s:Ad}{h':Heap}{t':Nat}{e it:Addr}(I:Inv X f σ H s)(k:∀b o,b≠e->b≠it->s.heap.get? b=some o->h'.get? b=some o)(i:qi9 X f H e)(h:qi9 X f H it) :
  Inv X f σ H {s with heap:=h',toks:=t'}:=by
 have l:∀b u,H b=some u->b≠e:=λb u q z=>by rw[z,i.1]at q;cases q
 have j:∀b u,H b=some u->b≠it:=λb u q z=>by rw[z,h.1]at q;cases q
 have d:∀b,b∉[e,it]->b≠e/\b≠it:=λb g=>⟨λz=>g (by simp[z]),λz=>g (by simp[z])⟩;refine I.step (g':=s.gens) (d':=s.drawn) (ch:=[e,it]) (λb g=>?_) (λb o _ _ a q _=>k b o (d b a).1 (d b a).2 q) (λb o _ _ a q _=>⟨o.slots,k b o (d b a).1 (d b a).2 q⟩) (λ_ _ _ _ n=>n)
  (λb o a q=>⟨o,k b o (d b a).1 (d b a).2 q⟩) (λ_ _ q=>q) (λ_ _ _ q=>q) (λb ps q=>⟨#[],by rw[q];simp⟩) (λm p=>?_) (λb u q=>?_) I.bare
 .rcases Aw.mp g with rfl|g
  .exact⟨i.2.2.2.1,i.2.1,i.2.2.2.2.1,i.2.2.2.2.2⟩
  .cases Aj.mp g;exact⟨h.2.2.2.1,h.2.1,h.2.2.2.2.1,h.2.2.2.2.2⟩
 .obtain⟨o,es,ep,t,r⟩:=p;exact⟨o,es,ep,k _ o (B6 i.2.1) (B6 h.2.1) t,r⟩
 .refine(I.hok b u q).stay (λc v a z=>k c v ?_ ?_ z) (λ_ z=>z) λ_ _ z=>z
  .rcases a with rfl|a
   .exact l _ u q
   .exact l c _ a
  .rcases a with rfl|a
   .exact j _ u q
   .exact j c _ a
def Ite (K:Ag)(a:Addr):It :=
 ⟨λi H=>∃xs x,SqL K H a xs/\xs[i]?=some x,λi H x H'=>∀xs,SqL K H a xs->∃y t,xs[i]?=some y/\H t=none/\x=.ref t/\H'=upd H t (.tup [.int i,y]),λi H=>∃xs,SqL K H a xs/\xs.length<=i⟩
theorem qxj {X:Cx}{a:List (Addr×Obj)}{H:Hp}{b t:Addr}{o:HO}(f:qi9 X a H b)(c:b≠t):qi9 X a (L2.upd H t o) b:=⟨by rw[qr c];exact f.1,f.2⟩
theorem qvi {P:AJ}{w:World}{K:Ag}{es:List Expr}{kk pos}(a e it:Addr)(G:e≠it):Turn P w K (.Tuple es kk pos) (Ite K a) [e,it] e (λi h=>∃f,IsEnum h e it i f/\h.IsListIter it a i) where
 mem:=by simp
 obj:=λi h st b j=>by
  obtain⟨f,y,o,l,c,d⟩:=st;rcases Aw.mp j with rfl|j
  .exact⟨_,y,λv z=>by cases z⟩
  .cases Aj.mp j;exact⟨o,l,λv z=>by rw[d]at z;cases z⟩
 keep:=λi h h' st k=>by obtain⟨f,y,l⟩:=st;exact⟨f,k e (by simp) _ y,l.at λo q=>k it (by simp) o q⟩
 item:=by
  intro X L N S V i O s σ H E I r st J;subst L N S;obtain⟨f,m,g⟩:=st;obtain⟨xs,x,D,R⟩:=J;obtain⟨its,rv,p,hz⟩:=I.list D;obtain⟨u,hu,ru⟩:=rv.get R;have C:=r e (by simp);have B:=r it (by simp);refine wpAny_pyNext_enum_item m g p.isList (x:=u) (by simpa using hu) G λy ho U ht hsz keep=>⟨_,Z,?_⟩;refine wpAny_letOwnedTupleGo_enum ho λl ad t=>?_
  replace t:CF e y l:=t
  have n:e<s.heap.objs.size:=AC m;obtain⟨oi,W,_⟩:=id g;have F:it<s.heap.objs.size:=AC W;have Y:l.get? s.heap.objs.size=some {cls:=.type "tuple",data:=.seq #[.int i s.toks,u]}:=(t.2 _ (Cm n)).trans ht;have ae:H s.heap.objs.size=none:=I.hok.fresh (Al _);have I1:=I.laid (a:=s.heap.objs.size) (o:=.tup [.int i,x]) (h':=s.heap.push {cls:=.type "tuple",data:=.seq #[.int i s.toks,u]}) (t':=s.toks) (λb o q=>Av _ q) (Al _) ⟨show 2<=A5 by rw[Bx];decide,[.int i s.toks,u],.cons ⟨_,Z⟩ (.cons ru .nil),⟨_,AW _ Z,Z,_,Z⟩⟩;have I2:=qtt (h':=l) (t':=s.toks+1) I1 (λb o T M q=>by
   by_cases z:b=s.heap.objs.size
   .subst z;rw[AW _ Z]at q;cases q;exact Y
   .rw[Heap.get?_push_ne _ _ _ z]at q;exact(t.2 b T).trans (keep b o T M q)) (qxj C (AE n)) (qxj B (AE F))
  refine⟨.ref s.heap.objs.size,_,I2,Z,λys hy=>?_,⟨u,ad,U.at λo q=>(t.2 it (B6 G)).trans q⟩,λb j=>?_⟩
  .rw[I.list_inj hy D];exact⟨x,_,R,ae,Z,Z⟩
  .rcases Aw.mp j with rfl|j
   .rw[qr (AE n)];exact C.1
   .cases Aj.mp j;rw[qr (AE F)];exact B.1
 done:=by intro X L N S V i O s σ H E I r st J;subst L N S;obtain⟨f,m,g⟩:=st;obtain⟨xs,D,R⟩:=J;obtain⟨its,rv,p,hz⟩:=I.list D;have hl:=rv.length;have C:=r e (by simp);have B:=r it (by simp);exact wpAny_pyNext_enum_end (I.ok.hd V) m g p.isList (by simp;lia) λh' eb=>⟨Z,qtt (t':=s.toks) I (λb o T M q=>eb b o M q) C B⟩
 self:=λA i s Q E st h=>by obtain⟨f,m,g⟩:=st;exact wpAny_pyIter_enum m h
def iEnum (K:Ag)(ta:TA):TI:=λσ H R=>ta σ H λvs H1=>∃a xs,vs=[.ref a]/\H1 a=some (.lst xs)/\R (Ite K a) H1
theorem qvj:bootBuiltins "enumerate"=some (.type "enumerate"):=Uk
theorem qk6 {X:Cx}{es:List Expr}{r:_}{g:Pos}{a:Expr}{j:TA}{p pos:Pos}(t:Gl X "enumerate")(v:X.mg "enumerate"=none)(x:PA X [a] j)(B:starEach [a] X.env=[(false,eval a X.env)]:=by rfl):PI X (.Tuple es r g) (.Call (.Name "enumerate" p) [a] [] pos) (iEnum X.K j):=by
 intro d s σ H R I h;refine Call_ (qf9 I t v qvj (Cc (thn (x pos d s σ H _ I h) λus f ⟨vs,k,c,w,y⟩=>?_) B Z));obtain⟨l,xs,e,D,q⟩:=y;subst e;obtain⟨u,rfl,A⟩:=qkc w;cases qk3 A;obtain⟨z,its,n,rv,hz,e⟩:=c.lstM D;refine call_enumerate_1 e λh' m o hsz keep=>wpAny_pyIter_enum m ?_;have C:Inv X d σ k {f with heap:=h'}:=c.kept (t':=f.toks) keep;refine⟨f.heap.objs.size+1,[f.heap.objs.size+1,f.heap.objs.size],_,_,k,Z,C,qvi l _ _ (Cm (Ca _)),⟨.none,m,o⟩,λb i=>?_,q⟩;rcases Aw.mp i with rfl|i
 .exact c.fpOk (C7 _) (c.hok.fresh (C7 _))
 .cases Aj.mp i;exact c.fpOk (Al _) (c.hok.fresh (Al _))
theorem qig {K:Ag}{a:Addr}{xs:List V}{g:TG}{tb:TS}{D:Ends}{σ:L2.St}{H:Hp}(b:Nat->L2.St->Hp->Prop)(j:b 0 σ H)(r:∀i σ H,i<=xs.length->b i σ H->SqL K H a xs)
  (l:∀i x t σ H,xs[i]?=some x->b i σ H->H t=none->g (.ref t) σ (upd H t (.tup [.int i,x])) λσ2 d=>tb {D with nx:=b (i+1),ct:=b (i+1),bk:=D.nx} σ2 d)(hd:∀σ H,b xs.length σ H->D.nx σ H) :
  ∃W:Nat->Nat->L2.St->Hp->Prop,(∃m,W 0 m σ H)/\∀i m σ H,W i m σ H ->
   ((Ite K a).stop i H/\D.nx σ H)\/((Ite K a).go i H/\∃N:L2.St->Hp->Prop,(∀σ' H',N σ' H'->∃m',m'<m/\W (i+1) m' σ' H')/\∀x H',(Ite K a).yld i H x H'->g x σ H' λσ2 d=>tb {D with nx:=N,ct:=N,bk:=D.nx} σ2 d):=by
 refine⟨λi m σ H=>m=xs.length-i/\i<=xs.length/\b i σ H,⟨xs.length,by simp,AS _,j⟩,?_⟩
 rintro i m σ H ⟨rfl,h,p⟩
 have f:=r i σ H h p
 by_cases c:i<xs.length
 .have ex:xs[i]?=some xs[i]:=by simp[c]
  refine .inr ⟨⟨xs,xs[i],f,ex⟩,b (i+1),λσ' H' n=>⟨xs.length-(i+1),by lia,Z,c,n⟩,λx H' k=>?_⟩;obtain⟨y,t,q,o,rfl,rfl⟩:=k xs f;exact l i y t σ H q p o
 .have e:i=xs.length:=by lia
  subst e;exact .inl ⟨⟨xs,f,Al _⟩,hd σ H p⟩
end Add
namespace Add
open PySem PySem.Spec PyProof.Rows L2
section
variable {X:Cx}
theorem qxk (bs:List Bool):((Aq bs.length).any λj=>(bs[j]?).getD true)=bs.any λb=>b:=by
 rw[CD,CO,CO];constructor
 .rintro⟨j,a,e⟩;have c:j<bs.length:=by simpa using a
  rw[Ae c]at e;exact⟨bs[j],BI c,e⟩
 .rintro⟨b,d,e⟩;obtain⟨j,a,rfl⟩:=C0 d;exact⟨j,by simpa using a,by rw[Ae a];exact e⟩
theorem qvk (l:X.calm=true):qga X (.builtin "any") (λxs H Q=>∃(p:Addr)(bs:List Bool),xs=[V.ref p]/\SqL X.K H p (bs.map V.bl)/\Q (.bl (bs.any λb=>b)) H):=by
 intro pins s σ H xs us Q I r h;obtain⟨p,bs,rfl,t,q⟩:=h;obtain⟨u,rfl,c⟩:=Vals.one r;cases c;obtain⟨its,rv,pl,hz⟩:=I.list t;have f:=rv.length;rw[Ab]at f;have k:p≠s.heap.objs.size:=by obtain⟨o,y,_⟩:=pl.isList;exact AE (AC y)
 refine call_any_walk (wpAny_pyIter_list pl.isList ⟨s.heap.objs.size,_,_,its.toArray.size,_,_,λj=>(bs[j]?).getD true,Z,Walks.list (show X.A.in1.handled=none from I.ok.hd l) _ p k its.toArray,
  ⟨⟨_,AW _ Z,Z,Z⟩,pl.isList.at λo e=>Av _ e⟩,?_,λh' tk n=>?_⟩)
 .intro i v s' Q' E' m d;have a:its[i]?=some v:=by simpa using m
  cases e:bs[i]? with
  |none =>
   exfalso;have B:its.length<=i:=by rw[<- f];exact Dt.mp e
   rw[Dt.mpr B]at a;cases a
  |some b =>obtain⟨u,g,c⟩:=rv.get (i:=i) (x:=.bl b) (by rw[Ah,e];rfl);rw[a]at g;cases g;cases (show v=Ej b from c);dsimp only at d;rw[e]at d;exact BF d
 .refine⟨.bl _,H,I.kept (t':=tk) λb o e=>n b o (λz=>?_) (Av _ e),Z,?_⟩
  .have w:b=s.heap.objs.size:=by simpa using z
   exact absurd (AC e) (by rw[w];exact Cd _)
  .have e:its.toArray.size=bs.length:=by rw[Ai,f]
   rw[e,qxk];exact q
theorem gk_tup {K:Ag}{n:Nat}{t:TGs}(c:∀xs σ' H' R b,(∀σ3 H3,R σ3 H3->b σ3 H3)->t xs σ' H' R->t xs σ' H' b)(x:V)(σ':L2.St)(H':Hp)(R b:L2.St->Hp->Prop)(h:∀σ3 H3,R σ3 H3->b σ3 H3)(z:gTup K n t x σ' H' R):gTup K n t x σ' H' b:=by obtain⟨a,xs,e,d,f,z⟩:=z;exact⟨a,xs,e,d,f,c _ _ _ _ _ h z⟩
end
structure FunD (K:Ag)(x qual:Str)(st:Stmt)(f:Addr)(fd:Au):Prop where
 ex:∃(oc dV kV doc pm cdv ct:Value)(od an:Option Addr)(osl:Array (Option Value)),
  fd=Bk x qual (qa9 st) (qaw st) (qaa st) dV kV doc pm an cdv ct/\K.lookup f=some ⟨oc,od,.func fd,osl⟩/\BE K cdv qual=true
 kp:Bs K (.ref f)=true
section
variable {P:AJ}{w:World}{K:Ag}{mg:Str->Option Value}{base:Heap}
theorem FunD.ok {x a:Str}{st:Stmt}{f:Addr}{fd:Au}{N ps:List Str}{k:Nat}{sp:Sp}(F:FunD K x a st f fd)(S:FnScope N ps (qaa st))(len:∀vs H Q E,sp vs H Q E->vs.length=ps.length)
  (c:∀(b:Value)(A:AT)(outer:List Env)(s:Ad)(H:Hp)(vs:List V)(Q:VK)(E:XK),Room k (A.deeper (envOfC a (qaa st) s.heap.objs.size f b))->sp vs H Q E ->
   ∃t,PSs (qp7 CX0 P w K mg base N a (qaa st) f b A outer s H E).nox (qaw st) t/\t {nx:=λ_ H'=>Q .non H',rt:=Q} (start N vs) H):FnOk P w K mg base CX0 (k+1) f fd ps sp:=by
 obtain⟨oc,dV,kV,doc,pm,b,ct,od,an,osl,rfl,g,d⟩:=F.ex
 refine qwv g d S len λA outer s H vs Q E i e=>?_
 obtain⟨t,h,q⟩:=c b A outer s H vs Q E i e
 exact⟨t,h.nox,q⟩
theorem qo4 {x a:Str}{st:Stmt}{f:Addr}{m:Value}{j i:Option Addr}{e:Array (Option Value)}{h kV d g b ct:Value}(l:K.lookup f=some ⟨m,j,.func (Bk x a (qa9 st) (qaw st) (qaa st) h kV d g i b ct),e⟩)
  (c:BE K b a=true)(k:Bs K (.ref f)=true):FunD K x a st f (Bk x a (qa9 st) (qaw st) (qaa st) h kV d g i b ct):=⟨⟨m,h,kV,d,g,b,ct,j,i,e,Z,l,c⟩,k⟩
theorem qo5 {fd:Au}{ps:List Str}{ds:List Value}(h:∀us:List Value,(us++ds).length=ps.length->∀S,CI K S (bindArgs fd ⟨us,[]⟩)=some (ps.zip (us++ds))):Binds K fd ps ds:=λs us X a=>PySem.W.kp_binds X (h us a)
end
structure MethD (K:Ag)(x qual:Str)(st:Stmt)(ps:List Str)(f:Addr)(fd:Au):Prop where
 fn:FunD K x qual st f fd
 bd:Binds K fd ps []
 ty:C9 K (.ref f)=some (.type "function")
section
variable {X:Cx}{a b c d:Expr}{ta tb tc td:TE}{pos:Pos}
def tChain3 (r r' r2:R2)(ta tb tc td:TE):TE:=λσ H Q=>ta σ H λx H1=>tb σ H1 λy H2=>r x y H2 λz H3=>∃k,z=.bl k /\
 (if k=true then tc σ H3 λw' H4=>r' y w' H4 λz' H5=>∃k',z'=.bl k'/\(if k'=true then td σ H5 λu H6=>r2 w' u H6 Q else Q (.bl false) H5) else Q (.bl false) H3)
theorem qvl {op g i:CmpOp}{r p t:R2}(ho:OpR X (compareOp op) r)(w:OpR X (compareOp g) p)(m:OpR X (compareOp i) t)(V:PE X a ta)(P:PE X b tb)(K:PE X c tc)(hd:PE X d td)
  (R:lastMarks [op,g,i] [b,c,d]=false:=by with_unfolding_all rfl):PE X (.Compare a [op,g,i] [b,c,d] pos) (tChain3 r p t ta tb tc td):=by
 intro f s σ H Q I h;refine Compare_chain (thn (V f s σ H _ I h) λv s1 ⟨x,O,I1,S,q1⟩=>chain_link (thn (P f s1 σ O _ I1 q1) λu s2 ⟨y,M,I2,o,q2⟩ =>
  thn (ho f s2 σ M x y v u _ I2 S o q2) λe J ⟨z,A,l,r3,k,ek,C⟩=>?_)) R
 subst ek;cases r3;refine BF ?_;cases k with
 |false=>exact ite_ff ⟨.bl false,A,l,Z,C⟩
 |true =>
  refine ite_tt (chain_link (thn (K f J σ A _ l C) λn s4 ⟨B,T,U,q,q4⟩=>thn (w f s4 σ T y B u n _ U o q q4) λe' G ⟨z2,D,F,r5,k',E,j⟩=>?_));subst E;cases r5;refine BF ?_;cases k' with|false=>exact ite_ff ⟨.bl false,D,F,Z,j⟩|true=>exact ite_tt (chain_last (thn (hd f G σ D _ F j) λu' L ⟨Y,W,I6,N,q6⟩=>m f L σ W B Y n u' Q I6 q N q6))
end
theorem pg_tupC {X:Cx}{K:Ag}(d:X.K=K){es:List Expr}{b:_}{pos:Pos}{t:TGs}{n:Nat}(c:X.calm=true)(h:PGs X es t)
  (a:(assignEach es X.env).length=n:=by rfl)(hst:(assignEach es X.env).findIdx? (·.1)=none:=by rfl):PG X (.Tuple es b pos) (gTup K n t):=by
 subst d;exact qd5 c h a hst
theorem qqi {α:Type}{H:Hp}{enc:α->List V}{f g:V->V}{h:α->V}:∀{rs:List α}{us:List V},Tups H us (rs.map enc)->(∀a r,H a=some (.tup (enc r))->f (.ref a)=h r)->us.map f=rs.map h
 | [],us,t,_=>by cases t;rfl
 |r::rs,us,t,k=>by
  cases t with|cons q t=>rw[Bc,Bc,k _ _ q,qqi (g:=g) t k]
theorem qqj (x:Int)(xs:List Int):inV (.int x) (xs.map V.int)=xs.contains x:=by
 unfold inV;rw[List.any_map,List.contains_eq_any_beq]
 congr 1
 funext y;show (y == x)=(x == y);rw[CD,beq_iff_eq,beq_iff_eq];exact eq_comm
theorem qoc (xs:List Int):(xs.map V.int).all qbv=true:=by rw[List.all_map];exact Cb.mpr λ_ _=>rfl
end Add
namespace Tab
open Mrg Lay
def fy (wk:List Int)(yr:List S2)(i:Int):Bool:=wk.contains (i % 7+1) || inB yr i
def fdL (wk:List Int)(yr:List S2):List Bool:=(Aq 371).map λi=>fy wk yr (i:Nat)
theorem qfo (wk:List Int)(yr:List S2):(fdL wk yr).length=371:=by unfold fdL;rw[Ab,As]
noncomputable def opn (bs:List Bool)(k:Nat):Int:=(((bs.take k).filter λb=>!b).length:Nat)
def cuL (bs:List Bool):List Int:=(Aq (bs.length+1)).map λk=>opn bs k
theorem qsg (bs:List Bool){k:Nat}(h:k<=bs.length):(cuL bs)[k]?=some (opn bs k):=by unfold cuL;rw[Ah,AX (by lia)];rfl
theorem qlv {bs:List Bool}{k:Nat}{b:Bool}(h:bs[k]?=some b):opn bs (k+1)=if b=true then opn bs k else opn bs k+1:=by unfold opn;rw[B8,h,Ck];cases b <;>simp
theorem qjj (bs:List Bool)(k:Nat):0<=opn bs k/\opn bs k<=bs.length:=by
 unfold opn;have h1:=Df (λb=>!b) (bs.take k);have h2:(bs.take k).length<=bs.length:=by rw[Bj];lia
 lia
noncomputable def odL (bs:List Bool):List Int:=((Aq bs.length).filter λi=>!(bs.getD i true)).map λ(i:Nat)=>(i:Int)
structure OkW (wk:List Int):Prop where
 len:wk.length<=6
 nd:wk.Nodup
 rng:∀x∈wk,1<=x/\x<=7
structure OkY (yr:List S2):Prop where
 len:yr.length<=4
 rng:∀r∈yr,0<=r.1/\r.1<=r.2/\r.2<r.1+30/\r.2<364
end Tab
namespace Add
open PySem PySem.Spec PyProof.Rows L2
section
variable {X:Cx}{tg:Expr}
end
end Add
namespace Rev
open PySem PyProof.Rows
set_option maxRecDepth 100000
theorem no_len:typeLookup (.type "list_reverseiterator") "__len__"=pure none:=by rw[typeLookup_type,builtinLookup_eq_fast];kernel_rfl
theorem qxl:typeLookup (.type "list_reverseiterator") "__length_hint__"=pure (some (.builtin "list_reverseiterator.__length_hint__")):=by rw[typeLookup_type,builtinLookup_eq_fast];kernel_rfl
section
variable {prog:AJ}{w:World}{A:AT}{s:Ad}{R:Result->Ad->Prop}{E:Value->Ad->Prop}
variable {I:Addr}{fp wr:List Addr}{G:Array Ez->Array Ez->Prop}{n:Nat}{P:Nat->Value->Prop}{St:Nat->Ad->Prop}
theorem hint_ok {x:Value}{Q:Bool->Ad->Prop}(c:s.TypeIs x "list_reverseiterator")(h:Q false s):wpAny (model prog w) A (Bl.List.listLengthHint x) Q E s:=by
 unfold Bl.List.listLengthHint;refine An (wpAny_specialOf c no_len ?_);show wpAny _ A (specialOf x (Aa "__length_hint__") >>= _) _ _ _;refine An (wpAny_specialOf c qxl ?_);generalize a:("list_reverseiterator.__length_hint__" : String)=id0
 wp_delta
 rw[show splitId id0=some ("list_reverseiterator","__length_hint__") from by subst a;decide +kernel];subst a;refine An (wpAny_isInstance (b:=true) c (by rw[isSubtype_type];kernel_rfl) ?_);exact AQ h
theorem qvm (W:WalksS prog w A.in1 I fp wr G n P St)(k:∀i s,St i s->s.TypeIs (.ref I) "list_reverseiterator")(S:Addr)(res:Value)(r:Nat)(c:St 0 s)(g:S∉fp)(o:I∈fp)
  (u:s.heap.get? S=some {cls:=.type "list",data:=.seq #[] r})
  (hR:∀a b d,Moved (S::wr) G s a->a.heap.get? S=some {cls:=.type "list",dict:=none,data:=.seq b d,slots:=#[]}->ItemsOf P b n->R (.ok (.ret res)) a)(hn:n<=A5) :
  wpAny (model prog w) A.in1 (Bl.List.listExtendWith (.ref S) (.ref I) res)
   (λl a=>match l with | .done f=>R (.ok f) a | .again d=>d.quiet=true/\codeAny (model prog w) A d R a) (λe a=>R (.error e) a) s:=by
 have j:S≠I:=λe=>g (e ▸ o)
 unfold Bl.List.listExtendWith
 refine An (wpAny_typeOf (k 0 _ c) ?_)
 have v:Bl.List.listSameRef (.ref S) (.ref I)=false:=by simp[Bl.List.listSameRef,j]
 have q:(Dl "list_reverseiterator" == Dl "list")=false:=by decide
 have t:(Dl "list_reverseiterator" == Dl "tuple")=false:=by decide
 simp only[v,q,t,Dw,El,if_false]
 refine An (W.self 0 _ _ _ c ?_)
 refine An (CJ (hint_ok (k 0 _ c) ?_))
 rw[if_neg Ud]
 exact AQ ⟨plainId_quiet F.plain_extend_loop _,codeAny_extend_loopS W hn _ g _ n 0 _ _ _ Z (AS _) c u (ItemsOf.nil P) λa b d p m h=>hR a b d p m h⟩
theorem init_ok (W:WalksS prog w A.in1 I fp wr G n P St)(y:∀i s,St i s->s.TypeIs (.ref I) "list_reverseiterator")(S:Addr)(p:St 0 s)(j:S∉fp)(v:I∈fp)
  (l:s.heap.get? S=some {cls:=.type "list",data:=.seq #[]})
  (hR:∀a c d,Moved (S::wr) G s a->a.heap.get? S=some {cls:=.type "list",dict:=none,data:=.seq c d,slots:=#[]}->ItemsOf P c n->R (.ok (.ret .none)) a)(hn:n<=A5) :
  wpAny (model prog w) A.in1 (Bl.«list.__init__» ⟨[.ref S,.ref I],[]⟩)
   (λq a=>match q with | .done f=>R (.ok f) a | .again d=>d.quiet=true/\codeAny (model prog w) A d R a) (λe a=>R (.error e) a) s:=by
 show wpAny _ A.in1 (Bl.List.listItems (.ref S) >>= λt=>Bl.List.listUpdate (.ref S) (λ_=>#[]) >>= λ_=>letGo t.toList.reverse >>= λ_=>Bl.List.listExtendWith (.ref S) (.ref I) .none) _ _ s
 refine An ?_
 unfold Bl.List.listItems
 refine An (wpAny_seqItems l Z (AQ ?_))
 refine An (wpAny_updateSeq l Z ?_)
 have u:=Heap.get?_update_self (B9 (λ_=>(#[]:Array Value))) l rfl
 have k:∀b o,b≠S->s.heap.get? b=some o->(s.heap.update S (B9 (λ_=>(#[]:Array Value)))).get? b=some o:=λb o g e=>(DF _ _ (B6 g)).trans e
 refine An (wpAny_letGo ?_)
 refine qvm W y S .none _ (W.frame 0 s _ s.toks p (Al _) λb g o e=>k b o (λh=>j (h ▸ g)) e) j v u (λa c d x r m=>?_) hn
 exact hR a c d (Moved.trans W.gtrans ((Moved.refl W.grefl).then_heap (Al _) λb o g e=>k b o (λh=>g (h ▸ Am)) e) x) r m
theorem list_ok {Q:Value->Ad->Prop}(W:WalksS prog w A.in1.in1 I fp wr G n P St)(u:∀i s,St i s->s.TypeIs (.ref I) "list_reverseiterator")(j:St 0 s)(p:∀b∈fp,b<s.heap.objs.size)(r:I∈fp)
  (t:∀c a g,Moved (s.heap.objs.size::wr) G {s with heap:=s.heap.push {cls:=.type "list",data:=.seq #[]} } c ->
   c.heap.get? s.heap.objs.size=some {cls:=.type "list",dict:=none,data:=.seq a g,slots:=#[]}->ItemsOf P a n->Q (.ref s.heap.objs.size) c) (hn:n<=A5) :
  wpAny (model prog w) A (call (.type "list") [.ref I]) Q E s:=by
 have l:s.heap.objs.size∉fp:=λf=>Cd _ (p _ f);refine callType_codes (Q₁:=λd k=>d=.ref s.heap.objs.size/\k={s with heap:=s.heap.push {cls:=.type "list",data:=.seq #[]} }) F.called_list (F.typeCall_list_1 _) F.entry_list_init (code_list_new _ ⟨Z,Z⟩) λd k v=>?_;obtain⟨rfl,rfl⟩:=v;have m:(s.heap.push {cls:=.type "list",data:=.seq #[]}).get? s.heap.objs.size=some {cls:=.type "list",data:=.seq #[]}:=AW _ rfl;exact⟨⟨_,m,Z⟩,F.args_list_init_2 _ _,init_ok W u _ (W.frame 0 s _ s.toks j (Al _) λb _ o e=>Av _ e) l r m (λc a g f q h=>⟨Z,t c a g f q h⟩) hn⟩
end
end Rev
namespace Add
open PySem PySem.Spec PyProof.Rows L2
theorem qng:bootBuiltins "reversed"=some (.type "reversed"):=Uk
theorem qvn {xs:List V}{us:List Value}{x:V}{u:Value}(h:Vals xs us)(r:RelV x u):Vals (xs++[x]) (us++[u]):=by
 induction h with
 |nil=>exact .cons r .nil
 |cons r' _ ih=>exact .cons r' ih
theorem qxm {xs:List V}{us:List Value}(h:Vals xs us):Vals xs.reverse us.reverse:=by
 induction h with
 |nil=>exact .nil
 |cons r _ ih=>rw[Dj,Dj];exact qvn ih r
theorem qvo {its:List Value}{a:Array Value}(h:ItemsOf (λi v=>its.toArray[its.toArray.size-1-i]?=some v) a its.toArray.size):a=its.reverse.toArray:=by
 obtain⟨g,f⟩:=h;have e:a.toList=its.reverse:=by
  refine Cr λi=>?_;have hs:a.size=its.length:=by rw[g];simp
  by_cases c:i<its.length
  .have d:i<a.size:=by lia
   have b:a[i]?=some a[i]:=Array.getElem?_eq_getElem d;have:=f i _ b;rw[DL,b,<- this,Dg c];simp
  .rw[AR (by rw[BN];lia),AR (by rw[BO];lia)]
 rw[<- e]
section
variable {X:Cx}
def tLR (K:Ag)(t:TA):TE:=λσ H Q=>t σ H λvs H1=>∃l ys,vs=[.ref l]/\SqL K H1 l ys/\∀q,H1 q=none->Q (.ref q) (upd H1 q (.lst ys.reverse))
theorem qsh {e:Expr}{t:TA}{p F pos c:Pos}(C:X.calm=true)(G:Gl X "list")(E:X.mg "list"=none)(L:Gl X "reversed")(B:X.mg "reversed"=none)(y:bootBuiltins "list"=some (.type "list"))(R:PA X [e] t)
  (O:starEach [e] X.env=(false,eval e X.env)::starEach [] X.env:=by rfl):PE X (.Call (.Name "list" p) [.Call (.Name "reversed" F) [e] [] c] [] pos) (tLR X.K t):=by
 intro r s σ H Q I h;refine Cj (qf9 I G E y ?_);refine Cc ?_ rfl rfl;show wpAny _ _ (spliced ((false,eval (.Call (.Name "reversed" F) [e] [] c) X.env)::[])) _ _ s;refine CW ?_;refine Cj (qf9 I L B qng ?_);refine Cc (thn (R c r s σ H _ I h) λus a ⟨vs,N,v,P,S⟩=>?_) O rfl;obtain⟨l,ys,rfl,V,q⟩:=S;obtain⟨u,rfl,M⟩:=qkc P;cases M;obtain⟨its,D,pl,hz⟩:=v.list V;refine call_reversed_list pl.isList (DE ?_);have k:=pl.isList;have j:l<a.heap.objs.size:=by obtain⟨o,U,_⟩:=k;exact AC U
 have T:X.A.handled=none:=I.ok.hd C;have W:=(Walks.listRev (prog:=X.prog) (w:=X.w) (A:=X.A.in1.in1) T a.heap.objs.size l (AE j) its.toArray).toS;refine Rev.list_ok W (λi s st=>st.2.1.typeIs) ⟨AS _,?_,k.at λo e=>Av _ e⟩ (λb f=>?_) (by simp) (λd acc' Y g m n=>?_) ?_
 .refine⟨_,AW _ Z,Z,?_⟩;rw[show ((its.toArray.size:Nat):Int)-1-((0:Nat):Int)=(its.toArray.size:Int)-1 by lia];rfl
 .show b<(a.heap.push _).objs.size;rw[DD];rcases Aw.mp f with z|z
  .rw[z];exact Ca _
  .rw[Aj.mp z];exact DI j
 .have sz:(a.heap.push (revObj l ((its.toArray.size:Int)-1))).objs.size=a.heap.objs.size+1:=DD _ _;have kp:∀b o,a.heap.get? b=some o->d.heap.get? b=some o:=λb o e=>by
   have f:=AC e;refine g.heap b o (λz=>?_) (Av _ (Av _ e));rcases Aw.mp z with z|z
   .rw[z]at f;exact absurd f (by show ¬((a.heap.push (revObj l ((its.toArray.size:Int)-1))).objs.size<a.heap.objs.size);rw[sz];exact Nat.not_lt_of_le (C7 _))
   .rw[Aj.mp z]at f;exact Cd _ f
  have es:d={a with heap:=d.heap,toks:=d.toks}:=by
   have g1:=g.gens;have g2:=g.drawn;have g3:=g.os;cases d;cases a
   simp_all
  have le:a.heap.objs.size<=(a.heap.push (revObj l ((its.toArray.size:Int)-1))).objs.size:=by rw[sz];exact C7 _
  rw[qvo n]at m;have J:ObjOk X.prog X.w (upd N (a.heap.push (revObj l ((its.toArray.size:Int)-1))).objs.size (.lst ys.reverse)) d.heap (a.heap.push (revObj l ((its.toArray.size:Int)-1))).objs.size (.lst ys.reverse) :=
   ⟨by rw[BO];exact hz,its.reverse,Y,qxm D,m⟩
  have x:=v.laid (t':=d.toks) kp le J;rw[<- es]at x;exact⟨.ref _,_,x,Z,q _ (v.hok.fresh le)⟩
 .have:=D.length;simp only[Ai];lia
end
end Add
namespace Lay
theorem qqk {W:Type}[DecidableEq W](d:Int):∀(b:List (Row W))(a:W),(∀s∈b,¬(s.1<=d/\d<=s.2.1))->qbd a b d=a
 | [],_,_=>rfl
 |r::b,a,h=>by rw[qcb,if_neg (h r Am)];exact qqk d b a λs c=>h s (Ay _ c)
theorem qod {W:Type}[DecidableEq W](a:W)(d:Int):∀{b:List (Row W)},Dis b->qbd a b d=(match b[cnt (ends b) d]? with|some r=>if r.1<=d then r.2.2 else a|none=>a)
 | [],_=>rfl
 |r::b,h=>by
  have pw:=BA.mp h.pw;have h':Dis b:=⟨λs f=>h.ok s (Ay _ f),pw.2⟩;have e:ends (r::b)=r.2.1::ends b:=rfl;rw[qcb,e,qd9];by_cases c:r.2.1<d
  .rw[if_neg (λz=>BC.mpr z.2 c),if_pos c,DA];exact qod a d h'
  .rw[if_neg c,qif (λe i z=>by
    obtain⟨s,f,rfl⟩:=Bd.mp i
    exact c (CH (Bf (pw.1 s f) (h'.ok s f)) z))]
   rw[qqk d b _ λs f z=>c (Bf (pw.1 s f) z.1)]
   show _=if r.1<=d then r.2.2 else a
   by_cases g:r.1<=d
   .rw[if_pos ⟨g,BC.mp c⟩,if_pos g]
   .rw[if_neg λz=>g z.1,if_neg g]
theorem qtu {W:Type}[DecidableEq W](S:W->Prop)(d:Int):∀(b:List (Row W))(a:W),S a->(∀s∈b,S s.2.2)->S (qbd a b d)
 | [],_,h,_=>h
 |r::b,a,h,hs=>by
  rw[qcb];refine qtu S d b _ ?_ λs z=>hs s (Ay _ z);split
  .exact hs r Am
  .exact h
end Lay
namespace Add
open PySem PySem.Spec PyProof.Rows L2
end Add
namespace Add
open PySem PySem.Spec PyProof.Rows L2
section
variable {X:Cx}{CX:CXT}{k:Nat}{f C:Addr}{fd:Au}{ps ks:List Str}{sp:Sp}{E:XK}{x:Str}{p pos:Pos}{e:Expr}{es:List Expr}{kws:List Keyword}{t tk:TA}{g:List Value->List Value->List Value}{gV:List V->List V->List V}
end
noncomputable def g21 {α:Type}(n:α):List α->List α->List α
 | [a,b],[c]=>[a,b,n,c]
 |_,_=>[]
section
variable {X:Cx}
theorem qec (n:Nat):(Aq n).all (λ_=>true)=true:=by simp
end
section
variable {X:Cx}
def ipL:TIp:=λx y H Q=>∃l b xs zs,x=.ref l/\y=.ref b/\H l=some (.lst xs)/\H b=some (.lst zs)/\xs.length+zs.length<=A5/\Q (.ref l) (upd H l (.lst (xs++zs)))
theorem qkt:fillsInplaceSlot (.type "list") "add" (Operator.Add == .Add)=pure false:=by unfold fillsInplaceSlot;show (typeLookup (.type "list") (dunderI "add") >>= λa=>pure (a.isSome && !isSeqSlot a))=pure false;rw[F.slot_list_iadd.lookup];rfl
theorem qnh:seqSlot? (.type "list") (dunderI "add")=pure (some (.builtin "list.__iadd__")):=PySem.seqSlot_of F.slot_list_iadd.lookup Uk
theorem ip_ext:PIp X .Add ipL:=by
 intro pins s σ H x y v u Q I j k h;obtain⟨l,b,xs,zs,rfl,rfl,g,i,hz,q⟩:=h;cases j;cases k;obtain⟨z,its,n,r,hl,e⟩:=I.lstM g;obtain⟨z2,a,m,o,hl2,f⟩:=I.lstM i;have hsz:its.toArray.size+a.toArray.size<=A5:=by rw[Ai,Ai];lia
 have c:¬(!its.toArray.isEmpty && Bl.List.listTooLong (its.toArray.size+a.toArray.size))=true:=by rw[qlm hsz,Co];exact AF
 unfold inplaceOp;refine CJ ?_;have d:s.TypeIs (.ref l) "list" := ⟨_,e,Z⟩;have tb:s.TypeIs (.ref b) "list" := ⟨_,f,Z⟩;refine An (wpAny_typeOf d (An (wpAny_of_eq qkt ?_)));show wpAny _ _ (if false=true then _ else _) _ _ s;rw[if_neg AF];refine An (wpAny_binaryOp1_none (nm := "add") d tb noFill_list_add ?_);refine An (wpAny_of_eq qnh ?_);refine An (wpAny_rule ?_);refine DM F.slot_list_iadd d F.entry_list_iadd (F.args_list_iadd_2 _ _)
  (AutoSeq1.list___iadd___list_list_0 l its.toArray n b a.toArray m c (by rw[Ai];lia) (by lia)) ⟨e,f,?_⟩
 refine⟨.ref l,_,I.lset (its':=its++a) g e (by simp) (r.append o) ?_,Z,q⟩;rw[Af];lia
theorem qoe {α β:Type}{F:α->β->Prop}:∀{l:List α}{m:List β},l.length=m.length->(∀(j:Nat)(x:α)(u:β),l[j]?=some x->m[j]?=some u->F x u)->Dv F l m
 | [],[],_,_=>.nil
 |x::l,u::m,h,f=>.cons (f 0 x u Z Z) (qoe (Nat.succ.inj h) λj y v b a=>f (j+1) y v b a)
theorem is_kV {P:AJ}{w:World}{k:Key}{u:Value}(h:(qas P w).is k u=true):RelV (kV k) u:=by
 cases k with|inl i=>exact Value.isInt_shape h|inr x=>exact Value.isStrOf_shape h
theorem qlw (t:X.calm=true):qga X (.type "list") (λxs H Q=>∃(d:Addr)(kvs:List (Key×V)),xs=[.ref d]/\H d=some (.dK kvs)/\∀l,H l=none->Q (.ref l) (upd H l (.lst (kvs.map λa=>kV a.1)))):=by
 intro pins s σ H xs us Q I r h;obtain⟨d,kvs,rfl,hd,q⟩:=h;obtain⟨u,rfl,v⟩:=qkc r;cases v;obtain⟨z,lo,vs,a,B⟩:=qw2 I.hok hd;obtain⟨ep,m⟩:=B.dictAt;refine PySem.W.kdl_call (PySem.W.kdl_dict (knd:=qas X.prog X.w) (kvs:=vs) (ep:=ep) lo) (I.ok.hd t) m (by rw[<- a.length];exact z) λh' tk b c kp e i=>?_;have rv:Vals (kvs.map λa=>kV a.1) b.toList:=by
  have D:(kvs.map λa=>kV a.1).length=b.toList.length:=(Ab _).trans (a.length.trans (i.1.symm.trans BN.symm));refine qoe D λj x u f C=>?_;obtain⟨k,y,A,o⟩:=i.2 j u (by rw[<- DL];exact C);rw[Ah]at f;have g:=congrArg (·[j]?) a.keys;simp only[Ah,A,Dy]at g;cases n:kvs[j]? with|none=>rw[n]at f;cases f|some p =>rw[n]at f g;cases f;cases AA g;exact is_kV o
 exact⟨.ref s.heap.objs.size,_,I.laid (t':=tk) kp (Al _) (show ObjOk X.prog X.w _ h' _ (.lst (kvs.map λa=>kV a.1)) from ⟨by rw[Ab];exact z,b.toList,c,rv,by simpa using e⟩),Z,q _ (I.hok.fresh (Al _))⟩
end
def tMethF {ι:Type}(C:ι->Addr)(m:Str)(sp:ι->Sp)(dvs:List V)(E:XK)(ta:TE)(t:TA):TE:=λσ H Q=>ta σ H λx H1=>∃(i:ι)(a dx:Addr)(fs:List (Str×V)),x=.ref a/\H1 a=some (.ins (C i) dx fs)/\fs.lookup m=none /\
 t σ H1 λvs H2=>sp i (x::(vs++dvs)) H2 Q E
section
variable {X:Cx}{CX:CXT}{ι:Type}{k:ι->Nat}{f C:ι->Addr}{fd:ι->Au}{ps:ι->List Str}{sp:ι->Sp}{dvs:List V}{ds:List Value}{E:XK}{m:Str}{pos apos:Pos}{e o:Expr}{es:List Expr}{ta:TE}{t:TA}
theorem qlx {pl:Sem Bool}(B:PE X o ta)(c:∀i,Cls X.K (C i))(g:∀i,Meth X.K (C i) m (f i))(F:∀i,FnOk X.prog X.w X.K X.mg X.base CX (k i) (f i) (fd i) (ps i) (sp i))(v:∀i,Room (k i) X.A)(z:∀i,Binds X.K (fd i) (ps i) ds)(G:Vals dvs ds)(J:qgb CX X E)(D:PA X (e::es) t)
  (d:starEach (e::es) X.env=(false,eval e X.env)::starEach es X.env:=by rfl)(hpl:(backTo pos (starEach es X.env)).any (·.1)=false:=by rfl)
  (ht:eval (.Call (.Attribute o m apos) (e::es) [] pos) X.env=(do
   let ov <- eval o X.env
   standAt apos.atName
   let (f,first) <- holding [ov] (getMethod ov m pl)
   callWith pos f first (backTo pos (starEach (e::es) X.env)) (backToKw pos (keywordEach [] X.env))):=by rfl) :
  PE X (.Call (.Attribute o m apos) (e::es) [] pos) (tMethF C m sp dvs E ta t):=by
 intro b s σ H Q I h;refine DK (pl:=pl) (thn (B b s σ H _ I h) λu N ⟨x,y,n,p,i,a,dx,fs,ex,L,l,q⟩=>?_) ht;subst ex;obtain rfl:u=Bo a:=p;refine qhp n L (c i) (g i) l ?_;refine D3 (first:=[.ref a]) (h₀:=X.base) I.ok.mod.kin (g i).kp (thn (D pos b N σ y _ n q) λus s2 ⟨vs,H2,j,r,M⟩=>⟨j.kIn,?_⟩) d hpl;exact qou (us:=.ref a::us) (vs:=.ref a::vs) (F i) (v i) (z i) G J j (.cons Z r) M
end
inductive Three where
 |a|b|c
noncomputable def qcq {α:Type}(x y z:α):Three->α
 |.a=>x
 |.b=>y
 |.c=>z
theorem qf7 {p:Three->Prop}(x:p .a)(y:p .b)(z:p .c):∀i,p i
 |.a=>x
 |.b=>y
 |.c=>z
section
variable {X:Cx}
end
section
variable {K:Ag}{C:Addr}
noncomputable def qvp (K:Ag)(C:Addr):Bool:=(Bi K (.ref C) "__class__" == some (some (.builtin "object.__class__"))) && (PySem.W.specialIn K (.builtin "object.__class__") "__get__" == some (some (.builtin "getset_descriptor.__get__"))) && (PySem.W.takesIn K (.builtin "object.__class__") == some true) && (PySem.W.mroIn K C (.type "object") == some true)
end
section
variable {X:Cx}{tg:Expr}
end
section
variable {X:Cx}
theorem qql:∀{b:List Str}{its:List Value},Vals (b.map V.str) its->StrsAre its b
 | [],_,.nil=>.nil
 |y::b,_,.cons a r=>by obtain⟨t,rfl⟩:=a;exact .cons y t (qql r)
theorem qqm:∀{a:List Str}{its:List Value},StrsAre its a->Vals (a.map V.str) its
 | [],_,.nil=>.nil
 |_::_,_,.cons y t h=>.cons ⟨t,Z⟩ (qqm h)
theorem qo6:qga X (.builtin "sorted") (λxs H Q=>∃(p:Addr)(c:List Str),xs=[.ref p]/\SqL X.K H p (c.map V.str)/\c.length<64/\∀(q:Addr)(a:List Str),H q=none->a.Perm c->Q (.ref q) (upd H q (.lst (a.map V.str)))):=by intro pins s σ H xs vs Q I r h;obtain⟨p,c,rfl,l,h64,q⟩:=h;obtain⟨u,rfl,j⟩:=qkc r;cases qk3 j;obtain⟨its,rv,pl,hz⟩:=I.list l;have k:=rv.length;rw[Ab]at k;refine sorted_strs pl.isList (qql rv) (by lia) λd a i f hs=>?_;obtain⟨e,g⟩:=sortedAll_at s.heap its d;refine⟨.ref (s.heap.objs.size+1),upd H (s.heap.objs.size+1) (.lst (a.map V.str)),I.laid (t':=s.toks) (λb u e=>sortedAll_old e) (C7 _) ?_,Z,q _ a (I.hok.fresh (C7 _)) f⟩;have m:=f.length_eq;refine⟨by rw[Ab,m];exact BG (qn3 (by lia)),d.toList,e,qqm i,?_⟩;exact g
end
section
variable {X:Cx}
end
section
end
section
variable {prog:AJ}{w:World}{A:AT}{E:Value->Ad->Prop}{s:Ad}
end
section
variable {prog:AJ}{w:World}{A:AT}{E:Value->Ad->Prop}{s:Ad}{z TI TO i1 i2:Addr}{f1 f2:List Addr}{n n2 k:Nat}{P1 P2:Nat->Value->Prop}{S1 S2:Nat->Heap->Prop}
end
section
end
section
variable {X:Cx}
end
section
variable {X:Cx}{t:Expr}{es:List Expr}{c:Value}{us:List Value}{qcd:List ExceptHandler}{tr:TH}{body:List Stmt}{pos pos':Pos}
end
section
variable {X:Cx}
end
section
variable {X:Cx}
end
section
variable {prog:AJ}{w:World}{A:AT}{E:Value->Ad->Prop}{s:Ad}
end
section
variable {P:AJ}{w:World}{K:Ag}{mg:Str->Option Value}{base:Heap}
end
section
variable {X:Cx}
def rNeNil (K:Ag):R2:=λx y H Q=>∃a b xs,x=.ref a/\y=.ref b/\SqL K H a xs/\SqL K H b []/\Q (.bl (!xs.isEmpty)) H
theorem qqn (hu:X.A.units+64<cLine):OpR X (compareOp .NotEq) (rNeNil X.K):=by
 intro pins s σ H x y v u Q I k m h;obtain⟨a,b,xs,rfl,rfl,o,l,q⟩:=h;cases k;cases m;obtain⟨its,n,g,_⟩:=I.list o;obtain⟨c,p,i,_⟩:=I.list l;have d:=n.length;have f:=p.length;have f:0=c.length:=f;cases xs with|nil =>have d:0=its.length:=d;refine Ei.lists (e:=λ_=>true) g.isList i.isList (by rw[Ai,Ai];lia) (by lia) (λj r _=>absurd r (by rw[Ai];lia)) _ _ _ _ ?_;rw[qec];exact⟨.bl false,H,I,Z,q⟩|cons z zs =>rw[AD]at d;refine Ei.lists_lengths g.isList i.isList (bne_iff_ne.mpr (by rw[Ai,Ai];lia)) (by lia) _ _ _ _ ?_;exact⟨.bl true,H,I,Z,q⟩
end
section
variable {X:Cx}
theorem ext_tup (l b:Addr)(as bs:Array Value)(n m:Nat)(f:Option Addr)(j:Array (Option Value))(h0:¬(!as.isEmpty && Bl.List.listTooLong (as.size+bs.size))=true)(k:as.size<=A5)(i:as.size+bs.size<=A5+1) :
  Meets (Bl.«list.extend» ⟨[.ref l,.ref b],[]⟩) (λ_ R s=>s.heap.get? l=some ⟨.type "list",none,.seq as n,#[]⟩/\s.heap.get? b=some ⟨.type "tuple",f,.seq bs m,j⟩/\R (.ok (.ret .none)) {s with heap:=s.heap.update l (B9 λx=>x++bs),toks:=s.toks}):=by
 refine .of_wp λprog w A R s h=>?_;obtain⟨hp,g,d,tk,os⟩:=s;obtain⟨c,e,h⟩:=h;have k1:=AutoSeq1.idx_int;have k2:=AutoSeq1.sub_tuple_tuple;have k3:=AutoSeq1.sub_list_list;have k4:=AutoSeq1.sub_tuple_list;have k5:=AutoSeq1.sub_list_tuple;have a:(as++bs).size<=A5+1:=A9 (Ce Array.size_append) i
 wp_walk using (wpAny_updateSeq c Z (hz:=k) (_hz':=a)),wpAny_loadPart' c,wpAny_loadPart' e
 exact⟨_,Z,h⟩
def qxn (K:Ag):V->List V->Hp->VK->Prop:=λx vs H Q=>∃l b xs zs,x=.ref l/\vs=[.ref b]/\H l=some (.lst xs)/\SqT K H b zs/\xs.length+zs.length<=A5/\Q .non (upd H l (.lst (xs++zs)))
theorem qsi:MtM X "list.extend" (qxn X.K):=by
 intro pins s σ H x vs v us Q I j rv h;obtain⟨l,b,xs,zs,rfl,rfl,f,i,hz,q⟩:=h;cases j;obtain⟨u,rfl,g⟩:=rv.one;cases g;obtain⟨z,its,n,r,hl,e⟩:=I.lstM f;obtain⟨a,d,t,hz2⟩:=I.tuple i;have hl2:=d.length;obtain⟨⟨cl,m,da,p⟩,o,rfl,k,rfl⟩:=t;have hsz:its.toArray.size+a.toArray.size<=A5:=by rw[Ai,Ai];lia
 have c:¬(!its.toArray.isEmpty && Bl.List.listTooLong (its.toArray.size+a.toArray.size))=true:=by rw[qlm hsz,Co];exact AF
 refine DM F.slot_list_extend ⟨_,e,Z⟩ F.entry_list_extend (F.args_list_extend_2 _ _)
  (ext_tup l b its.toArray a.toArray n k m p c (by rw[Ai];lia) (by lia)) ⟨e,o,?_⟩
 refine⟨.non,_,I.lset (its':=its++a) f e (by simp) (r.append d) ?_,Z,q⟩;rw[Af];lia
end
theorem qxo {js:List (Option Nat)}{g:TG}{M:TE}{J:It}{σ:L2.St}{H:Hp}{Q:VK}{xs:List V}(G:Addr->V->Addr->Hp->Prop)(T:∀p x q H H',(∀b o,b≠p->H b=some o->H' b=some o)->G p x q H->G p x q H')(Y:∀p x q H,G p x q H->H q≠none)
  (k:L2.St->Prop)(F:qn6 J H xs)(hz:xs.length<=A5)(h0:k (qdc js σ))
  (step:∀(p:Addr)(x:V)(σ':L2.St)(H':Hp)(RR:L2.St->VK),x∈xs->H p=none->Same H H'->(∃zs,H' p=some (.lst zs))->k σ'->(∀σ3 q d,k σ3->Same H' d->H' q=none->G p x q d->RR σ3 (.ref q) d)->g x σ' H' λσ3 s=>M σ3 s (RR σ3))
  (gk:∀(x:V)(σ':L2.St)(H':Hp)(R P:L2.St->Hp->Prop),(∀σ3 s,R σ3 s->P σ3 s)->g x σ' H' R->g x σ' H' P)
  (O:∀(p:Addr)(H':Hp)(u:List Addr),H p=none->Same H H'->H' p=some (.lst (u.map V.ref))->u.length=xs.length->u.Nodup->(∀(j:Nat)(x:V)(q:Addr),xs[j]?=some x->u[j]?=some q->G p x q H'/\q≠p/\H q=none)->Q (.ref p) H') :
  qjg js g qtq M σ Q J H:=by
 intro p B;refine⟨λi m σ' H'=>m=xs.length-i/\i<=xs.length/\k σ'/\Same H H'/\∃ys:List Addr,H' p=some (.lst (ys.map V.ref))/\ys.length=i/\ys.Nodup/\∀(j:Nat)(x:V)(q:Addr),xs[j]?=some x->ys[j]?=some q->G p x q H'/\q≠p/\H q=none,⟨xs.length,by simp,AS _,h0,qan (Same.refl H) B,[],qk,Z,.nil,λj x y _ I=>by cases I⟩,?_⟩;rintro i m σ' H' ⟨rfl,hi,hv,r,us,w,L,nd,E⟩;obtain⟨F1,U⟩:=F _ r;by_cases l:i<xs.length
 .have ex:xs[i]?=some xs[i]:=by simp[l]
  obtain⟨go,X⟩:=F1 i _ ex;refine .inr ⟨go,λσ2 h=>k σ2/\Same H h/\∃ys:List Addr,h p=some (.lst (ys.map V.ref))/\ys.length=i+1/\ys.Nodup/\∀(j:Nat)(x:V)(q:Addr),xs[j]?=some x->ys[j]?=some q->G p x q h/\q≠p/\H q=none,λσ2 h ⟨a,b,c⟩=>⟨xs.length-(i+1),by lia,Z,l,a,b,c⟩,λx h I=>?_⟩;obtain⟨rfl,rfl⟩:=X x h I;refine gk _ _ _ _ _ (λσ3 s z=>?_) (step p xs[i] σ' _ (λσ3 v d=>∃zs,d p=some (.lst zs)/\zs.length<A5/\(k σ3/\Same H (upd d p (.lst (zs++[v])))/\∃ys:List Addr,upd d p (.lst (zs++[v])) p=some (.lst (ys.map V.ref))/\ys.length=i+1/\ys.Nodup/\∀(j:Nat)(x:V)(q:Addr),xs[j]?=some x->ys[j]?=some q->G p x q (upd d p (.lst (zs++[v])))/\q≠p/\H q=none)) (BI l) B r ⟨_,w⟩ hv λσ3 q d N C A hq=>?_)
  .exact z
  .have h5:=C _ _ w;have S:q≠p:=λz=>by rw[z,w]at A;cases A
   have keep:∀b o,b≠p->d b=some o->upd d p (.lst (us.map V.ref++[V.ref q])) b=some o:=λb o n e=>by rw[qr n];exact e
   refine⟨_,h5,?_,N,qan (r.trans C) B,us++[q],?_,?_,?_,λj x y K f=>?_⟩
   .rw[Ab];lia
   .rw[qk,Ax];rfl
   .rw[Af,L];rfl
   .refine List.nodup_append.mpr ⟨nd,CP _ _,λa ha b W e=>?_⟩;obtain⟨j,t⟩:=Bt ha;have lj:=(Ac.mp t).1;obtain⟨D,_⟩:=E j _ a (Ae (by lia)) t;have:=Y _ _ _ _ D;rw[e,Aj.mp W]at this;exact this A
   .by_cases t:j<us.length
    .rw[AI t]at f;obtain⟨D,g2,g3⟩:=E j x y K f;exact⟨T _ _ _ _ _ (λb o n e=>keep b o n (C _ _ e)) D,g2,g3⟩
    .rw[AK (DP.mp t)]at f;have ej:j=i:=by have:=(Ac.mp f).1;simp at this;lia
     subst ej;rw[L,Da]at f;rw[ex]at K;cases K;cases f;exact⟨T _ _ _ _ _ keep hq,S,r.free A⟩
 .have e:i=xs.length:=by lia
  subst e;exact .inl ⟨U,O p _ us B r w L nd E⟩
section
variable {X:Cx}
end
end Add
namespace Sts
open PySem PyProof.Rows
section
variable {prog:AJ}{w:World}{A:AT}{E:Value->Ad->Prop}{s:Ad}
def once (acc:List Str)(x:Str):List Str:=if x∈acc then acc else acc++[x]
end
section
variable {prog:AJ}{w:World}{A:AT}{R:Result->Ad->Prop}{I:Addr}{fp wr:List Addr}{G:Array Ez->Array Ez->Prop}{n:Nat}{P:Nat->Value->Prop}{St:Nat->Ad->Prop}
end
end Sts
namespace Sts
open PySem PyProof.Rows
set_option maxRecDepth 100000
section
variable {prog:AJ}{w:World}{A:AT}{E:Value->Ad->Prop}{s:Ad}
end
end Sts
namespace Sts
open PySem PyProof.Rows
set_option maxRecDepth 100000
section
variable {prog:AJ}{w:World}{A:AT}{E:Value->Ad->Prop}{s:Ad}
end
end Sts
namespace Sts
open PySem PyProof.Rows
set_option maxRecDepth 100000
section
variable {M:Model}{A:AT}{E:Value->Ad->Prop}{s:Ad}
end
end Sts
namespace Sts
open PySem PyProof.Rows
set_option maxRecDepth 100000
section
variable {prog:AJ}{w:World}{A:AT}{E:Value->Ad->Prop}{s:Ad}
end
end Sts
namespace Sts
open PySem PyProof.Rows
set_option maxRecDepth 100000
section
variable {prog:AJ}{w:World}{A:AT}{E:Value->Ad->Prop}{s:Ad}
end
end Sts
namespace Sts
open PySem PyProof.Rows
set_option maxRecDepth 100000
section
variable {prog:AJ}{w:World}{A:AT}{E:Value->Ad->Prop}{s:Ad}
end
end Sts
namespace Sts
open PySem PyProof.Rows
set_option maxRecDepth 100000
section
variable {prog:AJ}{w:World}{A:AT}{E:Value->Ad->Prop}{s:Ad}
end
end Sts
namespace Sts
open PySem PyProof.Rows
set_option maxRecDepth 100000
section
variable {prog:AJ}{w:World}{A:AT}{E:Value->Ad->Prop}{s:Ad}
end
end Sts
namespace Add
open PySem PySem.Spec PyProof.Rows L2
theorem boot_sorted:bootBuiltins "sorted"=some (.builtin "sorted"):=Uk
section
variable {X:Cx}
end
end Add
namespace Add
open PySem PySem.Spec PyProof.Rows L2
section
variable {X:Cx}{pins:List (Addr×Obj)}{σ:L2.St}{H:Hp}{s:Ad}
theorem inv_frz {d:Addr}{o:Obj}{kvs:List (Key×V)}(I:Inv X pins σ H s)(g:H d=some (.dK kvs))(l:s.heap.get? d=some o):Inv X pins σ (upd H d (.frz o (.dK kvs))) s:=by
 have a:∀b u,H b=some u->(∀k,u ≠ .dK k)->b≠d:=λb u e n z=>by rw[z,g]at e;exact n kvs (AA e).symm
 have f:∀b,H b=none->b≠d:=λb e z=>by rw[z,g]at e;cases e
 refine⟨I.ok,I.os,I.bare,⟨I.base.keep,I.base.slot,λb u e n j=>?_,I.base.there,λb xs e=>?_,λb u v e=>?_,λb ps e=>?_⟩,I.loc,I.cell,?_,λx c e=>?_,λp t=>?_,λb u e=>?_,I.len⟩
 .have:=I.base.free b u e n j;rw[qr (f b this)];exact this
 .have:=I.base.tups b xs e;rw[qr (a b _ this λk z=>nomatch z)];exact this
 .have:=I.base.frzs b u v e;rw[qr (a b _ this λk z=>nomatch z)];exact this
 .obtain⟨m,this⟩:=I.base.tbls b ps e;exact⟨m,by rw[qr (a b _ this λk z=>nomatch z)];exact this⟩
 .rw[qr (f _ I.free)];exact I.free
 .rw[qr (f _ (I.freeC x c e))];exact I.freeC x c e
 .obtain⟨i,h,r⟩:=I.pin p t;exact⟨i,by rw[qr (f _ h)];exact h,r⟩
 .have st:∀{b u},ObjOk X.prog X.w H s.heap b u->ObjOk X.prog X.w (upd H d (.frz o (.dK kvs))) s.heap b u:=λ{b u} q=>q.stay (λ_ _ _ e=>e) (λc e=>by rw[qr (a c _ e λk z=>nomatch z)];exact e) λc xs e=>by rw[qr (a c _ e λk z=>nomatch z)];exact e
  by_cases z:b=d
  .rw[z]at e |-;rw[qk]at e;cases e;exact⟨l,st (I.hok d _ g)⟩
  .rw[qr z]at e;exact st (I.hok b u e)
theorem qxp {d:Addr}{o:Obj}{kvs:List (Key×V)}(I:Inv X pins σ H s)(g:H d=some (.frz o (.dK kvs)))(i:∀u v,X.H₀ d≠some (.frz u v)):Inv X pins σ (upd H d (.dK kvs)) s:=by
 have f:∀b u,H b=some u->(∀k v,u ≠ .frz k v)->b≠d:=λb u e n z=>by rw[z,g]at e;exact n _ _ (AA e).symm
 have a:∀b,H b=none->b≠d:=λb e z=>by rw[z,g]at e;cases e
 refine⟨I.ok,I.os,I.bare,⟨I.base.keep,I.base.slot,λb u e n l=>?_,I.base.there,λb xs e=>?_,λb u v e=>?_,λb ps e=>?_⟩,I.loc,I.cell,?_,λx c e=>?_,λp t=>?_,λb u e=>?_,I.len⟩
 .have:=I.base.free b u e n l;rw[qr (a b this)];exact this
 .have:=I.base.tups b xs e;rw[qr (f b _ this λk v z=>nomatch z)];exact this
 .have:=I.base.frzs b u v e;rw[qr (λz=>i u v (by rw[<- z];exact e))];exact this
 .obtain⟨m,this⟩:=I.base.tbls b ps e;exact⟨m,by rw[qr (f b _ this λk v z=>nomatch z)];exact this⟩
 .rw[qr (a _ I.free)];exact I.free
 .rw[qr (a _ (I.freeC x c e))];exact I.freeC x c e
 .obtain⟨j,h,r⟩:=I.pin p t;exact⟨j,by rw[qr (a _ h)];exact h,r⟩
 .have st:∀{b u},ObjOk X.prog X.w H s.heap b u->ObjOk X.prog X.w (upd H d (.dK kvs)) s.heap b u:=λ{b u} q=>q.stay (λ_ _ _ e=>e) (λc e=>by rw[qr (f c _ e λk v z=>nomatch z)];exact e) λc xs e=>by rw[qr (f c _ e λk v z=>nomatch z)];exact e
  by_cases z:b=d
  .rw[z]at e |-;rw[qk]at e;cases e;exact st (I.hok d _ g).2
  .rw[qr z]at e;exact st (I.hok b u e)
end
end Add
namespace Lam
open PySem PySem.Spec PySem.Calls PyProof.Rows L2 Add PySem.W
def qtv (X:Cx)(A:AT)(N:List Str)(qual:Str)(scope:Scope)(f:Addr)(cd:Value)(cl:List (Str×Addr))(s:Ad)(H:Hp)(E:Value->Ad->Prop):Cx where
 prog:=X.prog
 w:=X.w
 K:=X.K
 mg:=X.mg
 base:=X.base
 A:=A.deeper (envX qual scope s.heap.objs.size f cd cl)
 N:=N
 s₀:=s
 H₀:=H
 env:=envX qual scope s.heap.objs.size f cd cl
 outer:=X.stack
 stack:=envX qual scope s.heap.objs.size f cd cl::X.stack
 ex:=[]
 fn:=λ_=>false
 calm:=true
 pn:=[]
 xe:=E
def qhj (js:List (Option Nat))(σ:L2.St)(x:V):L2.St:=(qdc js σ).set 0 (some x)
section
variable {X:Cx}{A:AT}{N XN:List Str}{js:List (Option Nat)}{xs scope:Scope}{qual y:Str}{f:Addr}{cd:Value}{cl:List (Str×Addr)}{E:Value->Ad->Prop}{pins:List (Addr×Obj)}{σ:L2.St}{H:Hp}{s:Ad}{u:Value}{x:V}
theorem qvq {D:Heap}{tk:Nat}(hN:X.N=XN)(O:X.env.scope=xs)(nm:CompNm N js XN xs scope)(a:∀x c,cl.lookup x=some c->X.env.cells.lookup x=some c)(r:∀x∈scope.names,x.2=.free->(cl.lookup x.1).isSome=true)
  (hA:A.frames=some X.stack)(B:A.handled=none)(W:N[0]?=some y)(Y:js[0]?=some none)(hy:scope.names.lookup y=some .local)(I:Inv X pins σ H s)(S:RelV x u)
  (K:D.Ns s.heap.objs.size (λz=>[(y,u)].reverse.lookup z))(m:∀b o,s.heap.get? b=some o->D.get? b=some o) :
  Inv (qtv X A N qual scope f cd cl s H E) [] (qhj js σ x) H {s with heap:=D,toks:=tk}:=by
 have n:∀b:Addr,b∉(qtv X A N qual scope f cd cl s H E).ex:=λb z=>absurd (show b∈([]:List Addr) from z) (by simp);have T:0<js.length:=(Ac.mp Y).1;refine⟨⟨I.ok.mod,nm.kind,Z,Z,Al _,λx y c h1 h2=>I.ok.inj x y c (a x c h1) (a y c h2),λz hz=>?_,(λ_ _ h _=>nomatch h),λ_=>B,AT.frames_deeper hA,.inr ⟨Z,Z⟩,λb z=>absurd z (n b),I.bs,A9 I.ok.bsz I.sz,λb _ _=>n b,λb z=>absurd z (n b),I.stack,I.stkFree⟩,
  rfl,I.bare,Un.kept m,⟨_,K,λi z v C g e3=>?_⟩,λz c e=>?_,I.hok.fresh (Al _),λz c e=>I.freeC z c (a z c e),λp hp=>absurd (show p∈([]:List (Addr×Obj)) from hp) (by simp),I.hok.kept m,?_⟩
 .have hz:scope.names.lookup z=some .cell\/scope.names.lookup z=some .free:=hz;rcases hz with hz|hz
  .exact absurd rfl (nm.nocell _ (Cg hz))
  .exact BV.mp (r _ (Cg hz) Z)
 .by_cases c:i=0
  .subst c;have C:N[0]?=some z:=C;rw[W]at C;cases C;have g:(qhj js σ x)[0]?=some (some v):=g;unfold qhj at g;rw[DB (by unfold qdc;rw[Ab];exact T)]at g;cases g;exact⟨u,S,.inl ⟨hy,by show [(y,u)].reverse.lookup y=some u;simp⟩⟩
  .have g:(qhj js σ x)[i]?=some (some v):=g;unfold qhj at g;rw[DT (B6 c)]at g;have l:((js[i]?).map λj=>j.bind λk=>(σ[k]?).join)=some (some v):=by
    unfold qdc at g
    rwa [Ah]at g
   cases F:js[i]? with
   |none=>rw[F]at l;cases l
   |some jo =>
    rw[F]at l;cases jo with
    |none=>cases l
    |some j =>
     have d:(σ[j]?).join=some v:=AA l;have V:σ[j]?=some (some v):=by
      cases q:σ[j]? with
      |none=>rw[q]at d;cases d
      |some o=>rw[q]at d;cases o with
       |none=>cases d
       |some y=>cases d;rfl
     obtain⟨a1,J,U,a4⟩:=nm.free i j z C F;obtain⟨mX,hnX,lX⟩:=I.loc;have L:Vis X.env.scope z:=by rw[O];exact .inr J
     obtain⟨u',R,lu⟩:=lX j z v (by rw[hN];exact a1) V L;refine⟨u',R,?_⟩;rcases lu with ⟨P,_⟩|⟨P,c,e5,w⟩
     .exfalso;have t:X.env.scope.names.lookup z=some .local:=P;rw[O]at t;rcases J with q|q <;>rw[q]at t <;>cases t
     .obtain⟨c',M⟩:=BV.mp (r _ U Z);have Q:=a z c' M;rw[e5]at Q;cases Q;refine .inr ⟨.inr a4,c,M,?_⟩;obtain⟨o,G,B⟩:=w;exact⟨o,m c o G,B⟩
 .obtain⟨v,o,G,B⟩:=I.cell z c (a z c e);exact⟨v,o,m c o G,B⟩
 .unfold qhj qdc;rw[List.length_set,Ab];exact nm.len.symm
theorem qxq {name:Str}{d:Arguments}{a:Expr}{p j:Value}{g:Addr}{tb:TE}{Q:VK}(P:X.N=XN)(T:X.env.scope=xs)(nm:CompNm N js XN xs scope)(l:∀x c,cl.lookup x=some c->X.env.cells.lookup x=some c)(m:∀x∈scope.names,x.2=.free->(cl.lookup x.1).isSome=true)
  (V:A.frames=some X.stack)(U:A.handled=none)(h:A.depth<recursionLimit)(M:N[0]?=some y)(O:js[0]?=some none)(F:scope.names.lookup y=some .local)(D:scope.isCoroutine=false)(n:scope.isGenerator=false)
  (i:∀u,bindArgs (kla_fn name qual d a scope cl p (.ref g) j) ⟨[u],[]⟩=pure [(y,u)])
  (K:∀(s:Ad)(H:Hp)(E:Value->Ad->Prop),PE (qtv X A N qual scope f (.ref g) cl s H E) a tb)
  (I:Inv X pins σ H s)(R:s.heap.get? f=some (DS name qual d a scope cl p g j))(B:s.heap.CodeRec (.ref g) qual)(L:RelV x u)(W:tb (qhj js σ x) H Q) :
  wpAny (model X.prog X.w) A (call (.ref f) [u]) (EP X pins σ Q) E s:=by
 refine wpAny_call (kla_callFunE h R Z D n Z B ?_);rw[i u];refine AQ (wpAny_newFunctionEnv nm.nocell (λz hz=>?_) (λS C t=>?_) nm.kind)
 .rw[Aj.mp hz];exact F
 have k:∀b o,s.heap.get? b=some o->S.get? b=some o:=λb o e=>t.extBut b o (AE (AC e)) (Av _ e);refine⟨(I.nolimit).keeps k,?_⟩;show codeAny _ _ (.expr a (envX qual scope s.heap.objs.size f (.ref g) cl)) _ _;refine kla_codeExpr ?_;refine BY (K s H _ [] _ (qhj js σ x) H Q (qvq P T nm l m V U M O F I L C k) W) (λv s' z=>?_) λ_ _ z=>z;obtain⟨G,H',J,r,q⟩:=z;exact I.after ⟨G,H',J.os,J.bare,J.base,J.hok,r,q⟩
end
structure LamF (mg:Str->Option Value)(base:Heap)(c Pt:Addr):Prop where
 hd:CodeHd base c Pt
 bm:∃bm ob,mg "__builtins__"=some (.ref bm)/\bm≠builtinsNs/\bm≠A6/\base.get? bm=some ob/\ob.cls=.type "module" /\ ob.dict=some builtinsNs/\ob.data=.plain
section
variable {fs ex:List Addr}{H:Hp}{h h':Heap}{Pt:Addr}{ps more:Array Value}{prog:AJ}{w:World}
theorem qly {b:Addr}{u:HO}(a:H Pt=some (.tbl ps))(q:H b=some u)(n:∀z,u ≠ .tbl z):b≠Pt:=λz=>by rw[z,a]at q;exact n _ (AA q).symm
theorem un_tbl (a:H Pt=some (.tbl ps))(k:∀b o,b≠Pt->h.get? b=some o->h'.get? b=some o)(e:h'.get? Pt=some (tabObj (ps++more))):Un fs ex H (upd H Pt (.tbl (ps++more))) h h':=by
 have c:∀b,H b=none->b≠Pt:=λb n z=>by rw[z,a]at n;cases n
 refine⟨λb o q n _ _=>k b o (c b n) q,λb o q n _ _=>⟨o.slots,k b o (c b n) q⟩,λb o q n _=>by rw[qr (c b n)];exact n,λb o q _=>?_,λb xs q=>?_,λb o u q=>?_,λb qs q=>?_⟩
 .by_cases z:b=Pt
  .rw[z];exact⟨_,e⟩
  .exact⟨o,k b o z q⟩
 .rw[qr (qly a q λ_ z=>nomatch z)];exact q
 .rw[qr (qly a q λ_ z=>nomatch z)];exact q
 .by_cases z:b=Pt
  .rw[z,a]at q;cases q;exact⟨more,by rw[z,qk]⟩
  .exact⟨#[],by rw[qr z,q];simp⟩
theorem hok_tbl (f:HOk prog w H h)(a:H Pt=some (.tbl ps))(k:∀b o,b≠Pt->h.get? b=some o->h'.get? b=some o)(e:h'.get? Pt=some (tabObj (ps++more))):HOk prog w (upd H Pt (.tbl (ps++more))) h':=λb u q=>by
 by_cases z:b=Pt
 .subst z;rw[qk]at q;cases q;exact e
 .rw[qr z]at q;refine(f b u q).stay (λc v d r=>k c v ?_ r) (λc r=>?_) λc xs r=>?_
  .rcases d with rfl|d
   .exact z
   .exact qly a d λ_ z=>nomatch z
  .rw[qr (qly a r λ_ z=>nomatch z)];exact r
  .rw[qr (qly a r λ_ z=>nomatch z)];exact r
end
section
variable {X:Cx}{scope:Scope}{cl:List (Str×Addr)}{E:Value->Ad->Prop}{pins:List (Addr×Obj)}{σ:L2.St}{H:Hp}{s:Ad}
end
section
variable {X:Cx}{A:AT}{E:Value->Ad->Prop}{pins:List (Addr×Obj)}{σ:L2.St}{H:Hp}{s:Ad}
theorem qof {a:Addr}{o:HO}(I:Inv X pins σ H s)(k:H a=none)(i:X.s₀.heap.objs.size<=a)(h:a≠X.env.locals)(t:∀x c,X.env.cells.lookup x=some c->c≠a)(l:∀p∈X.pn++pins,p.1≠a)(f:ObjOk X.prog X.w (upd H a o) s.heap a o):Inv X pins σ (upd H a o) s:=by
 have B:∀b u,H b=some u->b≠a:=λb u e z=>by rw[z,k]at e;cases e
 have d:∀b u,H b=some u->upd H a o b=some u:=λb u e=>by rw[qr (B b u e)];exact e
 refine⟨I.ok,I.os,I.bare,⟨I.base.keep,I.base.slot,λb u e n A=>?_,I.base.there,λb xs e=>d _ _ (I.base.tups b xs e),λb u z e=>d _ _ (I.base.frzs b u z e),λb ps e=>?_⟩,I.loc,I.cell,?_,λx c e=>?_,λp g=>?_,λb u e=>?_,I.len⟩
 .rw[qr (AE (A0 (AC e) i))];exact I.base.free b u e n A
 .obtain⟨m,q⟩:=I.base.tbls b ps e;exact⟨m,d _ _ q⟩
 .rw[qr h.symm];exact I.free
 .rw[qr (t x c e)];exact I.freeC x c e
 .obtain⟨C,y,j⟩:=I.pin p g;exact⟨C,by rw[qr (l p g)];exact y,j⟩
 .by_cases z:b=a
  .subst z;rw[qk]at e;cases e;exact f
  .rw[qr z]at e;exact(I.hok b u e).stay (λc v _ r=>r) (λc r=>d _ _ r) λc xs r=>d _ _ r
theorem kset {a:Addr}{ks ks':List V}{g:Array Value->Array Value}{Q:Unit->Ad->Prop}(I:Inv X pins σ H s)(h:H a=some (.lst ks))(i:ks'.length<=A5)(f:∀its:List Value,Vals ks its->Vals ks' (g its.toArray).toList)
  (k:∀s',Inv X pins σ (upd H a (.lst ks')) s'->Q () s'):wpAny (model X.prog X.w) A (Bl.List.listUpdate (.ref a) g) Q E s:=by
 obtain⟨z,its,n,r,e⟩:=(show ObjOk X.prog X.w H s.heap a (.lst ks) from I.hok a _ h);have c:=f its r;have sz:(g its.toArray).size<=A5:=by
  have e1:ks'.length=(g its.toArray).size:=by rw[c.length,BN]
  lia
 refine listUpdate_at (o:=seqObj "list" its.toArray n) e rfl ?_ (by rw[Ai,<- r.length];exact z) (BS sz);obtain⟨c2,hc2⟩:∃c2,(s.heap.update a (B9 g)).get? a=some (seqObj "list" (g its.toArray) c2):=⟨_,get?_update_seq e g⟩;have j:=CF.update s.heap a (B9 g);refine k _ (I.write (x:=a) (e:=a) (t':=s.toks) (by rw[h];trivial) (.inl Z) (λb u d q=>(j.2 b d).trans q) ⟨_,hc2⟩ ⟨i,(g its.toArray).toList,c2,c,by rw[hc2,Array.toArray_toList]⟩)
end
section
variable {X:Cx}{A:AT}{E:Value->Ad->Prop}{pins:List (Addr×Obj)}{σ:L2.St}{H:Hp}{s:Ad}
end
end Lam
namespace Lam
open PySem PySem.Spec PySem.Calls PyProof.Rows L2 Add PySem.W
section
variable {prog:AJ}{w:World}{A:AT}{E:Value->Ad->Prop}{s:Ad}
end
section
variable {X:Cx}
end
end Lam
namespace Lam
open PySem PySem.Spec PySem.Calls PyProof.Rows L2 Add PySem.W
section
variable {P:AJ}{w:World}{K:Frag}{mg mb:Str->Option Value}{CX:CXT}{k:Nat}{fa a c Pt:Addr}{fd:Au}{x:Str}{sp:Sp}{s₁:Ad}{vs:List Value}{ns:List Int}
noncomputable def hd0 (K:Frag)(a Pt:Addr)(vs:List Value)(ns:List Int):Hp:=λb =>
 if b=Pt then some (.tbl #[]) else if b=a/\K.lookup a=none then some (.frz {cls:=.type "list",data:=.seq vs.toArray} (.lst (ns.map V.int))) else none
theorem law_tab (U:K.In s₁.heap)(E:s₁.heap.Ns A6 mg)(hb:s₁.heap.Ns builtinsNs mb)(X:∀x:Str,x ≠ "__name__" -> mb x=bootBuiltins x)(J:s₁.heap.NoLimit)(hg:s₁.gens=#[])
  (i:s₁.heap.get? a=some {cls:=.type "list",data:=.seq vs.toArray})(hi:IntsAre vs ns)(hl:ns.length<=A5)(hr:Room k callerA)
  (hC:CodeHd s₁.heap c Pt)(hPt:s₁.heap.get? Pt=some (tabObj #[]))(hKP:K.lookup Pt=none)
  (hbm:∃A y,mg "__builtins__"=some (.ref A)/\A≠builtinsNs/\A≠A6/\s₁.heap.get? A=some y/\y.cls=.type "module" /\ y.dict=some builtinsNs/\y.data=.plain)
  (F:∀base:Heap,K.In base->base.Ns A6 mg->LamF mg base c Pt->FnOk P w K mg base CX k fa fd [x] sp)(hbind:∀(s:Ad)(u:Value),BindsTo s fd ⟨[u],[]⟩ [(x,u)])
  (hsp:∀H:Hp,H Pt=some (.tbl #[])->SqL K H a (ns.map V.int)->sp [.ref a] H (λv _=>v=.bl true) λ_ _ _=>False)
  (hCX:∀H e j,CX [] H s₁ (λ_ _ _=>False) e j->False) :
  codeAny (model P w) callerA (.call (.ref fa) ⟨[.ref a],[]⟩) (λr j=>r=.ok (.ret (.bool true))/\OldK s₁.heap j.heap/\j.os=s₁.os/\AllBare j.gens) s₁:=by
 have rv:=qn2 hi;have I:=hi.length;have S:a≠Pt:=λz=>by rw[z,hPt]at i;cases i
 have n:hd0 K a Pt vs ns Pt=some (.tbl #[]):=if_pos rfl;have only:∀b,hd0 K a Pt vs ns b≠none->b=Pt\/(b=a/\K.lookup a=none):=λb z=>by
  by_cases e:b=Pt
  .exact .inl e
  .by_cases f:b=a/\K.lookup a=none
   .exact .inr f
   .exact absurd (by unfold hd0;rw[if_neg e,if_neg f]) z
 have t:K.lookup a=none->hd0 K a Pt vs ns a=some (.frz {cls:=.type "list",data:=.seq vs.toArray} (.lst (ns.map V.int))):=λz=>by unfold hd0;rw[if_neg S,if_pos ⟨Z,z⟩]
 generalize hd0 K a Pt vs ns=H at n only t;have T:HOk P w H s₁.heap:=λb u e=>by
  rcases only b (by rw[e];simp) with rfl|⟨rfl,g⟩
  .rw[n]at e;cases e;exact hPt
  .rw[t g]at e;cases e;exact⟨i,by rw[Ab];exact hl,vs,_,rv,i⟩
 have un:∀{b:Addr}{o:Obj},s₁.heap.get? b=some o->o.cls ≠ .none->b≠a->H b=none:=λ{b o} e hc O=>by
  cases q:H b with
  |none=>rfl
  |some u =>
   rcases only b (by rw[q];simp) with rfl|⟨z,_⟩
   .rw[hPt]at e;cases e;exact absurd rfl hc
   .exact absurd z O
 have W:∀{b:Addr}{o:Obj}{es:Array DictEntry}{ep:Nat},s₁.heap.get? b=some o->o.data=.dict es ep->H b=none:=λ{b o es ep} e d=>by
  cases q:H b with
  |none=>rfl
  |some u =>
   rcases only b (by rw[q];simp) with rfl|⟨rfl,_⟩
   .rw[hPt]at e;cases e;cases d
   .rw[i]at e;cases e;cases d
 have l:∀{b:Addr}{m:Str->Option Value},s₁.heap.Ns b m->(qos s₁.heap H).Ns b m:=λ{b m} ⟨o,es,ep,e,d,r⟩=>⟨o,es,ep,qh8 e (W e d),d,r⟩;have kin:K.In (qos s₁.heap H):=λb o e=>qh8 (U b o e) (by
  cases q:H b with
  |none=>rfl
  |some u =>
   rcases only b (by rw[q];simp) with rfl|⟨rfl,g⟩
   .rw[hKP]at e;cases e
   .rw[g]at e;cases e)
 have md:Mod K mg (qos s₁.heap H):=⟨kin,l E,⟨mb,l hb,X⟩,by obtain⟨mc,h1,h2⟩:=J;exact⟨mc,l h1,h2⟩⟩;have lf:LamF mg (qos s₁.heap H) c Pt:=by
  refine⟨?_,?_⟩
  .obtain⟨o,ws,N,tf,D,tg,Q,L,tt,e,f,r⟩:=hC;refine⟨o,ws,N,tf,D,tg,Q,L,tt,qh8 e (un e (by rw[f];exact λz=>nomatch z) λz=>?_),f,r⟩;rw[z,i]at e;cases e;exact absurd (Dl.inj f) Ud
  .obtain⟨A,y,b1,Y,b3,C,M,b6⟩:=hbm;refine⟨A,y,b1,Y,b3,qh8 C (un C (by rw[M];exact λz=>nomatch z) λz=>?_),M,b6⟩;rw[z,i]at C;cases C;exact absurd (Dl.inj M) Ud
 have sq:SqL K H a (ns.map V.int):=by
  cases g:K.lookup a with|none=>exact .inl (.inr ⟨_,t g⟩)|some o =>have e:=U a o g;rw[i]at e;cases e;exact .inr ⟨_,vs.toArray,_,g,Z,Z,Z,by rw[Ai,I];exact hl,by simpa using rv⟩
 have e0:Env0 P w K mg (qos s₁.heap H) callerA [] s₁ H:=⟨Z,md,λb o e=>of_hidT e,Ce (quz _ _),trivial,λb z=>absurd (show b∈([]:List Addr) from z) (by simp),T,.of_eq hg⟩;refine codeAny_mono ((F _ kin (l E) lf).run callerA [] s₁ H ⟨[.ref a],[]⟩ [.ref a] [.ref a] _ _ hr e0 (hbind s₁ (.ref a)) (.cons Z .nil) (hsp H n sq)) λr j h=>?_
 match r,h with
 |.error e,h=>exact(hCX H e j h).elim
 |.ok .next,h=>exact Cu h
 |.ok .brk,h=>exact Cu h
 |.ok .cont,h=>exact Cu h
 |.ok (.ret u),h =>
  obtain⟨v,H',os,G,p,B,r',q⟩:=h;cases (show v=.bl true from q);cases (show u=Ej true from r');refine⟨Z,⟨λb o e=>?_,λb o e=>p.there b o e (by simp)⟩,os,G⟩;by_cases R:H b=none
  .exact .inl (p.keep b o e R (λz=>absurd (show b∈([]:List Addr) from z) (by simp)) (by simp))
  .rcases only b R with rfl|⟨rfl,g⟩
   .obtain⟨more,f⟩:=p.tbls b _ n;have e3:j.heap.get? b=some (tabObj (#[]++more)):=B b _ f;rw[hPt]at e;cases e;exact .inr (.inl ⟨(hC.tab hPt).isCodeTable,Z,#[],more,Z,e3⟩)
   .have f:=p.frzs b _ _ (t g);rw[i]at e;cases e;exact .inl (B b _ f).1
end
theorem walk_tab {l:OpenLaw}{n k:Nat}{q:AJ}{p:List Str}{XP:(Str->Option Value)->Heap->Prop}{I:World->Heap->Prop}{d d':DefRec}{K:Params->Frag}{CX:World->CXT}{sp:World->Addr->Sp}{x dn:Str}
  (hn:l.most=some n)(O:n<=A5)(J:d.params.defaults=[])(S:Room k callerA)(E:(recsOf q).find? (λe=>e.name == dn)=some d')
  (hY:∀(w:World)(h:Heap),I w h->(K w.params).In h)
  (F:∀(w:World)(mg:Str->Option Value)(r:Addr)(h:Heap),(K w.params).In h->h.Ns A6 mg->mg d.name=some (.ref r) ->
   ∃(fd:Au)(c i:Addr),(∀(s:Ad)(u:Value),BindsTo s fd ⟨[u],[]⟩ [(x,u)])/\tabIn (K w.params) dn=some (c,i)/\(K w.params).lookup i=none /\
    ∀base:Heap,(K w.params).In base->base.Ns A6 mg->LamF mg base c i->FnOk l.prog w (K w.params) mg base (CX w) k r fd [x] (sp w i))
  (N:∀(w:World)(H:Hp)(a i:Addr)(m:List Int),m.length<=n->H i=some (.tbl #[])->SqL (K w.params) H a (m.map V.int)->sp w i [.ref a] H (λv _=>v=.bl true) λ_ _ _=>False)
  (R:∀(w:World)(H:Hp)(s:Ad)(e:Value)(A:Ad),CX w [] H s (λ_ _ _=>False) e A->False) :
  WalkO q p XP I l.row.toRowW d [] (λf vs=>PySem.call f vs):=by
 refine Att.attach_call hn J λw s₀ U mg mb r o pm cd doc a vs m G Y ho hd hcd M D t j hg=>?_;have y:=hY w _ Y;obtain⟨fd,c,i,hb,X,hk,hF⟩:=F w mg r _ y G.T.g M;obtain⟨hC,L⟩:=tab_of G.T y E X;obtain⟨P,ob,b1,b2,C,b4,b5,B⟩:=G.T.bmain;have Q:P≠A6:=λz=>by obtain⟨u,es,ep,e,dd,_⟩:=G.T.g;rw[z,e]at C;cases C;rw[dd]at B;cases B
 exact law_tab y G.T.g G.T.b G.T.builtins G.T.nolimit hg D t (A9 j O) S hC L hk ⟨P,ob,b1,b2,Q,C,b4,b5,B⟩ hF hb (λH hP W=>N w H a i m j hP W) λH e A=>R w H U e A
end Lam
namespace Lam
open PySem PySem.Spec PySem.Calls PyProof.Rows L2 Add PySem.W
theorem okT {P:AJ}{w:World}{K:Frag}{mg:Str->Option Value}{base:Heap}{x b:Str}{st:Stmt}{f c:Addr}{fd:Au}{N ps:List Str}{k:Nat}{sp:Sp}(F:Fun K x b st f fd)(j:fd.code=.ref c)(S:FnScope N ps (qaa st))(len:∀vs H Q E,sp vs H Q E->vs.length=ps.length)
  (d:∀(a:Value),a=.ref c->∀(A:AT)(outer:List Env)(s:Ad)(H:Hp)(vs:List V)(Q:VK)(E:XK),Room k (A.deeper (envOfC b (qaa st) s.heap.objs.size f a))->sp vs H Q E ->
   ∃t,PSs (qp7 CX0 P w K mg base N b (qaa st) f a A outer s H E).nox (qaw st) t/\t {nx:=λ_ H'=>Q .non H',rt:=Q} (start N vs) H):FnOk P w K mg base CX0 (k+1) f fd ps sp:=by
 obtain⟨oc,od,kV,doc,pm,an,a,ct,osl,rfl,i,e⟩:=F.ex
 refine qwv i e S len λA outer s H vs Q E l g=>?_
 obtain⟨t,h,q⟩:=d a j A outer s H vs Q E l g
 exact⟨t,h.nox,q⟩
end Lam
namespace Lam
open PySem PySem.Spec PySem.Calls PyProof.Rows L2 Add PySem.W
end Lam
namespace Lam
open PySem PySem.Spec PySem.Calls PyProof.Rows L2 Add PySem.W
end Lam
namespace Lam
open PySem PySem.Spec PySem.Calls PyProof.Rows L2 Add PySem.W
theorem tab_mk {K:Frag}{x:Str}{f c b:Addr}{n d:Value}{l m:Option Addr}{fd:Au}{a h:Array (Option Value)}{vs:Array Value}(k:nsIn K A6 x=some (some (.ref f)))(e:K.lookup f=some ⟨n,l,.func fd,a⟩)(g:fd.code=.ref c)(i:K.lookup c=some ⟨d,m,.fields vs,h⟩)(j:vs[11]?=some (.ref b)):tabIn K x=some (c,b):=by unfold tabIn;rw[k];dsimp only;rw[e];dsimp only;rw[g];dsimp only;rw[i];dsimp only;rw[j]
end Lam
namespace Add
open PySem PySem.Spec PyProof.Rows L2
end Add
namespace Lam
open PySem PySem.Spec PyProof.Rows L2 Add PySem.W PySem.Calls Srt
noncomputable def qqo (c:Addr)(qual:Str):HO:=.ext λh=>h.CodeRec (.ref c) qual
def LamAt (H:Hp)(Pt:Addr)(pos:Pos)(qual:Str):Prop:=H Pt=some (.tbl #[]) \/ ∃c',H Pt=some (.tbl #[rawInt pos.line,rawInt pos.col,.ref c'])/\H c'=some (qqo c' qual)
theorem LamAt.keep {H H':Hp}{d:Addr}{pos:Pos}{a:Str}(h:LamAt H d pos a)(k:∀b o,(∀xs,o ≠ .lst xs)->H b=some o->H' b=some o):LamAt H' d pos a:=by
 rcases h with h|⟨c,f,e⟩
 .exact .inl (k _ _ (λ_ z=>nomatch z) h)
 .exact .inr ⟨c,k _ _ (λ_ z=>nomatch z) f,k _ _ (λ_ z=>nomatch z) e⟩
theorem LamAt.same {H H':Hp}{c:Addr}{pos:Pos}{a:Str}(h:LamAt H c pos a)(k:Same H H'):LamAt H' c pos a:=h.keep λb o _ e=>k b o e
theorem LamAt.tbl {H:Hp}{b:Addr}{pos:Pos}{a:Str}(h:LamAt H b pos a):∃ps,H b=some (.tbl ps):=by
 rcases h with h|⟨c,d,_⟩
 .exact⟨_,h⟩
 .exact⟨_,d⟩
theorem codO_ok {P:AJ}{w:World}{H:Hp}{h:Heap}{c:Addr}{q:Str}(r:h.CodeRec (.ref c) q):ObjOk P w H h c (qqo c q):=by
 refine⟨r,?_,λh1 h2 r k=>?_⟩
 .obtain⟨d,a,vs,t,e,b,_⟩:=r;cases e;exact⟨a,b⟩
 .obtain⟨d,a,vs,t,e,b,g,f⟩:=r;cases e;exact⟨c,a,vs,t,Z,k _ b,g,f⟩
section
variable {X:Cx}{scope:Scope}{cl:List (Str×Addr)}{E:Value->Ad->Prop}{pins:List (Addr×Obj)}{σ:L2.St}{H:Hp}{s:Ad}
theorem qvr {c g:Addr}{a:Arguments}{i:Expr}{pos:Pos}{Q:Value->Ad->Prop}(I:Inv X pins σ H s)(L:LamF X.mg X.base c g)(J:X.env.code=.ref c)(r:LamAt H g pos (X.env.qual ++ "<lambda>"))
  (C:defaultsOf a X.env=([],[]))(hcl:closureFor scope X.env=pure cl)
  (k:∀(f d:Addr)(pm h:Value)(H':Hp)(s':Ad),Inv X (pins++[(f,DS "<lambda>" (X.env.qual ++ "<lambda>") a i scope cl pm d h)]) σ H' s'->(∀b o,b≠g->H b=some o->H' b=some o)->H' g=some (.tbl #[rawInt pos.line,rawInt pos.col,.ref d])->H' d=some (qqo d (X.env.qual ++ "<lambda>"))->Q (.ref f) s') :
  wpAny (model X.prog X.w) X.A (eval (.Lambda a i scope pos) X.env) Q E s:=by
 have U:s.heap.Ns A6 X.mg:=I.ok.mod.glob.keeps I.bk;obtain⟨bm,ob,b1,b2,b3,b4,S,b6,b7⟩:=L.bm;have B:=I.bk _ _ b4;have R:=I.lt;obtain⟨af,P⟩:=r.tbl;have D:s.heap.get? g=some (tabObj af):=I.hok g _ P;have ae:A6≠g:=λq=>by obtain⟨o,es,ep,e,hd,_⟩:=U;rw[q,D]at e;cases e;cases hd
 have N:bm≠g:=λq=>by rw[q,D]at B;cases B;cases S
 rcases r with r|⟨d,r,W⟩
 .have y:s.heap.get? g=some (tabObj #[]):=I.hok g _ r;refine kla_eval C (kla_makeFunction (mg:=X.mg) hcl I.ok.glob U J (L.hd.keeps I.bk) y trivial Z ae ⟨bm,ob,b1,b2,b3,N,B,S,b6,b7⟩ λd h h' tk T l M V ad=>?_);have K:∀b o,b≠g->s.heap.get? b=some o->(h'.push (DS "<lambda>" (X.env.qual ++ "<lambda>") a i scope cl ((X.mg "__name__").getD .none) d h)).get? b=some o:=λb o n e=>Av _ (T b o n e);have tb:=Av (DS "<lambda>" (X.env.qual ++ "<lambda>") a i scope cl ((X.mg "__name__").getD .none) d h) ad;have F:Inv X pins σ (upd H g (.tbl (#[] ++ #[rawInt pos.line,rawInt pos.col,.ref d]))) {s with heap:=h'.push (DS "<lambda>" (X.env.qual ++ "<lambda>") a i scope cl ((X.mg "__name__").getD .none) d h),toks:=tk}:=I.un (un_tbl r K tb) (hok_tbl I.hok r K tb);have m:s.heap.objs.size<=h'.objs.size:=BG (CZ l M);have G:g<s.heap.objs.size:=AC y;have hn:∀b,s.heap.objs.size<=b->upd H g (.tbl (#[] ++ #[rawInt pos.line,rawInt pos.col,.ref d])) b=none:=λb hb=>by rw[qr (Cm (A0 G hb))];exact I.hok.fresh hb
  have O:(h'.push (DS "<lambda>" (X.env.qual ++ "<lambda>") a i scope cl ((X.mg "__name__").getD .none) d h)).CodeRec (.ref d) (X.env.qual ++ "<lambda>"):=by obtain⟨c2,oc,vs,t,e2,Y,hd,hv⟩:=id V;cases e2;exact⟨d,oc,vs,t,Z,Av _ Y,hd,hv⟩
  have I3:=qof (o:=qqo d (X.env.qual ++ "<lambda>")) F (hn d l) (A9 I.sz l) (Cm (A0 R l)) (λx cc e=>by obtain⟨v,qc⟩:=I.cell x cc e;exact AE (A0 qc.lt l)) (λp j=>AE (A0 (AC (I.pin p j).1) l)) (codO_ok O);have nP:g≠d:=AE (A0 G l);refine k h'.objs.size d ((X.mg "__name__").getD .none) h _ _ (I3.pins_of λp j=>?_) (λb o n e=>?_) ?_ qk
  .rcases Az.mp j with j|j
   .exact I3.pin p (A3 _ j)
   .rw[Aj.mp j];refine⟨AW _ Z,?_,Cm (A0 R m),I.nofs m,λ_ z=>nomatch z⟩;rw[qr (Cm M)];exact hn _ m
  .have lb:b<s.heap.objs.size:=I.hok.lt e;rw[qr (AE (A0 lb l)),qr n];exact e
  .rw[qr nP,qk];rfl
 .have y:s.heap.get? g=some (tabObj #[rawInt pos.line,rawInt pos.col,.ref d]):=I.hok g _ r;refine kla_eval C (kla_makeFunctionHit (mg:=X.mg) (cv:=.ref d) hcl I.ok.glob U J (L.hd.keeps I.bk) y trivial (by simp[codeAmong,rawInt]) ⟨bm,ob,b1,b2,b3,N,B,S,b6,b7⟩ λh h' tk T m=>?_);have F:Inv X pins σ H {s with heap:=h'.push (DS "<lambda>" (X.env.qual ++ "<lambda>") a i scope cl ((X.mg "__name__").getD .none) d h),toks:=tk}:=I.kept λb u e=>Av _ (T b u e);refine k h'.objs.size d ((X.mg "__name__").getD .none) h H _ (F.pins_of λp j=>?_) (λb o _ e=>e) r W;rcases Az.mp j with j|j
  .exact F.pin p (A3 _ j)
  .rw[Aj.mp j];exact⟨AW _ Z,I.hok.fresh m,Cm (A0 R m),I.nofs m,λ_ z=>nomatch z⟩
end
end Lam
namespace Lam
open PySem PySem.Spec PyProof.Rows L2 Add PySem.W PySem.Calls Srt
noncomputable def encK (k:Int×Str):List V:=[.int k.1,.str k.2]
noncomputable abbrev kDf:Int×Str:=(0,Be)
noncomputable def ltK (a b:Int×Str):Bool:=decide (a.1<b.1) || (decide (a.1=b.1) && decide (a.2.cps.toList<b.2.cps.toList))
theorem qtw (a b:Int×Str):ltK a b=true↔a.1<b.1\/(a.1=b.1/\a.2.cps.toList<b.2.cps.toList):=by unfold ltK;simp
theorem ltK_no (a b:Int×Str):ltK a b=false ↔ ¬(a.1<b.1\/(a.1=b.1/\a.2.cps.toList<b.2.cps.toList)):=by rw[<- qtw];cases ltK a b <;>simp
theorem ordK (ks:List (Int×Str)):Ord λi j=>ltK (ks.getD i kDf) (ks.getD j kDf):=by
 refine⟨λi j h=>?_,λi j k c a=>?_⟩
 .rw[qtw]at h;rw[ltK_no];rintro (z|⟨g,b⟩)
  .lia
  .rcases h with h|⟨c,a⟩
   .lia
   .exact List.lt_asymm a b
 .rw[ltK_no]at c a |-;have d:∀x y:Int×Str,¬(x.1<y.1\/(x.1=y.1/\x.2.cps.toList<y.2.cps.toList))->y.1<=x.1/\(x.1=y.1->y.2.cps.toList<=x.2.cps.toList):=λx y h=>⟨by lia,λe=>List.not_lt.mp λz=>h (.inr ⟨e,z⟩)⟩;obtain⟨a1,l⟩:=d _ _ c;obtain⟨b1,f⟩:=d _ _ a;rintro (z|⟨g,b⟩)
  .lia
  .exact List.not_lt.mpr (List.le_trans (l (by lia)) (f (by lia))) b
def qxr (tb:V->Hp->VK->Prop)(xs:List V)(H:Hp)(Q:VK):Prop:=∀kS,H kS=none->∃W:Nat->Hp->Prop,W 0 (upd H kS (.lst [])) /\
 (∀i x H',xs[i]?=some x->W i H'->tb x H' λv H2=>∃ks,H2 kS=some (.lst ks)/\ks.length<A5/\W (i+1) (upd H2 kS (.lst (ks++[v])))) /\
 ∀H',W xs.length H'->∃(kv:List V)(ks:List (Int×Str)),H' kS=some (.lst kv)/\Tups H' kv (ks.map encK)/\ks.length=xs.length/\∀(p:List Nat)(q:Addr),p.Perm (Aq xs.length)->(p.map λi=>ks.getD i kDf).Pairwise (λa b=>ltK b a=false)->H' q=none->Q (.ref q) (upd (upd H' kS (.lst [])) q (.lst (p.map λi=>xs.getD i V.non)))
section
variable {X:Cx}{A:AT}{E:Value->Ad->Prop}{pins:List (Addr×Obj)}{σ:L2.St}{H:Hp}{s:Ad}
theorem qtx (I:Inv X pins σ H s):∀{rs:List (Int×Str)}{us:List V}{its:List Value},Vals us its->Tups H us (rs.map encK)->∃fs,KatTups s.heap its fs/\fs.length=its.length/\∀v∈fs,∃n t,v=Dm n t
 | [],us,its,rv,ht=>by cases ht;cases rv;exact⟨[],.nil,Z,λv a=>absurd a AB⟩
 |r::rs,us,its,rv,ht=>by
  cases ht with
  |cons qa ht =>
   cases rv with
   |cons ru rv =>
    obtain⟨fs,i,d,e⟩:=qtx I rv ht;obtain⟨ts,b,f,_⟩:=I.tuple (SqT.of qa);obtain⟨v1,v2,rfl,⟨t,rfl⟩,⟨t',rfl⟩⟩:=Vals.two b;obtain⟨o,h,c,n,g⟩:=(show s.heap.IsTuple _ _ from f);cases qk3 ru;refine⟨.int r.1 t::fs,.cons h c g Z i,by rw[AD,AD,d],λv a=>?_⟩;rcases Aw.mp a with rfl|a
    .exact⟨_,_,Z⟩
    .exact e v a
theorem qvs {prog:AJ}{w:World}{A:AT}{E:Value->Ad->Prop}{h:Ad}{C:Bool->Ad->Prop}{a b:Addr}{i g:Obj}{x y:Int×Str}{j l k f:Tok}{n m:Nat}(r:h.heap.get? a=some i)(o:i.data=.seq #[.int x.1 j,.str x.2 l] n)(q:h.heap.get? b=some g)(p:g.data=.seq #[.int y.1 k,.str y.2 f] m)
  (d:C (ltK x y) h):wpAny (model prog w) A (keyLt' (tuples' true) (.ref a) (.ref b)) C E h:=by
 refine kat_lt r o q p (kat_cons (AZ.int_int x.1 j y.1 k prog w _ _ (kat_go (λc=>?_) λc=>?_)))
 .have c:x.1=y.1:=eq_of_beq c;refine kat_yes (kat_cons (AZ.str_str x.2 l y.2 f prog w _ _ (kat_go (λe=>?_) λe=>?_)))
  .have e:x.2=y.2:=eq_of_beq e;refine kat_yes (kat_nil ?_);have z:ltK x y=false:=(ltK_no x y).mpr (by
    rintro (z|⟨_,z⟩)
    .lia
    .rw[e]at z;exact List.lt_irrefl _ z)
   rw[z]at d;exact d
  .refine kat_no (kat_one _ _ (lt_str ?_));have z:ltK x y=decide (x.2.cps.toList<y.2.cps.toList):=by unfold ltK;rw[decide_eq_false (show ¬x.1<y.1 by lia),decide_eq_true c];rfl
   rw[z]at d;exact d
 .have c:x.1≠y.1:=λz=>by rw[z]at c;simp at c
  refine kat_no (oneLt_int ?_);have z:ltK x y=decide (x.1<y.1):=by unfold ltK;rw[decide_eq_false c];simp
  rw[z]at d;exact d
theorem qsj {a:Addr}{n:Nat}{vs:List Value}{xs:List V}{f:Value}{tb:V->Hp->VK->Prop}{Q:VK}{P:PySem.Fin->Ad->Prop}(I:Inv X pins σ H s)(rv:Vals xs vs)(F:s.heap.get? a=some (seqObj "list" vs.toArray n))(af:H a=none)(ae:X.s₀.heap.objs.size<=a)(M:a≠X.env.locals)(au:a∉X.fs)
  (ad:∀x c,X.env.cells.lookup x=some c->c≠a)(U:∀p∈X.pn++pins,p.1≠a)(ao:vs.length<64)
  (hk:∀(q:List (Addr×Obj))(d:Ad)(H':Hp)(x:V)(u:Value)(Q':VK),(∀p∈pins,p∈q)->Inv X q σ H' d->RelV x u->tb x H' Q'->wpAny (model X.prog X.w) A (call f [u]) (EP X q σ Q') (λ_ _=>False) d)
  (hq:qxr tb xs H Q)(bf:∀d,EP X pins σ Q (.ref a) d->P (.done (.ret .none)) d):wpAny (model X.prog X.w) A (ksk_tree a f false) P E s:=by
 have K:xs.length=vs.length:=rv.length;have halt:a<s.heap.objs.size:=AC F;have s1:=CF.update s.heap a (B9 λ_=>(#[]:Array Value));obtain⟨B,ho1⟩:∃B,(s.heap.update a (B9 λ_=>(#[]:Array Value))).get? a=some (seqObj "list" #[] B):=⟨_,get?_update_seq F λ_=>#[]⟩;unfold ksk_tree;refine An (listItems_at F Z ?_);refine An (listUpdate_at F Z ?_ (by rw[Ai,Bx];lia) (AS _));refine An (seqEpoch_at ho1 Z ?_);refine An (wpAny_newTuple ?_ (by show vs.length<=_;rw[Bx];lia));have I1:Inv X pins σ H {s with heap:=s.heap.update a (B9 λ_=>(#[]:Array Value))}:=I.turned (t':=s.toks) (it:=a) (λb o hb e=>(s1.2 b hb).trans e) af M (.inr ae) ad U;have I2:Inv X pins σ H {s with heap:=(s.heap.update a (B9 λ_=>(#[]:Array Value))).push (seqObj "tuple" vs.toArray 0)}:=I1.kept (t':=s.toks) λb u e=>Av _ e;have I3:Inv X (pins++[(a,seqObj "list" #[] B)]) σ H {s with heap:=(s.heap.update a (B9 λ_=>(#[]:Array Value))).push (seqObj "tuple" vs.toArray 0)}:=I2.pins_of λp k=>by
  rcases Az.mp k with k|k
  .exact I2.pin p (A3 _ k)
  .rw[Aj.mp k];exact⟨Av _ ho1,af,M,au,λ_ z=>nomatch z⟩
 clear I1 I2;generalize hs2:({s with heap:=(s.heap.update a (B9 λ_=>(#[]:Array Value))).push (seqObj "tuple" vs.toArray 0)}:Ad)=l at I3 |-;refine An (wpAny_newList ?_ (AS _));refine CJ ?_;have bh:H l.heap.objs.size=none:=I3.hok.fresh (Al _);obtain⟨W,w0,S,done⟩:=hq l.heap.objs.size bh;have I4:=I3.lnew (ys:=[]) (its:=[]) (t':=l.toks) .nil (AS _);generalize hkS:l.heap.objs.size=kS at w0 S done I4 |-;unfold ksk_rest;refine An (wpAny_rule ?_);first
  |rw[List.forIn_toArray]
  | (rw[<- Array.forIn_toList];simp only[List.toList_toArray])
  |rw[<- Array.forIn_toList]
 refine An (ksk_fold (λi d=>∃H',Inv X (pins++[(a,seqObj "list" #[] B)]) σ H' d/\W i H') vs 0 _ ⟨_,I4,w0⟩ ?step ?done)
 case step =>
  rintro j u d hu ⟨H',J,R⟩;simp only[Nat.zero_add]at R |-;have hj:j<xs.length:=by rw[K];exact(Ac.mp hu).1
  obtain⟨x,hx⟩:∃x,xs[j]?=some x:=⟨_,Ae hj⟩;obtain⟨u',ah,rx⟩:=rv.get hx;rw[hu]at ah;cases ah;refine An (wpAny_attempt (BY (hk _ d H' x u _ (λp k=>B7 _ k) J rx (S j x H' hx R)) (λv s'' he=>?_) λ_ _ hF=>hF.elim));obtain⟨v',H2,I5,r5,ks,h5,l5,w5⟩:=he;dsimp only;refine An (kset I5 h5 (ks':=ks++[v']) (by rw[Af];exact l5) (λits h=>?_) λL I6=>AQ ⟨Z,_,I6,w5⟩);rw[show (its.toArray.push v).toList=its++[v] by simp];exact h.append (.cons r5 .nil)
 case done =>
  rintro d ⟨H',J,R⟩;rw[Nat.zero_add,<- K]at R;obtain⟨kv,ks,hz,tz,lz,al⟩:=done H' R;obtain⟨_,its,nn,h,e5⟩:=(show ObjOk X.prog X.w H' d.heap kS (.lst kv) from J.hok kS _ hz);refine An (listItems_at (o:=seqObj "list" its.toArray nn) e5 Z ?_);have y:its.length=vs.length:=by have h1:=h.length;have D:=tz.length;rw[Ab]at D;lia
  have lks:ks.length=vs.length:=by lia
  have hzs:(its.toArray.zip vs.toArray).size=vs.length:=by rw[Array.size_zip,Ai,Ai,y,Nat.min_self]
  have tail:∀(st:SortSt)(p:Array Nat),Gd vs.length p->Up (λi j=>ltK (ks.getD i kDf) (ks.getD j kDf)) p vs.length->(arrOf st).map (·.2)=(qhi vs p).toArray->failedOf st=none->wpAny (model X.prog X.w) A (ksk_tail a false B (.ref kS) st) P E d:=by
   intro st p g up O ax;have aw:=J.pin (a,seqObj "list" #[] B) (A3 _ (A3 _ (Aj.mpr Z)));unfold ksk_tail;dsimp only;refine An (kset J hz (ks':=[]) (AS _) (λ_ _=>.nil) λL I6=>?_);refine An (wpAny_letGo ?_);have N:=I6.pin (a,seqObj "list" #[] B) (A3 _ (A3 _ (Aj.mpr Z)));have lp:(qhi vs p).length=vs.length:=by rw[Ab,BN,g.size]
   refine An (seqEpoch_at N.1 Z ?_);refine An (listUpdate_at N.1 Z ?_ (AS _) (by rw[if_neg Ud,O,Ai,lp,Bx];lia));rw[ax];simp only[bne_self_eq_false,El,if_false];rw[O];have ai:upd H' kS (.lst []) a=none:=N.2.1;have bj:H' a=none:=aw.2.1;have s7:=CF.update L.heap a (B9 λ_=>(qhi vs p).toArray);obtain⟨c2,aj⟩:∃c2,(L.heap.update a (B9 λ_=>(qhi vs p).toArray)).get? a=some (seqObj "list" (qhi vs p).toArray c2):=⟨_,get?_update_seq N.1 λ_=>(qhi vs p).toArray⟩;have J6:Inv X pins σ (upd H' kS (.lst [])) L:=I6.pins_of λp k=>I6.pin p (A3 _ (B7 _ k));have I7:Inv X pins σ (upd H' kS (.lst [])) {L with heap:=L.heap.update a (B9 λ_=>(qhi vs p).toArray)}:=J6.turned (t':=L.toks) (it:=a) (λb o hb e=>(s7.2 b hb).trans e) ai M (.inr ae) ad U;have ar:∀i∈p.toList,i<vs.length:=λi hi=>by have:=g.perm.mem_iff.mp (Array.mem_toList_iff.mp hi);simpa using this
   have pp:p.toList.Perm (Aq vs.length):=by have:=Array.perm_iff_toList_perm.mp g.perm;simpa using this
   refine AQ (bf _ ⟨.ref a,_,qof (o:=.lst (p.toList.map λi=>xs.getD i V.non)) I7 ai ae M ad U ⟨by rw[Ab,BN,g.size,Bx];lia,qhi vs p,c2,qob rv _ ar,aj⟩,Z,al p.toList a (by rw[K];exact pp) ?_ bj⟩);rw[Cq,Bh];intro i j hi hj aq;have bc:i<p.size:=by simpa using hi
   have ag:j<p.size:=by simpa using hj
   have z:=up i j (by lia) (by rw[<- g.size];exact ag);have ei:at' p i=p.toList[i]:=by simp[at',bc]
   have ej:at' p j=p.toList[j]:=by simp[at',ag]
   rw[ei,ej]at z;exact z
  have Y:∀i,i<its.length->∃(b:Addr)(o:Obj)(t t':Tok)(n:Nat),its.getD i C8=.ref b/\d.heap.get? b=some o/\o.cls=.type "tuple" /\ o.data=.seq #[.int (ks.getD i kDf).1 t,.str (ks.getD i kDf).2 t'] n:=by
   intro i hi;have ak:i<ks.length:=by lia
   obtain⟨b,eb,qb⟩:=tz.get (i:=i) (r:=encK ks[i]) (by simp[ak]);obtain⟨v,hv,am⟩:=h.get eb;have B:ks.getD i kDf=ks[i]:=by simp[ak]
   obtain⟨ts,c1,p1,_⟩:=J.tuple (SqT.of qb);obtain⟨v1,v2,rfl,⟨t,rfl⟩,⟨t',rfl⟩⟩:=Vals.two c1;obtain⟨o,F,hc,n,hd⟩:=(show d.heap.IsTuple b _ from p1);exact⟨b,o,t,t',n,by rw[<- qk3 am,Ak,hv];rfl,F,hc,by rw[B];exact hd⟩
  unfold ksk_end;dsimp only;rw[if_neg (by decide:¬(false=true))];by_cases D:vs.toArray.size<2
  .rw[if_pos D,if_pos D];refine An (AQ ?_);rw[StateT.run_pure];refine An (AQ ?_);dsimp only;rw[Ai]at D;refine tail (SortSt.mk' general' (its.toArray.zip vs.toArray) #[] 7 none) (Aq vs.length).toArray ⟨.refl _⟩ (λi j aq hj=>?_) ?_ rfl
   .have:i=j:=by lia
    subst this;exact(ordK ks).irr _
   .rw[qvh];show (its.toArray.zip vs.toArray).map (·.2)=_;apply Array.toList_inj.mp;simp[List.map_snd_zip,y]
  .rw[if_neg D,if_neg D];rw[Ai]at D;refine An (m:=keyKind' its.toArray) ?_;obtain⟨fs,f1,f2,f3⟩:=qtx J h tz;refine kat_kind (T:=.type "int") f1 (by lia) (λv hv=>?_) (beq_self_eq_true _) ?_
   .obtain⟨n,t,rfl⟩:=f3 v hv;exact .now
   refine An (BY (kat_run (ks:=its) (vs:=vs) (κ:=tuples' true) (E:=E) (Q:=λst' l=>l=d/\∃p:Array Nat,Gd vs.length p/\Up (λi j=>ltK (ks.getD i kDf) (ks.getD j kDf)) p vs.length/\arrOf st'=p.map (kas_item (its.toArray.zip vs.toArray))/\failedOf st'=none)
    (G:=λp l=>l=d/\Gd vs.length p/\Up (λi j=>ltK (ks.getD i kDf) (ks.getD j kDf)) p vs.length)
    y (by lia) ao (λp st' l a1 a2 a3 a4=>⟨a4.1,p,a4.2.1,a4.2.2,a2,a3⟩) (Sat.wp (λi j C hi hj hC=>?_) (sort_ok (ordK ks) (by lia)) λp k=>⟨Z,k⟩)) ?_ λ_ _ e=>e)
   .obtain⟨b,o,t,t',n,e,F,hc,hd⟩:=Y i (by lia);obtain⟨b2,o2,t2,t2',n2,e2,av,aj,ay⟩:=Y j (by lia);unfold kas_ask;rw[e,e2];exact qvs F hd av ay hC
   .rintro⟨⟨⟩,st'⟩ l ⟨rfl,p,g,u,bi,hf⟩;dsimp only;exact tail st' p g u (kat_snds y bi) hf
end
end Lam
namespace Lam
open PySem PySem.Spec PyProof.Rows L2 Add PySem.W PySem.Calls Srt
theorem _root_.L2.SqL.keepP {K:Frag}{H H':Hp}{l c:Addr}{xs:List V}{ps:Array Value}(h:SqL K H l xs)(a:H c=some (.tbl ps))(k:∀b o,b≠c->H b=some o->H' b=some o):SqL K H' l xs:=by
 rcases h with (h|⟨o,h⟩)|h
 .exact .inl (.inl (k _ _ (λz=>by rw[z,a]at h;cases h) h))
 .exact .inl (.inr ⟨o,k _ _ (λz=>by rw[z,a]at h;cases h) h⟩)
 .exact .inr h
section
variable {X:Cx}
def tSLT (K:Frag)(t:TA)(js:List (Option Nat))(tb:TE)(Pt:Addr)(lpos:Pos)(qual:Str):TE:=λσ H Q=>t σ H λvs H1=>∃(l:Addr)(xs:List V),vs=[.ref l]/\SqL K H1 l xs/\xs.length<64/\LamAt H1 Pt lpos qual /\
 ∀(H2:Hp)(c':Addr),(∀b o,b≠Pt->H1 b=some o->H2 b=some o)->H2 Pt=some (.tbl #[rawInt lpos.line,rawInt lpos.col,.ref c'])->H2 c'=some (qqo c' qual)->qxr (λx H' Q'=>H' c'=some (qqo c' qual)/\tb (qhj js σ x) H' Q') xs H2 Q
theorem pe_sortLamT {N XN:List Str}{js:List (Option Nat)}{xs scope:Scope}{y:Str}{e g:Expr}{t:TA}{tb:TE}{d:Arguments}{c Pt:Addr}{p pos C U:Pos}(ae:X.calm=true)(hr:Room 2 X.A)(ak:Gl X "sorted")(ah:X.mg "sorted"=none)(ha:PA X [e] t)
  (L:LamF X.mg X.base c Pt)(ad:X.env.code=.ref c)(hN:X.N=XN)(T:X.env.scope=xs)(hok:qlp N js XN xs scope=true)(h0:N[0]?=some y)(j0:js[0]?=some none)(hy:scope.names.lookup y=some .local)(am:scope.isCoroutine=false)(V:scope.isGenerator=false)
  (Y:defaultsOf d X.env=([],[]))(G:∀n B i l u,bindArgs (kla_fn "<lambda>" (X.env.qual ++ "<lambda>") d g scope n B (.ref i) l) ⟨[u],[]⟩=pure [(y,u)])
  (hb:∀(f i:Addr)(n:List (Str×Addr))(s:Ad)(H:Hp)(E:Value->Ad->Prop),PE (qtv X X.A.in1.in1 N (X.env.qual ++ "<lambda>") scope f (.ref i) n s H E) g tb)
  (he:backTo pos (starEach [e] X.env)=(false,eval e X.env)::backTo pos (starEach [] X.env):=by rfl)(hpl:(backTo pos (starEach [e] X.env)).any (·.1)=false:=by rfl) :
  PE X (.Call (.Name "sorted" p) [e] [⟨some "key",.Lambda d g scope C,U⟩] pos) (tSLT X.K t js tb Pt C (X.env.qual ++ "<lambda>")):=by
 intro k s σ H Q I h;have nm:=qjf hok;refine Cj (qf9 I ak ah Add.boot_sorted ?_);refine PyProof.Rows.callWith_kw (thn (ha pos k s σ H _ I h) λus s1 ⟨vs,H1,I1,r1,q1⟩=>?_) he hpl;obtain⟨r,M,rfl,af,h64,hP,q⟩:=q1;cases r1 with
 |cons ra rb =>
  cases rb;cases ra;obtain⟨n,hcl,c1,c2⟩:=qhs (env:=X.env) (scope:=scope) λx hx e=>I.ok.has x.1 (by
   rcases nm.clos x hx e with q|q
   .exact .inl (by show X.env.scope.names.lookup _=_;rw[T];exact q)
   .exact .inr (by show X.env.scope.names.lookup _=_;rw[T];exact q))
  show wpAny _ _ (evalAll ((do let v <- eval (.Lambda d g scope C) X.env;standAt pos;pure v)::[])) _ _ s1;refine wpAny_evalAll_cons (An (qvr I1 L ad hP Y hcl λf i B l F j I2 kp ao al=>An (Ew (AQ ?_))));refine wpAny_evalAll_nil ?_;have q:=q F i kp ao al;have ai:∀p∈k,p∈k++[(f,DS "<lambda>" (X.env.qual ++ "<lambda>") d g scope n B i l)]:=λp D=>B7 _ D;obtain⟨ps,aj⟩:=hP.tbl;have W:SqL X.K F r M:=af.keepP aj kp;obtain⟨its,rv,pl,hz⟩:=I2.list W;have ag:its.length=M.length:=rv.length.symm;have hd:=I.ok.hd ae;refine call_function_entry_kw (kw:=[(Aa "key",.ref f)]) kind_sorted plain_sorted entry_sorted (ksk_s1 _ _) ?_;unfold Bl.«sorted»;refine An (m:=checkCount "sorted" 1 1 _) (AQ ?_);refine An (collect_list pl.isList ?_ (by rw[Bx];lia));have keep:∀b o,j.heap.get? b=some o->((j.heap.push (seqObj "list" #[] 0)).update j.heap.objs.size (B9 (· ++ its.toArray))).get? b=some o:=λb o q=>by have P:b<j.heap.objs.size:=AC q;rw[Heap.get?_update_ne _ _ _ _ (AE P),Heap.get?_push_ne _ _ _ (AE P)];exact q
  have z:Inv X (k++[(f,DS "<lambda>" (X.env.qual ++ "<lambda>") d g scope n B i l)]) σ F {j with heap:=(j.heap.push (seqObj "list" #[] 0)).update j.heap.objs.size (B9 (· ++ its.toArray))}:=I2.kept (t':=j.toks) keep;generalize hs3:({j with heap:=(j.heap.push (seqObj "list" #[] 0)).update j.heap.objs.size (B9 (· ++ its.toArray))}:Ad)=s3 at z |-;refine An (wpAny_newList ?_ (by rw[ag,Bx];lia));have I4:Inv X (k++[(f,DS "<lambda>" (X.env.qual ++ "<lambda>") d g scope n B i l)]) σ F {s3 with heap:=s3.heap.push (seqObj "list" its.toArray 0)}:=z.kept (t':=s3.toks) λb u e=>Av _ e;have O:(s3.heap.push (seqObj "list" its.toArray 0)).get? s3.heap.objs.size=some (seqObj "list" its.toArray 0):=AW _ rfl;have hL:=z.lt;refine An (CJ (wpAny_call_entry_kw slot_list_sort ⟨_,O,Z⟩ entry_list_sort ?g (ksk_l1 _ _)))
  case g =>
   rw[ksk_t1];refine qsj (tb:=λx H' Q'=>H' i=some (qqo i (X.env.qual ++ "<lambda>"))/\tb (qhj js σ x) H' Q') (Q:=Q) (s:={s3 with heap:=s3.heap.push (seqObj "list" its.toArray 0)}) I4 rv O (z.hok.fresh (Al _)) z.sz (Cm hL) (z.nofs (Al _)) (λx c e=>?_) (λp D=>AE (AC (z.pin p D).1)) (by lia) (λpins' s' H' x u Q' D S rx R=>?_) q λs' hE=>⟨_,Z,?_⟩
   .obtain⟨v,qc⟩:=z.cell x c e;exact AE qc.lt
   .have mf:=D _ (A3 _ (Am (a:=(f,DS "<lambda>" (X.env.qual ++ "<lambda>") d g scope n B i l))));refine qxq (A:=X.A.in1.in1) hN T nm c1 c2 I.ok.frames hd (hr.in1.in1).depth h0 j0 hy am V (G n B i l) (hb f i n) S (S.pin _ (A3 _ mf)).1 ?_ rx R.2;exact(show ObjOk X.prog X.w H' s'.heap i (qqo i (X.env.qual ++ "<lambda>")) from S.hok i _ R.1).1
   .obtain⟨v,H',J,rr,qq⟩:=hE;exact AQ ⟨_,Z,v,H',J.pins_of λp D=>J.pin p (A3 _ (ai p D)),rr,qq⟩
end
end Lam
namespace Add
open PySem PySem.Spec PyProof.Rows L2
def keyN (k:Option Key)(v:Value):Bool:=match k with
 |some k=>qka k v
 |none=>(match v with | .none=>true|_=>false)
theorem qb7 {k:Option Key}{v:Value}(h:keyN k v=true):(k=none/\v=.none) \/ ∃q,k=some q/\qka q v=true:=by
 cases k with
 |none=>cases v <;>first|exact .inl ⟨rfl,rfl⟩|cases h
 |some q=>exact .inr ⟨q,Z,h⟩
theorem qvt {prog:AJ}{w:World}{A:AT}{E:Value->Ad->Prop}{s:Ad}{Q:Int->Ad->Prop}(h:Q 0xFCA86420 {s with toks:=s.toks+1}):wpAny (model prog w) A (PySem.pyHash .none) Q E s:=by
 show wpAny _ _ (pyHashByItsType .none) _ _ _;refine PySem.W.pyHash_slot (T := "NoneType") rfl PySem.F.slot_NoneType_hash PySem.F.entry_NoneType_hash (PySem.F.args_NoneType_hash_1 _) (beq_builtin_none _) (.inl Z) ?_;obtain⟨hp,g,d,tk,os⟩:=s
 wp_walk
 exact⟨_,_,Z,h⟩
def qo7 (prog:AJ)(w:World):PySem.KeyKind prog w (Option Key) where
 is:=keyN
 hash:=λk=>match k with|some k=>keyH w k|none=>0xFCA86420
 inj:=λv a b ha hb=>by
  rcases qb7 ha with ⟨rfl,rfl⟩|⟨q,rfl,h1⟩
  .rcases qb7 hb with ⟨rfl,_⟩|⟨q2,rfl,h2⟩
   .rfl
   .rcases qat h2 with ⟨i,t,_,e⟩|⟨x,t,_,e⟩ <;>exact nomatch e
  .rcases qb7 hb with ⟨rfl,rfl⟩|⟨q2,rfl,h2⟩
   .rcases qat h1 with ⟨i,t,_,e⟩|⟨x,t,_,e⟩ <;>exact nomatch e
   .rw[(qas prog w).inj v q q2 h1 h2]
 byValue:=λk v h=>by
  rcases qb7 h with ⟨_,rfl⟩|⟨q,_,h⟩
  .rfl
  .exact(qas prog w).byValue q v h
 pyHash:=λhv h=>by
  rcases qb7 hv with ⟨rfl,rfl⟩|⟨q,rfl,h1⟩
  .exact qvt h
  .exact(qas prog w).pyHash h1 h
 eqBool:=λ{A E s a b u v Q} hu hv h=>by
  rcases qb7 hu with ⟨rfl,rfl⟩|⟨q,rfl,h1⟩
  .rcases qb7 hv with ⟨rfl,rfl⟩|⟨q2,rfl,h2⟩
   .exact AZ.same _ _ _ _ _ h
   .rcases qat h2 with ⟨i,t,rfl,rfl⟩|⟨x,t,rfl,rfl⟩
    .exact AZ.none_int i t _ _ _ _ h
    .exact AZ.none_str x t _ _ _ _ h
  .rcases qb7 hv with ⟨rfl,rfl⟩|⟨q2,rfl,h2⟩
   .rcases qat h1 with ⟨i,t,rfl,rfl⟩|⟨x,t,rfl,rfl⟩
    .exact AZ.int_none i t _ _ _ _ h
    .exact AZ.str_none x t _ _ _ _ h
   .refine(qas prog w).eqBool h1 h2 ?_;rw[show decide (some q=some q2)=decide (q=q2) by by_cases e:q=q2 <;>simp[e]]at h;exact h
 «strs» := λk x t v h=>by
  rcases qb7 h with ⟨_,e⟩|⟨q,rfl,h1⟩
  .exact nomatch e
  .exact(qas prog w).strs q x t v h1
theorem qty {prog:AJ}{w:World}{h:Heap}{a:Addr}{f:Key->Option Value}(m:h.MapOf (qas prog w) a f):h.MapOf (qo7 prog w) a (λk=>k.bind f):=by
 obtain⟨o,es,ep,p,l,n,d,q⟩:=m;refine⟨o,es,ep,p,l,n,λe b=>?_,λk=>?_⟩
 .obtain⟨k,c,j⟩:=d e b;exact⟨some k,c,j⟩
 .cases k with
  |some k=>exact q k
  |none =>
   show findBy keyN es none=none;unfold findBy;have:es.find? (λe=>keyN none e.key)=none:=by rw[Array.find?_eq_none];intro e b z;obtain⟨k,c,_⟩:=d e b;rcases qat c with ⟨i,t,_,g⟩|⟨x,t,_,g⟩ <;>(rw[g]at z;cases z)
   first
    | (rw[this];rfl)
    |simp[this]
def qqp (H:Hp)(a:Addr)(y:V)(o:Option V):Prop:=(y=.non/\o=none/\∃kvs,Rd H a (.dK kvs))\/DGet H a y o
section
variable {X:Cx}{pins:List (Addr×Obj)}{σ:L2.St}{H:Hp}{s:Ad}{a:Addr}{y d:V}{u r:Value}{o:Option V}{A:AT}{E:Value->Ad->Prop}
theorem d_inN {Q:Value->Ad->Prop}(d:A.units+1<cLine)(I:Inv X pins σ H s)(g:qqp H a y o)(b:L2.RelV y u)(h:∀s',Inv X pins σ H s'->Q (.bool o.isSome) s') :
  wpAny (model X.prog X.w) A (compareOp .In u (.ref a)) Q E s:=by
 rcases g with ⟨rfl,rfl,kvs,e⟩|g
 .cases (show u=C8 from b);obtain⟨z,f,vs,rel,c⟩:=qes I.hok e;exact wpAny_in_of (knd:=qo7 X.prog X.w) (k:=none) rfl f (qty c.mapOf) (h _ (I.tok _))
 .exact d_in d I g b h
theorem d_get1N {Q:Value->Ad->Prop}(d:A.units+1<cLine)(I:Inv X pins σ H s)(g:qqp H a y o)(c:L2.RelV y u)(h:∀w' s',Inv X pins σ H s'->L2.RelV (o.getD .non) w'->Q w' s') :
  wpAny (model X.prog X.w) A (call (.builtin "dict.get") [.ref a,u]) Q E s:=by
 rcases g with ⟨rfl,rfl,kvs,e⟩|g
 .cases (show u=C8 from c);obtain⟨z,f,vs,rel,b⟩:=qes I.hok e;exact Eh BU b.typeIs C4 (D9 _ _) (meets_dict_get (qo7 X.prog X.w) (k:=none) a Z f) ⟨_,qty b.mapOf,h _ _ (I.tok _) Z⟩
 .exact d_get1 d I g c h
end
def tDInN (ty td:TE):TE:=λσ H Q=>ty σ H λy H1=>td σ H1 λx H2=>∃a o,x=.ref a/\qqp H2 a y o/\Q (.bl o.isSome) H2
def tDGet1N (td ty:TE):TE:=λσ H Q=>td σ H λx H1=>∃a,x=.ref a/\IsD H1 a/\ty σ H1 λy H2=>∃o,qqp H2 a y o/\Q (o.getD .non) H2
section
variable {X:Cx}{o i e:Expr}{apos cpos:Pos}{td ty:TE}
theorem pc_dinN (m:X.A.units+1<cLine)(c:PE X i ty)(p:PE X o td):L2.PC X .In i o (tDInN ty td):=by intro b s σ H Q I h;refine thn (c b s σ H _ I h) λiv t ⟨y,j,r,k,l⟩=>thn (p b t σ j _ r l) λu s2 ⟨x,f,q,e,a,ov,ex,g,n⟩=>?_;subst ex;obtain rfl:u=Bo a:=e;exact d_inN m q g k λs3 d=>⟨.bl ov.isSome,f,d,Z,n⟩
theorem qvu (r:X.A.units+1<cLine)(v:PE X o td)(p:PE X e ty)(m:M1 X o "get" apos e cpos):PE X (.Call (.Attribute o "get" apos) [e] [] cpos) (tDGet1N td ty):=by intro b s σ H Q I h;refine wpAny_Call_method m.base m.few m.line PySem.F.plainAttrs_dict BU PySem.F.type_dict_get (thn (v b s σ H _ I h) λu C ⟨x,l,f,j,a,ex,d,q⟩=>?_);subst ex;obtain rfl:u=Bo a:=j;obtain⟨w,B,_⟩:=qw4 f d;refine⟨w,B,?_⟩;rw[m.trees];refine CY rfl (DU (CW (thn (p b C σ l _ f q) λiv s2 ⟨y,k,z,n,ov,g,t⟩=>DE ?_)));exact d_get1N r z g n λw' s3 i c=>⟨_,k,i,c,t⟩
end
end Add
namespace Add
open PySem PySem.Spec PyProof.Rows L2
section
variable {X:Cx}{pins:List (Addr×Obj)}{σ:L2.St}{H:Hp}{s:Ad}
def tForK (te:TE)(g:TG)(tb:TS):TS:=λD σ H=>te σ H λx H1=>∃(d:Addr)(kvs:List (Key×V)),x=.ref d/\H1 d=some (.dK kvs)/\∀o:Obj,∃Pv:Nat->L2.St->Hp->Prop,Pv 0 σ (upd H1 d (.frz o (.dK kvs)))/\(∀i σ H,Pv i σ H->H d=some (.frz o (.dK kvs))) /\
 (∀(i:Nat)(kv:Key×V)(σ:L2.St)(H:Hp),kvs[i]?=some kv->Pv i σ H->g (kV kv.1) σ H λσ2 H2=>tb {nx:=Pv (i+1),rt:=λ_ _=>False,ct:=Pv (i+1)} σ2 H2)/\∀σ H,Pv kvs.length σ H->D.nx σ (upd H d (.dK kvs))
theorem kv_key {kvs:List (Key×V)}{vs:List (Key×Value)}(h:KV kvs vs){i:Nat}{a:Key×V}(e:kvs[i]?=some a):∃k u,vs[i]?=some (k,u)/\k=a.1:=by
 induction h generalizing i with
 |nil=>cases e
 |cons r _ ih =>
  cases i with|zero=>cases e;exact⟨_,_,Z,r.1.symm⟩|succ i=>exact ih e
theorem kV_rel {P:AJ}{w:World}{k:Key}{u:Value}(h:(qas P w).is k u=true):RelV (kV k) u:=by
 rcases qat h with ⟨i,t,rfl,rfl⟩|⟨x,t,rfl,rfl⟩
 .exact⟨t,Z⟩
 .exact⟨t,Z⟩
theorem qed {tg e:Expr}{J:List Stmt}{te:TE}{g:TG}{tb:TS}{pos:Pos}(K:Ba (model X.prog X.w) X.A X.env X.xe)(ad:X.calm=true)(he:PE X e te)(hg:PG X tg g)(l:PSs X J tb)
  (hs:∀x,foldedSetIterable e X.env x=pure x:=by intro _;rfl):PS X (.For tg e J [] pos) (tForK te g tb):=by
 intro j s σ H D I h;refine wpAny_For (thn (he j s σ H _ I h) λv L ⟨x,V,F,r1,q1⟩=>?_) hs;obtain⟨d,kvs,rfl,hd,q⟩:=q1;cases r1;obtain⟨z,lo,vs,kv,hD⟩:=qw2 F.hok hd;obtain⟨ep,P⟩:=hD.dictAt;obtain⟨o,es,ho,hx,aj,r1,r2,r3⟩:=id P;refine wpAny_pyIter_dict (knd:=qas X.prog X.w) (kvs:=vs) (ep:=ep) lo P ?_;obtain⟨Pv,p0,pd,step,ai⟩:=q o;have lk:kvs.length=vs.length:=kv.length;have h0:∀u v,X.H₀ d≠some (.frz u v):=λu v e=>by have:=F.base.frzs d u v e;rw[hd]at this;cases this
 have hh:X.A.handled=none:=I.ok.hd ad;generalize C:L.heap.objs.size=it;have I3:Inv X j σ V {L with heap:=L.heap.push {cls:=.type "dict_keyiterator",data:=.fields #[.ref d,.int 0 0,.int vs.length 0,.int ep 0]} }:=F.kept (t':=L.toks) λb o q=>Av _ q;have I4:=inv_frz I3 hd (Av _ ho);have T:upd V d (.frz o (.dK kvs)) it=none:=by
  rw[qr (λe=>?_),<- C]
  .exact F.hok.fresh (Al _)
  .have:=F.hok.fresh (a:=it) (Ce C);rw[e,hd]at this;cases this
 have fp:∀{H':Hp},H' it=none->qi9 X j H' it:=λn=>⟨n,(F.fpOk (H':=upd V d (.frz o (.dK kvs))) (Ce C) T).2⟩;refine codeAny_forLoop_any (λn s'=>∃i σ' H',n=vs.length-i/\i<=vs.length/\Inv X j σ' H' s'/\s'.heap.IsKeyIter it d i vs.length ep/\H' it=none/\Pv i σ' H') ?_ vs.length ⟨0,σ,_,Z,AS _,I4,⟨_,by rw[<- C];exact AW _ Z,Z,Z⟩,T,p0⟩;rintro n B ⟨i,σ5,y,rfl,hi,U,S,n5,W⟩;have Q:=pd i σ5 y W;have ah:B.heap.get? d=some o:=(show ObjOk X.prog X.w y B.heap d (.frz o (.dK kvs)) from U.hok d _ Q).1;have G:B.heap.DictAt (qas X.prog X.w) d vs ep:=⟨o,es,ah,hx,aj,r1,r2,r3⟩;obtain⟨f0,f1,f2,f3,f4,f5⟩:=fp n5;by_cases c:i<vs.length
 .have hk:kvs[i]?=some (kvs[i]'(by lia)):=Ae (by lia);obtain⟨k,u,e1,ek⟩:=kv_key kv hk;refine BH K (wpAny_pyNext_dict_item S G e1 λu h' ae R sb=>?_);have I6:Inv X j σ5 y {B with heap:=h'}:=U.turned (t':=B.toks) (λb o l e=>(sb.2 b l).trans e) f0 f1 f3 f4 f5;refine BH K (letGo_keyiter R ?_);obtain⟨Y,O,af,N⟩:=id R;have ag:=I6.pinned (fp:=[it]) (λb l=>by rw[Aj.mp l];exact fp n5) (λb l=>by rw[Aj.mp l];exact⟨Y,O,λv e=>by rw[N]at e;cases e⟩);refine BH K (thn (hg _ _ σ5 y _ u _ ag (ek ▸ kV_rel ae) (step i _ σ5 y hk W)) λ_ s6 ⟨σ6,H6,t,q6⟩=>?_);refine BH K (thn (l _ s6 σ6 H6 _ t q6) λf s7 M=>?_);have E:∀{σ7:L2.St}{r:Hp},Inv X (j++qja [it] h') σ7 r s7->Pv (i+1) σ7 r->∃m,m<vs.length-i/\∃i σ' H',m=vs.length-i/\i<=vs.length/\Inv X j σ' H' s7/\s7.heap.IsKeyIter it d i vs.length ep/\H' it=none/\Pv i σ' H':=λ{σ7 r} I8 p=>by have pn:=I8.pin (it,Y) (A3 _ (A3 _ (qd6 (Aj.mpr Z) O)));exact⟨vs.length-(i+1),by lia,i+1,σ7,r,Z,by lia,I8.unpinned,⟨Y,pn.1,af,N⟩,pn.2.1,p⟩
  cases f with
  |next=>obtain⟨σ7,r,t,p⟩:=M;exact E t p
  |cont=>obtain⟨σ7,r,t,p⟩:=M;exact E t p
  |brk=>obtain⟨σ7,r,t,p⟩:=M;exact p.elim
  |ret v=>obtain⟨x7,σ7,r,t,r7,p⟩:=M;exact p.elim
 .have ei:i=vs.length:=by lia
  refine BH K (wpAny_pyNext_dict_end hh S G (AR (by lia)) λh' eb=>?_);have I6:Inv X j σ5 y {B with heap:=h'}:=U.turned (t':=B.toks) (λb o l e=>eb b o l e) f0 f1 f3 f4 f5;exact Dx ⟨σ5,_,qxp I6 Q h0,ai σ5 y (by rw[lk,<- ei];exact W)⟩
end
def DkV:Nat->Hp->V->V->Prop
 |0,_,v,u=>v=u/\qbv v=true
 |n+1,H,v,u=>(v=u/\qbv v=true) \/ ∃(p q:Addr)(xs ys:List V),v=.ref p/\u=.ref q/\((H p=some (.lst xs)/\H q=some (.lst ys))\/(H p=some (.tup xs)/\H q=some (.tup ys)))/\xs.length=ys.length/\∀(i:Nat)(x y:V),xs[i]?=some x->ys[i]?=some y->DkV n H x y
section
variable {X:Cx}{pins:List (Addr×Obj)}{σ:L2.St}{H:Hp}{s:Ad}
theorem qlz (I:Inv X pins σ H s){n:Nat}{A:AT}{xs ys:List V}{us a:List Value}(e:Vals xs us)(h:Vals ys a)(p:∀(i:Nat) (x y:V),xs[i]?=some x->ys[i]?=some y->∀u w,RelV x u->RelV y w->AZ A s u w true) :
  ∀j (k:j<us.toArray.size) (f:j<a.toArray.size),AZ A s us.toArray[j] a.toArray[j] true:=by
 intro j k f;have r:=e.length;have o:=h.length;have c:j<xs.length:=by rw[r];simpa using k
 have d:j<ys.length:=by rw[o];simpa using f
 obtain⟨u,b,m⟩:=e.get (i:=j) (x:=xs[j]) (by simp[c]);obtain⟨w,g,l⟩:=h.get (i:=j) (x:=ys[j]) (by simp[d]);have t:us.toArray[j]=u:=by
  have:us[j]?=some us[j]:=by simp
  rw[this]at b;simpa using AA b
 have q:a.toArray[j]=w:=by
  have:a[j]?=some a[j]:=by simp
  rw[this]at g;simpa using AA g
 rw[t,q];exact p j _ _ (by simp[c]) (by simp[d]) _ _ m l
theorem qk7 (I:Inv X pins σ H s):∀{n:Nat}{A:AT}{x y:V}{u w:Value},A.units+n<cLine->DkV n H x y->RelV x u->RelV y w->AZ A s u w true
 |0,A,x,y,u,w,_,h,g,a=>by obtain⟨rfl,f⟩:=h;have:=qox (A:=A) (s:=s) g a f f;rw[qqe f]at this;exact this
 |n+1,A,x,y,u,w,hu,h,g,a=>by
  rcases h with ⟨rfl,f⟩|⟨p,q,xs,ys,rfl,rfl,h,E,B⟩
  .have:=qox (A:=A) (s:=s) g a f f;rw[qqe f]at this;exact this
  .cases g;cases a;have un:A.in1.units=A.units+1:=rfl;have t:=λ(us F:List Value)(c:Vals xs us)(d:Vals ys F)=>qlz (n:=n) (A:=A.in1) I c d λi x y D C u w g a=>qk7 I (n:=n) (by lia) (B i x y D C) g a;by_cases j:p=q
   .subst j;exact AZ.same _
   .refine AZ.of_refs j ?_;rcases h with ⟨o,k⟩|⟨o,k⟩
    .obtain⟨its,c,l,_⟩:=I.list (SqL.of o);obtain⟨b,d,m,_⟩:=I.list (SqL.of k);have v:=c.length;have r:=d.length;have z:=SeqAt.RcAt.lists (A:=A) (e:=λ_=>true) l.isList m.isList (by rw[Ai,Ai];lia) (by lia) (t its b c d);rw[qec]at z;exact z
    .obtain⟨its,c,l,_⟩:=I.tuple (SqT.of o);obtain⟨b,d,m,_⟩:=I.tuple (SqT.of k);have v:=c.length;have r:=d.length;have z:=SeqAt.RcAt.tuples (A:=A) (e:=λ_=>true) (show s.heap.IsTuple p its.toArray from l) (show s.heap.IsTuple q b.toArray from m) (by lia) (t its b c d);rw[qec,Ai,Ai,<- v,<- r,E,beq_self_eq_true,Ex]at z;exact z
def DkD (n:Nat)(H:Hp)(v u:V):Prop:=∃(d e:Addr)(kvs kws:List (Key×V)),v=.ref d/\u=.ref e/\Rd H d (.dK kvs)/\Rd H e (.dK kws)/\kvs.length=kws.length/\∀k x,(k,x)∈kvs->∃y,qbn kws k=some y/\DkV n H x y
theorem qqq (I:Inv X pins σ H s){n:Nat}{A:AT}(l:A.units+n<cLine){c:List (Key×V)}{d:List (Key×Value)}(j:KV c d):∀{kvs:List (Key×V)}{vs:List (Key×Value)},KV kvs vs->(∀k x,(k,x)∈kvs->∃y,qbn c k=some y/\DkV n H x y)->PySem.W.KeqHits A s d vs true:=by
 intro kvs vs r
 induction r with
 |nil=>intro _;exact .nil
 | @cons a b as bs h _ ih =>intro e;obtain⟨t,i⟩:=h;obtain⟨y,q,p⟩:=e a.1 a.2 Am;obtain⟨w,f,g⟩:=RelO.some_of (v:=y) (o:=valueAt d a.1) (by rw[<- q];exact j.val a.1);rw[t]at f;have z:=PySem.W.KeqHits.hit (A:=A) (s:=s) (v:=b.2) f (qk7 I l p i g) (ih λk x m=>e k x (Ay _ m));exact z
end
section
variable {X:Cx}
def rNeDk:R2:=λx y H Q=>∃n,n<=20/\((DkV n H x y)\/DkD n H x y)/\Q (.bl false) H
def rEqDk:R2:=λx y H Q=>∃n,n<=20/\((DkV n H x y)\/DkD n H x y)/\Q (.bl true) H
theorem qtz (hu:X.A.units+64<cLine):OpR X (compareOp .NotEq) rNeDk:=by
 intro g s σ H x y v u Q I t z h;obtain⟨n,hn,h,q⟩:=h;have un:X.A.in1.units=X.A.units+1:=rfl;have k:∀{s'},s'=s->EP X g σ Q (.bool false) s':=λe=>by rw[e];exact⟨.bl false,H,I,Z,q⟩
 rcases h with h|⟨d,e,kvs,kws,rfl,rfl,m,j,E,B⟩
 .have l:x=y/\qbv x=true->wpAny (model X.prog X.w) X.A (compareOp .NotEq v u) (EP X g σ Q) X.xe s:=λ⟨e,f⟩=>by
   subst e
   refine qlh g s σ H x x v u Q I t z ⟨?_,by simpa using q⟩
   cases x <;>first|rfl|cases f
  cases n with
  |zero=>exact l h
  |succ n =>
   rcases h with h|⟨p,T,xs,ys,rfl,rfl,h,E,B⟩
   .exact l h
   .cases t;cases z;have L:=λ(us M:List Value)(b:Vals xs us)(c:Vals ys M)=>qlz (n:=n) (A:=X.A.in1) I b c λi x y U P u w O K=>qk7 I (n:=n) (by lia) (B i x y U P) O K;rcases h with ⟨m,j⟩|⟨m,j⟩
    .obtain⟨its,b,C,_⟩:=I.list (SqL.of m);obtain⟨a,c,D,_⟩:=I.list (SqL.of j);have N:=b.length;have G:=c.length;refine Ei.lists (e:=λ_=>true) C.isList D.isList (by rw[Ai,Ai];lia) (by lia) (L its a b c) _ _ _ _ ?_;rw[qec];exact k rfl
    .obtain⟨its,b,C,_⟩:=I.tuple (SqT.of m);obtain⟨a,c,D,_⟩:=I.tuple (SqT.of j);have N:=b.length;have G:=c.length;refine Ei.tuples (e:=λ_=>true) (show s.heap.IsTuple p its.toArray from C) (show s.heap.IsTuple T a.toArray from D) (by lia) (L its a b c) _ _ _ _ ?_;rw[qec,Ai,Ai,<- N,<- G,E,beq_self_eq_true,Ex];exact k rfl
 .cases t;cases z;obtain⟨z1,J,vs,r,S⟩:=qes I.hok m;obtain⟨z2,F,M,o,R⟩:=qes I.hok j;refine PySem.W.keq_ne J F S R (by lia) (λ_=>qqq I (A:=X.A.in1) (by lia) o r B) ?_;rw[<- r.length,<- o.length,E,beq_self_eq_true];exact k rfl
theorem qo8 (hu:X.A.units+64<cLine):OpR X (compareOp .Eq) rEqDk:=by
 intro g s σ H x y v u Q I t z h;obtain⟨n,hn,h,q⟩:=h;have un:X.A.in1.units=X.A.units+1:=rfl;have k:∀{s'},s'=s->EP X g σ Q (.bool true) s':=λe=>by rw[e];exact⟨.bl true,H,I,Z,q⟩
 rcases h with h|⟨d,e,kvs,kws,rfl,rfl,m,j,E,B⟩
 .have l:x=y/\qbv x=true->wpAny (model X.prog X.w) X.A (compareOp .Eq v u) (EP X g σ Q) X.xe s:=λ⟨e,f⟩=>by
   subst e
   refine qbt g s σ H x x v u Q I t z ⟨?_,by simpa using q⟩
   cases x <;>first|rfl|cases f
  cases n with
  |zero=>exact l h
  |succ n =>
   rcases h with h|⟨p,T,xs,ys,rfl,rfl,h,E,B⟩
   .exact l h
   .cases t;cases z;have L:=λ(us M:List Value)(b:Vals xs us)(c:Vals ys M)=>qlz (n:=n) (A:=X.A.in1) I b c λi x y U P u w O K=>qk7 I (n:=n) (by lia) (B i x y U P) O K;rcases h with ⟨m,j⟩|⟨m,j⟩
    .obtain⟨its,b,C,_⟩:=I.list (SqL.of m);obtain⟨a,c,D,_⟩:=I.list (SqL.of j);have N:=b.length;have G:=c.length;refine SeqAt.RcAt.lists (e:=λ_=>true) C.isList D.isList (by rw[Ai,Ai];lia) (by lia) (L its a b c) _ _ _ _ ?_;rw[qec];exact k rfl
    .obtain⟨its,b,C,_⟩:=I.tuple (SqT.of m);obtain⟨a,c,D,_⟩:=I.tuple (SqT.of j);have N:=b.length;have G:=c.length;refine SeqAt.RcAt.tuples (e:=λ_=>true) (show s.heap.IsTuple p its.toArray from C) (show s.heap.IsTuple T a.toArray from D) (by lia) (L its a b c) _ _ _ _ ?_;rw[qec,Ai,Ai,<- N,<- G,E,beq_self_eq_true,Ex];exact k rfl
 .cases t;cases z;obtain⟨z1,J,vs,r,S⟩:=qes I.hok m;obtain⟨z2,F,M,o,R⟩:=qes I.hok j;refine PySem.W.keq_eq J F S R (by lia) (λ_=>qqq I (A:=X.A.in1) (by lia) o r B) ?_;rw[<- r.length,<- o.length,E,beq_self_eq_true];exact k rfl
end
def qxs:V->List V->Hp->VK->Prop:=λx vs H Q=>∃(l:Addr)(xs:List V)(y:V)(k:Nat),x=.ref l/\vs=[.int (k:Int),y]/\H l=some (.lst xs)/\k<=xs.length/\xs.length<1000/\Q .non (upd H l (.lst (xs.take k++y::xs.drop k)))
theorem qsk {X:Cx}:MtM X "list.insert" qxs:=by
 intro pins s σ H x vs v us Q I m rv h;obtain⟨l,xs,y,k,rfl,rfl,g,hk,hz,q⟩:=h;cases m;obtain⟨u0,u,rfl,i,j⟩:=rv.two;obtain⟨o,rfl⟩:=i;obtain⟨z,its,n,r,hl,e⟩:=I.lstM g;have hlen:=r.length;have c:its.toArray.size<=A5:=by rw[Ai,Bx];lia
 have d:Bl.List.listFitsIndex (k:Int)=true:=by
  unfold Bl.List.listFitsIndex;rw[By,decide_eq_true_eq,decide_eq_true_eq];have:(k:Int)<1001:=by lia
  exact⟨Bp Ud (D4 k),Bf this Ud⟩
 have a:¬(!Builtin.List.listFitsIndex (k:Int))=true:=λz=>by rw[d]at z;cases z
 have b:¬(k:Int)<0:=by lia
 have f:min ((k:Int).toNat) its.toArray.size=k:=by rw[B3,Ai];exact Nat.min_eq_left (by lia)
 generalize (k:Int)=kk at a b f |-;have M:=AutoListH.list_insert_list_int_val_1 l its.toArray n kk o u a c;refine DM F.slot_list_insert ⟨_,e,Z⟩ F.entry_list_insert (F.args_list_insert_3 _ _ _) M ⟨e,?_⟩;refine⟨.non,_,I.lset (its':=its.take k++u::its.drop k) g e ?_ ((r.take k).append (.cons j (r.drop k))) ?_,Z,q⟩
 .simp only[if_neg b,f];simp;exact C6 (by rw[BL];lia)
 .rw[Af,Bj,AD,BL,Bx];lia
end Add
namespace Lam
open PySem PySem.Spec PyProof.Rows L2 Add PySem.W PySem.Calls
section
open PySem.SeqAt
open PySem.AutoSeq1 (wpAny_loadPart')
open PySem.MeetsSeq PySem.MeetsSeq2 PySem.MeetsSeq3
open HT
theorem qsl (l b:Addr)(n C:Nat)(D u:Option Addr)(F v:Array (Option Value))(x y:Int×Str)(m f o c:Tok) :
  Meets (Bl.«tuple.__lt__» ⟨[.ref l,.ref b],[]⟩)
   (λ_ R s=>s.heap.get? l=some {cls:=.type "tuple",dict:=D,data:=.seq #[.int x.1 m,.str x.2 f] n,slots:=F}/\s.heap.get? b=some {cls:=.type "tuple",dict:=u,data:=.seq #[.int y.1 o,.str y.2 c] C,slots:=v} /\
    R (.ok (.ret (.bool (ltK x y)))) s) :=
 .of_wp λprog w A R s h=>by
  obtain⟨p,g,d,tk,i⟩:=s;obtain⟨I,B,h⟩:=h;have f2:=AutoSeq1.sub_tuple_tuple
  wp_walk using wpAny_loadPart' I,wpAny_loadPart' B,wpAny_forIn_list _ (λqcd b r=>b.1=none/\r=⟨p,g,d,tk,i⟩/\(qcd=[(Dm x.1 m,Dm y.1 o),(D7 x.2 f,D7 y.2 c)]\/(x.1=y.1/\qcd=[(D7 x.2 f,D7 y.2 c)])\/(x.1=y.1/\x.2=y.2/\qcd=[]))) _
  case turn =>
   rintro⟨y',x'⟩ qcd b r ⟨k,rfl,a|⟨q,a⟩|⟨_,_,a⟩⟩
   .injection a with a h2;injection a with h3 h4;subst h2 h3 h4;refine An (AZ.int_int x.1 m y.1 o prog w _ _ ?_);cases e:x.1 == y.1 with
    |true =>
     wp_walk
     exact⟨Z,Z,.inr (.inl ⟨beq_iff_eq.mp e,Z⟩)⟩
    |false =>
     have H:x.1≠y.1:=λz=>by rw[z,beq_self_eq_true]at e;cases e
     have hz:ltK x y=decide (x.1<y.1):=by unfold ltK;rw[decide_eq_false H];simp
     rw[hz]at h;have j:∀(E:Value->Ad->Prop)(Q:Value->Ad->Prop),Q (.bool (decide (x.1<y.1))) ⟨p,g,d,tk,i⟩->wpAny (model prog w) A.in1 (richCompare .Lt (.int x.1 m) (.int y.1 o)) Q E ⟨p,g,d,tk,i⟩:=λE Q t=>(PyProof.Rows.lt_int t:wpAny (model prog w) A.in1 (compareOp .Lt (.int x.1 m) (.int y.1 o)) Q E _)
     wp_walk using j
     exact⟨_,Z,by simpa using h⟩
   .injection a with a h2;injection a with h3 h4;subst h2 h3 h4;refine An (AZ.str_str x.2 f y.2 c prog w _ _ ?_);cases e:x.2 == y.2 with
    |true =>
     wp_walk
     exact⟨Z,Z,.inr (.inr ⟨q,beq_iff_eq.mp e,Z⟩)⟩
    |false =>
     have hz:ltK x y=decide (x.2.cps.toList<y.2.cps.toList):=by unfold ltK;rw[decide_eq_false (show ¬x.1<y.1 by lia),decide_eq_true q];rfl
     rw[hz]at h;have j:∀(E:Value->Ad->Prop)(Q:Value->Ad->Prop),Q (.bool (x.2.cps.toList<y.2.cps.toList)) ⟨p,g,d,tk,i⟩->wpAny (model prog w) A.in1 (richCompare .Lt (.str x.2 f) (.str y.2 c)) Q E ⟨p,g,d,tk,i⟩:=λE Q t=>(lt_str t:wpAny (model prog w) A.in1 (compareOp .Lt (.str x.2 f) (.str y.2 c)) Q E _)
     wp_walk using j
     exact⟨_,Z,by simpa using h⟩
   .cases a
  case fin =>
   rintro⟨b1,b2⟩ r ⟨k,rfl,a|⟨q,a⟩|⟨q,G,_⟩⟩
   .cases a
   .cases a
   .simp only at k;subst k;have hz:ltK x y=false:=(ltK_no x y).mpr (by
     rintro (z|⟨_,z⟩)
     .lia
     .rw[G]at z;exact List.lt_irrefl _ z)
    rw[hz]at h
    wp_walk
    exact⟨_,Z,by simpa [Bl.Tuple.tupleCompareSizes] using h⟩
  case h =>exact⟨Z,Z,.inl Z⟩
end
section
variable {X:Cx}
def rLtK (K:Ag):R2:=λx y H Q=>∃(a b:Addr)(u v:Int×Str),x=.ref a/\y=.ref b/\H a=some (.tup (encK u))/\H b=some (.tup (encK v))/\Q (.bl (ltK u v)) H
theorem op_ltK (hu:X.A.units+64<cLine):OpR X (compareOp .Lt) (rLtK X.K):=by
 intro g s σ H x y v u Q I r B h;obtain⟨a,b,p,f,rfl,rfl,E,w,q⟩:=h;cases r;cases B;obtain⟨ts,o,L,_⟩:=I.tuple (SqT.of E);obtain⟨v1,v2,rfl,⟨t,rfl⟩,⟨t',rfl⟩⟩:=Vals.two o;obtain⟨⟨cls,D,data,G⟩,m,j,n,l⟩:=(show s.heap.IsTuple a _ from L);obtain⟨ts2,z,M,_⟩:=I.tuple (SqT.of w);obtain⟨v3,v4,rfl,⟨J,rfl⟩,⟨N,rfl⟩⟩:=Vals.two z;obtain⟨⟨cls2,i,data2,k⟩,c,d,C,e⟩:=(show s.heap.IsTuple b _ from M);simp only at j l d e;subst j l d e;exact richCompare_meets_room (op:=.Lt) ⟨_,m,Z⟩ ⟨_,c,Z⟩ PySem.F.slot_tuple_lt PySem.F.entry_tuple_lt (PySem.F.args_tuple_lt_2 _ _) (qsl a b n C D i G k p f t t' J N)
  ⟨m,c,show Ej (ltK p f)≠Value.notImplemented/\EP X g σ Q (.bool (ltK p f)) s from ⟨(λx=>nomatch x),.bl _,H,I,Z,q⟩⟩ (by lia)
end
end Lam
namespace Add
open PySem PySem.Spec PyProof.Rows L2
section
variable {X:Cx}
end
end Add
namespace Cal
noncomputable def lb (y:Int):Int:=(3*y+14) / 17
noncomputable def fw (y:Int):Int:=52*y+(3*y+14) / 17
noncomputable def yo (w:Int):Int:=(17*w+2) / 887
noncomputable def wk (y:Int):Int:=if 3*y % 17<3 then 53 else 52
theorem qih (y:Int):fw (y+1)=fw y+wk y:=by unfold fw wk;rw[show 3*(y+1)+14=3*y+17 by lia,show 52*(y+1)=52*y+52 by lia];generalize 3*y=z;split <;>lia
theorem qog (y:Int):52<=wk y/\wk y<=53:=by unfold wk;split <;>lia
theorem lies (w:Int):fw (yo w)<=w/\w<fw (yo w+1):=by unfold fw yo;lia
theorem qt0 {w y:Int}(h1:fw y<=w)(h2:w<fw (y+1)):yo w=y:=by unfold fw at *;unfold yo;lia
theorem fw_nn {y:Int}(h:0<=y):0<=fw y:=by unfold fw;lia
theorem lb_up (n:Int):(3*(n+1)+14) / 17=(3*n+14) / 17+(wk n-52):=by have:=qih n;unfold fw at this;lia
structure Ok (y w d:Int):Prop where
 y0:0<=y
 w1:1<=w
 w2:w<=wk y
 d1:1<=d
 d2:d<=7
def dn (y w d:Int):Int:=7*(fw y+w-1)+d-1
noncomputable def cell (ns:List Int)(k:Int):Int:=ns.getD k.toNat 0
end Cal
namespace K57
open PySem L2 Add
def nmc {α β:Type}{t:β}{f:α->β}{P:α->Prop}{v:α}(e:t=f v)(h:P v):∃v,t=f v/\P v:=⟨v,e,h⟩
def iic {α β γ δ:Type}{x:γ}{y:δ}{f:α->γ}{g:β->δ}{P:α->β->Prop}{i:α}{j:β}(e:x=f i)(a:y=g j)(h:P i j):∃i j,x=f i/\y=g j/\P i j:=⟨i,j,e,a,h⟩
def icc {α β γ δ:Type}{x:γ}{y:δ}{f:α->γ}{g:β->δ}{C P:α->β->Prop}{i:α}{j:β}(e:x=f i)(a:y=g j)(c:C i j)(h:P i j):∃i j,x=f i/\y=g j/\C i j/\P i j:=⟨i,j,e,a,c,h⟩
def lxc {K:Ag}{H:Hp}{p:Addr}{xs:List V}{i:Int}{v:V}{P:V->Prop}(s:SqL K H p xs)(e:atI xs i=some v)(h:P v):∃p' xs' i' v',V.ref p=.ref p'/\V.int i=.int i'/\SqL K H p' xs'/\atI xs' i'=some v'/\P v':=⟨p,xs,i,v,Z,Z,s,e,h⟩
def txc {K:Ag}{H:Hp}{p:Addr}{xs:List V}{i:Int}{v:V}{P:V->Prop}(s:SqT K H p xs)(e:atI xs i=some v)(h:P v):∃p' xs' i' v',V.ref p=.ref p'/\V.int i=.int i'/\SqT K H p' xs'/\atI xs' i'=some v'/\P v':=⟨p,xs,i,v,Z,Z,s,e,h⟩
def flc {H:Hp}{a C b:Addr}{fs:List (Str×V)}{v:V}{A B:Addr->Prop}{L:List (Str×V)->V->Prop}{P:V->Prop}(h:H a=some (.ins C b fs))(c:A C)(n:B C)(l:L fs v)(q:P v):∃a' C' dx' fs' v',V.ref a=.ref a'/\H a'=some (.ins C' dx' fs')/\A C'/\B C'/\L fs' v'/\P v':=⟨a,C,b,fs,v,Z,h,c,n,l,q⟩
def lxo {K:Ag}{H:Hp}{p:Addr}{xs:List V}{i:Int}{v:V}{P:V->Prop}(s:H p=some (.lst xs))(e:atI xs i=some v)(h:P v):∃p' xs' i' v',V.ref p=.ref p'/\V.int i=.int i'/\SqL K H p' xs'/\atI xs' i'=some v'/\P v':=lxc (SqL.of s) e h
def txo {K:Ag}{H:Hp}{p:Addr}{xs:List V}{i:Int}{v:V}{P:V->Prop}(s:H p=some (.tup xs))(e:atI xs i=some v)(h:P v):∃p' xs' i' v',V.ref p=.ref p'/\V.int i=.int i'/\SqT K H p' xs'/\atI xs' i'=some v'/\P v':=txc (SqT.of s) e h
noncomputable def top (i:Nat):Stmt:=PySem.Challenge.pw_termcourt_k57_past_days_stay.main.body.getD i (.Pass ⟨0,0,0,0⟩)
abbrev qez:Stmt:=qak (top 3) 0
abbrev qo9:Stmt:=top 6
abbrev ql0:Stmt:=top 8
abbrev qfp:Stmt:=top 10
abbrev qsm:Stmt:=top 11
abbrev qpa:Stmt:=top 14
abbrev qjk:Stmt:=top 13
abbrev ql1:Stmt:=top 12
abbrev qdd:Stmt:=qak (top 3) 1
abbrev qe0:Stmt:=qak (top 4) 0
abbrev qee:Stmt:=qak (top 3) 4
abbrev qgf:Stmt:=top 40
abbrev qcu:Stmt:=qak (top 52) 3
abbrev qde:Stmt:=qak (top 52) 5
abbrev qhw:Stmt:=top 41
abbrev qgg:Stmt:=qak (top 52) 4
abbrev qpb:Stmt:=top 42
abbrev ql2:Stmt:=top 44
abbrev qpc:Stmt:=top 43
abbrev qhx:Stmt:=top 53
abbrev qef:Stmt:=qak (top 52) 2
abbrev qgh:Stmt:=qak (top 64) 1
abbrev qfq:Stmt:=qak (top 64) 3
abbrev qjl:Stmt:=qak (top 64) 4
abbrev qdp:Stmt:=qak (top 5) 2
abbrev qcv:Stmt:=qak (top 3) 3
abbrev qcn:Stmt:=qak (top 5) 1
abbrev ql3:Stmt:=top 16
abbrev qeg:Stmt:=qak (top 64) 5
abbrev qjm:Stmt:=top 18
abbrev ql4:Stmt:=top 17
abbrev qdl:Stmt:=top 22
abbrev qfr:Stmt:=qak (top 38) 2
abbrev qgi:Stmt:=qak (top 38) 3
abbrev qhy:Stmt:=qak (top 20) 4
abbrev qhz:Stmt:=top 25
abbrev qdf:Stmt:=qak (top 36) 2
abbrev qg6:Stmt:=qak (top 36) 1
abbrev qfs:Stmt:=qak (top 20) 8
abbrev ql5:Stmt:=qak (top 20) 13
abbrev qh0:Stmt:=qak (top 20) 9
abbrev qgj:Stmt:=qak (top 20) 3
abbrev qft:Stmt:=qak (top 20) 2
abbrev qeh:Stmt:=qak (top 20) 7
abbrev qh1:Stmt:=qak (top 20) 1
abbrev qe1:Stmt:=qak (top 20) 10
abbrev qfu:Stmt:=qak (top 20) 11
abbrev ql6:Stmt:=qak (top 20) 12
abbrev qjn:Stmt:=qak (top 20) 6
abbrev ql7:Stmt:=qak (top 20) 5
abbrev qc2:Stmt:=qak (top 20) 0
abbrev qxt:Stmt:=top 24
abbrev qe2:Stmt:=qak (top 20) 15
abbrev qgk:Stmt:=qak (top 20) 14
abbrev qii:Stmt:=top 23
abbrev ql8:Stmt:=top 34
abbrev qe3:Stmt:=top 33
abbrev qdg:Stmt:=top 54
abbrev qh2:Stmt:=top 55
abbrev qh3:Stmt:=top 57
abbrev qgl:Stmt:=top 56
abbrev qjo:Stmt:=top 59
abbrev qe4:Stmt:=top 58
abbrev qfv:Stmt:=top 65
abbrev qsn:Stmt:=top 67
abbrev qgm:Stmt:=top 66
abbrev qh4:Stmt:=top 69
abbrev qjp:Stmt:=top 70
abbrev qjq:Stmt:=top 71
abbrev qck:Stmt:=qak (top 36) 0
abbrev qij:Stmt:=top 72
abbrev ql9:Stmt:=top 73
abbrev qik:Stmt:=top 74
abbrev qil:Stmt:=top 75
abbrev qh5:Stmt:=top 76
abbrev qjr:Stmt:=top 77
abbrev qjs:Stmt:=top 78
abbrev qjt:Stmt:=top 79
abbrev qe5:Stmt:=top 80
abbrev qju:Stmt:=qak (top 38) 0
abbrev qc3:Stmt:=qak (top 52) 0
abbrev qbg:Stmt:=qak (top 64) 0
abbrev qso:Stmt:=top 81
structure DefAt (K:Ag)(mg:Str->Option Value)(x:Str)(st:Stmt)(ps:List Str)(f:Addr)(fd:Au):Prop where
 fn:Fun K x x st f fd
 mgx:mg x=some (.ref f)
 bd:Binds K fd ps []
abbrev Pd (K:Ag)(x:Str)(st:Stmt)(f:Addr):Prop:=∃(oc:Value)(od:Option Addr)(kV doc pm:Value)(an:Option Addr)(cdv ct:Value)(osl:Array (Option Value)),AM K A6 x=some (some (.ref f))/\K.lookup f=some ⟨oc,od,.func (Bk x x (qa9 st) (qaw st) (qaa st) .none kV doc pm an cdv ct),osl⟩/\BE K cdv x=true/\Bs K (.ref f)=true
abbrev Pm (K:Ag)(C:Addr)(x q:Str)(st:Stmt)(f:Addr):Prop:=∃(oc:Value)(od:Option Addr)(kV doc pm:Value)(an:Option Addr)(cdv ct:Value)(osl:Array (Option Value)),Bi K (.ref C) x=some (some (.ref f))/\C9 K (.ref f)=some (.type "function")/\K.lookup f=some ⟨oc,od,.func (Bk x q (qa9 st) (qaw st) (qaa st) .none kV doc pm an cdv ct),osl⟩/\BE K cdv q=true/\Bs K (.ref f)=true
def pd_of {K:Ag}{x:Str}{st:Stmt}{f:Addr}{j:Value}{i:Option Addr}{kV e g:Value}{h:Option Addr}{b ct:Value}{d:Array (Option Value)}(a:AM K A6 x=some (some (.ref f)))(l:K.lookup f=some ⟨j,i,.func (Bk x x (qa9 st) (qaw st) (qaa st) .none kV e g h b ct),d⟩)(c:BE K b x=true)(k:Bs K (.ref f)=true):Pd K x st f:=⟨j,i,kV,e,g,h,b,ct,d,a,l,c,k⟩
def pm_of {K:Ag}{C:Addr}{x q:Str}{st:Stmt}{f:Addr}{j:Value}{i:Option Addr}{kV e g:Value}{h:Option Addr}{b ct:Value}{d:Array (Option Value)}(a:Bi K (.ref C) x=some (some (.ref f)))(t:C9 K (.ref f)=some (.type "function"))(l:K.lookup f=some ⟨j,i,.func (Bk x q (qa9 st) (qaw st) (qaa st) .none kV e g h b ct),d⟩)(c:BE K b q=true)(k:Bs K (.ref f)=true):Pm K C x q st f:=⟨j,i,kV,e,g,h,b,ct,d,a,t,l,c,k⟩
def qa1 {K:Ag}{h:Heap}{mg:Str->Option Value}{x:Str}{st:Stmt}{f:Addr}(X:K.In h)(G:h.Ns A6 mg)(p:Pd K x st f){ps:List Str}(b:∀(kV e g:Value) (i:Option Addr) (d ct:Value) (us:List Value),us.length=ps.length->bindArgs (Bk x x (qa9 st) (qaw st) (qaa st) .none kV e g i d ct) ⟨us,[]⟩=pure (ps.zip us)):∃fd,DefAt K mg x st ps f fd:=by obtain⟨oc,od,kV,e,g,i,d,ct,osl,a,l,c,k⟩:=p;have F:=qoz (st:=st) l c k;exact⟨_,F,Bg X G a,F.binds b⟩
def qbc {K:Ag}{C:Addr}{x q:Str}{st:Stmt}{f:Addr}(p:Pm K C x q st f){ps:List Str}(b:∀(kV e g:Value) (h:Option Addr) (d ct:Value) (us:List Value),us.length=ps.length->bindArgs (Bk x q (qa9 st) (qaw st) (qaa st) .none kV e g h d ct) ⟨us,[]⟩=pure (ps.zip us)):∃fd,MethAt K x q st ps f fd:=by obtain⟨oc,od,kV,e,g,h,d,ct,osl,a,t,l,c,k⟩:=p;have F:=qoz (st:=st) l c k;exact⟨_,F,F.binds b,t⟩
def qcw {p:List Value->Prop}(h:∀x0,p [x0]):∀us,us.length=1->p us:=λus a=>by obtain⟨x,rfl⟩:=List.length_eq_one_iff.mp a;exact h x
def qqr {p:List Value->Prop}{n:Nat}(h:∀x t,t.length=n->p (x::t)):∀us,us.length=n+1->p us:=λus a=>by obtain⟨x,t,rfl⟩:=List.exists_cons_of_length_eq_add_one a;exact h x t (Nat.succ.inj a)
def qc4 {p:List Value->Prop}(h:∀x0 x1,p [x0,x1]):∀us,us.length=2->p us:=qqr λx=>qcw (h x)
def qhg {p:List Value->Prop}(h:∀x0 x1 x2,p [x0,x1,x2]):∀us,us.length=3->p us:=qqr λx=>qc4 (h x)
def qqs {p:List Value->Prop}(h:∀x0 x1 x2 x3,p [x0,x1,x2,x3]):∀us,us.length=4->p us:=qqr λx=>qhg (h x)
def arg5 {p:List Value->Prop}(h:∀x0 x1 x2 x3 x4,p [x0,x1,x2,x3,x4]):∀us,us.length=5->p us:=qqr λx=>qqs (h x)
def arg6 {p:List Value->Prop}(h:∀x0 x1 x2 x3 x4 x5,p [x0,x1,x2,x3,x4,x5]):∀us,us.length=6->p us:=qqr λx=>arg5 (h x)
def arg7 {p:List Value->Prop}(h:∀x0 x1 x2 x3 x4 x5 x6,p [x0,x1,x2,x3,x4,x5,x6]):∀us,us.length=7->p us:=qqr λx=>arg6 (h x)
def arg8 {p:List Value->Prop}(h:∀x0 x1 x2 x3 x4 x5 x6 x7,p [x0,x1,x2,x3,x4,x5,x6,x7]):∀us,us.length=8->p us:=qqr λx=>arg7 (h x)
def arg9 {p:List Value->Prop}(h:∀x0 x1 x2 x3 x4 x5 x6 x7 x8,p [x0,x1,x2,x3,x4,x5,x6,x7,x8]):∀us,us.length=9->p us:=qqr λx=>arg8 (h x)
set_option genInjectivity false
set_option genSizeOf false
set_option genSizeOfSpec false
structure Adr where
 bA:Addr
 xD:Au
 mM:Addr
 nC:Au
 r8:Addr
 nO:Au
 nA:Addr
 tJ:Au
 tL:Addr
 nG:Au
 rW:Addr
 pP:Au
 mB:Addr
 rM:Au
 rE:Addr
 pU:Au
 gI:Addr
 dR:Au
 bI:Addr
 m4:Au
 gM:Addr
 dG:Au
 tO:Addr
 r9:Au
 lH:Addr
 pN:Au
 lW:Addr
 tG:Au
 rJ:Addr
 tK:Au
 hM:Addr
 nY:Au
 sZ:Addr
 sP:Au
 mO:Addr
 tE:Au
 sY:Addr
 pV:Au
 sT:Addr
 xQ:Au
 fP:Addr
 rT:Au
 m5:Addr
 pG:Au
 lU:Addr
 nZ:Au
 lV:Addr
 mC:Au
 bJ:Addr
 fN:Au
 gP:Addr
 bN:Au
 bD:Addr
 fY:Au
 nE:Addr
 nL:Au
 lK:Addr
 mL:Au
 rG:Addr
 sM:Au
 xG:Addr
 rH:Au
 nN:Addr
 bG:Au
 hU:Addr
 sL:Au
 fM:Addr
 xP:Au
 lQ:Addr
 n9:Au
 rR:Addr
 nV:Au
 fZ:Addr
 xL:Au
 lZ:Addr
 mS:Au
 hV:Addr
 tH:Au
 hJ:Addr
 mK:Au
 m8:Addr
 rS:Au
 gX:Addr
 bE:Au
 gU:Addr
 bM:Au
 lA:Addr
 nJ:Au
 fL:Addr
 mI:Au
 m6:Addr
 nT:Au
 fS:Addr
 pC:Au
 lN:Addr
 sV:Au
 fO:Addr
 sS:Au
 fH:Addr
 tU:Au
 m9:Addr
 mV:Au
 pX:Addr
 nH:Au
 l7:Addr
 mT:Au
 lC:Addr
 rZ:Au
 rL:Addr
 nK:Au
 tP:Addr
 tI:Au
 xI:Addr
 xS:Au
 xK:Addr
 rP:Au
 rA:Addr
 xN:Au
 mH:Addr
 pM:Au
 mN:Addr
 nX:Au
 mY:Addr
 nI:Au
 mU:Addr
 xO:Au
 mW:Addr
 sI:Au
 nR:Addr
 mP:Au
 tY:Addr
 nD:Au
 xF:Addr
 nQ:Au
 mR:Addr
 mD:Au
 pO:Addr
 pQ:Au
 lJ:Addr
 rC:Au
 sQ:Addr
 pZ:Au
 xA:Addr
 pH:Au
 nU:Addr
 pD:Au
 tZ:Addr
 pI:Au
 sU:Addr
 mJ:Au
 pW:Addr
 xH:Au
 rD:Addr
 tN:Au
 rY:Addr
 rQ:Au
 tW:Addr
 tD:Au
 lR:Addr
 mZ:Au
 fX:Addr
 nF:Au
 lS:Addr
 fQ:Au
 tX:Addr
 xB:Au
 kL:Addr
 kN:Addr
 kM:Addr
 kH:Addr
 kB:Addr
 k8:Addr
 kG:Addr
 kQ:Addr
 lB:Addr
structure Txt (K:Ag)(mg:Str->Option Value)(a:Adr):Prop where
 dC:MethAt K "__init__" "Counting.__init__" qez ["self","table"] a.bA a.xD
 bS:DefAt K mg "kind_of" qo9 ["unit","table"] a.mM a.nC
 kT:DefAt K mg "is_whole" ql0 ["thing"] a.r8 a.nO
 gH:DefAt K mg "is_stretch_of" qfp ["first","last","most"] a.nA a.tJ
 gC:DefAt K mg "place" qsm ["stretches","day"] a.tL a.nG
 fG:DefAt K mg "joined" qpa ["laid"] a.rW a.pP
 dZ:DefAt K mg "laid_over" qjk ["laid","first","last","word"] a.mB a.rM
 dY:DefAt K mg "overlay" ql1 ["rows"] a.rE a.pU
 lP:MethAt K "days_for" "Counting.days_for" qdd ["self","units"] a.gI a.dR
 sG:MethAt K "days_for" "Weeks.days_for" qe0 ["self","units"] a.bI a.m4
 lI:MethAt K "reach" "Counting.reach" qee ["self","first","many"] a.gM a.dG
 gG:DefAt K mg "long_before" qgf ["year"] a.tO a.r9
 bL:MethAt K "before_year" "Pattern.before_year" qcu ["self","year"] a.lH a.pN
 mF:MethAt K "year_with" "Pattern.year_with" qde ["self","many"] a.lW a.tG
 gK:DefAt K mg "first_week" qhw ["year"] a.rJ a.tK
 fJ:MethAt K "nth" "Pattern.nth" qgg ["self","many"] a.hM a.nY
 gR:DefAt K mg "year_of" qpb ["week"] a.sZ a.sP
 dJ:DefAt K mg "weekday" ql2 ["day"] a.mO a.tE
 bW:DefAt K mg "date_of" qpc ["day"] a.sY a.pV
 bX:DefAt K mg "day_of_year" qhx ["day"] a.sT a.xQ
 bY:MethAt K "before" "Pattern.before" qef ["self","day"] a.fP a.rT
 fK:MethAt K "shift" "Table.shift" qgh ["self","row","end"] a.m5 a.pG
 gJ:MethAt K "before" "Table.before" qfq ["self","day"] a.lU a.nZ
 hZ:MethAt K "nth" "Table.nth" qjl ["self","many"] a.lV a.mC
 xM:MethAt K "reach" "CourtDays.reach" qdp ["self","first","many"] a.bJ a.fN
 lL:MethAt K "counted_in" "Counting.counted_in" qcv ["self","first","last"] a.gP a.bN
 mE:MethAt K "counted_in" "CourtDays.counted_in" qcn ["self","first","last"] a.bD a.fY
 dH:DefAt K mg "full_day" ql3 ["kind","start","units","pauses"] a.nE a.nL
 fT:MethAt K "next_open" "Table.next_open" qeg ["self","day"] a.lK a.mL
 fC:DefAt K mg "first_due" qjm ["table","day","pauses"] a.rG a.sM
 kX:DefAt K mg "last_day" ql4 ["kind","start","units","pauses"] a.xG a.rH
 dI:DefAt K mg "in_order" qdl ["acts"] a.nN a.bG
 pA:MethAt K "hanging" "Book.hanging" qfr ["self"] a.hU a.sL
 rF:MethAt K "rule_of" "Book.rule_of" qgi ["self","name"] a.fM a.xP
 rV:MethAt K "is_over" "Run.is_over" qhy ["self"] a.lQ a.n9
 bT:DefAt K mg "is_running" qhz ["runs"] a.rR a.nV
 tT:MethAt K "role_in_still" "Rule.role_in_still" qdf ["self","kind"] a.fZ a.xL
 xU:MethAt K "role" "Rule.role" qg6 ["self","kind"] a.lZ a.mS
 lD:MethAt K "is_halted" "Run.is_halted" qfs ["self"] a.hV a.tH
 l9:MethAt K "go_on" "Run.go_on" ql5 ["self","day"] a.hJ a.mK
 sK:MethAt K "finish" "Run.finish" qh0 ["self","day"] a.m8 a.rS
 gE:MethAt K "lasts_to" "Run.lasts_to" qgj ["self"] a.gX a.bE
 gA:MethAt K "starts_on" "Run.starts_on" qft ["self"] a.gU a.bM
 tR:MethAt K "is_under_way" "Run.is_under_way" qeh ["self","day"] a.lA a.nJ
 lE:MethAt K "set_out" "Run.set_out" qh1 ["self","day","base"] a.fL a.mI
 tS:MethAt K "begin_anew" "Run.begin_anew" qe1 ["self","day"] a.m6 a.nT
 t9:MethAt K "lengthen" "Run.lengthen" qfu ["self","kind"] a.fS a.pC
 rO:MethAt K "halt" "Run.halt" ql6 ["self","day"] a.lN a.sV
 sR:MethAt K "works" "Run.works" qjn ["self","word","day","kind"] a.fO a.sS
 pR:MethAt K "feel" "Run.feel" ql7 ["self","name","day","kind"] a.fH a.tU
 rB:MethD K "__init__" "Run.__init__" qc2 ["self","rule","table","name","day","base"] a.m9 a.mV
 bR:DefAt K mg "take" qxt ["book","table","runs","act"] a.pX a.nH
 pK:MethAt K "state_word" "Run.state_word" qe2 ["self","last"] a.l7 a.mT
 xJ:MethAt K "account" "Run.account" qgk ["self"] a.lC a.rZ
 gQ:DefAt K mg "history" qii ["book","table","acts"] a.rL a.nK
 fF:DefAt K mg "untaken" ql8 ["name","bases","taken"] a.tP a.tI
 dO:DefAt K mg "hanging_order" qe3 ["rules"] a.xI a.xS
 bQ:DefAt K mg "is_free_within" qdg ["within","week","yearly"] a.xK a.rP
 dW:DefAt K mg "counted_up" qh2 ["free_days"] a.rA a.xN
 fE:DefAt K mg "is_weekday" qh3 ["thing"] a.mH a.pM
 fD:DefAt K mg "refuse_week" qgl ["week"] a.mN a.nX
 dD:DefAt K mg "is_yearly" qjo ["thing"] a.mY a.nI
 dN:DefAt K mg "refuse_yearly" qe4 ["yearly"] a.mU a.xO
 kZ:DefAt K mg "list_or_empty" qfv ["things"] a.mW a.sI
 bV:DefAt K mg "is_row" qsn ["row"] a.nR a.mP
 dU:DefAt K mg "refuse_rows" qgm ["rows"] a.tY a.nD
 kY:DefAt K mg "_law_cell_at" qh4 ["_law_script","_law_k"] a.xF a.nQ
 kK:DefAt K mg "_law_mixed" qjp ["_law_script","_law_k"] a.mR a.mD
 gL:DefAt K mg "_law_words" qjq ["_law_cell","_law_many"] a.pO a.pQ
 xE:MethD K "__init__" "Rule.__init__" qck ["self","name","who","owes","opens","base","many","unit","still"] a.lJ a.rC
 dS:DefAt K mg "_law_rule" qij ["_law_script","_law_at","_law_k","_law_names","_law_kinds"] a.sQ a.pZ
 bZ:DefAt K mg "_law_book" ql9 ["_law_script","_law_names","_law_kinds"] a.xA a.pH
 dB:DefAt K mg "_law_menu" qik ["_law_rules"] a.nU a.pD
 bO:DefAt K mg "_law_acts" qil ["_law_script","_law_rules","_law_names","_law_first","_law_many"] a.tZ a.pI
 dE:DefAt K mg "_law_sorted" qh5 ["_law_acts_here"] a.sU a.mJ
 dP:DefAt K mg "_law_sound" qjr ["_law_account"] a.pW a.xH
 dQ:DefAt K mg "_law_moved" qjs ["_law_old","_law_new","_law_act"] a.rD a.tN
 bU:DefAt K mg "_law_begun" qjt ["_law_account","_law_act"] a.rY a.rQ
 fA:DefAt K mg "_law_step_holds" qe5 ["_law_old","_law_new","_law_act"] a.tW a.tD
 xC:MethAt K "__init__" "Book.__init__" qju ["self","rules"] a.lR a.mZ
 xT:MethAt K "__init__" "Pattern.__init__" qc3 ["self","week","yearly"] a.fX a.nF
 xW:MethD K "__init__" "Table.__init__" qbg ["self","week","yearly","rows"] a.lS a.fQ
 zG:DefAt K mg "law" qso ["_law_script"] a.tX a.xB
 yK:Binds K a.fQ ["self","week","yearly","rows"] [.none,.none]
 zW:mg "Book"=some (.ref a.kL)
 gF:Cls K a.kL
 zQ:Mk K a.kL a.lR
 gT:xNo K a.kL ["free_days","open_days","open_before","pattern","rows","shifts","table","name","who","owes","opens","base","many","unit","still","ends","anew","longer","yields","rule","counting","over","day","units","pauses","grants","order","by_name"]=true
 xV:Meth K a.kL "hanging" a.hU
 yU:Meth K a.kL "rule_of" a.fM
 yS:mg "Counting"=some (.ref a.kN)
 bH:Cls K a.kN
 y9:Mk K a.kN a.bA
 pY:xNo K a.kN ["free_days","open_days","open_before","pattern","rows","shifts","table","name","who","owes","opens","base","many","unit","still","ends","anew","longer","yields","rule","counting","over","day","units","pauses","grants","order","by_name"]=true
 yQ:Meth K a.kN "counted_in" a.gP
 zF:Meth K a.kN "days_for" a.gI
 yN:Meth K a.kN "reach" a.gM
 K9:qvp K a.kN=true
 KB:AY K (.ref a.kN) (.ref a.kN)=some true
 K3:AY K (.ref a.kN) (.ref a.kQ)=some false
 KD:AY K (.ref a.kN) (.ref a.kM)=some false
 K7:Meth K a.kN "days_for" a.gI
 KH:Meth K a.kN "reach" a.gM
 KG:Meth K a.kN "counted_in" a.gP
 zK:mg "CourtDays"=some (.ref a.kM)
 gD:Cls K a.kM
 xY:Mk K a.kM a.bA
 gY:xNo K a.kM ["free_days","open_days","open_before","pattern","rows","shifts","table","name","who","owes","opens","base","many","unit","still","ends","anew","longer","yields","rule","counting","over","day","units","pauses","grants","order","by_name"]=true
 yA:Meth K a.kM "counted_in" a.bD
 zN:Meth K a.kM "days_for" a.gI
 z9:Meth K a.kM "reach" a.bJ
 K0:qvp K a.kM=true
 KF:AY K (.ref a.kM) (.ref a.kN)=some true
 zZ:AY K (.ref a.kM) (.ref a.kQ)=some false
 KA:AY K (.ref a.kM) (.ref a.kM)=some true
 KC:Meth K a.kM "reach" a.bJ
 K5:Meth K a.kM "counted_in" a.bD
 yC:mg "Pattern"=some (.ref a.kH)
 kO:Cls K a.kH
 yG:Mk K a.kH a.fX
 gB:xNo K a.kH ["free_days","open_days","open_before","pattern","rows","shifts","table","name","who","owes","opens","base","many","unit","still","ends","anew","longer","yields","rule","counting","over","day","units","pauses","grants","order","by_name"]=true
 dL:Meth K a.kH "before_year" a.lH
 yR:Meth K a.kH "year_with" a.lW
 rK:Meth K a.kH "nth" a.hM
 fU:Meth K a.kH "before" a.fP
 zO:mg "Rule"=some (.ref a.kB)
 kD:Cls K a.kB
 zC:Mk K a.kB a.lJ
 kE:xNo K a.kB ["free_days","open_days","open_before","pattern","rows","shifts","table","name","who","owes","opens","base","many","unit","still","ends","anew","longer","yields","rule","counting","over","day","units","pauses","grants","order","by_name"]=true
 zD:Meth K a.kB "role_in_still" a.fZ
 yL:Meth K a.kB "role" a.lZ
 yP:mg "Run"=some (.ref a.k8)
 k7:Cls K a.k8
 yV:Mk K a.k8 a.m9
 kA:xNo K a.k8 ["free_days","open_days","open_before","pattern","rows","shifts","table","name","who","owes","opens","base","many","unit","still","ends","anew","longer","yields","rule","counting","over","day","units","pauses","grants","order","by_name"]=true
 yX:Meth K a.k8 "is_over" a.lQ
 sH:Meth K a.k8 "is_halted" a.hV
 pJ:Meth K a.k8 "go_on" a.hJ
 yI:Meth K a.k8 "finish" a.m8
 bC:Meth K a.k8 "lasts_to" a.gX
 gW:Meth K a.k8 "starts_on" a.gU
 zX:Meth K a.k8 "is_under_way" a.lA
 nM:Meth K a.k8 "set_out" a.fL
 yZ:Meth K a.k8 "begin_anew" a.m6
 yJ:Meth K a.k8 "lengthen" a.fS
 zL:Meth K a.k8 "halt" a.lN
 zP:Meth K a.k8 "works" a.fO
 yW:Meth K a.k8 "feel" a.fH
 xZ:Meth K a.k8 "state_word" a.l7
 zE:Meth K a.k8 "account" a.lC
 yE:mg "Table"=some (.ref a.kG)
 kI:Cls K a.kG
 z4:Mk K a.kG a.lS
 kR:xNo K a.kG ["free_days","open_days","open_before","pattern","rows","shifts","table","name","who","owes","opens","base","many","unit","still","ends","anew","longer","yields","rule","counting","over","day","units","pauses","grants","order","by_name"]=true
 pE:Meth K a.kG "shift" a.m5
 gS:Meth K a.kG "before" a.lU
 tV:Meth K a.kG "nth" a.lV
 xR:Meth K a.kG "next_open" a.lK
 zM:mg "Weeks"=some (.ref a.kQ)
 bK:Cls K a.kQ
 zI:Mk K a.kQ a.bA
 mQ:xNo K a.kQ ["free_days","open_days","open_before","pattern","rows","shifts","table","name","who","owes","opens","base","many","unit","still","ends","anew","longer","yields","rule","counting","over","day","units","pauses","grants","order","by_name"]=true
 zV:Meth K a.kQ "counted_in" a.gP
 yM:Meth K a.kQ "days_for" a.bI
 zU:Meth K a.kQ "reach" a.gM
 K6:qvp K a.kQ=true
 KE:AY K (.ref a.kQ) (.ref a.kN)=some true
 K4:AY K (.ref a.kQ) (.ref a.kQ)=some true
 K8:AY K (.ref a.kQ) (.ref a.kM)=some false
 KI:Meth K a.kQ "days_for" a.bI
 yT:mg "any"=none
 yD:mg "bool"=none
 bP:mg "enumerate"=none
 tQ:mg "int"=none
 dX:mg "isinstance"=none
 kP:mg "len"=none
 gZ:mg "list"=none
 hX:mg "max"=none
 rN:mg "min"=none
 kW:mg "range"=none
 xX:mg "reversed"=none
 rX:mg "sorted"=none
 yF:mg "str"=none
 zA:mg "tuple"=none
 yB:∃t,mg "MOST_WEEKDAYS"=some (.int 6 t)
 yH:∃t,mg "MOST_YEARLY"=some (.int 4 t)
 zT:∃t,mg "MOST_YEARLY_DAYS"=some (.int 30 t)
 fV:∃t,mg "SHORT_YEAR"=some (.int 364 t)
 lG:∃t,mg "LONG_YEAR"=some (.int 371 t)
 yY:∃t,mg "MOST_ROWS"=some (.int 12 t)
 zR:∃t,mg "MOST_ROW_DAYS"=some (.int 40 t)
 mG:∃t,mg "TURN"=some (.int 17 t)
 zH:∃t,mg "DAYS_OF_A_WEEK"=some (.int 7 t)
 yO:mg "WORDS"=some (.ref a.lB)
 zY:∀H,SqT K H a.lB [.str (Aa "free"),.str (Aa "open")]
def qxu:bootBuiltins "any"=some (.builtin "any"):=Uk
def qvv:bootBuiltins "bool"=some (.type "bool"):=Uk
def qqt:bootBuiltins "int"=some (.type "int"):=Uk
def qct:bootBuiltins "isinstance"=some (.builtin "isinstance"):=Uk
def qa6:bootBuiltins "len"=some (.builtin "len"):=Uk
def qd0:bootBuiltins "list"=some (.type "list"):=Uk
def qma:bootBuiltins "max"=some (.builtin "max"):=Uk
def qqu:bootBuiltins "min"=some (.builtin "min"):=Uk
def boot_sorted:bootBuiltins "sorted"=some (.builtin "sorted"):=Uk
def qxv:bootBuiltins "str"=some (.type "str"):=Uk
def qsp:bootBuiltins "tuple"=some (.type "tuple"):=Uk
def qmb:FnScope ["self","table"] ["self","table"] (qaa qez):=⟨Z,Z,Z,Uk,Z,Uk,Uk⟩
def qxw:FnScope ["unit","table"] ["unit","table"] (qaa qo9):=⟨Z,Z,Z,Uk,Z,Uk,Uk⟩
def qvw:FnScope ["thing"] ["thing"] (qaa ql0):=⟨Z,Z,Z,Uk,Z,Uk,Uk⟩
def qni:FnScope ["first","last","most"] ["first","last","most"] (qaa qfp):=⟨Z,Z,Z,Uk,Z,Uk,Uk⟩
def qg7:FnScope ["stretches","day","low","high","middle"] ["stretches","day"] (qaa qsm):=⟨Z,Z,Z,Uk,Z,Uk,Uk⟩
def qgn:FnScope ["laid","told","first","last","word"] ["laid"] (qaa qpa):=⟨Z,Z,Z,Uk,Z,Uk,Uk⟩
def qei:FnScope ["laid","first","last","word","begin","end","told"] ["laid","first","last","word"] (qaa qjk):=⟨Z,Z,Z,Uk,Z,Uk,Uk⟩
def qd1:FnScope ["rows","laid","first","last","word"] ["rows"] (qaa ql1):=⟨Z,Z,Z,Uk,Z,Uk,Uk⟩
def qim:FnScope ["self","units"] ["self","units"] (qaa qdd):=⟨Z,Z,Z,Uk,Z,Uk,Uk⟩
def qmc:FnScope ["self","units"] ["self","units"] (qaa qe0):=⟨Z,Z,Z,Uk,Z,Uk,Uk⟩
def qku:FnScope ["self","first","many"] ["self","first","many"] (qaa qee):=⟨Z,Z,Z,Uk,Z,Uk,Uk⟩
def qpd:FnScope ["year"] ["year"] (qaa qgf):=⟨Z,Z,Z,Uk,Z,Uk,Uk⟩
def qdw:FnScope ["self","year","in_last_week"] ["self","year"] (qaa qcu):=⟨Z,Z,Z,Uk,Z,Uk,Uk⟩
def qc5:FnScope ["self","many","year"] ["self","many"] (qaa qde):=⟨Z,Z,Z,Uk,Z,Uk,Uk⟩
def qqv:FnScope ["year"] ["year"] (qaa qhw):=⟨Z,Z,Z,Uk,Z,Uk,Uk⟩
def qin:FnScope ["self","many","year"] ["self","many"] (qaa qgg):=⟨Z,Z,Z,Uk,Z,Uk,Uk⟩
def qxx:FnScope ["week"] ["week"] (qaa qpb):=⟨Z,Z,Z,Uk,Z,Uk,Uk⟩
def qvx:FnScope ["day"] ["day"] (qaa ql2):=⟨Z,Z,Z,Uk,Z,Uk,Uk⟩
def qio:FnScope ["day","day_in_week","week","year"] ["day"] (qaa qpc):=⟨Z,Z,Z,Uk,Z,Uk,Uk⟩
def qkk:FnScope ["day","date"] ["day"] (qaa qhx):=⟨Z,Z,Z,Uk,Z,Uk,Uk⟩
def qf4:FnScope ["self","day","year"] ["self","day"] (qaa qef):=⟨Z,Z,Z,Uk,Z,Uk,Uk⟩
def qfw:FnScope ["self","row","end","by_pattern","by_row"] ["self","row","end"] (qaa qgh):=⟨Z,Z,Z,Uk,Z,Uk,Uk⟩
def qdh:FnScope ["self","day","at","many"] ["self","day"] (qaa qfq):=⟨Z,Z,Z,Uk,Z,Uk,Uk⟩
def qfx:FnScope ["self","many","at","row","before_row"] ["self","many"] (qaa qjl):=⟨Z,Z,Z,Uk,Z,Uk,Uk⟩
def qjv:FnScope ["self","first","many"] ["self","first","many"] (qaa qdp):=⟨Z,Z,Z,Uk,Z,Uk,Uk⟩
def qhh:FnScope ["self","first","last"] ["self","first","last"] (qaa qcv):=⟨Z,Z,Z,Uk,Z,Uk,Uk⟩
def qgo:FnScope ["self","first","last"] ["self","first","last"] (qaa qcn):=⟨Z,Z,Z,Uk,Z,Uk,Uk⟩
def qcy:FnScope ["kind","start","units","pauses","left","begin","first","last","counted"] ["kind","start","units","pauses"] (qaa ql3):=⟨Z,Z,Z,Uk,Z,Uk,Uk⟩
def qkv:FnScope ["self","day"] ["self","day"] (qaa qeg):=⟨Z,Z,Z,Uk,Z,Uk,Uk⟩
def qej:FnScope ["table","day","pauses","told","first","last"] ["table","day","pauses"] (qaa qjm):=⟨Z,Z,Z,Uk,Z,Uk,Uk⟩
def qoh:FnScope ["kind","start","units","pauses","full"] ["kind","start","units","pauses"] (qaa ql4):=⟨Z,Z,Z,Uk,Z,Uk,Uk⟩
def qvy:FnScope ["acts"] ["acts"] (qaa qdl):=⟨Z,Z,Z,Uk,Z,Uk,Uk⟩
def qnj:FnScope ["self"] ["self"] (qaa qfr):=⟨Z,Z,Z,Uk,Z,Uk,Uk⟩
def qpe:FnScope ["self","name"] ["self","name"] (qaa qgi):=⟨Z,Z,Z,Uk,Z,Uk,Uk⟩
def qqw:FnScope ["self"] ["self"] (qaa qhy):=⟨Z,Z,Z,Uk,Z,Uk,Uk⟩
def qqx:FnScope ["runs"] ["runs"] (qaa qhz):=⟨Z,Z,Z,Uk,Z,Uk,Uk⟩
def qip:FnScope ["self","kind"] ["self","kind"] (qaa qdf):=⟨Z,Z,Z,Uk,Z,Uk,Uk⟩
def qsq:FnScope ["self","kind"] ["self","kind"] (qaa qg6):=⟨Z,Z,Z,Uk,Z,Uk,Uk⟩
def qnk:FnScope ["self"] ["self"] (qaa qfs):=⟨Z,Z,Z,Uk,Z,Uk,Uk⟩
def qoi:FnScope ["self","day","first"] ["self","day"] (qaa ql5):=⟨Z,Z,Z,Uk,Z,Uk,Uk⟩
def qqy:FnScope ["self","day"] ["self","day"] (qaa qh0):=⟨Z,Z,Z,Uk,Z,Uk,Uk⟩
def qbu:FnScope ["self","start"] ["self"] (qaa qgj):=⟨Z,Z,Z,Uk,Z,Uk,Uk⟩
def qdi:FnScope ["self"] ["self"] (qaa qft):=⟨Z,Z,Z,Uk,Z,Uk,Uk⟩
def qdq:FnScope ["self","day","start","last"] ["self","day"] (qaa qeh):=⟨Z,Z,Z,Uk,Z,Uk,Uk⟩
def qqz:FnScope ["self","day","base"] ["self","day","base"] (qaa qh1):=⟨Z,Z,Z,Uk,Z,Uk,Uk⟩
def qmd:FnScope ["self","day"] ["self","day"] (qaa qe1):=⟨Z,Z,Z,Uk,Z,Uk,Uk⟩
def qcr:FnScope ["self","kind","done","other","units","times"] ["self","kind"] (qaa qfu):=⟨Z,Z,Z,Uk,Z,Uk,Uk⟩
def qvz:FnScope ["self","day"] ["self","day"] (qaa ql6):=⟨Z,Z,Z,Uk,Z,Uk,Uk⟩
def qsr:FnScope ["self","word","day","kind"] ["self","word","day","kind"] (qaa qjn):=⟨Z,Z,Z,Uk,Z,Uk,Uk⟩
def qoj:FnScope ["self","name","day","kind","word"] ["self","name","day","kind"] (qaa ql7):=⟨Z,Z,Z,Uk,Z,Uk,Uk⟩
def qv0:FnScope ["self","rule","table","name","day","base"] ["self","rule","table","name","day","base"] (qaa qc2):=⟨Z,Z,Z,Uk,Z,Uk,Uk⟩
def qgp:FnScope ["book","table","runs","act","name","kind","day","begun","term","rule"] ["book","table","runs","act"] (qaa qxt):=⟨Z,Z,Z,Uk,Z,Uk,Uk⟩
def qme:FnScope ["self","last"] ["self","last"] (qaa qe2):=⟨Z,Z,Z,Uk,Z,Uk,Uk⟩
def qfy:FnScope ["self","start","last"] ["self"] (qaa qgk):=⟨Z,Z,Z,Uk,Z,Uk,Uk⟩
def qd2:FnScope ["book","table","acts","runs","term","act","told"] ["book","table","acts"] (qaa qii):=⟨Z,Z,Z,Uk,Z,Uk,Uk⟩
def qg8:FnScope ["name","bases","taken","path","above"] ["name","bases","taken"] (qaa ql8):=⟨Z,Z,Z,Uk,Z,Uk,Uk⟩
def qb1:FnScope ["rules","bases","rule","taken"] ["rules"] (qaa qe3):=⟨Z,Z,Z,Uk,Z,Uk,Uk⟩
def qmf:FnScope ["within","week","yearly"] ["within","week","yearly"] (qaa qdg):=⟨Z,Z,Z,Uk,Z,Uk,Uk⟩
def qgq:FnScope ["free_days","counts","free"] ["free_days"] (qaa qh2):=⟨Z,Z,Z,Uk,Z,Uk,Uk⟩
def qq0:FnScope ["thing"] ["thing"] (qaa qh3):=⟨Z,Z,Z,Uk,Z,Uk,Uk⟩
def qfz:FnScope ["week","at","thing"] ["week"] (qaa qgl):=⟨Z,Z,Z,Uk,Z,Uk,Uk⟩
def qss:FnScope ["thing"] ["thing"] (qaa qjo):=⟨Z,Z,Z,Uk,Z,Uk,Uk⟩
def qek:FnScope ["yearly","at","thing"] ["yearly"] (qaa qe4):=⟨Z,Z,Z,Uk,Z,Uk,Uk⟩
def qnl:FnScope ["things"] ["things"] (qaa qfv):=⟨Z,Z,Z,Uk,Z,Uk,Uk⟩
def scIsRow:FnScope ["row"] ["row"] (qaa qsn):=⟨Z,Z,Z,Uk,Z,Uk,Uk⟩
def qf0:FnScope ["rows","at","row"] ["rows"] (qaa qgm):=⟨Z,Z,Z,Uk,Z,Uk,Uk⟩
def qq1:FnScope ["_law_script","_law_k"] ["_law_script","_law_k"] (qaa qh4):=⟨Z,Z,Z,Uk,Z,Uk,Uk⟩
def qmg:FnScope ["_law_script","_law_k","_law_cell"] ["_law_script","_law_k"] (qaa qjp):=⟨Z,Z,Z,Uk,Z,Uk,Uk⟩
def qbh:FnScope ["_law_cell","_law_many","_law_letters","_law_size","_law_at","_law_words_here","_law_k","_law_far","_law_word","_law_j","_law_on"] ["_law_cell","_law_many"] (qaa qjq):=⟨Z,Z,Z,Uk,Z,Uk,Uk⟩
def qst:FnScope ["self","name","who","owes","opens","base","many","unit","still"] ["self","name","who","owes","opens","base","many","unit","still"] (qaa qck):=⟨Z,Z,Z,Uk,Z,Uk,Uk⟩
def qbb:FnScope ["_law_script","_law_at","_law_k","_law_names","_law_kinds","_law_one","_law_two","_law_mine","_law_base","_law_opens","_law_still","_law_unit","_law_rule_here","_law_j"] ["_law_script","_law_at","_law_k","_law_names","_law_kinds"] (qaa qij):=⟨Z,Z,Z,Uk,Z,Uk,Uk⟩
def qjw:FnScope ["_law_script","_law_names","_law_kinds","_law_rules","_law_k"] ["_law_script","_law_names","_law_kinds"] (qaa ql9):=⟨Z,Z,Z,Uk,Z,Uk,Uk⟩
def qjx:FnScope ["_law_rules","_law_menu_here","_law_rule_here"] ["_law_rules"] (qaa qik):=⟨Z,Z,Z,Uk,Z,Uk,Uk⟩
def qcz:FnScope ["_law_script","_law_rules","_law_names","_law_first","_law_many","_law_menu_here","_law_stride","_law_acts_here","_law_k","_law_cell","_law_kind"] ["_law_script","_law_rules","_law_names","_law_first","_law_many"] (qaa qil):=⟨Z,Z,Z,Uk,Z,Uk,Uk⟩
def qdm:FnScope ["_law_acts_here","_law_found","_law_act","_law_at"] ["_law_acts_here"] (qaa qh5):=⟨Z,Z,Z,Uk,Z,Uk,Uk⟩
def qb8:FnScope ["_law_account","_law_act","_law_word","_law_start","_law_units","_law_pauses","_law_last","_law_rows","_law_going"] ["_law_account"] (qaa qjr):=⟨Z,Z,Z,Uk,Z,Uk,Uk⟩
def qmh:FnScope ["_law_old","_law_new","_law_act","_law_size"] ["_law_old","_law_new","_law_act"] (qaa qjs):=⟨Z,Z,Z,Uk,Z,Uk,Uk⟩
def qsu:FnScope ["_law_account","_law_act"] ["_law_account","_law_act"] (qaa qjt):=⟨Z,Z,Z,Uk,Z,Uk,Uk⟩
def qcg:FnScope ["_law_old","_law_new","_law_act","_law_name","_law_size","_law_k","_law_account"] ["_law_old","_law_new","_law_act"] (qaa qe5):=⟨Z,Z,Z,Uk,Z,Uk,Uk⟩
def qmi:FnScope ["self","rules","rule"] ["self","rules"] (qaa qju):=⟨Z,Z,Z,Uk,Z,Uk,Uk⟩
def qnm:FnScope ["self","week","yearly"] ["self","week","yearly"] (qaa qc3):=⟨Z,Z,Z,Uk,Z,Uk,Uk⟩
def qkl:FnScope ["self","week","yearly","rows","row"] ["self","week","yearly","rows"] (qaa qbg):=⟨Z,Z,Z,Uk,Z,Uk,Uk⟩
def qfg:FnScope ["_law_script","_law_names","_law_rules","_law_week","_law_first","_law_acts_here","_law_book_here","_law_table","_law_old","_law_name","_law_k","_law_new"] ["_law_script"] (qaa qso):=⟨Z,Z,Z,Uk,Z,Uk,Uk⟩
seal PySem.Sem.wp
open Add Lay Mrg Tab Cal
abbrev Rw:=Row Str
noncomputable def enc (r:Rw):List V:=[.int r.1,.int r.2.1,.str r.2.2]
def use {p G R:Prop}(m:(p->G)->R)(l:p->G):R:=m l
def useH {p G:Hp->Prop}{R:Prop}(m:(∀x,p x->G x)->R)(l:∀x,p x->G x):R:=m l
def use2 {S T:Type}{p G:S->T->Prop}{R:Prop}(m:(∀x y,p x y->G x y)->R)(l:∀x y,p x y->G x y):R:=m l
def qcs {c A B:Prop}[Decidable c](a:c)(h:A):if decide c=true then A else B:=by rw[if_pos (decide_eq_true a)];exact h
def qbo {c A B:Prop}[Decidable c](a:¬c)(h:B):if decide c=true then A else B:=by rw[decide_eq_false a];exact h
def qgr {c A B:Prop}[Decidable c](a:c)(h:B):if (!decide c)=true then A else B:=by rw[decide_eq_true a];exact h
def qx {H:Hp}{p:Addr}{o:HO}(a:H p=none):Same H (upd H p o):=λb u e=>by rw[qr (qag e a)];exact e
def alc {H:Hp}{p:Addr}{o:HO}(a:H p=none):Same H (upd H p o)/\upd H p o p=some o:=⟨qx a,qk⟩
def qdr {n:Nat}(h:n<=100000):n<=A5:=by rw[Bx];lia
def qb2 {xs:List V}(h:xs.length<=90000):xs.length<A5:=by rw[Bx];lia
def qfh:([]:List V).length<=A5:=qdr Ud
def qkw (x y:V):[x,y].length<=A5:=qdr (show 2<=100000 by decide)
def qkx (x y z:V):[x,y,z].length<=A5:=qdr (show 3<=100000 by decide)
def spPlace:Sp:=λvs H Q _=>∃(p:Addr)(us:List V)(ts:List (List V))(es:List Int)(d:Int),vs=[.ref p,.int d]/\H p=some (.lst us)/\Tups H us ts/\(∀(i:Nat)(e:Int),es[i]?=some e->∃t:List V,ts[i]?=some t/\atI t 1=some (V.int e))/\ts.length=es.length/\es.Pairwise (· < ·)/\Q (.int (cnt es d:Nat)) H
def qmj {rs:List Rw}{i:Nat}{e:Int}(h:(ends rs)[i]?=some e):∃t,(rs.map enc)[i]?=some t/\atI t 1=some (.int e):=by
 rw[Ah]at h |-;cases q:rs[i]? with|none=>rw[q]at h;cases h|some r=>rw[q]at h;cases h;exact⟨_,Z,Z⟩
def At (H:Hp)(p:Addr)(rs:List Rw):Prop:=∃us,H p=some (.lst us)/\Tups H us (rs.map enc)
def At.same {H H':Hp}{p:Addr}{rs:List Rw}(h:At H p rs)(s:Same H H'):At H' p rs:=by obtain⟨us,b,a⟩:=h;exact⟨us,s _ _ b,a.same s⟩
def spOver:Sp:=λvs H Q _=>∃(p:Addr)(rs:List Rw)(f l:Int)(w:Str),vs=[.ref p,.int f,.int l,.str w]/\At H p rs/\Dis rs/\f<=l/\rs.length<=1000/\∀q H',H q=none->Same H H'->At H' q (over rs f l w)->Q (.ref q) H'
def lenI {us:List V}{rs:List Rw}{n:Nat}(a:us.length=rs.length)(h:n<rs.length):(n:Int)<(us.length:Int):=DJ.mpr (a ▸ h)
def sn1 {us:List V}{v:V}(h:us.length<=1000):(us++[v]).length<=1200:=by rw[Af];exact A9 (DW h 1) Ud
def sn15 {us:List V}{v:V}(h:us.length<=1200):(us++[v]).length<=1500:=by rw[Af];exact A9 (DW h 1) Ud
def sn2 {us:List V}{v:V}(h:us.length<=1500):(us++[v]).length<=2000:=by rw[Af];exact A9 (DW h 1) Ud
def tn_lt {a b:Int}(h:a<b)(h0:0<b):a.toNat<b.toNat:=by lia
def mid {lo a:Int}(h0:0<=lo)(h:lo<a):∃j:Nat,(lo+a) / 2=(j:Int)/\lo<=(j:Int)/\(j:Int)<a:=⟨((lo+a) / 2).toNat,by lia⟩
noncomputable def qpf {W:Type}(e:W->V)(r:Row W):List V:=[.int r.1,.int r.2.1,e r.2.2]
def AtG {W:Type}(e:W->V)(H:Hp)(p:Addr)(rs:List (Row W)):Prop:=∃us,H p=some (.lst us)/\Tups H us (rs.map (qpf e))
def AtG.len {W:Type}{e:W->V}{H:Hp}{rs:List (Row W)}{us:List V}(t:Tups H us (rs.map (qpf e))):us.length=rs.length:=by rw[t.length,Ab]
def AtG.row {W:Type}{e:W->V}{H:Hp}{rs:List (Row W)}{us:List V}(t:Tups H us (rs.map (qpf e))){i:Nat}{r:Row W}(h:rs[i]?=some r):∃a,us[i]?=some (.ref a)/\H a=some (.tup (qpf e r)):=t.get (by rw[Ah,h];rfl)
def qxy {W:Type}{e:W->V}{rs:List (Row W)}{i:Nat}{t:List V}(h:(rs.map (qpf e))[i]?=some t):∃r,rs[i]?=some r/\t=qpf e r:=by
 rw[Ah]at h;cases q:rs[i]? with|none=>rw[q]at h;cases h|some r=>rw[q]at h;cases h;exact⟨r,Z,Z⟩
def spJoin:Sp:=λvs H Q _=>∃(W:Type)(dq:DecidableEq W)(e:W->V)(p:Addr)(rs:List (Row W)),vs=[.ref p]/\(∀x y,e x=e y->x=y)/\(∀x y,qwp (e x) (e y)=true)/\AtG e H p rs/\rs.length<=1000/\∀q H',H q=none->Same H H'->AtG e H' q (jn rs)->Q (.ref q) H'
def spOv:Sp:=λvs H Q _=>∃(p:Addr)(rs:List Rw),vs=[.ref p]/\At H p rs/\(∀r∈rs,r.1<=r.2.1)/\rs.length<=100/\∀q H',H q=none->Same H H'->At H' q (ov rs)->Q (.ref q) H'
def qmk {vs:List V}{k:Int}{j:Nat}{v:V}(h:vs[j]?=some v)(e:k=(j:Int)):atI vs k=some v:=by rw[e];exact qa0 h
def qiq (vs:List V)(b:Nat)(h:b<=vs.length):qkq vs none (some (b:Int))=vs.take b:=by
 unfold qkq;have a:HT.sIx vs.length 0 none=0:=rfl;have c:HT.sIx vs.length vs.length (some (b:Int))=b:=by simp only[HT.sIx];split <;>lia
 rw[a,c];simp
def qxz (vs:List V)(b:Nat)(h:b<=vs.length):qkq vs (some (b:Int)) none=vs.drop b:=by
 unfold qkq;have a:HT.sIx vs.length vs.length none=vs.length:=rfl;have c:HT.sIx vs.length 0 (some (b:Int))=b:=by simp only[HT.sIx];split <;>lia
 rw[a,c];rw[C6 (by rw[BL];lia)]
theorem qx0 {es:List Int}{a b:Int}(h:a<=b):cnt es a<=cnt es b:=by
 induction es with
 |nil=>exact Al _
 |cons e es ih=>rw[qd9,qd9];split <;>split <;>lia
def qx1 {rs:List Rw}{f l:Int}(w:Str)(h:Dis rs)(a:f<=l):(over rs f l w).length<=rs.length+3:=by
 have h1:(left rs f).length<=cnt (ends rs) f+1:=by
  rw[qjh f h,Af,Bj];cases rs[cnt (ends rs) f]? with
  |none=>exact BS (Eb _ _)
  |some r =>
   show min _ _+(if r.1<f then [(r.1,f-1,r.2.2)] else ([]:List (Row Str))).length<=_;split
   .exact CQ (Eb _ _)
   .exact BS (Eb _ _)
 have h2:(right rs l).length<=rs.length-cnt (ends rs) (l+1)+1:=by
  rw[qht l h];cases rs[cnt (ends rs) (l+1)]? with
  |none=>exact AS _
  |some r =>
   show (if r.1<=l then ((l+1,r.2.1,r.2.2):Rw)::rs.drop (cnt (ends rs) (l+1)+1) else rs.drop (cnt (ends rs) (l+1))).length<=_;split
   .rw[AD,BL];exact CQ (Nat.sub_le_sub_left (C7 _) _)
   .rw[BL];exact C7 _
 have h3:=qx0 (es:=ends rs) (En a);have b:=qo2 (ends rs) (l+1);rw[Ab]at b;unfold over;rw[Af,AD];lia
def qpg {rs:List Rw}(h:∀r∈rs,r.1<=r.2.1):(lay rs).length<=3*rs.length:=by
 have step:∀(a laid:List Rw),(∀r∈a,r.1<=r.2.1)->Dis laid->(a.foldl (λlaid r=>over laid r.1 r.2.1 r.2.2) laid).length<=laid.length+3*a.length:=by
  intro a
  induction a with
  |nil=>intro laid _ _;exact Al _
  |cons r a ih =>intro laid b c;have d:=b r Am;have:=ih (over laid r.1 r.2.1 r.2.2) (λs e=>b s (Ay _ e)) (qqg _ c d);have:=qx1 r.2.2 c d;rw[List.foldl_cons,AD];lia
 have:=step rs [] h ⟨(λ_ h=>absurd h AB),Es⟩;simpa [lay] using this
def jn1_len {W:Type}[DecidableEq W](a:List (Row W))(r:Row W):(jn1 a r).length<=a.length+1:=by
 rcases BD a with rfl|⟨rs,t,rfl⟩
 .exact Al _
 .rw[B4,qeb];split <;>simp
def qx2 {W:Type}[DecidableEq W](rs:List (Row W)):(jn rs).length<=rs.length:=by
 have step:∀(b a:List (Row W)),(b.foldl jn1 a).length<=a.length+b.length:=by
  intro b
  induction b with
  |nil=>intro a;exact Al _
  |cons r b ih =>intro a;have:=ih (jn1 a r);have:=jn1_len a r;rw[List.foldl_cons,AD];lia
 have:=step rs [];simpa [jn] using this
def jn_snoc {W:Type}[DecidableEq W](rs:List (Row W))(r:Row W):jn (rs++[r])=jn1 (jn rs) r:=by unfold jn;rw[Dk];rfl
def qcl {α:Type}{xs:List α}{i:Nat}{x:α}(h:xs[i]?=some x):xs.take (i+1)=xs.take i++[x]:=by rw[B8,h];rfl
def qk8 {rs:List Rw}{i:Nat}{t:List V}(h:(rs.map enc)[i]?=some t):∃r,rs[i]?=some r/\t=enc r:=by
 rw[Ah]at h;cases q:rs[i]? with|none=>rw[q]at h;cases h|some r=>rw[q]at h;cases h;exact⟨r,Z,Z⟩
def At.len {H:Hp}{rs:List Rw}{us:List V}(t:Tups H us (rs.map enc)):us.length=rs.length:=by rw[t.length,Ab]
def At.row {H:Hp}{rs:List Rw}{us:List V}(t:Tups H us (rs.map enc)){i:Nat}{r:Rw}(h:rs[i]?=some r):∃a,us[i]?=some (.ref a)/\H a=some (.tup (enc r)):=t.get (by rw[Ah,h];rfl)
def qx3 {rs:List Rw}(h:∀r∈rs,r.1<=r.2.1)(i:Nat):∀r∈rs.take i,r.1<=r.2.1:=λr a=>h r (DX a)
def qx4 (us:List V)(x v:V):(us++[x]).set us.length v=us++[v]:=by simp
def qt1 (us:List V)(x:V):ixN (us++[x]).length (-1)=some us.length:=by
 unfold ixN;rw[Af,AU,if_neg Ud,if_pos (by lia)]
 congr 1
 lia
def sp1 (g:Int->V):Sp:=λvs H Q _=>∃y:Int,vs=[.int y]/\Q (g y) H
def qv1:Sp:=λvs H Q _=>∃n:Int,vs=[.int n]/\0<=n/\Q (.int (n % 7+1)) H
def qx5:Sp:=λvs H Q _=>∃n:Int,vs=[.int n]/\0<=n/\∀p,H p=none->Q (.ref p) (upd H p (.tup [.int (yo (n / 7)),.int (n / 7-fw (yo (n / 7))+1),.int (n % 7+1)]))
def doy (n:Int):Int:=n-7*fw (yo (n / 7))
def qx6 {n:Int}(h:0<=n):0<=doy n/\doy n<371:=by have h1:=lies (n / 7);have h2:=qih (yo (n / 7));have h3:=qog (yo (n / 7));unfold doy;lia
def doy_mod (n:Int):doy n % 7=n % 7:=by unfold doy;lia
def spDoy:Sp:=λvs H Q _=>∃n:Int,vs=[.int n]/\0<=n/\∀H',Same H H'->Q (.int (doy n)) H'
def spWd:Sp:=λvs H Q _=>∃n:Int,vs=[.int n]/\1<=n/\n<=7/\Q (.bl true) H
def spStr:Sp:=λvs H Q _=>∃f l m:Int,vs=[.int f,.int l,.int m]/\0<=f/\f<=l/\l<f+m/\Q (.bl true) H
def AtP (H:Hp)(p:Addr)(rs:List S2):Prop:=∃us,H p=some (.lst us)/\Tups H us (rs.map encP)
def AtP.same {H H':Hp}{p:Addr}{rs:List S2}(h:AtP H p rs)(s:Same H H'):AtP H' p rs:=by obtain⟨us,b,a⟩:=h;exact⟨us,s _ _ b,a.same s⟩
def spRefW:Sp:=λvs H Q _=>∃(p:Addr)(wk:List Int),vs=[.ref p]/\H p=some (.lst (wk.map V.int))/\OkW wk/\∀H',Same H H'->Q .non H'
def spYr:Sp:=λvs H Q _=>∃(a:Addr)(r:S2),vs=[.ref a]/\H a=some (.tup (encP r))/\0<=r.1/\r.1<=r.2/\r.2<r.1+30/\r.2<364/\Q (.bl true) H
def spRefY:Sp:=λvs H Q _=>∃(p:Addr)(yr:List S2),vs=[.ref p]/\AtP H p yr/\OkY yr/\∀H',Same H H'->Q .non H'
def OkR (r:Rw):Prop:=0<=r.1/\r.1<=r.2.1/\r.2.1<r.1+40/\(r.2.2=Aa "free" \/ r.2.2=Aa "open")
def spRw:Sp:=λvs H Q _=>∃(a:Addr)(r:Rw),vs=[.ref a]/\H a=some (.tup (enc r))/\OkR r/\Q (.bl true) H
def spRefR:Sp:=λvs H Q _=>∃(p:Addr)(rs:List Rw),vs=[.ref p]/\At H p rs/\rs.length<=12/\(∀r∈rs,OkR r)/\∀H',Same H H'->Q .non H'
def spFyw:Sp:=λvs H Q _=>∃(i:Int)(pw py:Addr)(wk:List Int)(yr:List S2),vs=[.int i,.ref pw,.ref py]/\H pw=some (.lst (wk.map V.int))/\AtP H py yr/\yr.length<=100/\∀H',Same H H'->Q (.bl (fy wk yr i)) H'
def spCu:Sp:=λvs H Q _=>∃(p:Addr)(bs:List Bool),vs=[.ref p]/\H p=some (.lst (bs.map V.bl))/\bs.length<=1000/\∀q H',H q=none->Same H H'->H' q=some (.lst ((cuL bs).map V.int))->Q (.ref q) H'
def dup {wk:List Int}{i:Nat}{x:Int}(nd:wk.Nodup)(h:wk[i]?=some x):(wk.take i).contains x=false:=by rw[Bool.eq_false_iff];intro z;rw[CB]at z;obtain⟨j,a,e⟩:=C0 z;rw[Bj]at a;rw[Eu]at e;obtain⟨b,c⟩:=Ac.mp h;exact Bh.mp nd j i (A0 a (Nat.min_le_right _ _)) b (A0 a (Eb _ _)) (by rw[e,c])
def qq2 {rs:List S2}{i:Nat}{t:List V}(h:(rs.map encP)[i]?=some t):∃r,rs[i]?=some r/\t=encP r:=by
 rw[Ah]at h;cases q:rs[i]? with|none=>rw[q]at h;cases h|some r=>rw[q]at h;cases h;exact⟨r,Z,Z⟩
noncomputable abbrev pfs (a1 a2 a3:Addr):List (Str×V):=[(Aa "free_days",.ref a1),(Aa "open_days",.ref a2),(Aa "open_before",.ref a3)]
def put1 (f:Str)(u:V):qbi f u []=[(f,u)]:=rfl
def put2 {f g:Str}(u v:V)(h:f≠g):qbi g v [(f,u)]=[(f,u),(g,v)]:=by unfold qbi;rw[if_neg h];rfl
def put3 {f g e:Str}(u v x:V)(h:f≠e)(a:g≠e):qbi e x [(f,u),(g,v)]=[(f,u),(g,v),(e,x)]:=by show (if f=e then _ else (f,u)::(if g=e then _ else (g,v)::qbi e x []))=_;rw[if_neg h,if_neg a];rfl
def PatAt (C:Addr)(H:Hp)(p:Addr)(bs:List Bool):Prop:=∃(dx a1 a2 a3:Addr),H p=some (.ins C dx (pfs a1 a2 a3))/\H a1=some (.lst (bs.map V.bl))/\H a2=some (.lst ((odL bs).map V.int))/\H a3=some (.lst ((cuL bs).map V.int))/\bs.length=371
def PatAt.same {C:Addr}{H H':Hp}{p:Addr}{bs:List Bool}(h:PatAt C H p bs)(s:Same H H'):PatAt C H' p bs:=by obtain⟨c,e,i,j,f,g,d,a,b⟩:=h;exact⟨c,e,i,j,s _ _ f,s _ _ g,s _ _ d,s _ _ a,b⟩
theorem PatAt.upd {C:Addr}{H:Hp}{p d a b c z:Addr}{bs:List Bool}{o:HO}(k:H p=some (.ins C d (pfs a b c)))(g:H a=some (.lst (bs.map V.bl)))(h:H b=some (.lst ((odL bs).map V.int)))(i:H c=some (.lst ((cuL bs).map V.int)))(e:p≠z)(j:a≠z)(f:b≠z)(l:c≠z) :
  L2.upd H z o p=some (.ins C d (pfs a b c))/\L2.upd H z o a=some (.lst (bs.map V.bl))/\L2.upd H z o b=some (.lst ((odL bs).map V.int))/\L2.upd H z o c=some (.lst ((cuL bs).map V.int)) :=
 ⟨(qr e).trans k,(qr j).trans g,(qr f).trans h,(qr l).trans i⟩
def SameBut (x:Addr)(H H':Hp):Prop:=∀b o,b≠x->H b=some o->H' b=some o
def SameBut.of {x:Addr}{H H':Hp}(s:Same H H'):SameBut x H H':=λb o _ e=>s b o e
def SameBut.trans {x:Addr}{H f d:Hp}(a:SameBut x H f)(b:SameBut x f d):SameBut x H d:=λc o n e=>b c o n (a c o n e)
def SameBut.set {x:Addr}{H H':Hp}{o:HO}(a:SameBut x H H'):SameBut x H (upd H' x o):=λb u n e=>by rw[qr n];exact a b u n e
def SameBut.made {x c:Addr}{H H':Hp}{o u:HO}(a:SameBut x (upd (upd H c u) x o) H')(d:H x=none)(f:H c=none):Same H H':=λb v e =>
 a b v (qag e d) (by rw[qr (qag e d),qr (qag e f)];exact e)
def SameBut.free {x q:Addr}{H H':Hp}(b:SameBut x H H')(n:q≠x)(h:H' q=none):H q=none:=by
 cases e:H q with|none=>rfl|some o=>rw[b q o n e]at h;cases h
def Rest (x:Addr)(H H' H2:Hp):Prop:=∀b o,(H b=none\/b=x \/ ∃t,o=.tup t)->H' b=some o->H2 b=some o
theorem qv2 {x:Addr}{H H' a:Hp}{us:List V}{ts:List (List V)}(r:Rest x H H' a)(t:Tups H' us ts):Tups a us ts:=by
 induction t with
 |nil=>exact .nil
 |cons h _ ih=>exact .cons (r _ _ (.inr (.inr ⟨_,Z⟩)) h) ih
def spPInit (a:Adr):Sp:=λvs H Q _=>∃(x dx pw py:Addr)(wk:List Int)(yr:List S2),vs=[.ref x,.ref pw,.ref py]/\H x=some (.ins a.kH dx [])/\H pw=some (.lst (wk.map V.int))/\AtP H py yr/\OkW wk/\OkY yr /\
 ∀H',SameBut x H H'->(∀H2,Rest x H H' H2->PatAt a.kH H2 x (fdL wk yr))->Q .non H'
def pby (bs:List Bool)(y:Int):Int:=y*opn bs 364+lb y*(opn bs 371-opn bs 364)
def qc6 (bs:List Bool)(n:Int):Int:=pby bs (yo (n / 7))+opn bs (doy n).toNat
def spPBy (a:Adr):Sp:=λvs H Q _=>∃(x:Addr)(bs:List Bool)(y:Int),vs=[.ref x,.int y]/\PatAt a.kH H x bs/\Q (.int (pby bs y)) H
def spPBef (a:Adr):Sp:=λvs H Q _=>∃(x:Addr)(bs:List Bool)(n:Int),vs=[.ref x,.int n]/\PatAt a.kH H x bs/\0<=n/\∀H',Same H H'->Q (.int (qc6 bs n)) H'
inductive SpOr (vs:List V) (H:Hp) (Q:VK):Prop where
 |non (e:vs=[.non]) (k:∀q,H q=none->Q (.ref q) (upd H q (.lst [])))
 |ref (p:Addr) (e:vs=[.ref p]) (k:Q (.ref p) H)
def spOr:Sp:=λvs H Q _=>SpOr vs H Q
def shf (bs:List Bool)(r:Rw)(e:Int):Int:=(if r.2.2=Aa "open" then e-r.1 else 0)-(qc6 bs e-qc6 bs r.1)
def shL (bs:List Bool)(rs:List Rw):List Int:=(Aq (rs.length+1)).map λk=>((rs.take k).map λr=>shf bs r (r.2.1+1)).sum
def qx7 (bs:List Bool)(rs:List Rw){k:Nat}(h:k<=rs.length):(shL bs rs)[k]?=some ((rs.take k).map λr=>shf bs r (r.2.1+1)).sum:=by unfold shL;rw[Ah,AX (by lia)];rfl
noncomputable abbrev tfs (p q z:Addr):List (Str×V):=[(Aa "pattern",.ref p),(Aa "rows",.ref q),(Aa "shifts",.ref z)]
def TabAt (Cp C:Addr)(H:Hp)(t:Addr)(bs:List Bool)(rs:List Rw):Prop:=∃(dx p q z:Addr),H t=some (.ins C dx (tfs p q z))/\PatAt Cp H p bs/\At H q rs/\H z=some (.lst ((shL bs rs).map V.int))
def TabAt.same {a C:Addr}{H H':Hp}{t:Addr}{bs:List Bool}{rs:List Rw}(h:TabAt a C H t bs rs)(s:Same H H'):TabAt a C H' t bs rs:=by obtain⟨c,p,q,z,f,e,d,b⟩:=h;exact⟨c,p,q,z,s _ _ f,e.same s,d.same s,s _ _ b⟩
def over_nn {rs:List Rw}{f l:Int}{w:Str}(h:∀r∈rs,0<=r.1)(c:0<=f):∀r∈over rs f l w,0<=r.1:=λr a=>by
 rcases Az.mp a with a|a
 .obtain⟨s,b,e⟩:=BZ.mp a;have:=h s b;split at e
  .injection e with e;subst e;exact this
  .cases e
 .rcases Aw.mp a with rfl|a
  .exact c
  .obtain⟨s,b,e⟩:=BZ.mp a;have:=h s b;split at e
   .injection e with e;subst e;show 0<=max s.1 (l+1);lia
   .cases e
def lay_nn {rs:List Rw}(h:∀r∈rs,0<=r.1):∀r∈lay rs,0<=r.1:=by
 have step:∀(a laid:List Rw),(∀r∈a,0<=r.1)->(∀r∈laid,0<=r.1)->∀r∈a.foldl (λlaid r=>over laid r.1 r.2.1 r.2.2) laid,0<=r.1:=by
  intro a
  induction a with
  |nil=>intro laid _ b;exact b
  |cons r a ih=>intro laid c b;exact ih _ (λs d=>c s (Ay _ d)) (over_nn b (c r Am))
 exact step rs [] h λ_ h=>absurd h AB
def jn_nn {rs:List Rw}(h:∀r∈rs,0<=r.1):∀r∈jn rs,0<=r.1:=by
 have one:∀(a:List Rw)(r:Rw),(∀t∈a,0<=t.1)->0<=r.1->∀t∈jn1 a r,0<=t.1:=λa r b e=>by
  rcases BD a with rfl|⟨rs,t,rfl⟩
  .intro z hz;have:z=r:=by simpa [jn1] using hz
   rw[this];exact e
  .rw[B4]at b |-;rw[qeb];intro z hz;split at hz
   .rcases Az.mp hz with hz|hz
    .exact b z (B7 _ hz)
    .rw[Aj.mp hz];exact b t (by simp)
   .rcases Az.mp hz with hz|hz
    .exact b z hz
    .rw[Aj.mp hz];exact e
 have step:∀(c a:List Rw),(∀r∈c,0<=r.1)->(∀r∈a,0<=r.1)->∀r∈c.foldl jn1 a,0<=r.1:=by
  intro c
  induction c with
  |nil=>intro a _ b;exact b
  |cons r c ih=>intro a d b;exact ih _ (λs f=>d s (Ay _ f)) (one _ _ b (d r Am))
 exact step rs [] h λ_ h=>absurd h AB
def ov_nn {rs:List Rw}(h:∀r∈rs,0<=r.1):∀r∈ov rs,0<=r.1:=jn_nn (lay_nn h)
theorem qir {H H':Hp}{x C a:Addr}{fs:List (Str×V)}{us:List V}{ts:List (List V)}(b:SameBut x H H')(c:H x=some (.ins C a fs))(t:Tups H us ts):Tups H' us ts:=by
 induction t with
 |nil=>exact .nil
 |cons h _ ih=>exact .cons (b _ _ (λz=>by rw[z,c]at h;cases h) h) ih
def spShift (a:Adr):Sp:=λvs H Q _=>∃(x p q z y dx:Addr)(bs:List Bool)(r:Rw)(e:Int),vs=[.ref x,.ref y,.int e]/\H x=some (.ins a.kG dx (tfs p q z))/\PatAt a.kH H p bs/\H y=some (.tup (enc r))/\0<=r.1/\0<=e /\
 ∀H',Same H H'->Q (.int (shf bs r e)) H'
def OrP (H:Hp)(v:V)(yr:List S2):Prop:=(v=.non/\yr=[]) \/ ∃p,v=.ref p/\AtP H p yr
def OrR (H:Hp)(v:V)(rs:List Rw):Prop:=(v=.non/\rs=[]) \/ ∃p,v=.ref p/\At H p rs
def orP {H:Hp}{v:V}{yr:List S2}{Q:VK}(h:OrP H v yr)(k:∀p H1,Same H H1->AtP H1 p yr->Q (.ref p) H1):SpOr [v] H Q:=by
 rcases h with ⟨rfl,rfl⟩|⟨p,rfl,t⟩
 .exact .non rfl λq a=>k q _ (qx a) ⟨[],qk,.nil⟩
 .exact .ref p rfl (k p H (Same.refl H) t)
def orR {H:Hp}{v:V}{rs:List Rw}{Q:VK}(h:OrR H v rs)(k:∀p H1,Same H H1->At H1 p rs->Q (.ref p) H1):SpOr [v] H Q:=by
 rcases h with ⟨rfl,rfl⟩|⟨p,rfl,t⟩
 .exact .non rfl λq a=>k q _ (qx a) ⟨[],qk,.nil⟩
 .exact .ref p rfl (k p H (Same.refl H) t)
def OrR.but {x C d:Addr}{fs:List (Str×V)}{H H':Hp}{v:V}{rs:List Rw}(h:OrR H v rs)(c:H x=some (.ins C d fs))(b:SameBut x H H'):OrR H' v rs:=by
 rcases h with h|⟨p,rfl,us,a,e⟩
 .exact .inl h
 .exact .inr ⟨p,Z,us,b _ _ (λz=>by rw[z,c]at a;cases a) a,qir b c e⟩
theorem OrR.same {H H':Hp}{v:V}{rs:List Rw}(h:OrR H v rs)(s:Same H H'):OrR H' v rs:=by
 rcases h with h|⟨p,rfl,us,b,a⟩
 .exact .inl h
 .exact .inr ⟨p,Z,us,s _ _ b,a.same s⟩
def spTInit (a:Adr):Sp:=λvs H Q _=>∃(x dx pw:Addr)(vy vr:V)(wk:List Int)(yr:List S2)(rs:List Rw),vs=[.ref x,.ref pw,vy,vr]/\H x=some (.ins a.kG dx [])/\H pw=some (.lst (wk.map V.int))/\OrP H vy yr/\OrR H vr rs/\OkW wk/\OkY yr/\rs.length<=12/\(∀r∈rs,OkR r) /\
 ∀H',SameBut x H H'->(∀H2,Rest x H H' H2->TabAt a.kH a.kG H2 x (fdL wk yr) (ov rs))->Q .non H'
def tfr (bs:List Bool)(rs:List Rw)(n:Int):Bool:=match rs[cnt (ends rs) n]? with
 |some r=>if r.1<=n then decide (r.2.2=Aa "free") else bs.getD (doy n).toNat true
 |none=>bs.getD (doy n).toNat true
def opB {bs:List Bool}(hl:bs.length=371) : -(2 ^ 64)<opn bs 364/\opn bs 364<2 ^ 64:=by have:=qjj bs 364;lia
def opD {bs:List Bool}(hl:bs.length=371) : -(2 ^ 64)<opn bs 371-opn bs 364/\opn bs 371-opn bs 364<2 ^ 64:=by have:=qjj bs 364;have:=qjj bs 371;lia
noncomputable def cell (ns:List Int)(k:Int):Int:=ns.getD k.toNat 0
def qx8 {a:List Int}{k:Int}(b:0<=k)(h:k<((a.map V.int).length:Int)):atI (a.map V.int) k=some (V.int (cell a k)):=by rw[Ab]at h;have c:k.toNat<a.length:=(Int.toNat_lt b).mpr h;refine qmk (j:=k.toNat) ?_ (C3 b).symm;rw[Ah,Ae c];unfold cell;rw[Ak,Ae c];rfl
def qx9 {a:List Int}{k:Int}(h:¬k<((a.map V.int).length:Int)):cell a k=0:=by rw[Ab]at h;unfold cell;rw[Ak,AR (Dp.mp (Bp (BC.mp h) (Int.self_le_toNat k)))];rfl
def spCell (K:Ag):Sp:=λvs H Q _=>∃(a:Addr)(ns:List Int)(k:Int),vs=[.ref a,.int k]/\SqL K H a (ns.map V.int)/\0<=k/\Q (.int (cell ns k)) H
def qsv {n y:Int}(h0:0<=n-7*fw y)(h1:n-7*fw y<7*wk y):doy n=n-7*fw y:=by have e:yo (n / 7)=y:=qt0 (by lia) (by rw[qih];lia);unfold doy;rw[e]
def lfr (wk:List Int)(yr:List S2)(rs:List Rw)(n:Int):Bool:=if qbd (Aa "") rs n=Aa "" then fy wk yr (doy n) else decide (qbd (Aa "") rs n=Aa "free")
def qml {c A B:Prop}[Decidable c](a:¬c)(h:A):if (!decide c)=true then A else B:=by rw[decide_eq_false a];exact h
def inB_any (yr:List S2)(n:Int):inB yr n=yr.any λr=>decide (r.1<=n) && decide (n<=r.2):=by unfold inB;rfl
def fdL_doy {wk:List Int}{yr:List S2}{n:Int}(a:0<=n):(fdL wk yr).getD (doy n).toNat true=fy wk yr (doy n):=by obtain⟨b,d1⟩:=qx6 a;unfold fdL;rw[Ak,Ah,AX (by lia)];show fy wk yr ((doy n).toNat:Int)=_;rw[C3 b]
theorem tfr_lfr {wk:List Int}{yr:List S2}{rs:List Rw}{n:Int}(f:∀r∈rs,OkR r)(h:0<=n):tfr (fdL wk yr) (ov rs) n=lfr wk yr rs n:=by
 obtain⟨l,k⟩:=qxg λr i=>(f r i).2.1;have g:=λa=>(k a n).symm.trans (qod a n (qhv l));have j:=qtu (λw=>w≠Aa "") n rs (Aa "free") Uk λs m=>by rcases (f s m).2.2.2 with z|z <;>rw[z] <;>decide +kernel
 unfold tfr lfr;rw[fdL_doy h];have b:=g (Aa "");have d:=g (Aa "free");cases e:(ov rs)[cnt (ends (ov rs)) n]? with
 |none =>rw[e]at b;rw[if_pos b]
 |some r =>
  rw[e]at b d;dsimp only at b d |-;by_cases c:r.1<=n
  .rw[if_pos c]at b d;rw[if_pos c,if_neg (by rw[b,<- d];exact j),b]
  .rw[if_neg c]at b;rw[if_neg c,if_pos b]
def rb {n:Nat}(h:n<=1000) : -2 ^ 62<=(n:Int)/\(n:Int)<2 ^ 62:=by lia
def useF {p G:Int->Prop}{R:Prop}(m:(∀F,p F->G F)->R)(l:∀F,p F->G F):R:=m l
def TabAt.ins {c C:Addr}{H:Hp}{t:Addr}{bs:List Bool}{rs:List Rw}(h:TabAt c C H t bs rs):∃a p q z,H t=some (.ins C a (tfs p q z)):=by obtain⟨a,p,q,z,b,_⟩:=h;exact⟨a,p,q,z,b⟩
def qjy {H:Hp}{x a C:Addr}(nx:H x=none)(nd:H a=none):Same H (upd (upd H a (.own x)) x (.ins C a [])):=λb u e=>by rw[qr (qag e nx),qr (qag e nd)];exact e
def okY0:OkY []:=⟨AS _,λ_ h=>absurd h AB⟩
def okR0:∀r∈([]:List Rw),OkR r:=λ_ h=>absurd h AB
def ov_ap {rs:List Rw}(a:∀r∈rs,OkR r):Ap (ov rs):=(qxg λr b=>(a r b).2.1).1
def qq3 (bs:List Bool)(y:Int):pby bs (y+1)=pby bs y+opn bs 364+(wk y-52)*(opn bs 371-opn bs 364):=by
 have e:lb (y+1)=lb y+(wk y-52):=lb_up y;unfold pby
 rw[e,Int.add_mul,Int.add_mul,Int.one_mul];lia
def qis (bs:List Bool){n y:Int}(a:0<=n-7*fw y)(b:n-7*fw y<7*wk y):qc6 bs n=pby bs y+opn bs (n-7*fw y).toNat:=by have e:yo (n / 7)=y:=qt0 (by lia) (by rw[qih];lia);unfold qc6;rw[qsv a b,e]
def qgs {bs:List Bool}(hl:bs.length=371){k:Nat}(h:k<371):opn bs (k+1)=opn bs k+(if bs.getD k true=true then 0 else 1):=by
 have a:k<bs.length:=by lia
 rw[qlv (Ae a),Ak,Ae a];show (if bs[k]=true then _ else _)=opn bs k+(if bs[k]=true then 0 else 1);split <;>lia
def qjz {bs:List Bool}(e:bs.length=371){n:Int}(h:0<=n):qc6 bs (n+1)=qc6 bs n+(if bs.getD (doy n).toNat true=true then 0 else 1):=by
 have l1:=lies (n / 7);have fn:=qih (yo (n / 7));have w3:=qog (yo (n / 7));have a:0<=n-7*fw (yo (n / 7)):=by lia
 have b:n-7*fw (yo (n / 7))<7*wk (yo (n / 7)):=by lia
 have f:=qsv a b;rw[qis bs a b,f];generalize yo (n / 7)=y at *;have st:=qgs e (k:=(n-7*fw y).toNat) (by lia);by_cases c:n+1-7*fw y<7*wk y
 .rw[qis bs (n:=n+1) (y:=y) (by lia) c,show (n+1-7*fw y).toNat=(n-7*fw y).toNat+1 by lia,st];lia
 .have d:n+1-7*fw (y+1)=0:=by lia
  have wy:=qog (y+1);rw[qis bs (n:=n+1) (y:=y+1) (by lia) (by lia),d,qq3];have z:opn bs (0:Int).toNat=0:=by unfold opn;rfl
  rw[z];rcases (by lia:wk y=52\/wk y=53) with w|w
  .rw[show (n-7*fw y).toNat=363 by lia]at st |-;have st:opn bs 364=_:=st;rw[w,show (52:Int)-52=0 from Z,Int.zero_mul];lia
  .rw[show (n-7*fw y).toNat=370 by lia]at st |-;have st:opn bs 371=_:=st;rw[w,show (53:Int)-52=1 from Z,Int.one_mul];lia
def qok (bs:List Bool):qc6 bs 0=0:=by
 rw[qis bs (n:=0) (y:=0) Ud Ud];rw[show ((0:Int)-7*fw 0).toNat=0 by decide];have z:opn bs 0=0:=by unfold opn;rfl
 unfold pby
 rw[z,show lb 0=0 by decide,Int.zero_mul,Int.zero_mul];rfl
def tbR (bs:List Bool):List Rw->Int->Int
 | [],_=>0
 |r::rs,n=>if r.2.1<n then shf bs r (r.2.1+1)+tbR bs rs n else if r.1<n then shf bs r n else 0
def qbe (bs:List Bool)(rs:List Rw)(n:Int):Int:=qc6 bs n+tbR bs rs n
def qt2 {rs:List Rw}{r:Rw}{n:Int}(h:Dis (r::rs))(c:¬r.2.1<n):cnt (ends rs) n=0:=qif λe a=>by obtain⟨s,b,rfl⟩:=Bd.mp a;have:=h.later b;show ¬s.2.1<n;lia
theorem qit (bs:List Bool)(n:Int):∀{rs:List Rw},Dis rs->((rs.take (cnt (ends rs) n)).map λr=>shf bs r (r.2.1+1)).sum+(match rs[cnt (ends rs) n]? with|some r=>if r.1<n then shf bs r n else 0|none=>0)=tbR bs rs n
 | [],_=>rfl
 |r::rs,h=>by
  have a:=qit bs n h.tail;show ((List.take (cnt (r.2.1::ends rs) n) (r::rs)).map λr=>shf bs r (r.2.1+1)).sum+(match (r::rs)[cnt (r.2.1::ends rs) n]? with|some r=>if r.1<n then shf bs r n else 0|none=>0)=if r.2.1<n then shf bs r (r.2.1+1)+tbR bs rs n else if r.1<n then shf bs r n else 0;rw[qd9];by_cases c:r.2.1<n
  .rw[if_pos c,if_pos c,<- a,List.take_succ_cons,Bc,List.sum_cons,Int.add_assoc];rfl
  .rw[if_neg c,if_neg c,qt2 h c];exact BX _
theorem qph {bs:List Bool}{n:Int}:∀{rs:List Rw},(∀r∈rs,n<=r.1)->(∀r∈rs,r.1<=r.2.1)->tbR bs rs n=0
 | [],_,_=>rfl
 |r::rs,h,h2=>by have a:=h r Am;have b:=h2 r Am;unfold tbR;rw[if_neg (by lia),if_neg (by lia)]
def qiu {bs:List Bool}{r:Rw}{rs:List Rw}{n:Int}(h:Dis (r::rs)):tfr bs (r::rs) n=if r.2.1<n then tfr bs rs n else if r.1<=n then decide (r.2.2=Aa "free") else bs.getD (doy n).toNat true:=by
 unfold tfr;show (match (r::rs)[cnt (r.2.1::ends rs) n]? with|some r=>_|none=>_)=_;rw[qd9];by_cases c:r.2.1<n
 .rw[if_pos c,if_pos c];rfl
 .rw[if_neg c,if_neg c,qt2 h c];rfl
def qv3 {w:Str}(h:w=Aa "free" \/ w=Aa "open"):(if w=Aa "open" then (1:Int) else 0)=if decide (w=Aa "free")=true then 0 else 1:=by
 rcases h with e|e <;>rw[e]
 .rw[if_neg Uk,if_pos Uk]
 .rw[if_pos Z,if_neg Uk]
def qya {bs:List Bool}{r:Rw}(h:r.2.2=Aa "free" \/ r.2.2=Aa "open")(n:Int):qc6 bs (n+1)+shf bs r (n+1)=qc6 bs n+shf bs r n+(if decide (r.2.2=Aa "free")=true then 0 else 1):=by rw[<- qv3 h];unfold shf;split <;>lia
def qol (bs:List Bool)(r:Rw):shf bs r r.1=0:=by unfold shf;split <;>lia
theorem qt3 {bs:List Bool}(f:bs.length=371){n:Int}(d:0<=n):∀{rs:List Rw},Dis rs->(∀r∈rs,r.2.2=Aa "free" \/ r.2.2=Aa "open")->qbe bs rs (n+1)=qbe bs rs n+(if tfr bs rs n=true then 0 else 1)
 | [],_,_=>by have:=qjz f d;show qc6 bs (n+1)+0=qc6 bs n+0+(if bs.getD (doy n).toNat true=true then 0 else 1);lia
 |r::rs,h,hw=>by
  have k:=qt3 f d h.tail λs e=>hw s (Ay _ e);have ok:=h.ok r Am;have j:=hw r Am;have pst:=qjz f d;rw[qiu h];unfold qbe at k |-;show qc6 bs (n+1)+(if r.2.1<n+1 then shf bs r (r.2.1+1)+tbR bs rs (n+1) else if r.1<n+1 then shf bs r (n+1) else 0)=qc6 bs n+(if r.2.1<n then shf bs r (r.2.1+1)+tbR bs rs n else if r.1<n then shf bs r n else 0)+_;by_cases c:r.2.1<n
  .rw[if_pos c,if_pos c,if_pos (by lia)];lia
  .rw[if_neg c,if_neg c];have st:=qya (bs:=bs) j n;have b:(if r.1<n then shf bs r n else 0)=if r.1<=n then shf bs r n else 0:=by
    by_cases z:r.1<n
    .rw[if_pos z,if_pos (by lia)]
    .rw[if_neg z];by_cases g:r.1<=n
     .rw[if_pos g,show n=r.1 by lia,qol]
     .rw[if_neg g]
   rw[b];by_cases i:r.2.1<n+1
   .have l:r.2.1=n:=by lia
    rw[if_pos i,qph (λs e=>by have:=(h.later e).1;lia) h.tail.ok,if_pos (show r.1<=n by lia),if_pos (show r.1<=n by lia),l];lia
   .rw[if_neg i];by_cases a:r.1<=n
    .rw[if_pos (show r.1<n+1 by lia),if_pos a,if_pos a];lia
    .rw[if_neg (show ¬r.1<n+1 by lia),if_neg a,if_neg a];lia
def qpi {bs:List Bool}{rs:List Rw}(h:∀r∈rs,0<=r.1)(a:∀r∈rs,r.1<=r.2.1):qbe bs rs 0=0:=by unfold qbe;rw[qok,qph h a];rfl
def over_wd {P:Str->Prop}{rs:List Rw}{f l:Int}{w:Str}(h:∀r∈rs,P r.2.2)(c:P w):∀r∈over rs f l w,P r.2.2:=λr a=>by
 rcases Az.mp a with a|a
 .obtain⟨s,b,e⟩:=BZ.mp a;have:=h s b;split at e
  .injection e with e;subst e;exact this
  .cases e
 .rcases Aw.mp a with rfl|a
  .exact c
  .obtain⟨s,b,e⟩:=BZ.mp a;have:=h s b;split at e
   .injection e with e;subst e;exact this
   .cases e
def lay_wd {P:Str->Prop}{rs:List Rw}(h:∀r∈rs,P r.2.2):∀r∈lay rs,P r.2.2:=by
 have step:∀(a laid:List Rw),(∀r∈a,P r.2.2)->(∀r∈laid,P r.2.2)->∀r∈a.foldl (λlaid r=>over laid r.1 r.2.1 r.2.2) laid,P r.2.2:=by
  intro a
  induction a with
  |nil=>intro laid _ b;exact b
  |cons r a ih=>intro laid c b;exact ih _ (λs d=>c s (Ay _ d)) (over_wd b (c r Am))
 exact step rs [] h λ_ h=>absurd h AB
def jn_wd {P:Str->Prop}{rs:List Rw}(h:∀r∈rs,P r.2.2):∀r∈jn rs,P r.2.2:=by
 have one:∀(a:List Rw)(r:Rw),(∀t∈a,P t.2.2)->P r.2.2->∀t∈jn1 a r,P t.2.2:=λa r b d=>by
  rcases BD a with rfl|⟨rs,t,rfl⟩
  .intro z hz;have:z=r:=by simpa [jn1] using hz
   rw[this];exact d
  .rw[B4]at b |-;rw[qeb];intro z hz;split at hz
   .rcases Az.mp hz with hz|hz
    .exact b z (B7 _ hz)
    .rw[Aj.mp hz];exact d
   .rcases Az.mp hz with hz|hz
    .exact b z hz
    .rw[Aj.mp hz];exact d
 have step:∀(c a:List Rw),(∀r∈c,P r.2.2)->(∀r∈a,P r.2.2)->∀r∈c.foldl jn1 a,P r.2.2:=by
  intro c
  induction c with
  |nil=>intro a _ b;exact b
  |cons r c ih=>intro a e b;exact ih _ (λs f=>e s (Ay _ f)) (one _ _ b (e r Am))
 exact step rs [] h λ_ h=>absurd h AB
def ov_wd {P:Str->Prop}{rs:List Rw}(h:∀r∈rs,P r.2.2):∀r∈ov rs,P r.2.2:=jn_wd (lay_wd h)
def tb_some {bs:List Bool}{rs:List Rw}{n:Int}{r:Rw}(h:Dis rs)(e:rs[cnt (ends rs) n]?=some r)(c:r.1<n):qc6 bs n+((rs.take (cnt (ends rs) n)).map λr=>shf bs r (r.2.1+1)).sum+shf bs r n=qbe bs rs n:=by have z:=qit bs n h;rw[e]at z;dsimp only at z;rw[if_pos c]at z;unfold qbe;rw[<- z,Int.add_assoc]
def tb_late {bs:List Bool}{rs:List Rw}{n:Int}{r:Rw}(h:Dis rs)(e:rs[cnt (ends rs) n]?=some r)(c:¬r.1<n):qc6 bs n+((rs.take (cnt (ends rs) n)).map λr=>shf bs r (r.2.1+1)).sum=qbe bs rs n:=by have z:=qit bs n h;rw[e]at z;dsimp only at z;rw[if_neg c,Cn]at z;unfold qbe;rw[<- z]
def tb_none {bs:List Bool}{rs:List Rw}{n:Int}(h:Dis rs)(e:rs[cnt (ends rs) n]?=none):qc6 bs n+((rs.take (cnt (ends rs) n)).map λr=>shf bs r (r.2.1+1)).sum=qbe bs rs n:=by have z:=qit bs n h;rw[e]at z;dsimp only at z;rw[Cn]at z;unfold qbe;rw[<- z]
def spTBef (a:Adr):Sp:=λvs H Q _=>∃(x:Addr)(bs:List Bool)(rs:List Rw)(n:Int),vs=[.ref x,.int n]/\TabAt a.kH a.kG H x bs rs/\Ap rs/\(∀r∈rs,0<=r.1)/\0<=n/\∀H',Same H H'->Q (.int (qbe bs rs n)) H'
def way (ns:List Int):Int:=cell ns 8 / 13 % 6
def useP {p G:Hp->Prop}{R:Prop}(m:(∀F,p F->G F)->R)(l:∀F,p F->G F):R:=m l
theorem qg9 {bs:List Bool}(a:bs.length=371):∀{n k:Nat},k<=n->n<=371->opn bs k<=opn bs n
 |0,k,h,_=>by rw[Nat.le_zero.mp h];exact Bb _
 |n+1,k,h,h2=>by
  by_cases e:k=n+1
  .rw[e];exact Bb _
  .have:=qg9 a (n:=n) (k:=k) (by lia) (by lia);have st:=qgs a (k:=n) (by lia);split at st <;>lia
def qq4 (bs:List Bool):opn bs 0=0:=by unfold opn;rfl
theorem qt4 {bs:List Bool}(a:bs.length=371){i:Int}(b:0<=i):∀{n:Nat},n<=371->i<opn bs n->∃w<n,opn bs w=i/\bs.getD w true=false
 |0,_,h=>by rw[qq4]at h;lia
 |n+1,hn,h=>by
  by_cases c:i<opn bs n
  .obtain⟨w,w1,d⟩:=qt4 a b (n:=n) (by lia) c;exact⟨w,by lia,d⟩
  .have st:=qgs a (k:=n) (by lia);cases e:bs.getD n true with|true=>rw[e,if_pos Z]at st;lia|false=>rw[e,if_neg Ud]at st;exact⟨n,by lia,by lia,e⟩
theorem qyb {bs:List Bool}(a:bs.length=371):∀{n:Nat},n<=371->((((Aq n).filter λi=>!(bs.getD i true)).length:Nat):Int)=opn bs n
 |0,_=>by rw[qq4];rfl
 |n+1,h=>by
  have ih:=qyb a (n:=n) (by lia);have st:=qgs a (k:=n) (by lia);rw[Bv,Ck,Af];cases e:bs.getD n true with|true =>rw[e,if_pos Z]at st;have:([n].filter λi=>!(bs.getD i true))=[]:=CS (by rw[e];decide);rw[this];simp only[Ea];lia|false =>rw[e,if_neg Ud]at st;have:([n].filter λi=>!(bs.getD i true))=[n]:=Cs (by rw[e];rfl);rw[this];simp only[AU];lia
theorem od_at {bs:List Bool}(b:bs.length=371){w:Nat}(c:bs.getD w true=false):∀{n:Nat},n<=371->w<n->((Aq n).filter λi=>!(bs.getD i true))[(opn bs w).toNat]?=some w
 |0,_,h=>absurd h (B0 _)
 |n+1,hn,h=>by
  rw[Bv,Ck];by_cases e:w=n
  .subst e;have ll:=qyb b (n:=w) (by lia);have:([w].filter λi=>!(bs.getD i true))=[w]:=Cs (by rw[c];rfl);rw[this,AK (by lia),show (opn bs w).toNat-((Aq w).filter λi=>!(bs.getD i true)).length=0 by lia];rfl
  .have a:=od_at b c (n:=n) (by lia) (by lia);rw[AI (Ac.mp a).1];exact a
def odL_at {bs:List Bool}(a:bs.length=371){w:Nat}(h:w<371)(b:bs.getD w true=false):(odL bs)[(opn bs w).toNat]?=some (w:Int):=by unfold odL;rw[a,Ah,od_at a b (Al _) h];rfl
def qyc {bs:List Bool}(hl:bs.length=371)(y:Int):pby bs (y+1)=pby bs y+opn bs (7*wk y).toNat:=by
 rw[qq3];rcases (by have:=qog y;lia:wk y=52\/wk y=53) with w|w
 .rw[w,show (52:Int)-52=0 from Z,Int.zero_mul,show ((7:Int)*52).toNat=364 from Z,Cn]
 .rw[w,show (53:Int)-52=1 from Z,Int.one_mul,show ((7:Int)*53).toNat=371 from Z];lia
def pby_lt {bs:List Bool}(b:bs.length=371)(ho:0<opn bs 364)(y:Int):pby bs y<pby bs (y+1):=by have a:=qog y;have m:=qg9 b (k:=364) (n:=(7*wk y).toNat) (by lia) (by lia);rw[qyc b];lia
def pby_17 (bs:List Bool)(k:Int):pby bs (17*k)=k*pby bs 17:=by
 have e:lb (17*k)=3*k:=by unfold lb;lia
 have a:lb 17=3:=by decide
 unfold pby
 rw[e,a,Int.mul_add,<- Int.mul_assoc,<- Int.mul_assoc,Int.mul_comm k 17,Int.mul_comm k 3]
def pby_17B {bs:List Bool}(d:bs.length=371)(ho:0<opn bs 364):0<pby bs 17/\pby bs 17<1073741824:=by
 have c:lb 17=3:=by decide
 have a:=qjj bs 364;have b:=qjj bs 371;have m:=qg9 d (k:=364) (n:=371) (by lia) (by lia);unfold pby
 rw[c];lia
def pn_day {bs:List Bool}(b:bs.length=371){m y:Int}(g:0<=y)(h1:pby bs y<=m)(h:m<pby bs (y+1)):∃w:Nat,(odL bs)[(m-pby bs y).toNat]?=some (w:Int)/\0<=7*fw y+(w:Int)/\bs.getD (doy (7*fw y+(w:Int))).toNat true=false/\qc6 bs (7*fw y+(w:Int))=m:=by
 rw[qyc b]at h;have a:=qog y;have f0:=fw_nn g;obtain⟨w,w1,e,c⟩:=qt4 b (i:=m-pby bs y) (by lia) (n:=(7*wk y).toNat) (by lia) (by lia);have d:0<=7*fw y+(w:Int)-7*fw y:=by lia
 have f:7*fw y+(w:Int)-7*fw y<7*wk y:=by lia
 refine⟨w,?_,by lia,?_,?_⟩
 .rw[<- e];exact odL_at b (by lia) c
 .rw[qsv d f,show (7*fw y+(w:Int)-7*fw y).toNat=w by lia];exact c
 .rw[qis bs d f,show (7*fw y+(w:Int)-7*fw y).toNat=w by lia,e];lia
structure Cnt (f:Int->Int)(g:Int->Bool):Prop where
 st:∀n,0<=n->f (n+1)=f n+(if g n=true then 0 else 1)
theorem Cnt.mono {f:Int->Int}{g:Int->Bool}(c:Cnt f g){n:Int}(a:0<=n):∀k:Nat,f n<=f (n+k)
 |0=>by rw[DQ,Cn];exact Bb _
 |k+1=>by have ih:=c.mono a k;have s:=c.st (n+k) (by lia);rw[show n+((k+1:Nat):Int)=n+k+1 by lia,s];split <;>lia
def Cnt.le {f:Int->Int}{g:Int->Bool}(c:Cnt f g){n m:Int}(a:0<=n)(h:n<=m):f n<=f m:=by
 have:=c.mono a (m-n).toNat
 rwa [show n+((m-n).toNat:Int)=m by lia]at this
def Cnt.lt {f:Int->Int}{g:Int->Bool}(c:Cnt f g){n m:Int}(a:0<=m)(h:f n<f m):n<m:=by
 by_cases z:n<m
 .exact z
 .have:=c.le a (BC.mp z);lia
def Cnt.ge {f:Int->Int}{g:Int->Bool}(c:Cnt f g){n d:Int}(a:0<=d)(o:g d=false)(h:f n<=f d):n<=d:=by
 by_cases z:n<=d
 .exact z
 .have s:=c.st d a;rw[o,if_neg Ud]at s;have:=c.le (n:=d+1) (m:=n) (by lia) (by lia);lia
def Cnt.free {f:Int->Int}{g:Int->Bool}(c:Cnt f g){n d e:Int}(i:0<=n)(h:f d=f n)(j:n<=e)(h2:e<d):g e=true:=by
 cases o:g e with|true=>rfl|false =>have s:=c.st e (by lia);rw[o,if_neg Ud]at s;have a:=c.le i j;have b:=c.le (n:=e+1) (m:=d) (by lia) (by lia);lia
def pcnt {bs:List Bool}(a:bs.length=371):Cnt (qc6 bs) (λn=>bs.getD (doy n).toNat true):=⟨λ_ h=>qjz a h⟩
def qyd {bs:List Bool}{rs:List Rw}(a:bs.length=371)(c:Ap rs)(b:∀r∈rs,r.2.2=Aa "free" \/ r.2.2=Aa "open"):Cnt (qbe bs rs) (tfr bs rs):=⟨λ_ h=>qt3 a h (qhv c) b⟩
theorem qmm {bs:List Bool}{n:Int}{suf:List Rw}:∀{pre:List Rw},(∀r∈pre,r.2.1<n)->tbR bs (pre++suf) n=(pre.map λr=>shf bs r (r.2.1+1)).sum+tbR bs suf n
 | [],_=>(BX _).symm
 |r::pre,h=>by have a:=qmm (bs:=bs) (suf:=suf) (pre:=pre) λs b=>h s (Ay _ b);show (if r.2.1<n then shf bs r (r.2.1+1)+tbR bs (pre++suf) n else _)=_;rw[if_pos (h r Am),a,Bc,List.sum_cons,Int.add_assoc]
theorem qsw {bs:List Bool}{n:Int}{suf:List Rw}:∀{pre:List Rw},Dis (pre++suf)->(∀r∈pre,r.2.1<n)->tfr bs (pre++suf) n=tfr bs suf n
 | [],_,_=>rfl
 |r::pre,d,h=>by have a:=qsw (bs:=bs) (suf:=suf) (pre:=pre) d.tail λs b=>h s (Ay _ b);show tfr bs (r::(pre++suf)) n=_;have d':Dis (r::(pre++suf)):=d;rw[qiu d',if_pos (h r Am),a]
def qpj {bs:List Bool}{n:Int}{suf:List Rw}(h:∀r∈suf,n<=r.1)(ok:∀r∈suf,r.1<=r.2.1):tbR bs suf n=0:=qph h ok
def tf_gap {bs:List Bool}{n:Int}{suf:List Rw}(d:Dis suf)(h:∀r∈suf,n<r.1):tfr bs suf n=bs.getD (doy n).toNat true:=by
 cases suf with|nil=>rfl|cons r suf =>have a:=h r Am;have b:=d.ok r Am;rw[qiu d,if_neg (by lia),if_neg (by lia)]
theorem gap_day {bs:List Bool}{pre suf:List Rw}{m d lo:Int}(x:bs.length=371)(D:Dis (pre++suf))(h0:0<=lo)(k:∀r∈pre,r.2.1<lo)(j:∀r∈suf,lo<=r.1)(u:qbe bs (pre++suf) lo<=m)(i:∀r∈suf,m<qbe bs (pre++suf) r.1)
  (t:0<=d)(h:bs.getD (doy d).toNat true=false)(o:qc6 bs d=m-(pre.map λr=>shf bs r (r.2.1+1)).sum):tfr bs (pre++suf) d=false/\qbe bs (pre++suf) d=m:=by
 have b:Dis suf:=⟨λr a=>D.ok r (A3 _ a),(Bm.mp D.pw).2.1⟩;have P:=pcnt x;have c:∀n,lo<=n->(∀r∈suf,n<=r.1)->qbe bs (pre++suf) n=qc6 bs n+(pre.map λr=>shf bs r (r.2.1+1)).sum:=λn v l=>by unfold qbe;rw[qmm (λr a=>Bf (k r a) v),qpj l b.ok,Cn]
 rw[c lo (Bb _) j]at u;have f:lo<=d:=P.ge t h (by lia);have e:∀r∈suf,d<r.1:=λr a=>by
  have z:=i r a;cases suf with
  |nil=>cases a
  |cons s suf =>
   have w:=i s Am;have p:=j s Am;rw[c s.1 p (λq g=>by
    rcases Aw.mp g with rfl|g
    .exact Bb _
    .have:=(b.later g).1;have:=b.ok s Am;lia)]at w
   have ds:d<s.1:=P.lt (by lia) (by lia);rcases Aw.mp a with rfl|a
   .exact ds
   .have:=(b.later a).1;have:=b.ok s Am;lia
 refine⟨?_,?_⟩
 .rw[qsw D (λr a=>Bf (k r a) f),tf_gap b e];exact h
 .rw[c d f (λr a=>Do (e r a)),o];lia
theorem row_day {bs:List Bool}{pre suf:List Rw}{r:Rw}{m:Int}(D:Dis (pre++r::suf))(l:r.2.2=Aa "free" \/ r.2.2=Aa "open")(b0:qbe bs (pre++r::suf) r.1<=m)(b1:m<qbe bs (pre++r::suf) (r.2.1+1)) :
  r.1<=r.1+m-qbe bs (pre++r::suf) r.1/\tfr bs (pre++r::suf) (r.1+m-qbe bs (pre++r::suf) r.1)=false/\qbe bs (pre++r::suf) (r.1+m-qbe bs (pre++r::suf) r.1)=m:=by
 have b:Dis (r::suf):=⟨λq a=>D.ok q (A3 _ a),(Bm.mp D.pw).2.1⟩;have ok:=b.ok r Am;have i:∀n,r.1<=n->∀q∈pre,q.2.1<n:=λn z q a=>Bf ((Bm.mp D.pw).2.2 q a r Am) z;have at0:qbe bs (pre++r::suf) r.1=qc6 bs r.1+(pre.map λr=>shf bs r (r.2.1+1)).sum:=by
  unfold qbe;rw[qmm (i _ (Bb _)),qpj (λq a=>by
   rcases Aw.mp a with rfl|a
   .exact Bb _
   .have:=(b.later a).1;lia) b.ok,Cn]
 have d:∀n,r.1<=n->n<=r.2.1+1->qbe bs (pre++r::suf) n=qc6 bs n+((pre.map λr=>shf bs r (r.2.1+1)).sum+shf bs r n):=λn p z2=>by
  unfold qbe;rw[qmm (i n p)];show _+(_+(if r.2.1<n then shf bs r (r.2.1+1)+tbR bs suf n else if r.1<n then shf bs r n else 0))=_;by_cases c:r.2.1<n
  .rw[if_pos c,qpj (λq a=>by have:=(b.later a).1;lia) b.tail.ok,show r.2.1+1=n by lia,Cn]
  .rw[if_neg c];by_cases j:r.1<n
   .rw[if_pos j]
   .rw[if_neg j,show n=r.1 by lia,qol]
 have g:∀n,qc6 bs n+shf bs r n=qc6 bs r.1+(if r.2.2=Aa "open" then n-r.1 else 0):=λn=>by unfold shf;lia
 have e:r.2.2=Aa "open" := by
  rcases l with z|z
  .have o:=d (r.2.1+1) (by lia) (Bb _);have h:=g (r.2.1+1);rw[if_neg (by rw[z];decide +kernel)]at h;lia
  .exact z
 have o:=d (r.2.1+1) (by lia) (Bb _);have h:=g (r.2.1+1);rw[if_pos e]at h;have f:r.1<=r.1+m-qbe bs (pre++r::suf) r.1:=by lia
 have n1:r.1+m-qbe bs (pre++r::suf) r.1<=r.2.1:=by lia
 refine⟨f,?_,?_⟩
 .rw[qsw D (i _ f),qiu b,if_neg (by lia),if_pos f,e];exact decide_eq_false Uk
 .have k:=g (r.1+m-qbe bs (pre++r::suf) r.1);rw[if_pos e]at k;rw[d _ f (by lia)];lia
theorem qt5 {js:List Nat}{c0:Int}(nd:js.Nodup):∀{is:List (Int×Int)},(∀i∈is,i.2<i.1+42)->is.length<js.length->∃j∈js,∀i∈is,¬(i.1<=c0+42*(j:Int)/\c0+42*(j:Int)<=i.2):=by
 intro is
 induction is generalizing js with
 |nil =>intro _ h;obtain⟨j,c⟩:=List.exists_mem_of_length_pos (CZ (AS _) h);exact⟨j,c,λi g=>absurd g AB⟩
 |cons i is ih =>
  intro h t;have g:=h i Am;let p:Nat->Bool:=λj=>!(decide (i.1<=c0+42*(j:Int)) && decide (c0+42*(j:Int)<=i.2));have n:∀{j:Nat},p j=false->i.1<=c0+42*(j:Int)/\c0+42*(j:Int)<=i.2:=λ{j} z=>by have z:(!(decide (i.1<=c0+42*(j:Int)) && decide (c0+42*(j:Int)<=i.2)))=false:=z;rw[Bool.not_eq_false',By,decide_eq_true_iff,decide_eq_true_iff]at z;exact z
  have l:∀{ks:List Nat},ks.Nodup->ks.length<=(ks.filter p).length+1:=λ{ks} f=>by
   induction ks with
   |nil=>exact AS _
   |cons k ks ik =>
    rw[Cv]at f;cases e:p k with
    |true =>rw[Cs e,AD,AD];have:=ik f.2;lia
    |false =>
     rw[CS (by rw[e];decide),AD];have all:ks.filter p=ks:=List.filter_eq_self.mpr λj c=>by
      cases s:p j with
      |true=>rfl
      |false =>
       have a:=n e;have b:=n s;have:j=k:=by lia
       rw[this]at c;exact absurd c f.1
     rw[all];exact Al _
  have:=l nd;rw[AD]at t;obtain⟨j,c,o⟩:=ih (js:=js.filter p) (nd.filter p) (λq d=>h q (Ay _ d)) (by lia);obtain⟨r,m⟩:=BW.mp c;refine⟨j,r,λq d=>?_⟩;rcases Aw.mp d with rfl|d
  .intro z;have:p j=false:=by show (!(decide (q.1<=c0+42*(j:Int)) && decide (c0+42*(j:Int)<=q.2)))=false;rw[decide_eq_true z.1,decide_eq_true z.2];rfl
   rw[this]at m;cases m
  .exact o q d
theorem qt6:∀{xs ys:List Int},xs.Nodup->(∀x∈xs,x∈ys)->xs.length<=ys.length
 | [],_,_,_=>AS _
 |x::xs,ys,nd,h=>by rw[Cv]at nd;have b:=h x Am;have:=qt6 (xs:=xs) (ys:=ys.erase x) nd.2 λy a=>(List.mem_erase_of_ne (λz:y=x=>nd.1 (by rw[<- z];exact a))).mpr (h y (Ay _ a));rw[List.length_erase_of_mem b]at this;have p:0<ys.length:=List.length_pos_of_mem b;rw[AD];lia
def qt7 {wk:List Int}(ok:OkW wk):∃w:Int,0<=w/\w<7/\wk.contains (w+1)=false:=by
 by_cases h:∃w:Int,0<=w/\w<7/\wk.contains (w+1)=false
 .exact h
 .exfalso;have all:∀x∈[(1:Int),2,3,4,5,6,7],x∈wk:=λx a=>by
   have b:1<=x/\x<=7:=by simp only[Aw,AB,or_false]at a;lia
   cases e:wk.contains x with|true=>exact CB.mp e|false=>exact absurd ⟨x-1,by lia,by lia,by rw[show x-1+1=x by lia];exact e⟩ h
  have:=qt6 Ud all;have:=ok.len;simp only[AD,Ea]at *;lia
def qt8 {wk:List Int}{yr:List S2}{i w:Int}(a:wk.contains (w+1)=false)(e:i % 7=w)(h:∀r∈yr,¬(r.1<=i/\i<=r.2)):fy wk yr i=false:=by unfold fy;rw[e,a,DR,inB_any,List.any_eq_false];intro r b;rw[By,decide_eq_true_iff,decide_eq_true_iff];exact h r b
def qye {wk:List Int}{yr:List S2}(e:OkW wk)(c:OkY yr):0<opn (fdL wk yr) 364:=by
 obtain⟨w,w0,w1,m⟩:=qt7 e;obtain⟨j,d,l⟩:=qt5 (js:=Aq 5) (c0:=w) Dq (is:=yr) (λr h=>by have:=c.rng r h;lia) (by have:=c.len;rw[As];lia);have d:=AV.mp d;have f:=qfo wk yr;have o:=qt8 (yr:=yr) (i:=w+42*(j:Int)) m (by lia) l;have hk:(w+42*(j:Int)).toNat<364:=by lia
 have g:(fdL wk yr).getD (w+42*(j:Int)).toNat true=false:=by unfold fdL;rw[Ak,Ah,AX (by lia)];show fy wk yr ((w+42*(j:Int)).toNat:Int)=false;rw[C3 (by lia)];exact o
 have st:=qgs f (k:=(w+42*(j:Int)).toNat) (by lia);rw[g,if_neg Ud]at st;have a:=qg9 f (k:=(w+42*(j:Int)).toNat+1) (n:=364) (by lia) (by lia);have b:=qjj (fdL wk yr) (w+42*(j:Int)).toNat;lia
def qv4 {rs:List Rw}{n:Int}(h:∀r∈rs,¬(r.1<=n/\n<=r.2.1)):qbd (Aa "") rs n=Aa "" := by
 unfold qbd;have:∀(b:List Rw)(a:Str),(∀r∈b,¬(r.1<=n/\n<=r.2.1))->b.foldl (λa r=>if r.1<=n/\n<=r.2.1 then r.2.2 else a) a=a:=by
  intro b
  induction b with
  |nil=>intro a _;rfl
  |cons r b ih=>intro a z;rw[List.foldl_cons,if_neg (z r Am)];exact ih a λq c=>z q (Ay _ c)
 exact this rs _ h
def qv5 {wk:List Int}{yr:List S2}{rs:List Rw}(m:OkW wk)(f:OkY yr)(hl:rs.length<=12)(h:∀r∈rs,OkR r){n:Int}(h0:0<=n):∃e,n<=e/\e<=n+2000/\lfr wk yr rs e=false:=by
 obtain⟨w,w0,w1,s⟩:=qt7 m;obtain⟨c0,c1,c2,c3⟩:∃c0:Int,n<=c0/\c0<=n+6/\c0 % 7=w:=⟨n+(w-n % 7) % 7,by lia,by lia,by lia⟩;let Y:=yo (c0 / 7);let is:List (Int×Int):=(rs.map λr=>(r.1,r.2.1))++(Aq 7).flatMap λ(k:Nat)=>yr.map λr=>(7*fw (Y+(k:Int))+r.1,7*fw (Y+(k:Int))+r.2);have x:is.length<48:=by
  have a:((Aq 7).flatMap λ(k:Nat)=>yr.map λr=>(7*fw (Y+(k:Int))+r.1,7*fw (Y+(k:Int))+r.2)).length=7*yr.length:=by rw[List.length_flatMap];simp only[Ab,List.map_const',As,List.sum_replicate_nat]
  have b:=f.len;show ((rs.map λr=>(r.1,r.2.1))++_).length<48;rw[Af,Ab,a];lia
 obtain⟨j,l,g⟩:=qt5 (js:=Aq 48) (c0:=c0) Dq (is:=is) (λi o=>by
  rcases Az.mp o with z|z
  .obtain⟨r,d,rfl⟩:=Bd.mp z;have:=(h r d).2.2.1;show r.2.1<r.1+42;lia
  .obtain⟨k,_,z⟩:=List.mem_flatMap.mp z;obtain⟨r,d,rfl⟩:=Bd.mp z;have:=f.rng r d;show 7*fw (Y+(k:Int))+r.2<7*fw (Y+(k:Int))+r.1+42;lia) (by rw[As];exact x)
 have l:=AV.mp l;refine⟨c0+42*(j:Int),by lia,by lia,?_⟩;generalize ec:c0+42*(j:Int)=c at g;have u:∃k:Nat,k<7/\yo (c / 7)=Y+(k:Int):=by
  have v:=lies (c0 / 7);have y:=lies (c / 7);have:yo (c0 / 7)<=yo (c / 7)/\yo (c / 7)<yo (c0 / 7)+7:=by unfold fw at v y;lia
  exact⟨(yo (c / 7)-yo (c0 / 7)).toNat,by lia,by show yo (c / 7)=yo (c0 / 7)+_;lia⟩
 obtain⟨k,t,q⟩:=u;unfold lfr;rw[qv4 (λr d z=>g (r.1,r.2.1) (B7 _ (Bd.mpr ⟨r,d,Z⟩)) z),if_pos Z];refine qt8 s (by rw[doy_mod];lia) λr d z=>?_;have p:doy c=c-7*fw (Y+(k:Int)):=by unfold doy;rw[q]
 rw[p]at z;exact g (7*fw (Y+(k:Int))+r.1,7*fw (Y+(k:Int))+r.2) (A3 _ (List.mem_flatMap.mpr ⟨k,AV.mpr t,Bd.mpr ⟨r,d,Z⟩⟩)) ⟨by show _<=c;lia,by show c<=_;lia⟩
def lo (rs:List Rw):Nat->Int
 |0=>0
 |i+1=>match rs[i]? with|some r=>r.2.1+1|none=>0
def qt9 {rs:List Rw}{i:Nat}{r:Rw}(h:rs[i]?=some r):lo rs (i+1)=r.2.1+1:=by show (match rs[i]? with|some r=>r.2.1+1|none=>0)=_;rw[h]
theorem lo_ok {rs:List Rw}(D:Dis rs)(h:∀r∈rs,0<=r.1){i:Nat}(k:i<=rs.length):0<=lo rs i/\(∀r∈rs.take i,r.2.1<lo rs i)/\∀r∈rs.drop i,lo rs i<=r.1:=by
 cases i with
 |zero=>exact⟨Bb _,λr c=>absurd c (by rw[DH];exact AB),λr c=>h r (by rwa [List.drop_zero]at c)⟩
 |succ i =>
  have d:i<rs.length:=k;have e:=Ae d;rw[qt9 e];have m:=BI d;have a:=h _ m;have b:=D.ok _ m;have pw:=Bh.mp D.pw;refine⟨by lia,λr c=>?_,λr c=>?_⟩
  .obtain⟨j,g,f⟩:=C0 c;rw[Bj]at g;rw[Eu]at f;by_cases z:j=i
   .subst z;rw[<- f];lia
   .have:=pw j i (by lia) d (by lia);rw[f]at this;lia
  .obtain⟨j,g,f⟩:=C0 c;rw[BL]at g;rw[List.getElem_drop]at f;have:=pw i (i+1+j) d (by lia) (by lia);rw[f]at this;lia
theorem qua {bs:List Bool}{rs:List Rw}{i:Nat}{m:Int}(g:bs.length=371)(b:Ap rs)(o:∀r∈rs,0<=r.1)(h:i<=rs.length)(s:qbe bs rs (lo rs i)<=m)(l:∀r∈rs.drop i,m<qbe bs rs r.1) :
  0<=m-((rs.take i).map λr=>shf bs r (r.2.1+1)).sum/\∀d,0<=d->bs.getD (doy d).toNat true=false->qc6 bs d=m-((rs.take i).map λr=>shf bs r (r.2.1+1)).sum->tfr bs rs d=false/\qbe bs rs d=m:=by
 obtain⟨c,f,a⟩:=lo_ok (qhv b) o h;have D:=qhv b;have e:=Ci i rs;refine⟨?_,λd q t k=>?_⟩
 .have z:qbe bs (rs.take i++rs.drop i) (lo rs i)=qc6 bs (lo rs i)+((rs.take i).map λr=>shf bs r (r.2.1+1)).sum:=by
   unfold qbe
   rw[qmm f,qpj a (λr j=>D.ok r (List.mem_of_mem_drop j)),Cn]
  rw[e]at z
  have p:=(pcnt g).le (n:=0) (m:=lo rs i) (Bb _) c
  rw[qok]at p
  lia
 .have:=gap_day (pre:=rs.take i) (suf:=rs.drop i) (m:=m) (d:=d) (lo:=lo rs i) g (by rw[e];exact D) c f a (by rw[e];exact s) (by rw[e];exact l) q t k;rw[e]at this;exact this
def qv6 {rs:List Rw}{i:Nat}{r:Rw}(D:Dis rs)(h:rs[i]?=some r):∀q∈rs.drop i,r.1<=q.1:=λq c=>by
 obtain⟨b,e⟩:=Ac.mp h;obtain⟨j,d,a⟩:=C0 c;rw[BL]at d;rw[List.getElem_drop]at a;by_cases z:j=0
 .subst z;rw[<- a,<- e];exact Bb _
 .have p:=Bh.mp D.pw i (i+j) b (by lia) (by lia);rw[a,e]at p;have:=D.ok r (A4 h);lia
theorem row_use {bs:List Bool}{rs:List Rw}{i:Nat}{r:Rw}{m:Int}(f:Ap rs)(h:rs[i]?=some r)(g:r.2.2=Aa "free" \/ r.2.2=Aa "open")(a:qbe bs rs r.1<=m)(b:m<qbe bs rs (r.2.1+1)) :
  r.1<=r.1+m-qbe bs rs r.1/\tfr bs rs (r.1+m-qbe bs rs r.1)=false/\qbe bs rs (r.1+m-qbe bs rs r.1)=m:=by
 obtain⟨c,e⟩:=Ac.mp h;have d:rs=rs.take i++r::rs.drop (i+1):=by rw[<- e,<- Ch c,Ci]
 have D:=qhv f;rw[d]at D a b |-;exact row_day D g a b
def cnt_one {f:Int->Int}{g:Int->Bool}(c:Cnt f g){d e:Int}(j:0<=d)(i:0<=e)(l:g d=false)(k:g e=false)(h:f d=f e):d=e:=by have a:=c.ge j l (n:=e) (by lia);have b:=c.ge i k (n:=d) (by lia);lia
def WdO (rs:List Rw):Prop:=∀r∈rs,r.2.2=Aa "free" \/ r.2.2=Aa "open"
def spYw (a:Adr):Sp:=λvs H Q _=>∃(x:Addr)(bs:List Bool)(m:Int),vs=[.ref x,.int m]/\PatAt a.kH H x bs/\0<=m/\0<opn bs 364/\∀y:Int,0<=y->pby bs y<=m->m<pby bs (y+1)->Q (.int y) H
def spPNth (a:Adr):Sp:=λvs H Q _=>∃(x:Addr)(bs:List Bool)(m:Int),vs=[.ref x,.int m]/\PatAt a.kH H x bs/\0<=m/\0<opn bs 364/\∀d:Int,0<=d->bs.getD (doy d).toNat true=false->qc6 bs d=m->Q (.int d) H
def spTNth (a:Adr):Sp:=λvs H Q _=>∃(x:Addr)(bs:List Bool)(rs:List Rw)(m:Int),vs=[.ref x,.int m]/\TabAt a.kH a.kG H x bs rs/\Ap rs/\(∀r∈rs,0<=r.1)/\WdO rs/\0<opn bs 364/\0<=m/\∀(d:Int)(H':Hp),Same H H'->0<=d->tfr bs rs d=false->qbe bs rs d=m->Q (.int d) H'
def spTNext (a:Adr):Sp:=λvs H Q _=>∃(x:Addr)(bs:List Bool)(rs:List Rw)(n:Int),vs=[.ref x,.int n]/\TabAt a.kH a.kG H x bs rs/\Ap rs/\(∀r∈rs,0<=r.1)/\WdO rs/\0<opn bs 364/\0<=n/\∀(d:Int)(H':Hp),Same H H'->0<=d->tfr bs rs d=false->qbe bs rs d=qbe bs rs n->Q (.int d) H'
def wd_ov {rs:List Rw}(a:∀r∈rs,OkR r):WdO (ov rs):=ov_wd (P:=λw=>w=Aa "free" \/ w=Aa "open") λr b=>(a r b).2.2.2
abbrev kC (a:Adr):Three->Addr:=qcq a.kN a.kQ a.kM
noncomputable abbrev kfs (tb:Addr):List (Str×V):=[(Aa "table",.ref tb)]
def spKInit (a:Adr):Sp:=λvs H Q _=>∃(i:Three)(x dx tb:Addr),vs=[.ref x,.ref tb]/\H x=some (.ins (kC a i) dx [])/\Q .non (upd H x (.ins (kC a i) dx (kfs tb)))
def qgt (g:Int->V):Sp:=λvs H Q _=>∃(x:Addr)(u:Int),vs=[.ref x,.int u]/\Q (g u) H
def qe6 (g:Int->Int->V):Sp:=λvs H Q _=>∃(x:Addr)(u v:Int),vs=[.ref x,.int u,.int v]/\Q (g u v) H
def qub (a:Adr)(H:Hp)(x:Addr)(bs:List Bool)(rs:List Rw):Prop:=∃(dx tb:Addr),H x=some (.ins a.kM dx (kfs tb))/\TabAt a.kH a.kG H tb bs rs
structure TabOk (bs:List Bool)(rs:List Rw):Prop where
 hl:bs.length=371
 ap:Ap rs
 nn:∀r∈rs,0<=r.1
 wd:WdO rs
 op:0<opn bs 364
def qyf (a:Adr):Sp:=λvs H Q _=>∃(x:Addr)(bs:List Bool)(rs:List Rw)(f l:Int),vs=[.ref x,.int f,.int l]/\qub a H x bs rs/\TabOk bs rs/\0<=f/\∀H',Same H H'->Q (.int (if l<f then 0 else qbe bs rs (l+1)-qbe bs rs f)) H'
def qmn (a:Adr):Sp:=λvs H Q _=>∃(x:Addr)(bs:List Bool)(rs:List Rw)(f m:Int),vs=[.ref x,.int f,.int m]/\qub a H x bs rs/\TabOk bs rs/\0<=f/\1<=m/\∀(d:Int)(H':Hp),Same H H'->0<=d->tfr bs rs d=false->qbe bs rs d=qbe bs rs f+m-1->Q (.int d) H'
def qkm:Three->Str:=qcq (Aa "days") (Aa "weeks") (Aa "court")
def spKind (a:Adr):Sp:=λvs H Q _=>∃(i:Three)(tb:Addr),vs=[.str (qkm i),.ref tb]/\∀(x dx:Addr)(H':Hp),Same H H'->H x=none->H' x=some (.ins (kC a i) dx (kfs tb))->Q (.ref x) H'
def qmo {H:Hp}{x a C tb:Addr}(nx:H x=none)(nd:H a=none):Same H (upd (upd (upd H a (.own x)) x (.ins C a [])) x (.ins C a (kfs tb))):=λb u e=>by rw[qr (qag e nx)];exact qjy nx nd b u e
structure PartsOk (wk:List Int)(yr:List S2)(rs:List Rw):Prop where
 w:OkW wk
 y:OkY yr
 l:rs.length<=12
 r:∀r∈rs,OkR r
def PartsOk.tab {wk:List Int}{yr:List S2}{rs:List Rw}(h:PartsOk wk yr rs):TabOk (fdL wk yr) (ov rs):=⟨qfo wk yr,ov_ap h.r,ov_nn λr a=>(h.r r a).1,wd_ov h.r,qye h.w h.y⟩
def kf (bs:List Bool)(rs:List Rw):Three->Int->Bool:=qcq (λ_=>false) (λ_=>false) (tfr bs rs)
def kb (bs:List Bool)(rs:List Rw):Three->Int->Int:=qcq (λd=>d) (λd=>d) (qbe bs rs)
def kcnt {bs:List Bool}{rs:List Rw}(ok:TabOk bs rs):∀i,Cnt (kb bs rs i) (kf bs rs i):=qf7 ⟨λ_ _=>rfl⟩ ⟨λ_ _=>rfl⟩ (qyd ok.hl ok.ap ok.wd)
def KindAt (a:Adr)(H:Hp)(x:Addr)(i:Three)(bs:List Bool)(rs:List Rw):Prop:=∃(dx tb:Addr),H x=some (.ins (kC a i) dx (kfs tb))/\TabAt a.kH a.kG H tb bs rs
def KindAt.same {a:Adr}{H H':Hp}{x:Addr}{i:Three}{bs:List Bool}{rs:List Rw}(h:KindAt a H x i bs rs)(s:Same H H'):KindAt a H' x i bs rs:=by obtain⟨b,tb,d,c⟩:=h;exact⟨b,tb,s _ _ d,c.same s⟩
section
variable {a:Adr}{i:Three}{H:Hp}{x:Addr}{bs:List Bool}{rs:List Rw}{Q:VK}{E:XK}
def qyg (f l:Int):(if l-f+1 > 0 then l-f+1 else 0)=if l<f then 0 else l+1-f:=by split <;>split <;>lia
theorem kin {f l:Int}(h:KindAt a H x i bs rs)(ok:TabOk bs rs)(d:0<=f)(k:∀H',Same H H'->Q (.int (if l<f then 0 else kb bs rs i (l+1)-kb bs rs i f)) H') :
  qcq (qe6 λf l=>.int (if l-f+1 > 0 then l-f+1 else 0)) (qe6 λf l=>.int (if l-f+1 > 0 then l-f+1 else 0)) (qyf a) i [.ref x,.int f,.int l] H Q E:=by
 cases i with|a=>exact⟨x,f,l,Z,by show Q (.int (if l-f+1 > 0 then l-f+1 else 0)) H;rw[qyg];exact k H (Same.refl H)⟩|b=>exact⟨x,f,l,Z,by show Q (.int (if l-f+1 > 0 then l-f+1 else 0)) H;rw[qyg];exact k H (Same.refl H)⟩|c=>exact⟨x,bs,rs,f,l,Z,h,ok,d,k⟩
theorem qyh {f m:Int}(h:KindAt a H x i bs rs)(ok:TabOk bs rs)(e:0<=f)(g:1<=m)(k:∀(d:Int) (H':Hp),Same H H'->0<=d->kf bs rs i d=false->kb bs rs i d=kb bs rs i f+m-1->Q (.int d) H') :
  qcq (qe6 λf m=>.int (f+m-1)) (qe6 λf m=>.int (f+m-1)) (qmn a) i [.ref x,.int f,.int m] H Q E:=by
 cases i with|a=>exact⟨x,f,m,Z,k _ H (Same.refl H) (by lia) Z Z⟩|b=>exact⟨x,f,m,Z,k _ H (Same.refl H) (by lia) Z Z⟩|c=>exact⟨x,bs,rs,f,m,Z,h,ok,e,g,k⟩
def kfor {u:Int}(k:Q (.int (qcq u (7*u) u i)) H):qcq (qgt λu=>.int u) (qgt λu=>.int (7*u)) (qgt λu=>.int u) i [.ref x,.int u] H Q E:=by
 cases i with|a=>exact⟨x,u,Z,k⟩|b=>exact⟨x,u,Z,k⟩|c=>exact⟨x,u,Z,k⟩
end
noncomputable abbrev Pz:=Int×Option Int
noncomputable def inP (p:Pz)(d:Int):Bool:=decide (p.1<=d) && (match p.2 with|none=>true|some e=>decide (d<=e))
def stl (ps:List Pz)(d:Int):Bool:=ps.any λp=>inP p d
def Aft (p q:Pz):Prop:=∃e,p.2=some e/\e<q.1
structure PsOk (ps:List Pz):Prop where
 srt:ps.Pairwise Aft
 ok:∀p∈ps,0<=p.1/\∀e,p.2=some e->p.1<=e
def qiv {F d:Int}:inP (F,none) d=decide (F<=d):=by unfold inP;exact Ex _
def qel {F e d:Int}:inP (F,some e) d=(decide (F<=d) && decide (d<=e)):=rfl
def qpk {ps:List Pz}{p:Pz}{d:Int}(a:p∈ps)(h:inP p d=true):stl ps d=true:=CO.mpr ⟨p,a,h⟩
theorem qmp {ps:List Pz}{d:Int}(h:∀p∈ps,inP p d=false):stl ps d=false:=by
 cases e:stl ps d with
 |false=>rfl
 |true =>obtain⟨p,b,a⟩:=CO.mp e;rw[h p b]at a;cases a
noncomputable def cn (g:Int->Bool)(n:Int):Int:=((((Aq n.toNat).filter λ(t:Nat)=>!g (t:Int)).length:Nat):Int)
def qds (g:Int->Bool):Cnt (cn g) g:=⟨λn h=>by
 unfold cn;rw[show (n+1).toNat=n.toNat+1 by lia,Bv,Ck,Af];have e:((n.toNat:Nat):Int)=n:=by lia
 cases z:g n with
 |true =>rw[if_pos Z,CS (by rw[e,z];decide)];simp
 |false =>rw[if_neg Ud,Cs (by rw[e,z];rfl)];simp⟩
theorem qq5 {f f':Int->Int}{g g':Int->Bool}(c:Cnt f g)(b:Cnt f' g'){a:Int}(e:0<=a):∀k:Nat,(∀d,a<=d->d<a+(k:Int)->g d=g' d)->f (a+(k:Int))-f a=f' (a+(k:Int))-f' a
 |0,_=>by rw[DQ,Cn];lia
 |k+1,h=>by have ih:=qq5 c b e k λd i h2=>h d i (by lia);have s:=c.st (a+(k:Int)) (by lia);have s':=b.st (a+(k:Int)) (by lia);rw[h _ (by lia) (by lia)]at s;rw[show a+((k+1:Nat):Int)=a+(k:Int)+1 by lia];lia
def qpl {f f':Int->Int}{g g':Int->Bool}(c:Cnt f g)(i:Cnt f' g'){a b:Int}(e:0<=a)(ab:a<=b)(h:∀d,a<=d->d<b->g d=g' d):f b-f a=f' b-f' a:=by
 have z:=qq5 c i e (b-a).toNat λd j h2=>h d j (by lia)
 rwa [show a+((b-a).toNat:Int)=b by lia]at z
theorem qyi {f:Int->Int}{g:Int->Bool}(c:Cnt f g){a b:Int}(e:0<=a)(i:a<=b)(h:∀d,a<=d->d<b->g d=true):f b=f a:=by have z:=qpl c (g':=λ_=>true) (f':=λ_=>0) ⟨λ_ _=>by rw[if_pos Z];rfl⟩ e i h;lia
def gst (g:Int->Bool)(ps:List Pz):Int->Bool:=λd=>g d || stl ps d
def qnn (g:Int->Bool)(ps:List Pz)(s m:Int):Option Int->Prop
 |some d=>s<d/\gst g ps d=false/\cn (gst g ps) d=cn (gst g ps) (s+1)+m-1
 |none=>(∃F,(F,none)∈ps)/\∀d,s<d->cn (gst g ps) d<cn (gst g ps) (s+1)+m
theorem qj0 {g:Int->Bool}{ps:List Pz}{s m:Int}(s0:0<=s){r a:Option Int}(h:qnn g ps s m r)(h':qnn g ps s m a):r=a:=by
 have C:=qds (gst g ps);have b:∀{d},qnn g ps s m (some d)->qnn g ps s m none->False:=λ{d} ⟨h1,c,h3⟩ ⟨_,f⟩=>by have z:=f (d+1) (by lia);have st:=C.st d (by lia);rw[c,if_neg Ud]at st;lia
 cases r with
 |none =>
  cases a with|none=>rfl|some d=>exact(b h' h).elim
 |some d =>
  cases a with|none=>exact(b h h').elim|some e=>exact congrArg some (cnt_one C (by have:=h.1;lia) (by have:=h'.1;lia) h.2.1 h'.2.1 (by rw[h.2.2,h'.2.2]))
structure Go (g:Int->Bool)(ps:List Pz)(s m:Int)(i:Nat)(b L:Int):Prop where
 hb:s+1<=b
 hL:1<=L
 he:cn (gst g ps) b=cn (gst g ps) (s+1)+m-L
 hp:∀p∈ps.take i,∃e,p.2=some e/\e<b
structure Fin (f:Int->Int)(g:Int->Bool)(ps:List Pz)(s m b L:Int):Prop where
 hb:s+1<=b
 hL:1<=L
 he:cn (gst g ps) b=cn (gst g ps) (s+1)+m-L
 hn:∀d,b<=d->f d<=f b+L-1->stl ps d=false
def qq6 {f:Int->Int}{g:Int->Bool}{ps:List Pz}{s m b L d:Int}(C:Cnt f g)(s0:0<=s)(h:Fin f g ps s m b L)(j:0<=d)(i:g d=false)(dM:f d=f b+L-1):qnn g ps s m (some d):=by
 have hb:=h.hb;have hL:=h.hL;have c:b<=d:=C.ge j i (by lia);have z:=qpl (qds (gst g ps)) C (a:=b) (b:=d) (by lia) c λe k h2=>by have:=C.le (n:=e) (m:=d) (by lia) (by lia);unfold gst;rw[h.hn e k (by lia),Dw]
 refine⟨by lia,?_,by rw[h.he]at z;lia⟩;unfold gst;rw[i,h.hn d c (by lia)];rfl
def quc {α:Type}{l:List α}{i:Nat}{x y:α}(h:y∈l)(b:l[i]?=some x):y∈l.take i\/y=x\/y∈l.drop (i+1):=by
 obtain⟨a,rfl⟩:=Ac.mp b;rw[<- Ci i l,Ch a]at h;rcases Az.mp h with z|z
 .exact .inl z
 .rcases Aw.mp z with z|z
  .exact .inr (.inl z)
  .exact .inr (.inr z)
def qq7 {ps:List Pz}(h:ps.Pairwise Aft){i:Nat}{p q:Pz}(b:ps[i]?=some p)(c:q∈ps.drop (i+1)):Aft p q:=by obtain⟨a,rfl⟩:=Ac.mp b;have z:=h.sublist (List.drop_sublist i ps);rw[Ch a]at z;exact(BA.mp z).1 q c
def qyj {g:Int->Bool}{ps:List Pz}{s m b L d:Int}{i:Nat}{p:Pz}(ok:PsOk ps)(h:Go g ps s m i b L)(hp:ps[i]?=some p)(h1:b<=d)(h2:d<p.1):stl ps d=false:=by
 refine qmp λq f=>?_;rcases quc f hp with z|z|z
 .obtain⟨e,a,c⟩:=h.hp q z;obtain⟨F,o⟩:=q;simp only at a;subst a;rw[qel,decide_eq_false (show ¬d<=e by lia),Co]
 .subst z;unfold inP;rw[decide_eq_false (show ¬q.1<=d by lia),CN]
 .obtain⟨e,a,c⟩:=qq7 ok.srt hp z;have:=(ok.ok p (A4 hp)).2 e a;unfold inP;rw[decide_eq_false (show ¬q.1<=d by lia),CN]
noncomputable def cin (f:Int->Int)(b l:Int):Int:=if l<b then 0 else f (l+1)-f b
theorem qyk {f:Int->Int}{g:Int->Bool}{ps:List Pz}{s m b L:Int}{i:Nat}{p:Pz}(C:Cnt f g)(s0:0<=s)(ok:PsOk ps)(h:Go g ps s m i b L)(j:ps[i]?=some p) :
  0<=cin f b (p.1-1)/\∃B,b<=B/\p.1<=B/\(B=b\/B=p.1)/\cn (gst g ps) B=cn (gst g ps) b+cin f b (p.1-1):=by
 have hb:=h.hb;unfold cin;rw[show p.1-1+1=p.1 by lia];by_cases c:p.1-1<b
 .rw[if_pos c];exact⟨Bb _,b,Bb _,by lia,.inl Z,by lia⟩
 .rw[if_neg c];have z:=qpl (qds (gst g ps)) C (a:=b) (b:=p.1) (by lia) (by lia) λe k d=>by unfold gst;rw[qyj ok h j k d,Dw]
  have:=C.le (n:=b) (m:=p.1) (by lia) (by lia);exact⟨by lia,p.1,by lia,Bb _,.inr Z,by lia⟩
def go_fin {f:Int->Int}{g:Int->Bool}{ps:List Pz}{s m b L:Int}{i:Nat}{p:Pz}(C:Cnt f g)(s0:0<=s)(ok:PsOk ps)(h:Go g ps s m i b L)(a:ps[i]?=some p)(c:L<=cin f b (p.1-1)):Fin f g ps s m b L:=by
 have hb:=h.hb;have hL:=h.hL;refine⟨hb,hL,h.he,λd e h2=>qyj ok h a e ?_⟩;unfold cin at c;rw[show p.1-1+1=p.1 by lia]at c;by_cases z:p.1-1<b
 .rw[if_pos z]at c;lia
 .rw[if_neg z]at c;exact C.lt (by lia) (by lia)
def go_none {f:Int->Int}{g:Int->Bool}{ps:List Pz}{s m b L F:Int}{i:Nat}(C:Cnt f g)(p:0<=s)(ok:PsOk ps)(h:Go g ps s m i b L)(k:ps[i]?=some (F,none))(c:cin f b (F-1)<L):qnn g ps s m none:=by
 have hb:=h.hb;have he:=h.he;have j:=A4 k;refine⟨⟨F,j⟩,λd hd=>?_⟩;obtain⟨c0,B,bB,o,_,e⟩:=qyk C p ok h k;simp only at o e;have l:=qds (gst g ps);by_cases z:d<=B
 .have:=l.le (n:=d) (m:=B) (by lia) z;lia
 .have:=qyi l (a:=B) (b:=d) (by lia) (by lia) λx h1 h2=>by
   unfold gst
   rw[qpk j (by rw[qiv];exact decide_eq_true (by lia)),Bool.or_true]
  lia
def go_next {f:Int->Int}{g:Int->Bool}{ps:List Pz}{s m b L F e:Int}{i:Nat}(C:Cnt f g)(r:0<=s)(ok:PsOk ps)(h:Go g ps s m i b L)(hp:ps[i]?=some (F,some e))(c:cin f b (F-1)<L):Go g ps s m (i+1) (if e+1 > b then e+1 else b) (L-cin f b (F-1)):=by
 have hb:=h.hb;have he:=h.he;have k:=A4 hp;have o:=(ok.ok _ k).2 e rfl;simp only at o;obtain⟨c0,B,bB,n,l,q⟩:=qyk C r ok h hp;simp only at n q l;have u:=qds (gst g ps);have j:b<=(if e+1 > b then e+1 else b)/\e<(if e+1 > b then e+1 else b)/\B<=(if e+1 > b then e+1 else b)/\((if e+1 > b then e+1 else b)=e+1\/(if e+1 > b then e+1 else b)=B):=by split <;>lia
 generalize (if e+1 > b then e+1 else b)=b' at j |-;have:=qyi u (a:=B) (b:=b') (by lia) j.2.2.1 λx h1 h2=>by unfold gst;rw[qpk k (by rw[qel,decide_eq_true (show F<=x by lia),decide_eq_true (show x<=e by lia)];rfl),Bool.or_true]
 refine⟨by lia,by lia,by lia,λp d=>?_⟩;rw[qcl hp]at d;rcases Az.mp d with z|z
 .obtain⟨x,t,x2⟩:=h.hp p z;exact⟨x,t,by lia⟩
 .rw[Aj.mp z];exact⟨e,Z,j.2.1⟩
def go_end {f:Int->Int}{g:Int->Bool}{ps:List Pz}{s m b L:Int}(h:Go g ps s m ps.length b L):Fin f g ps s m b L :=
 ⟨h.hb,h.hL,h.he,λd h1 _=>qmp λq c=>by obtain⟨e,a,e2⟩:=h.hp q (by rw[Bz];exact c);obtain⟨F,o⟩:=q;simp only at a;subst a;rw[qel,decide_eq_false (show ¬d<=e by lia),Co]⟩
def go_zero {g:Int->Bool}{ps:List Pz}{s m:Int}(b:1<=m):Go g ps s m 0 (s+1) m:=⟨Bb _,b,by lia,λp a=>by rw[DH]at a;cases a⟩
def qmq {g:Int->Bool}{ps:List Pz}{F:Int}(a:(F,none)∈ps){x:Int}(h:F<=x):gst g ps x=true:=by unfold gst;rw[qpk a (by rw[qiv];exact decide_eq_true h),Bool.or_true]
theorem qyl {g:Int->Bool}{ps:List Pz}{F e:Int}(a:(F,some e)∈ps){x:Int}(h:F<=x)(h':x<=e):gst g ps x=true:=by unfold gst;rw[qpk a (by rw[qel,decide_eq_true h,decide_eq_true h'];rfl),Bool.or_true]
noncomputable def oV:Option Int->V
 |some i=>.int i
 |none=>.non
def qky (p:Pz):List V:=[.int p.1,oV p.2]
def AtQ (H:Hp)(p:Addr)(ps:List Pz):Prop:=∃us,H p=some (.lst us)/\Tups H us (ps.map qky)
def AtQ.same {H H':Hp}{p:Addr}{ps:List Pz}(h:AtQ H p ps)(s:Same H H'):AtQ H' p ps:=by obtain⟨us,b,a⟩:=h;exact⟨us,s _ _ b,a.same s⟩
def qq8 {ps:List Pz}{i:Nat}{t:List V}(h:(ps.map qky)[i]?=some t):∃p,ps[i]?=some p/\t=qky p:=by
 rw[Ah]at h;cases e:ps[i]? with|none=>rw[e]at h;cases h|some p=>rw[e]at h;exact⟨p,Z,(AA h).symm⟩
def spFullD (a:Adr):Sp:=λvs H Q _=>∃(x pq:Addr)(i:Three)(s u:Int)(bs:List Bool)(rs:List Rw)(ps:List Pz),vs=[.ref x,.int s,.int u,.ref pq]/\KindAt a H x i bs rs/\TabOk bs rs/\AtQ H pq ps/\PsOk ps/\0<=s/\1<=u /\
 ∀(H':Hp)(r:Option Int),Same H H'->qnn (kf bs rs i) ps s (qcq u (7*u) u i) r->Q (oV r) H'
theorem qq9 {u:Int}(h:1<=u):∀i:Three,1<=qcq u (7*u) u i
 |.a=>h
 |.b=>by show 1<=7*u;lia
 |.c=>h
def Fnt (ps:List Pz):Prop:=∀p∈ps,∃e,p.2=some e
def qud (r q:Option Int):qwp (oV r) (oV q)=true:=by cases r <;>cases q <;>rfl
def fit1 (x:V):[x].length<=A5:=qdr (show 1<=100000 by decide)
theorem qra {H:Hp}:∀{us:List V}{as:List (List V)}{b:List V},Tups H us (as++[b])->∃vs c,us=vs++[.ref c]/\H c=some (.tup b)/\Tups H vs as
 |_,[],b,.cons h .nil=>⟨[],_,Z,h,.nil⟩
 |_,a::as,b,.cons h t=>by obtain⟨vs,c,e,f,d⟩:=qra (as:=as) t;exact⟨_::vs,c,by rw[e];rfl,f,.cons h d⟩
def qj1 {H:Hp}{us:List V}{a:List Pz}{p:Pz}(t:Tups H us ((a++[p]).map qky)):∃vs c,us=vs++[.ref c]/\H c=some (.tup (qky p))/\Tups H vs (a.map qky):=by rw[Ax]at t;exact qra t
theorem qiw (us:List V)(x:V):atI (us++[x]) (-1)=some x:=by unfold atI;rw[qt1,Option.bind_some,List.getElem?_concat_length]
def Due (g:Int->Bool)(ps:List Pz)(full:Int):Option Int->Prop
 |some d=>full<=d/\gst g ps d=false/\∀e,full<=e->e<d->gst g ps e=true
 |none=>(∃F,(F,none)∈ps)/\∀e,full<=e->gst g ps e=true
theorem qym {g:Int->Bool}{ps:List Pz}{a:Int}{r b:Option Int}(h:Due g ps a r)(h':Due g ps a b):r=b:=by
 cases r with
 |none =>
  cases b with|none=>rfl|some d=>have:=h.2 d h'.1;rw[h'.2.1]at this;cases this
 |some d =>
  cases b with
  |none=>have:=h'.2 d h.1;rw[h.2.1]at this;cases this
  |some e =>
   rcases (by lia:d<e\/d=e\/e<d) with z|z|z
   .have:=h'.2.2 d h.1 z;rw[h.2.1]at this;cases this
   .rw[z]
   .have:=h.2.2 e h'.1 z;rw[h'.2.1]at this;cases this
structure Gd (g:Int->Bool)(ps:List Pz)(full:Int)(j:Nat)(t:Int):Prop where
 hf:full<=t
 hg:g t=false
 hh:∀e,full<=e->e<t->gst g ps e=true
 hp:∀p∈ps.take j,∃e,p.2=some e/\e<t
def qyn {g:Int->Bool}{ps:List Pz}{e:Int}(h:g e=true):gst g ps e=true:=by unfold gst;rw[h,Bool.true_or]
def gd_zero {f:Int->Int}{g:Int->Bool}{ps:List Pz}{a t:Int}(C:Cnt f g)(i:0<=a)(d:0<=t)(c:g t=false)(j:f t=f a):Gd g ps a 0 t :=
 ⟨C.ge d c (by lia),c,λe k h=>qyn (C.free i j k h),λp b=>by rw[DH]at b;cases b⟩
def gd_not {g:Int->Bool}{ps:List Pz}{a t:Int}{j:Nat}{p:Pz}(ok:PsOk ps)(h:Gd g ps a j t)(hp:ps[j]?=some p)(c:t<p.1):Due g ps a (some t):=by
 refine⟨h.hf,?_,h.hh⟩;unfold gst;rw[h.hg,DR];refine qmp λq d=>?_;rcases quc d hp with z|z|z
 .obtain⟨e,b,f⟩:=h.hp q z;obtain⟨F,o⟩:=q;simp only at b;subst b;rw[qel,decide_eq_false (show ¬t<=e by lia),Co]
 .subst z;unfold inP;rw[decide_eq_false (by lia),CN]
 .obtain⟨e,b,f⟩:=qq7 ok.srt hp z;have:=(ok.ok p (A4 hp)).2 e b;unfold inP;rw[decide_eq_false (by lia),CN]
def gd_none {g:Int->Bool}{ps:List Pz}{a t F:Int}{j:Nat}(h:Gd g ps a j t)(f:ps[j]?=some (F,none))(c:F<=t):Due g ps a none:=by
 have b:=A4 f;refine⟨⟨F,b⟩,λe d=>?_⟩;by_cases z:e<t
 .exact h.hh e d z
 .exact qmq b (by lia)
def gd_over {g:Int->Bool}{ps:List Pz}{a t F e:Int}{j:Nat}(h:Gd g ps a j t)(hp:ps[j]?=some (F,some e))(c:e<t):Gd g ps a (j+1) t :=
 ⟨h.hf,h.hg,h.hh,λp b=>by
  rw[qcl hp]at b;rcases Az.mp b with z|z
  .exact h.hp p z
  .rw[Aj.mp z];exact⟨e,Z,c⟩⟩
def gd_leap {f:Int->Int}{g:Int->Bool}{ps:List Pz}{a t F e t':Int}{j:Nat}(C:Cnt f g)(f0:0<=a)(h:Gd g ps a j t)(hp:ps[j]?=some (F,some e))(c1:F<=t)(c2:t<=e)(k:0<=t')(c:g t'=false)(m:f t'=f (e+1)):Gd g ps a (j+1) t':=by
 have i:=A4 hp;have hf:=h.hf;have ge:e+1<=t':=C.ge k c (by lia);refine⟨by lia,c,λx o l=>?_,λp b=>?_⟩
 .by_cases z:x<t
  .exact h.hh x o z
  .by_cases d:x<=e
   .exact qyl i (by lia) d
   .exact qyn (C.free (n:=e+1) (by lia) m (by lia) l)
 .rw[qcl hp]at b;rcases Az.mp b with z|z
  .obtain⟨x,q,x2⟩:=h.hp p z;exact⟨x,q,by lia⟩
  .rw[Aj.mp z];exact⟨e,Z,by lia⟩
def gd_end {g:Int->Bool}{ps:List Pz}{a t:Int}(h:Gd g ps a ps.length t):Due g ps a (some t):=by refine⟨h.hf,?_,h.hh⟩;unfold gst;rw[h.hg,DR];refine qmp λq c=>?_;obtain⟨e,b,e2⟩:=h.hp q (by rw[Bz];exact c);obtain⟨F,o⟩:=q;simp only at b;subst b;rw[qel,decide_eq_false (show ¬t<=e by lia),Co]
def Lst (g tf:Int->Bool)(ps:List Pz)(s m:Int)(r:Option Int):Prop:=(qnn g ps s m none/\r=none) \/ ∃f,qnn g ps s m (some f)/\Due tf ps f r
def spFDue (a:Adr):Sp:=λvs H Q _=>∃(tb pq:Addr)(d:Int)(bs:List Bool)(rs:List Rw)(ps:List Pz),vs=[.ref tb,.int d,.ref pq]/\TabAt a.kH a.kG H tb bs rs/\TabOk bs rs/\AtQ H pq ps/\PsOk ps/\0<=d/\∀(H':Hp)(r:Option Int),Same H H'->Due (tfr bs rs) ps d r->Q (oV r) H'
def spLastD (a:Adr):Sp:=λvs H Q _=>∃(x pq:Addr)(i:Three)(s u:Int)(bs:List Bool)(rs:List Rw)(ps:List Pz),vs=[.ref x,.int s,.int u,.ref pq]/\KindAt a H x i bs rs/\TabOk bs rs/\AtQ H pq ps/\PsOk ps/\0<=s/\1<=u /\
 ∀(H':Hp)(r:Option Int),Same H H'->Lst (kf bs rs i) (tfr bs rs) ps s (qcq u (7*u) u i) r->Q (oV r) H'
def qyo {g d:Int->Bool}{ps:List Pz}{s m:Int}{r i:Option Int}(c:0<=s)(h:Lst g d ps s m r)(h':Lst g d ps s m i):r=i:=by
 rcases h with ⟨b,rfl⟩|⟨f,b,j⟩
 .rcases h' with ⟨_,rfl⟩|⟨f',a,_⟩
  .rfl
  .cases qj0 c b a
 .rcases h' with ⟨a,rfl⟩|⟨f',a,e⟩
  .cases qj0 c b a
  .cases qj0 c b a;exact qym j e
def fit4 (x y z w:V):[x,y,z,w].length<=A5:=qdr (show 4<=100000 by decide)
def qgu (x:Str)(xs:List Str):inV (.str x) (xs.map V.str)=xs.contains x:=by
 unfold inV;rw[List.any_map,List.contains_eq_any_beq]
 congr 1
 funext y;show (y == x)=(x == y);rw[CD,beq_iff_eq,beq_iff_eq];exact eq_comm
theorem qfi (xs:List Str):(xs.map V.str).all qbv=true:=by rw[List.all_map];exact Cb.mpr λ_ _=>rfl
noncomputable abbrev rlF (nm w o op b m u s pe pa pl py:V):List (Str×V):=[(Aa "name",nm),(Aa "who",w),(Aa "owes",o),(Aa "opens",op),(Aa "base",b),(Aa "many",m),(Aa "unit",u),(Aa "still",s),(Aa "ends",pe),(Aa "anew",pa),(Aa "longer",pl),(Aa "yields",py)]
abbrev rnF (rl cn pr ov dy b un pp pg:V):List (Str×V):=[(Aa "rule",rl),(Aa "counting",cn),(Aa "rows",pr),(Aa "over",ov),(Aa "day",dy),(Aa "base",b),(Aa "units",un),(Aa "pauses",pp),(Aa "grants",pg)]
noncomputable abbrev rn1 (a1:V):List (Str×V):=[(Aa "rule",a1)]
abbrev rn2 (a1 a2:V):List (Str×V):=rn1 a1++[(Aa "counting",a2)]
abbrev rn3 (a1 a2 a3:V):List (Str×V):=rn2 a1 a2++[(Aa "rows",a3)]
abbrev rn4 (a1 a2 a3 a4:V):List (Str×V):=rn3 a1 a2 a3++[(Aa "over",a4)]
abbrev rn5 (a1 a2 a3 a4 a5:V):List (Str×V):=rn4 a1 a2 a3 a4++[(Aa "day",a5)]
abbrev rn6 (a1 a2 a3 a4 a5 a6:V):List (Str×V):=rn5 a1 a2 a3 a4 a5++[(Aa "base",a6)]
abbrev rn7 (a1 a2 a3 a4 a5 a6 a7:V):List (Str×V):=rn6 a1 a2 a3 a4 a5 a6++[(Aa "units",a7)]
abbrev rn8 (a1 a2 a3 a4 a5 a6 a7 a8:V):List (Str×V):=rn7 a1 a2 a3 a4 a5 a6 a7++[(Aa "pauses",a8)]
abbrev rn9 (a1 a2 a3 a4 a5 a6 a7 a8 a9:V):List (Str×V):=rn8 a1 a2 a3 a4 a5 a6 a7 a8++[(Aa "grants",a9)]
noncomputable abbrev rq1 (a1:V):List (Str×V):=[(Aa "name",a1)]
abbrev rq2 (a1 a2:V):List (Str×V):=rq1 a1++[(Aa "who",a2)]
abbrev rq3 (a1 a2 a3:V):List (Str×V):=rq2 a1 a2++[(Aa "owes",a3)]
abbrev rq4 (a1 a2 a3 a4:V):List (Str×V):=rq3 a1 a2 a3++[(Aa "opens",a4)]
abbrev rq5 (a1 a2 a3 a4 a5:V):List (Str×V):=rq4 a1 a2 a3 a4++[(Aa "base",a5)]
abbrev rq6 (a1 a2 a3 a4 a5 a6:V):List (Str×V):=rq5 a1 a2 a3 a4 a5++[(Aa "many",a6)]
abbrev rq7 (a1 a2 a3 a4 a5 a6 a7:V):List (Str×V):=rq6 a1 a2 a3 a4 a5 a6++[(Aa "unit",a7)]
abbrev rq8 (a1 a2 a3 a4 a5 a6 a7 a8:V):List (Str×V):=rq7 a1 a2 a3 a4 a5 a6 a7++[(Aa "still",a8)]
abbrev rq9 (a1 a2 a3 a4 a5 a6 a7 a8 a9:V):List (Str×V):=rq8 a1 a2 a3 a4 a5 a6 a7 a8++[(Aa "ends",a9)]
abbrev qsx (a1 a2 a3 a4 a5 a6 a7 a8 a9 a10:V):List (Str×V):=rq9 a1 a2 a3 a4 a5 a6 a7 a8 a9++[(Aa "anew",a10)]
abbrev qrb (a1 a2 a3 a4 a5 a6 a7 a8 a9 a10 a11:V):List (Str×V):=qsx a1 a2 a3 a4 a5 a6 a7 a8 a9 a10++[(Aa "longer",a11)]
abbrev qsy (a1 a2 a3 a4 a5 a6 a7 a8 a9 a10 a11 a12:V):List (Str×V):=qrb a1 a2 a3 a4 a5 a6 a7 a8 a9 a10 a11++[(Aa "yields",a12)]
noncomputable abbrev R3:=Str×Int×Str
noncomputable def qj2 (r:R3):List V:=[.str r.1,.int r.2.1,.str r.2.2]
noncomputable def qrc (r:Str×Int×Int):List V:=[.str r.1,.int r.2.1,.int r.2.2]
structure RD where
 owes:Str
 ends:List Str
 anew:List Str
 longer:List (Str×Int×Int)
 still:Option (Str×Str)
 many:Int
 unit:Three
structure RdOk (rd:RD):Prop where
 m1:1<=rd.many
 l:rd.longer.length<=100
 e:rd.ends.length<=100
 a:rd.anew.length<=100
 u:∀t∈rd.longer,0<=t.2.1
def StAt (H:Hp)(v:V):Option (Str×Str)->Prop
 |none=>v=.non
 |some s=>∃p,v=.ref p/\H p=some (.tup [.str s.1,.str s.2])
theorem StAt.same {H H':Hp}{v:V}{o:Option (Str×Str)}(h:StAt H v o)(z:Same H H'):StAt H' v o:=by
 cases o with
 |none=>exact h
 |some s=>obtain⟨p,b,a⟩:=h;exact⟨p,b,z _ _ a⟩
def RuleAt (a:Adr)(H:Hp)(rl:Addr)(rd:RD):Prop:=∃(dx pe pa pl:Addr)(nm w op b s py:V)(us:List V),H rl=some (.ins a.kB dx (rlF nm w (.str rd.owes) op b (.int rd.many) (.str (qkm rd.unit)) s (.ref pe) (.ref pa) (.ref pl) py))/\StAt H s rd.still/\H pe=some (.lst (rd.ends.map V.str))/\H pa=some (.lst (rd.anew.map V.str))/\H pl=some (.lst us)/\Tups H us (rd.longer.map qrc)
theorem RuleAt.same {a:Adr}{H H':Hp}{c:Addr}{rd:RD}(h:RuleAt a H c rd)(z:Same H H'):RuleAt a H' c rd:=by obtain⟨d,l,g,pl,nm,w,op,b,s,j,us,m,e,k,f,n,i⟩:=h;exact⟨d,l,g,pl,nm,w,op,b,s,j,us,z _ _ m,e.same z,z _ _ k,z _ _ f,z _ _ n,i.same z⟩
noncomputable def qrd (o:Option (Str×Str))(k:Str):Str:=match o with
 |none=>Aa ""
 |some s=>if k=s.1 then Aa "still" else if k=s.2 then Aa "goes on" else Aa ""
def qaq (rd:RD)(k:Str):Str:=if k=rd.owes\/rd.ends.contains k=true then Aa "ends" else if rd.anew.contains k=true then Aa "anew" else if (rd.longer.map (·.1)).contains k=true then Aa "longer" else qrd rd.still k
structure RS where
 rows:List R3
 over:Bool
 day:Int
 units:Int
 ps:List Pz
 gr:List (Key×V)
 bv:V
def gv (gr:List (Key×V))(k:Str):Int:=match qbn gr (.inr k) with
 |some (.int n)=>n
 |_=>0
structure StOk (st:RS)(c:Int):Prop where
 ps:PsOk st.ps
 d0:0<=st.day
 u1:1<=st.units
 pl:st.ps.length<=st.rows.length
 rl:st.rows.length<=400
 gl:st.gr.length<=st.rows.length
 gi:∀k v,qbn st.gr k=some v->∃n:Int,v=.int n
 cu:∀p∈st.ps,∀e,p.2=some e->e<c
 r0:st.rows≠[]
def qyp (i:Three)(u:Int):Int:=qcq u (7*u) u i
structure RunX (a:Adr)(B H:Hp)(x dx rl cn pr pp pg:Addr)(ur up:List V)(rd:RD)(st:RS)(bs:List Bool)(rs:List Rw):Prop where
 ne:pr≠pp
 hx:H x=some (.ins a.k8 dx (rnF (.ref rl) (.ref cn) (.ref pr) (.bl st.over) (.int st.day) st.bv (.int st.units) (.ref pp) (.ref pg)))
 hr:H pr=some (.lst ur)
 tr:Tups H ur (st.rows.map qj2)
 hp:H pp=some (.lst up)
 tp:Tups H up (st.ps.map qky)
 hg:H pg=some (.dK st.gr)
 rl:RuleAt a B rl rd
 kd:KindAt a B cn rd.unit bs rs
 sm:Same B H
 bx:B x=none
 br:B pr=none
 bp:B pp=none
 bg:B pg=none
def RunAt (a:Adr)(B H:Hp)(x:Addr)(S:List Addr)(rd:RD)(st:RS)(bs:List Bool)(rs:List Rw):Prop:=∃(dx rl cn pr pp pg:Addr)(ur up:List V),S=[x,pr,pp,pg]/\RunX a B H x dx rl cn pr pp pg ur up rd st bs rs
def qix {H:Hp}{x p C a:Addr}{fs:List (Str×V)}{l:List V}(h:H x=some (.ins C a fs))(h':H p=some (.lst l)):x≠p:=λz=>by rw[z,h']at h;cases h
def ne_id {H:Hp}{x p C a:Addr}{fs:List (Str×V)}{l:List (Key×V)}(h:H x=some (.ins C a fs))(h':H p=some (.dK l)):x≠p:=λz=>by rw[z,h']at h;cases h
def que {H:Hp}{x p:Addr}{fs:List V}{l:List (Key×V)}(h:H x=some (.lst fs))(h':H p=some (.dK l)):x≠p:=λz=>by rw[z,h']at h;cases h
theorem qre {H:Hp}{us:List V}{ts:List (List V)}{x C a:Addr}{fs:List (Str×V)}{o:HO}(t:Tups H us ts)(h:H x=some (.ins C a fs)):Tups (upd H x o) us ts:=by
 induction t with
 |nil=>exact .nil
 |cons e _ ih=>exact .cons ((qr λz=>by rw[z,h]at e;cases e).trans e) ih
theorem qrf {H:Hp}{us:List V}{ts:List (List V)}{x:Addr}{l:List (Key×V)}{o:HO}(t:Tups H us ts)(h:H x=some (.dK l)):Tups (upd H x o) us ts:=by
 induction t with
 |nil=>exact .nil
 |cons e _ ih=>exact .cons ((qr λz=>by rw[z,h]at e;cases e).trans e) ih
section
variable {a:Adr}{B H H':Hp}{x dx rl cn pr pp pg:Addr}{ur up:List V}{rd:RD}{st:RS}{bs:List Bool}{rs:List Rw}
def RunX.same (h:RunX a B H x dx rl cn pr pp pg ur up rd st bs rs)(z:Same H H'):RunX a B H' x dx rl cn pr pp pg ur up rd st bs rs :=
 ⟨h.ne,z _ _ h.hx,z _ _ h.hr,h.tr.same z,z _ _ h.hp,h.tp.same z,z _ _ h.hg,h.rl,h.kd,h.sm.trans z,h.bx,h.br,h.bp,h.bg⟩
def RunX.setP (h:RunX a B H x dx rl cn pr pp pg ur up rd st bs rs){up':List V}{ps':List Pz}(t:Tups H up' (ps'.map qky)):RunX a B (upd H pp (.lst up')) x dx rl cn pr pp pg ur up' rd {st with ps:=ps'} bs rs :=
 ⟨h.ne,(qr (qix h.hx h.hp)).trans h.hx,(qr h.ne).trans h.hr,h.tr.upd h.hp,qk,t.upd h.hp,(qr (B6 (que h.hp h.hg))).trans h.hg,h.rl,h.kd,qan h.sm h.bp,h.bx,h.br,h.bp,h.bg⟩
def RunX.setR (h:RunX a B H x dx rl cn pr pp pg ur up rd st bs rs){ur':List V}{rows':List R3}(t:Tups H ur' (rows'.map qj2)):RunX a B (upd H pr (.lst ur')) x dx rl cn pr pp pg ur' up rd {st with rows:=rows'} bs rs :=
 ⟨h.ne,(qr (qix h.hx h.hr)).trans h.hx,qk,t.upd h.hr,(qr (B6 h.ne)).trans h.hp,h.tp.upd h.hr,(qr (B6 (que h.hr h.hg))).trans h.hg,h.rl,h.kd,qan h.sm h.br,h.bx,h.br,h.bp,h.bg⟩
def RunX.setG (h:RunX a B H x dx rl cn pr pp pg ur up rd st bs rs){gr':List (Key×V)}:RunX a B (upd H pg (.dK gr')) x dx rl cn pr pp pg ur up rd {st with gr:=gr'} bs rs :=
 ⟨h.ne,(qr (ne_id h.hx h.hg)).trans h.hx,(qr (que h.hr h.hg)).trans h.hr,qrf h.tr h.hg,(qr (que h.hp h.hg)).trans h.hp,qrf h.tp h.hg,qk,h.rl,h.kd,qan h.sm h.bg,h.bx,h.br,h.bp,h.bg⟩
def RunX.setF (h:RunX a B H x dx rl cn pr pp pg ur up rd st bs rs){o':Bool}{u':Int}:RunX a B (upd H x (.ins a.k8 dx (rnF (.ref rl) (.ref cn) (.ref pr) (.bl o') (.int st.day) st.bv (.int u') (.ref pp) (.ref pg)))) x dx rl cn pr pp pg ur up rd {st with over:=o',units:=u'} bs rs :=
 ⟨h.ne,qk,(qr (B6 (qix h.hx h.hr))).trans h.hr,qre h.tr h.hx,(qr (B6 (qix h.hx h.hp))).trans h.hp,qre h.tp h.hx,(qr (B6 (ne_id h.hx h.hg))).trans h.hg,h.rl,h.kd,qan h.sm h.bx,h.bx,h.br,h.bp,h.bg⟩
end
def KeepS (S:List Addr)(H H':Hp):Prop:=∀b o,b∉S->H b=some o->H' b=some o
def KeepS.of {S:List Addr}{H H':Hp}(s:Same H H'):KeepS S H H':=λb o _ e=>s b o e
def Fresh (H:Hp)(S S':List Addr):Prop:=∀b∈S',b∈S\/H b=none
def Fresh.refl {H:Hp}{S:List Addr}:Fresh H S S:=λ_ h=>.inl h
def KeepS.trans {S a:List Addr}{H d c:Hp}(h:KeepS S H d)(f:Fresh H S a)(g:KeepS a d c):KeepS S H c:=λb o n e=>g b o (λm=>by
 rcases f b m with z|z
 .exact n z
 .rw[z]at e;cases e) (h b o n e)
def RunAt.same {a:Adr}{B H H':Hp}{x:Addr}{S:List Addr}{rd:RD}{st:RS}{bs:List Bool}{rs:List Rw}(h:RunAt a B H x S rd st bs rs)(z:Same H H'):RunAt a B H' x S rd st bs rs:=by obtain⟨b,f,cn,j,i,c,e,d,g,h⟩:=h;exact⟨b,f,cn,j,i,c,e,d,g,h.same z⟩
theorem qem {S:List Addr}{H:Hp}{p:Addr}{o:HO}(h:p∈S):KeepS S H (upd H p o):=λb u n e=>by rw[qr (λz:b=p=>n (by rw[z];exact h))];exact e
noncomputable def qai (ps:List Pz):Bool:=match ps.getLast? with
 |some (_,none)=>true
 |_=>false
noncomputable def qgv (ps:List Pz)(d:Int):List Pz:=match ps.getLast? with
 |some (F,none)=>ps.dropLast++(if F<d then [(F,some (d-1))] else [])
 |_=>ps
noncomputable def under (s r:Option Int)(d:Int):Bool:=match s with|none=>false|some s=>decide (s<d) && (match r with|none=>true|some l=>decide (d<=l))
def qno (rd:RD)(gr:List (Key×V))(k:Str):Option (Str×Int×Int):=rd.longer.find? λt=>decide (t.1=k) && decide (gv gr k<t.2.2)
def qa7 (rd:RD)(st:RS)(s r:Option Int)(w:Str)(d:Int)(k:Str):Option RS :=
 if w=Aa "ends" then some {st with ps:=qgv st.ps d,over:=true}
 else if under s r d=false then none
 else if w=Aa "anew" then some {st with day:=d,units:=rd.many,ps:=[],gr:=[],bv:=.non}
 else if w=Aa "longer" then (match qno rd st.gr k with|none=>none|some t=>some {st with units:=st.units+t.2.1,gr:=qc7 st.gr (.inr k) (.int (gv st.gr k+1))})
 else if w=Aa "still" then (if qai st.ps=true then none else some {st with ps:=st.ps++[(d,none)]})
 else (if qai st.ps=true then some {st with ps:=qgv st.ps d} else none)
def qa3 (rd:RD)(st:RS)(s r:Option Int)(n:Str)(d:Int)(k:Str):RS×Bool :=
 if qaq rd k=Aa "" \/ st.over=true then (st,false)
 else match qa7 rd st s r (qaq rd k) d k with
  |none=>(st,false)
  |some s=>({s with rows:=s.rows++[(n,d,qaq rd k)]},true)
def qyq (a:Adr):Sp:=λvs H Q _=>∃(x dx:Addr)(nm w o op b m u s:V),vs=[.ref x,nm,w,o,op,b,m,u,s]/\H x=some (.ins a.kB dx []) /\
 ∀(H':Hp)(pe pa pl py:Addr),SameBut x H H'->H pe=none->H pa=none->H pl=none->H' x=some (.ins a.kB dx (rlF nm w o op b m u s (.ref pe) (.ref pa) (.ref pl) (.ref py)))->H' pe=some (.lst [])->H' pa=some (.lst [])->H' pl=some (.lst [])->pe≠pl->pa≠pl->pe≠pa->Q .non H'
def spStl (a:Adr):Sp:=λvs H Q _=>∃(rl:Addr)(k:Str)(rd:RD),vs=[.ref rl,.str k]/\RuleAt a H rl rd/\Q (.str (qrd rd.still k)) H
def spRole (a:Adr):Sp:=λvs H Q _=>∃(rl:Addr)(k:Str)(rd:RD),vs=[.ref rl,.str k]/\RuleAt a H rl rd/\RdOk rd/\∀H',Same H H'->Q (.str (qaq rd k)) H'
theorem qyr {H:Hp}{x d e c:Addr}(i:H x=none)(f:H d=none)(g:H e=none)(h:H c=none):∀b∈[x,d,e,c],H b=none:=λb a=>by
 rcases Aw.mp a with z|a
 .rw[z];exact i
 .rcases Aw.mp a with z|a
  .rw[z];exact f
  .rcases Aw.mp a with z|a
   .rw[z];exact g
   .rw[Aj.mp a];exact h
def spSetO (a:Adr):Sp:=λvs H Q _=>∃(x dx rl:Addr)(cn pr ov bb:V)(fs:List (Str×V))(d:Int)(rd:RD),vs=[.ref x,.int d,bb]/\H x=some (.ins a.k8 dx fs)/\(fs=[(Aa "rule",.ref rl),(Aa "counting",cn),(Aa "rows",pr),(Aa "over",ov)] \/ ∃dy b un pp pg,fs=rnF (.ref rl) cn pr ov dy b un pp pg)/\RuleAt a H rl rd/\rl≠x /\
 ∀(H':Hp)(pp pg:Addr),SameBut x H H'->H pp=none->H pg=none->H' x=some (.ins a.k8 dx (rnF (.ref rl) cn pr ov (.int d) bb (.int rd.many) (.ref pp) (.ref pg)))->H' pp=some (.lst [])->H' pg=some (.dK [])->Q .non H'
def qys (a:Adr):Sp:=λvs H Q _=>∃(x dx rl tb:Addr)(n:Str)(d:Int)(rd:RD)(bs:List Bool)(rs:List Rw)(Hb:Hp)(bb:V),vs=[.ref x,.ref rl,.ref tb,.str n,.int d,bb]/\H x=some (.ins a.k8 dx [])/\Same Hb H/\Hb x=none/\RuleAt a Hb rl rd/\TabAt a.kH a.kG Hb tb bs rs /\
 ∀(H':Hp)(S:List Addr)(cn:Addr)(o:HO),SameBut x H H'->(∀b∈S,b=x\/H b=none)->x∈S->H cn=none->cn∉S->RunAt a (upd Hb cn o) H' x S rd ⟨[(n,d,Aa "begins")],false,d,rd.many,[],[],bb⟩ bs rs->Q .non H'
def LsS (bs:List Bool)(rs:List Rw)(rd:RD)(st:RS):Option Int->Option Int->Prop
 |none,r=>r=none
 |some d,r=>Lst (kf bs rs rd.unit) (tfr bs rs) st.ps d (qyp rd.unit st.units) r
def BaseAt (a:Adr):Nat->Hp->V->Int->Option Int->Prop
 |0,_,v,d,s=>v=.non/\s=some d
 |n+1,H,v,d,s=>(v=.non/\s=some d) \/ ∃(x:Addr)(B:Hp)(S:List Addr)(rd:RD)(st:RS)(bs:List Bool)(rs:List Rw)(c:Int)(s':Option Int),v=.ref x/\RunAt a B H x S rd st bs rs/\TabOk bs rs/\StOk st c/\BaseAt a n H st.bv st.day s'/\LsS bs rs rd st s' s
noncomputable abbrev nB:Nat:=3
theorem BaseAt.same {a:Adr}{H H':Hp}(z:Same H H'):∀{n:Nat}{v:V}{d:Int}{s:Option Int},BaseAt a n H v d s->BaseAt a n H' v d s
 |0,_,_,_,h=>h
 |n+1,_,_,_,h=>by
  rcases h with h|⟨x,B,S,rd,st,bs,rs,c,f,j,b,i,e,k,g⟩
  .exact .inl h
  .exact .inr ⟨x,B,S,rd,st,bs,rs,c,f,j,b.same z,i,e,k.same z,g⟩
def qyt {g b:Int->Bool}{ps:List Pz}{s m l:Int}(h:Lst g b ps s m (some l)):s<l:=by
 rcases h with ⟨_,h⟩|⟨f,c,a⟩
 .cases h
 .have:=c.1;have:=a.1;lia
theorem qdj {a:Adr}{H:Hp}:∀{n:Nat}{v:V}{d x:Int},BaseAt a n H v d (some x)->0<=d->0<=x
 |0,_,_,_,h,hd=>by cases h.2;exact hd
 |n+1,_,_,_,h,hd=>by
  rcases h with h|⟨y,B,S,rd,st,bs,rs,c,f,h1,h2,h3,e,g,b⟩
  .cases h.2;exact hd
  .cases f with
   |none=>cases b
   |some z =>have:=qdj g e.d0;have:=qyt b;lia
def qen {bs:List Bool}{rs:List Rw}{rd:RD}{st:RS}{s r a:Option Int}(b:∀x,s=some x->0<=x)(h:LsS bs rs rd st s r)(h':LsS bs rs rd st s a):r=a:=by
 cases s with|none=>rw[h,h']|some d=>exact qyo (b d Z) h h'
def spSt (a:Adr)(n:Nat):Sp:=λvs H Q _=>∃(x:Addr)(B:Hp)(S:List Addr)(rd:RD)(st:RS)(bs:List Bool)(rs:List Rw)(s:Option Int),vs=[.ref x]/\RunAt a B H x S rd st bs rs/\BaseAt a n H st.bv st.day s/\∀H',Same H H'->Q (oV s) H'
def spOvr (a:Adr):Sp:=λvs H Q _=>∃(x:Addr)(B:Hp)(S:List Addr)(rd:RD)(st:RS)(bs:List Bool)(rs:List Rw),vs=[.ref x]/\RunAt a B H x S rd st bs rs/\Q (.bl st.over) H
def spHl (a:Adr):Sp:=λvs H Q _=>∃(x:Addr)(B:Hp)(S:List Addr)(rd:RD)(st:RS)(bs:List Bool)(rs:List Rw),vs=[.ref x]/\RunAt a B H x S rd st bs rs/\Q (.bl (qai st.ps)) H
def spLt (a:Adr)(n:Nat):Sp:=λvs H Q _=>∃(x:Addr)(B:Hp)(S:List Addr)(rd:RD)(st:RS)(bs:List Bool)(rs:List Rw)(c:Int)(s:Option Int),vs=[.ref x]/\RunAt a B H x S rd st bs rs/\TabOk bs rs/\StOk st c/\BaseAt a n H st.bv st.day s/\∀(H':Hp)(r:Option Int),Same H H'->LsS bs rs rd st s r->Q (oV r) H'
def spUw (a:Adr):Sp:=λvs H Q _=>∃(x:Addr)(B:Hp)(S:List Addr)(rd:RD)(st:RS)(bs:List Bool)(rs:List Rw)(c d:Int)(s r:Option Int),vs=[.ref x,.int d]/\RunAt a B H x S rd st bs rs/\TabOk bs rs/\StOk st c/\BaseAt a nB H st.bv st.day s/\LsS bs rs rd st s r/\∀H',Same H H'->Q (.bl (under s r d)) H'
def spGo (a:Adr):Sp:=λvs H Q _=>∃(x:Addr)(B:Hp)(S:List Addr)(rd:RD)(st:RS)(bs:List Bool)(rs:List Rw)(c d:Int),vs=[.ref x,.int d]/\RunAt a B H x S rd st bs rs/\StOk st c/\∀H',KeepS S H H'->RunAt a B H' x S rd {st with ps:=qgv st.ps d} bs rs->Q (.bl (qai st.ps)) H'
def spFi (a:Adr):Sp:=λvs H Q _=>∃(x:Addr)(B:Hp)(S:List Addr)(rd:RD)(st:RS)(bs:List Bool)(rs:List Rw)(c d:Int),vs=[.ref x,.int d]/\RunAt a B H x S rd st bs rs/\StOk st c/\∀H',KeepS S H H'->RunAt a B H' x S rd {st with ps:=qgv st.ps d,over:=true} bs rs->Q (.bl true) H'
def spAn (a:Adr):Sp:=λvs H Q _=>∃(x:Addr)(B:Hp)(S:List Addr)(rd:RD)(st:RS)(bs:List Bool)(rs:List Rw)(d:Int),vs=[.ref x,.int d]/\RunAt a B H x S rd st bs rs/\∀H' S',KeepS S H H'->Fresh H S S'->RunAt a B H' x S' rd {st with day:=d,units:=rd.many,ps:=[],gr:=[],bv:=.non} bs rs->Q (.bl true) H'
def spLe (a:Adr):Sp:=λvs H Q _=>∃(x:Addr)(B:Hp)(S:List Addr)(rd:RD)(st:RS)(bs:List Bool)(rs:List Rw)(c:Int)(k:Str),vs=[.ref x,.str k]/\RunAt a B H x S rd st bs rs/\StOk st c/\(qno rd st.gr k=none->Q (.bl false) H) /\
 ∀H' t,KeepS S H H'->qno rd st.gr k=some t->RunAt a B H' x S rd {st with units:=st.units+t.2.1,gr:=qc7 st.gr (.inr k) (.int (gv st.gr k+1))} bs rs->Q (.bl true) H'
def spHa (a:Adr):Sp:=λvs H Q _=>∃(x:Addr)(B:Hp)(S:List Addr)(rd:RD)(st:RS)(bs:List Bool)(rs:List Rw)(c d:Int),vs=[.ref x,.int d]/\RunAt a B H x S rd st bs rs/\StOk st c/\(qai st.ps=true->Q (.bl false) H)/\∀H',KeepS S H H'->qai st.ps=false->RunAt a B H' x S rd {st with ps:=st.ps++[(d,none)]} bs rs->Q (.bl true) H'
def spWk (a:Adr):Sp:=λvs H Q _=>∃(x:Addr)(B:Hp)(S:List Addr)(rd:RD)(st:RS)(bs:List Bool)(rs:List Rw)(c d:Int)(w k:Str)(s r:Option Int),vs=[.ref x,.str w,.int d,.str k]/\RunAt a B H x S rd st bs rs/\TabOk bs rs/\StOk st c/\BaseAt a nB H st.bv st.day s/\LsS bs rs rd st s r /\
 ∀H' S',KeepS S H H'->Fresh H S S'->(qa7 rd st s r w d k=none->RunAt a B H' x S' rd st bs rs->Q (.bl false) H')/\∀s2,qa7 rd st s r w d k=some s2->RunAt a B H' x S' rd s2 bs rs->Q (.bl true) H'
def spFe (a:Adr):Sp:=λvs H Q _=>∃(x:Addr)(B:Hp)(S:List Addr)(rd:RD)(st:RS)(bs:List Bool)(rs:List Rw)(c d:Int)(n k:Str)(s r:Option Int),vs=[.ref x,.str n,.int d,.str k]/\RunAt a B H x S rd st bs rs/\TabOk bs rs/\RdOk rd/\StOk st c/\BaseAt a nB H st.bv st.day s/\LsS bs rs rd st s r /\
 ∀H' S',KeepS S H H'->Fresh H S S'->RunAt a B H' x S' rd (qa3 rd st s r n d k).1 bs rs->Q (.bl (qa3 rd st s r n d k).2) H'
noncomputable def swd (o:Bool)(r:Option Int):Str:=if o=true then Aa "over" else if r=none then Aa "stands" else Aa "runs"
def spSw (a:Adr):Sp:=λvs H Q _=>∃(x:Addr)(B:Hp)(S:List Addr)(rd:RD)(st:RS)(bs:List Bool)(rs:List Rw)(r:Option Int),vs=[.ref x,oV r]/\RunAt a B H x S rd st bs rs/\Q (.str (swd st.over r)) H
def AtR (H:Hp)(p:Addr)(rows:List R3):Prop:=∃us,H p=some (.lst us)/\Tups H us (rows.map qj2)
def AtR.same {H H':Hp}{p:Addr}{rows:List R3}(h:AtR H p rows)(z:Same H H'):AtR H' p rows:=by obtain⟨us,b,a⟩:=h;exact⟨us,z _ _ b,a.same z⟩
def AccAt (H:Hp)(q p4 p6:Addr)(n:Str)(st:RS)(s r:Option Int):Prop:=H q=some (.tup [.str n,.str (swd st.over r),oV s,.int st.units,.ref p4,oV r,.ref p6])/\AtQ H p4 st.ps/\AtR H p6 st.rows
def spAc (a:Adr):Sp:=λvs H Q _=>∃(x:Addr)(B:Hp)(S:List Addr)(rd:RD)(st:RS)(bs:List Bool)(rs:List Rw)(c:Int)(s r:Option Int)(n w0:Str)(d0:Int)(rw:List R3),vs=[.ref x]/\RunAt a B H x S rd st bs rs/\TabOk bs rs/\StOk st c/\BaseAt a nB H st.bv st.day s/\LsS bs rs rd st s r/\st.rows=(n,d0,w0)::rw /\
 ∀(q p4 p6:Addr)(H':Hp),Same H H'->H q=none->H p4=none->H p6=none->AccAt H' q p4 p6 n st s r->Q (.ref q) H'
def qh6 {ps:List Pz}(h:qai ps=true):∃a F,ps=a++[(F,none)]:=by
 rcases BD ps with e|⟨a,p,e⟩
 .rw[e]at h;cases h
 .rw[B4]at e;subst e;obtain⟨F,o⟩:=p;cases o with|none=>exact⟨a,F,Z⟩|some x=>unfold qai at h;rw[DY]at h;cases h
def qmr {a:List Pz}{F:Int}{o:Option Int}:qai (a++[(F,o)])=decide (oV o=V.non):=by unfold qai;rw[DY];cases o <;>rfl
def qha {a:List Pz}{F d:Int}:qgv (a++[(F,none)]) d=a++(if F<d then [(F,some (d-1))] else []):=by unfold qgv;rw[DY];show (a++[(F,none)]).dropLast++_=_;rw[List.dropLast_concat]
def qev {ps:List Pz}{d:Int}(h:qai ps=false):qgv ps d=ps:=by
 unfold qgv qai at *;split at h
 .cases h
 .rfl
def last_ix (vs:List V)(x:V):(vs++[x])[(vs++[x]).length-1]?=some x:=by rw[Af,AU,D5,AK (Al _),Da];rfl
def fit7 (c g a d e b f:V):[c,g,a,d,e,b,f].length<=A5:=BG (qn3 (show 7<=1000 by decide))
theorem gv_get {gr:List (Key×V)}(h:∀k v,qbn gr k=some v->∃n:Int,v=.int n)(k:Str):(qbn gr (.inr k)).getD (.int 0)=.int (gv gr k):=by
 unfold gv;cases e:qbn gr (.inr k) with
 |none=>rfl
 |some v=>obtain⟨n,rfl⟩:=h _ _ e;rfl
def find_at {α:Type}{p:α->Bool}{l:List α}{i:Nat}{t:α}(h:(l.take i).find? p=none)(d:l[i]?=some t)(c:p t=true):l.find? p=some t:=by
 obtain⟨a,b⟩:=Ac.mp d;have e:l=l.take i++t::l.drop (i+1):=by rw[<- b,<- Ch a,Ci]
 rw[e,List.find?_append,h,Cw,c];rfl
def quf {α:Type}{p:α->Bool}{l:List α}{i:Nat}{t:α}(h:(l.take i).find? p=none)(b:l[i]?=some t)(a:p t=false):(l.take (i+1)).find? p=none:=by rw[qcl b,List.find?_append,h,Cw,a];rfl
def qf1 {rd:RD}{st s:RS}{a r:Option Int}{w k:Str}{d:Int}(h:qa7 rd st a r w d k=some s):s.rows=st.rows:=by
 unfold qa7 at h;split at h
 .cases h;rfl
 .split at h
  .cases h
  .split at h
   .cases h;rfl
   .split at h
    .split at h
     .cases h
     .cases h;rfl
    .split at h
     .split at h
      .cases h
      .cases h;rfl
     .split at h
      .cases h;rfl
      .cases h
noncomputable abbrev az:Str:=Aa "abcdefghijklmnopqrstuvwxyz"
def az_len:az.length=26:=Uk
def az_at:∀i:Nat,i<26->az.cps.toList[i]?=some (97+i):=Uk
def az_ix {x:Int}:atI az.cps.toList (x % 26)=some (97+(x % 26).toNat):=by obtain⟨j,hj⟩:∃j:Nat,x % 26=(j:Int):=⟨(x % 26).toNat,by lia⟩;rw[hj,B3];exact qa0 (az_at j (by lia))
noncomputable def wsz (c:Int):Int:=1+c % 8
def qf8 (c k:Int):Int:=if c / 64 % 2=0 then wsz c else 1+k % wsz c
def qkz (c k:Int):Int:=if qf8 c k-1<c / 8 % wsz c then qf8 c k-1 else c / 8 % wsz c
def won (c k j:Int):Int:=if j=qkz c k then c / 64+7*j*j+k else c / 64+7*j*j
def wl (c k:Int)(n:Nat):List Nat:=(Aq n).map λ(j:Nat)=>97+(won c k (j:Int) % 26).toNat
def wdS (c:Int)(k:Nat):Str:=⟨(wl c (k:Int) (qf8 c (k:Int)).toNat).toArray⟩
def qsz (c:Int):1<=wsz c/\wsz c<=8:=by unfold wsz;lia
def qk9 (c k:Int):1<=qf8 c k/\qf8 c k<=8:=by
 have:=qsz c;unfold qf8;split
 .exact this
 .have:=Cy k (show wsz c≠0 by lia);have:=Db k (show 0<wsz c by lia);lia
def wmin_in (c k:Int):0<=qkz c k/\qkz c k<qf8 c k:=by have h:=qsz c;have:=qk9 c k;have:=Cy (c / 8) (show wsz c≠0 by lia);unfold qkz;split <;>lia
def wl_succ (c k:Int)(n:Nat):wl c k (n+1)=wl c k n++[97+(won c k (n:Int) % 26).toNat]:=by unfold wl;rw[Bv,Ax];rfl
def qyu {x y:Str}(h:x.cps.toList=y.cps.toList):x=y:=by obtain⟨⟨x⟩⟩:=x;obtain⟨⟨y⟩⟩:=y;have h:x=y:=h;rw[h]
def qyv (l:List Nat)(x:Nat):(⟨l.toArray⟩:Str)++(⟨#[x]⟩:Str)=⟨(l++[x]).toArray⟩:=by refine qyu ?_;rw[Str.cps_append,Array.toList_append]
def wd_inj {c:Int}{k d:Nat}(hk:k<26)(hk':d<26)(e:wdS c k=wdS c d):k=d:=by
 have h:wl c (k:Int) (qf8 c (k:Int)).toNat=wl c (d:Int) (qf8 c (d:Int)).toNat:=by have:=congrArg (λs:Str=>s.cps.toList) e;simpa [wdS] using this
 have f:=congrArg D8 h;unfold wl at f;rw[Ab,Ab,As,As]at f;have f1:=qk9 c (k:Int);have f2:=qk9 c (d:Int);have l:qf8 c (k:Int)=qf8 c (d:Int):=by lia
 have j:qkz c (k:Int)=qkz c (d:Int):=by unfold qkz;rw[l]
 have m1:=wmin_in c (k:Int);obtain⟨m,hm⟩:∃m:Nat,qkz c (k:Int)=(m:Int):=⟨(qkz c (k:Int)).toNat,by lia⟩;have g:∀q:Nat,qkz c (q:Int)=(m:Int)->m<(qf8 c (q:Int)).toNat->(wl c (q:Int) (qf8 c (q:Int)).toNat)[m]?=some (97+((c / 64+7*(m:Int)*(m:Int)+(q:Int)) % 26).toNat):=λq n i=>by unfold wl;rw[Ah,AX i];show some (97+(won c (q:Int) (m:Int) % 26).toNat)=_;unfold won;rw[if_pos n.symm]
 have a:=g k hm (by lia);have b:=g d (j ▸ hm) (by lia);rw[h,b]at a;have a:=AA a;generalize c / 64+7*(m:Int)*(m:Int)=z at a;lia
def wds (c:Int)(m:Nat):List Str:=(Aq m).map (wdS c)
def qla (c:Int)(m:Nat):(wds c m).length=m:=by unfold wds;rw[Ab,As]
def qyw (c:Int)(m:Nat):wds c (m+1)=wds c m++[wdS c m]:=by unfold wds;rw[Bv,Ax];rfl
def spWords:Sp:=λvs H Q _=>∃(c:Int)(m:Nat),vs=[.int c,.int (m:Int)]/\m<=26/\∀(q:Addr)(H':Hp),H q=none->Same H H'->H' q=some (.lst ((wds c m).map V.str))->Q (.ref q) H'
def far_at (c k:Int):atI [V.int (wsz c),V.int (1+k % wsz c)] (c / 64 % 2)=some (V.int (qf8 c k)):=by
 unfold qf8;rcases (by lia:c / 64 % 2=0\/c / 64 % 2=1) with e|e
 .rw[e,if_pos Z];rfl
 .rw[e,if_neg Ud];rfl
section
variable {K:Ag}
end
def qs0 {H:Hp}{x a:Addr}{o u:HO}(nx:H x=none)(nd:H a=none):Same H (upd (upd H a u) x o):=λb v e=>by rw[qr (qag e nx),qr (qag e nd)];exact e
theorem qom {H H':Hp}{us:List V}{ts:List (List V)}(t:Tups H us ts)(k:∀b t,H b=some (.tup t)->H' b=some (.tup t)):Tups H' us ts:=by
 induction t with
 |nil=>exact .nil
 |cons e _ ih=>exact .cons (k _ _ e) ih
def StOk.mono {st:RS}{c d:Int}(h:StOk st c)(cd:c<=d):StOk st d:=⟨h.ps,h.d0,h.u1,h.pl,h.rl,h.gl,h.gi,λp b e a=>by have:=h.cu p b e a;lia,h.r0⟩
def qug {st:RS}{c d u n:Int}{k nm:Str}(h:StOk st c)(cd:c<=d)(u0:0<=u)(hl:st.rows.length<400):StOk {st with units:=st.units+u,gr:=qc7 st.gr (.inr k) (.int n),rows:=st.rows++[(nm,d,Aa "longer")]} d:=by
 have h1:=h.pl;have h2:=h.gl;have h3:=qdk st.gr (.inr k) (V.int n);have hr:(st.rows++[(nm,d,Aa "longer")]).length=st.rows.length+1:=by rw[Af];rfl
 refine⟨h.ps,h.d0,by have:=h.u1;show 1<=st.units+u;lia,by show st.ps.length<=(st.rows++_).length;lia,by show (st.rows++_).length<=400;lia,by show (qc7 st.gr (.inr k) (V.int n)).length<=(st.rows++_).length;lia,λb v a=>?_,λp g e f=>by have:=h.cu p g e f;lia,λz=>by cases (Dc.mp z).2⟩;have a:qbn (qc7 st.gr (.inr k) (.int n)) b=some v:=a;rw[qln]at a;split at a
 .cases a;exact⟨n,Z⟩
 .exact h.gi b v a
def need1 {u:Int}(h:1<=u)(i:Three):1<=qyp i u:=qq9 h i
def qs1 (g:Int->Bool):Prop:=∀n,0<=n->∃e,n<=e/\e<=n+2000/\g e=false
def Ends (ps:List Pz)(E:Int):Prop:=∀p∈ps,∀e,p.2=some e->e<=E
def qon {ps:List Pz}{E d:Int}(c:Ends ps E)(h:E<d)(b:∀F,(F,none)∈ps->d<F):stl ps d=false:=qmp λp a=>by
 obtain⟨F,o⟩:=p;cases o with|none=>rw[qiv];exact decide_eq_false (by have:=b F a;lia)|some e=>rw[qel,decide_eq_false (show ¬d<=e by have:=c _ a e Z;lia),Co]
theorem qpm:∀(ps:List Pz)(s:Int),∃E,s<=E/\Ends ps E
 | [],s=>⟨s,Bb _,λ_ h=>absurd h AB⟩
 | (F,o)::ps,s=>by
  obtain⟨E,d,c⟩:=qpm ps s;cases o with
  |none =>
   refine⟨E,d,λp b e a=>?_⟩;rcases Aw.mp b with z|z
   .rw[z]at a;cases a
   .exact c p z e a
  |some x =>
   refine⟨if E<x then x else E,by split <;>lia,λp b e a=>?_⟩;rcases Aw.mp b with z|z
   .rw[z]at a;cases a;split <;>lia
   .have:=c p z e a;split <;>lia
theorem quh {g:Int->Bool}{ps:List Pz}{E B:Int}(a:qs1 g)(E0:0<=E)(b:∀e,E<e->e<B->stl ps e=false):∀k:Nat,E+1+2001*(k:Int)<=B->∃d,E<d/\d<=E+1+2001*(k:Int)/\cn (gst g ps) (E+1)+(k:Int)<=cn (gst g ps) d
 |0,_=>⟨E+1,by lia,by lia,by lia⟩
 |k+1,h=>by
  obtain⟨d,h1,h2,h3⟩:=quh a E0 b k (by lia);obtain⟨e,i,e2,f⟩:=a d (by lia);have C:=qds (gst g ps);have st:=C.st e (by lia);have c:gst g ps e=false:=by unfold gst;rw[f,b e (by lia) (by lia)];rfl
  rw[c,if_neg Ud]at st;have:=C.le (n:=d) (m:=e) (by lia) i;exact⟨e+1,by lia,by lia,by lia⟩
theorem qyx {G:Int->Bool}{s m:Int}(b:0<=s)(a:1<=m):∀k:Nat,cn G (s+1)+m<=cn G (s+1+(k:Int))->∃d,s<d/\G d=false/\cn G d=cn G (s+1)+m-1
 |0,h=>by rw[DQ,Cn]at h;lia
 |k+1,h=>by
  by_cases z:cn G (s+1)+m<=cn G (s+1+(k:Int))
  .exact qyx b a k z
  .have st:=(qds G).st (s+1+(k:Int)) (by lia);rw[show s+1+((k+1:Nat):Int)=s+1+(k:Int)+1 by lia,st]at h;cases e:G (s+1+(k:Int)) with|true=>rw[e,if_pos Z]at h;lia|false=>rw[e,if_neg Ud]at h;exact⟨_,by lia,e,by lia⟩
def full_ex {g:Int->Bool}{ps:List Pz}{s m:Int}(f:qs1 g)(o:0<=s)(l:1<=m):∃r,qnn g ps s m r:=by
 by_cases h:∃d,s<d/\cn (gst g ps) (s+1)+m<=cn (gst g ps) d
 .obtain⟨d,b,k⟩:=h;obtain⟨e,u,q,j⟩:=qyx o l (d-s-1).toNat (by rw[show s+1+((d-s-1).toNat:Int)=d by lia];exact k);exact⟨some e,u,q,j⟩
 .have a:∀d,s<d->cn (gst g ps) d<cn (gst g ps) (s+1)+m:=λd t=>Int.not_le.mp λz=>h ⟨d,t,z⟩;refine⟨none,?_,a⟩;by_cases c:∃F,(F,none)∈ps
  .exact c
  .exfalso;obtain⟨E,E1,p⟩:=qpm ps s;obtain⟨d,d1,d2,d3⟩:=quh (B:=E+1+2001*(m.toNat:Int)) f (by lia) (λe b _=>qon p b λF i=>absurd ⟨F,i⟩ c) m.toNat (Bb _);have:=a d (by lia);have:=(qds (gst g ps)).le (n:=s+1) (m:=E+1) (by lia) (by lia);lia
theorem qrg {G:Int->Bool}{f:Int}:∀k:Nat,(∀j,f<=j->j<f+(k:Int)->G j=true) \/ ∃d,f<=d/\G d=false/\∀e,f<=e->e<d->G e=true
 |0=>.inl λj a b=>by lia
 |k+1=>by
  rcases qrg (G:=G) (f:=f) k with h|h
  .cases e:G (f+(k:Int)) with
   |false=>exact .inr ⟨_,by lia,e,h⟩
   |true =>
    refine .inl λj a b=>?_;by_cases z:j<f+(k:Int)
    .exact h j a z
    .rw[show j=f+(k:Int) by lia];exact e
  .exact .inr h
def due_ex {g:Int->Bool}{ps:List Pz}{f:Int}(j:qs1 g)(f0:0<=f):∃r,Due g ps f r:=by
 by_cases h:∃d,f<=d/\gst g ps d=false
 .obtain⟨d,o,m⟩:=h;rcases qrg (G:=gst g ps) (f:=f) ((d-f).toNat+1) with z|⟨e,c,b,a⟩
  .have:=z d o (by lia);rw[m]at this;cases this
  .exact⟨some e,c,b,a⟩
 .have all:∀e,f<=e->gst g ps e=true:=λe k=>by
   cases z:gst g ps e with|true=>rfl|false=>exact absurd ⟨e,k,z⟩ h
  refine⟨none,?_,all⟩
  by_cases i:∃F,(F,none)∈ps
  .exact i
  .exfalso;obtain⟨E,E1,n⟩:=qpm ps f;obtain⟨e,c,b,a⟩:=j (E+1) (by lia);have:=all e (by lia);unfold gst at this;rw[a,qon n (by lia) λF l=>absurd ⟨F,l⟩ i]at this;cases this
def qyy {wk:List Int}{yr:List S2}{rs:List Rw}(h:PartsOk wk yr rs):qs1 (tfr (fdL wk yr) (ov rs)):=λn a=>by obtain⟨e,c,d,b⟩:=qv5 h.w h.y h.l h.r a;exact⟨e,c,d,(tfr_lfr h.r (by lia)).trans b⟩
theorem qui {wk:List Int}{yr:List S2}{rs:List Rw}(h:PartsOk wk yr rs):∀i:Three,qs1 (kf (fdL wk yr) (ov rs) i)
 |.a=>λn _=>⟨n,Bb _,by lia,Z⟩
 |.b=>λn _=>⟨n,Bb _,by lia,Z⟩
 |.c=>qyy h
def wy:Three->Int:=qcq 1 0 2
def qrh {ps:List Pz}(ok:PsOk ps)(h:qai ps=false):Fnt ps:=by
 rcases BD ps with e|⟨qs,p,e⟩
 .rw[e];exact λ_ h=>absurd h AB
 .rw[B4]at e;subst e;obtain⟨F,o⟩:=p;obtain⟨_,_,b⟩:=Bm.mp ok.srt;intro q c;rcases Az.mp c with z|z
  .obtain⟨e,a,_⟩:=b q z (F,o) (Aj.mpr Z);exact⟨e,a⟩
  .rw[Aj.mp z];cases o with|none=>rw[qmr]at h;cases h|some x=>exact⟨x,Z⟩
def qyz {a:List Pz}{p:Pz}(ok:PsOk (a++[p])):PsOk a:=⟨(Bm.mp ok.srt).1,λq b=>ok.ok q (Az.mpr (.inl b))⟩
theorem qlb {ps:List Pz}{d:Int}(ok:PsOk ps):PsOk (qgv ps d):=by
 cases b:qai ps with
 |false=>rw[qev b];exact ok
 |true =>
  obtain⟨qs,F,rfl⟩:=qh6 b;rw[qha];by_cases c:F<d
  .rw[if_pos c];obtain⟨i,_,g⟩:=Bm.mp ok.srt;have l:=ok.ok (F,none) (Az.mpr (.inr (Aj.mpr Z)));refine⟨Bm.mpr ⟨i,CP _ _,λp a q h=>?_⟩,λp a=>?_⟩
   .rw[Aj.mp h];exact g p a (F,none) (Aj.mpr Z)
   .rcases Az.mp a with z|z
    .exact ok.ok p (Az.mpr (.inl z))
    .rw[Aj.mp z];exact⟨l.1,λe f=>by cases f;show F<=d-1;lia⟩
  .rw[if_neg c,Bu];exact qyz ok
def quj {ps:List Pz}{d:Int}(ok:PsOk ps)(h:qai ps=false)(g:∀p∈ps,∀e,p.2=some e->e<d)(c:0<=d):PsOk (ps++[(d,none)]):=by
 have fn:=qrh ok h;refine⟨Bm.mpr ⟨ok.srt,CP _ _,λp b q f=>?_⟩,λp b=>?_⟩
 .rw[Aj.mp f];obtain⟨e,a⟩:=fn p b;exact⟨e,a,g p b e a⟩
 .rcases Az.mp b with z|z
  .exact ok.ok p z
  .rw[Aj.mp z];exact⟨c,λe a=>nomatch a⟩
theorem qs2 {ps:List Pz}{d:Int}(ok:PsOk ps):qai (qgv ps d)=false:=by
 cases a:qai ps with
 |false=>rw[qev a];exact a
 |true =>
  obtain⟨f,F,rfl⟩:=qh6 a;rw[qha];by_cases c:F<d
  .rw[if_pos c,qmr];rfl
  .rw[if_neg c,Bu];cases h:qai f with
   |false=>rfl
   |true =>obtain⟨qs',G,rfl⟩:=qh6 h;obtain⟨_,_,g⟩:=Bm.mp ok.srt;obtain⟨e,b,_⟩:=g (G,none) (Az.mpr (.inr (Aj.mpr Z))) (F,none) (Aj.mpr Z);cases b
theorem qpn {ps:List Pz}{d:Int}:(qgv ps d).length<=ps.length:=by
 cases a:qai ps with
 |false=>rw[qev a];exact Al _
 |true =>
  obtain⟨qs,F,rfl⟩:=qh6 a;rw[qha,Af,Af];split
  .exact Al _
  .simp
theorem quk {ps:List Pz}{c d:Int}(cd:c<=d)(f:∀p∈ps,∀e,p.2=some e->e<c):∀p∈qgv ps d,∀e,p.2=some e->e<d:=λp b e a=>by
 cases g:qai ps with
 |false=>rw[qev g]at b;have:=f p b e a;lia
 |true =>
  obtain⟨qs,F,rfl⟩:=qh6 g;rw[qha]at b;rcases Az.mp b with z|z
  .have:=f p (Az.mpr (.inl z)) e a;lia
  .split at z
   .rw[Aj.mp z]at a;cases a;lia
   .cases z
theorem qy0 {ps:List Pz}{d:Int}(h:∀p∈ps,p.1<=d):∀p∈qgv ps d,p.1<=d:=λp a=>by
 cases b:qai ps with
 |false=>rw[qev b]at a;exact h p a
 |true =>
  obtain⟨qs,F,rfl⟩:=qh6 b;rw[qha]at a;rcases Az.mp a with z|z
  .exact h p (Az.mpr (.inl z))
  .split at z
   .rw[Aj.mp z];exact h (F,none) (Az.mpr (.inr (Aj.mpr Z)))
   .cases z
def qhb {st:RS}{c d:Int}{ps':List Pz}{n w:Str}{o':Bool}(h:StOk st c)(a:PsOk ps')(hl:ps'.length<=st.ps.length+1)(b:∀p∈ps',∀e,p.2=some e->e<d)(hr:st.rows.length<400):StOk {st with ps:=ps',over:=o',rows:=st.rows++[(n,d,w)]} d:=by
 have e:(st.rows++[(n,d,w)]).length=st.rows.length+1:=by rw[Af];rfl
 have h1:=h.pl;have h2:=h.gl;exact⟨a,h.d0,h.u1,by show ps'.length<=(st.rows++_).length;lia,by show (st.rows++_).length<=400;lia,by show st.gr.length<=(st.rows++_).length;lia,h.gi,b,λz=>by cases (Dc.mp z).2⟩
def qoo {i:Three}{u v:Int}(h:u<=v):qyp i u<=qyp i v:=by
 cases i
 .exact h
 .show 7*u<=7*v;lia
 .exact h
def qri {s r:Option Int}{d:Int}(h:under s r d=true):∃x,s=some x/\x<d/\∀l,r=some l->d<=l:=by
 cases s with|none=>cases h|some x =>unfold under at h;simp only[By]at h;refine⟨x,Z,of_decide_eq_true h.1,λl e=>?_⟩;subst e;exact of_decide_eq_true h.2
def mask_ex (P:Addr->Prop)(H:Hp):∃F:Hp,(∀b,P b->F b=none)/\(∀b o,¬P b->H b=some o->F b=some o)/\Same F H:=by
 classical
 refine⟨λb=>if P b then none else H b,λb h=>if_pos h,λb o h e=>by show (if P b then none else H b)=_;rw[if_neg h];exact e,λb o e=>?_⟩
 have e:(if P b then none else H b)=some o:=e
 by_cases h:P b
 .rw[if_pos h]at e;cases e
 .rw[if_neg h]at e;exact e
def RunAt.rebase {a:Adr}{B c H:Hp}{x:Addr}{S:List Addr}{rd:RD}{st:RS}{bs:List Bool}{rs:List Rw}(h:RunAt a B H x S rd st bs rs)(d:Same B c)(j:Same c H)(n:∀b∈S,c b=none):RunAt a c H x S rd st bs rs:=by obtain⟨e,rl,cn,l,k,f,i,g,rfl,R⟩:=h;exact⟨e,rl,cn,l,k,f,i,g,Z,R.ne,R.hx,R.hr,R.tr,R.hp,R.tp,R.hg,R.rl.same d,R.kd.same d,j,n _ (by simp),n _ (by simp),n _ (by simp),n _ (by simp)⟩
def RunAt.but {a:Adr}{B H H':Hp}{x:Addr}{S:List Addr}{rd:RD}{st:RS}{bs:List Bool}{rs:List Rw}(Zq:Addr->Prop)(h:RunAt a B H x S rd st bs rs)(k:∀b o,¬Zq b->H b=some o->H' b=some o)(c:∀b∈S,¬Zq b)(p:∀b t,H b=some (.tup t)->¬Zq b)(l:∀b o,B b=some o->¬Zq b):RunAt a B H' x S rd st bs rs:=by obtain⟨f,rl,cn,m,n,g,j,i,rfl,R⟩:=h;have d:∀b t,H b=some (.tup t)->H' b=some (.tup t):=λb t e=>k b _ (p b t e) e;exact⟨f,rl,cn,m,n,g,j,i,Z,R.ne,k _ _ (c _ (by simp)) R.hx,k _ _ (c _ (by simp)) R.hr,qom R.tr d,k _ _ (c _ (by simp)) R.hp,qom R.tp d,k _ _ (c _ (by simp)) R.hg,R.rl,R.kd,λb o e=>k b o (l b o e) (R.sm b o e),R.bx,R.br,R.bp,R.bg⟩
def RunAt.ex {a:Adr}{B H:Hp}{x:Addr}{S:List Addr}{rd:RD}{st:RS}{bs:List Bool}{rs:List Rw}(h:RunAt a B H x S rd st bs rs):Same B H/\(∀b∈S,∃o,H b=some o/\∀t,o ≠ .tup t)/\∀b∈S,B b=none:=by
 obtain⟨dx,rl,cn,pr,pp,pg,ur,up,rfl,R⟩:=h;refine⟨R.sm,λb c=>?_,λb c=>?_⟩
 .rcases Aw.mp c with z|c
  .exact⟨_,by rw[z];exact R.hx,λ_ q=>by cases q⟩
  .rcases Aw.mp c with z|c
   .exact⟨_,by rw[z];exact R.hr,λ_ q=>by cases q⟩
   .rcases Aw.mp c with z|c
    .exact⟨_,by rw[z];exact R.hp,λ_ q=>by cases q⟩
    .exact⟨_,by rw[Aj.mp c];exact R.hg,λ_ q=>by cases q⟩
 .rcases Aw.mp c with z|c
  .rw[z];exact R.bx
  .rcases Aw.mp c with z|c
   .rw[z];exact R.br
   .rcases Aw.mp c with z|c
    .rw[z];exact R.bp
    .rw[Aj.mp c];exact R.bg
noncomputable def put {α:Type}(f:Nat->α)(i:Nat)(v:α):Nat->α:=λj=>if j=i then v else f j
def qav {α:Type}{f:Nat->α}{i:Nat}{v:α}:put f i v i=v:=if_pos rfl
theorem qar {α:Type}{f:Nat->α}{i j:Nat}{v:α}(h:j≠i):put f i v j=f j:=if_neg h
structure WdN (nms:List Str)(bs:List (Option Nat))(rk:Nat->Nat):Prop where
 nd:nms.Nodup
 len:bs.length=nms.length
 sm:nms.length<=6
 ok:∀(k b:Nat),bs[k]?=some (some b)->b<nms.length/\rk b<rk k
 lo:∀k,rk k<7
noncomputable def nm (nms:List Str)(k:Nat):Str:=nms.getD k Be
noncomputable def bo (bs:List (Option Nat))(k:Nat):Option Nat:=bs.getD k none
def upW (nms:List Str)(bs:List (Option Nat))(tk:List Str):Nat->Nat->List Str
 |0,_=>[]
 |f+1,k=>if nm nms k∈tk then [] else nm nms k::(match bo bs k with|some b=>upW nms bs tk f b|none=>[])
def qiy (nms:List Str)(bs:List (Option Nat))(i:Nat):List Str:=(Aq i).foldl (λtk k=>tk++(upW nms bs tk 7 k).reverse) []
def qj3 (nms:List Str)(bs:List (Option Nat))(i:Nat):qiy nms bs (i+1)=qiy nms bs i++(upW nms bs (qiy nms bs i) 7 i).reverse:=by unfold qiy;rw[Bv,Dk];rfl
theorem qpo (nms:List Str)(bs:List (Option Nat))(tk:List Str):∀f k,(upW nms bs tk f k).length<=f
 |0,_=>Al _
 |f+1,k=>by
  unfold upW;split
  .exact AS _
  .rw[AD];cases bo bs k with|none=>exact CQ (AS _)|some b=>exact CQ (qpo nms bs tk f b)
theorem qy1 (nms:List Str)(bs:List (Option Nat))(i:Nat):(qiy nms bs i).length<=7*i:=by
 induction i with
 |zero=>exact Al _
 |succ i ih =>rw[qj3,Af,BO];have:=qpo nms bs (qiy nms bs i) 7 i;lia
def qul {nms:List Str}{k:Nat}(h:k<nms.length):nms[k]?=some (nm nms k):=by unfold nm;rw[Ak,Ae h];rfl
def bo_at {bs:List (Option Nat)}{k:Nat}(h:k<bs.length):bs[k]?=some (bo bs k):=by unfold bo;rw[Ak,Ae h];rfl
theorem qms {nms:List Str}(nd:nms.Nodup){j k:Nat}(b:j<nms.length)(c:k<nms.length)(e:nm nms j=nm nms k):j=k:=by have a:=qul b;rw[e,<- qul c]at a;exact(Ev b nd).mp a
def qrj (nms:List Str):Option Nat->V
 |none=>.non
 |some b=>.str (nm nms b)
def DicOk (kvs:List (Key×V))(nms:List Str)(bs:List (Option Nat)):Prop:=∀k<nms.length,qbn kvs (.inr (nm nms k))=some (qrj nms (bo bs k))
def spUnt:Sp:=λvs H Q _=>∃(x:Str)(d t:Addr)(kvs:List (Key×V))(nms:List Str)(bs:List (Option Nat))(rk:Nat->Nat)(tk:List Str)(k:Nat),vs=[.str x,.ref d,.ref t]/\H d=some (.dK kvs)/\H t=some (.lst (tk.map V.str))/\WdN nms bs rk/\k<nms.length/\x=nm nms k/\DicOk kvs nms bs /\
 ∀(q:Addr)(H':Hp),H q=none->Same H H'->H' q=some (.lst ((upW nms bs tk 7 k).map V.str))->Q (.ref q) H'
def RuN (C:Addr)(H:Hp)(v:V)(x:Str)(b:V):Prop:=∃(p dx:Addr)(fs:List (Str×V)),v=.ref p/\H p=some (.ins C dx fs)/\fs.lookup (Aa "name")=some (.str x)/\fs.lookup (Aa "base")=some b
def RuN.same {C:Addr}{H H':Hp}{v:V}{x:Str}{b:V}(h:RuN C H v x b)(k:Same H H'):RuN C H' v x b:=by obtain⟨p,a,fs,e,d,c⟩:=h;exact⟨p,a,fs,e,k _ _ d,c⟩
def qy2 (C:Addr)(H:Hp)(us:List V)(nms:List Str)(bs:List (Option Nat)):Prop:=us.length=nms.length/\∀(j:Nat)(y:V),us[j]?=some y->RuN C H y (nm nms j) (qrj nms (bo bs j))
def spHang (a:Adr):Sp:=λvs H Q _=>∃(pr:Addr)(us:List V)(nms:List Str)(bs:List (Option Nat))(rk:Nat->Nat),vs=[.ref pr]/\H pr=some (.lst us)/\qy2 a.kB H us nms bs/\WdN nms bs rk /\
 ∀(q:Addr)(H':Hp),H q=none->Same H H'->H' q=some (.lst ((qiy nms bs nms.length).map V.str))->Q (.ref q) H'
def dic_put {kvs:List (Key×V)}{nms:List Str}{bs:List (Option Nat)}{i:Nat}(nd:nms.Nodup)(a:i<nms.length)(h:∀k<i,qbn kvs (.inr (nm nms k))=some (qrj nms (bo bs k))):∀k<i+1,qbn (qc7 kvs (.inr (nm nms i)) (qrj nms (bo bs i))) (.inr (nm nms k))=some (qrj nms (bo bs k)):=λk hk=>by
 rw[qln];by_cases e:k=i
 .subst e;rw[if_pos Z]
 .rw[if_neg (λz=>e (qms nd (by lia) a (Dh.inj z)))];exact h k (by lia)
def up_take {nms:List Str}{bs:List (Option Nat)}{tk:List Str}{f k:Nat}(h:¬nm nms k∈tk):upW nms bs tk (f+1) k=nm nms k::(match bo bs k with|some b=>upW nms bs tk f b|none=>[]):=by show (if nm nms k∈tk then [] else _)=_;rw[if_neg h]
def up_stop {nms:List Str}{bs:List (Option Nat)}{tk:List Str}{f k:Nat}(h:nm nms k∈tk):upW nms bs tk f k=[]:=by
 cases f with|zero=>rfl|succ f =>show (if nm nms k∈tk then [] else _)=_;rw[if_pos h]
noncomputable abbrev bfs (po pd:Addr):List (Str×V):=[(Aa "order",.ref po),(Aa "by_name",.ref pd)]
def BookAt (C:Addr)(H:Hp)(p:Addr)(nms ord:List Str)(us:List V):Prop:=∃(dx po pd:Addr)(kvs:List (Key×V)),H p=some (.ins C dx (bfs po pd))/\H po=some (.lst (ord.map V.str))/\H pd=some (.dK kvs)/\(kvs.map λkv=>kV kv.1)=nms.map V.str/\∀(j:Nat)(y:V),us[j]?=some y->qbn kvs (.inr (nm nms j))=some y
def BookAt.same {C:Addr}{H H':Hp}{p:Addr}{nms a:List Str}{us:List V}(h:BookAt C H p nms a us)(s:Same H H'):BookAt C H' p nms a us:=by obtain⟨b,i,d,kvs,g,c,e,f⟩:=h;exact⟨b,i,d,kvs,s _ _ g,s _ _ c,s _ _ e,f⟩
def spBInit (a:Adr):Sp:=λvs H Q _=>∃(x dx pr:Addr)(us:List V)(nms:List Str)(bs:List (Option Nat))(rk:Nat->Nat),vs=[.ref x,.ref pr]/\H x=some (.ins a.kL dx [])/\H pr=some (.lst us)/\qy2 a.kB H us nms bs/\WdN nms bs rk /\
 ∀H',SameBut x H H'->(∀H2,Rest x H H' H2->BookAt a.kL H2 x nms (qiy nms bs nms.length) us)->Q .non H'
def spBHang (a:Adr):Sp:=λvs H Q _=>∃(x:Addr)(nms ord:List Str)(us:List V),vs=[.ref x]/\BookAt a.kL H x nms ord us/\∀q,H q=none->Q (.ref q) (upd H q (.lst (ord.map V.str)))
def spBRule (a:Adr):Sp:=λvs H Q _=>∃(x:Addr)(nms ord:List Str)(us:List V)(j:Nat)(y:V),vs=[.ref x,.str (nm nms j)]/\BookAt a.kL H x nms ord us/\us[j]?=some y/\Q y H
theorem bk_new {kvs:List (Key×V)}{nms:List Str}{i:Nat}(nd:nms.Nodup)(c:i<nms.length)(h:(kvs.map λa=>kV a.1)=(nms.take i).map V.str):qbn kvs (.inr (nm nms i))=none:=by
 cases e:qbn kvs (.inr (nm nms i)) with
 |none=>rfl
 |some v =>
  have m:=valV_in e;have o:V.str (nm nms i)∈(nms.take i).map V.str:=by rw[<- h];obtain⟨a,l,d⟩:=Bd.mp m;exact Bd.mpr ⟨a,l,by rw[d];rfl⟩
  obtain⟨y,n,f⟩:=Bd.mp o;obtain⟨j,g,b⟩:=C0 n;rw[Bj]at g;rw[Eu]at b;have p:nm nms j=nm nms i:=by have:=qul (nms:=nms) (k:=j) (by lia);rw[Ae (by lia)]at this;rw[<- AA this,b];exact V.str.inj f
  have:=qms nd (by lia) c p;lia
def bk_keys {kvs:List (Key×V)}{nms:List Str}{i:Nat}(y:V)(nd:nms.Nodup)(b:i<nms.length)(h:(kvs.map λa=>kV a.1)=(nms.take i).map V.str):((qc7 kvs (.inr (nm nms i)) y).map λa=>kV a.1)=(nms.take (i+1)).map V.str:=by rw[qid y (bk_new nd b h),Ax,h,B8,qul b,Ax];rfl
def bk_get {kvs:List (Key×V)}{nms:List Str}{us:List V}{i:Nat}{y:V}(nd:nms.Nodup)(a:i<nms.length)(hl:us.length=nms.length)(b:us[i]?=some y)(h:∀(j:Nat) (z:V),j<i->us[j]?=some z->qbn kvs (.inr (nm nms j))=some z):∀(j:Nat)(z:V),j<i+1->us[j]?=some z->qbn (qc7 kvs (.inr (nm nms i)) y) (.inr (nm nms j))=some z:=λj z hj hz=>by
 rw[qln];by_cases e:j=i
 .subst e;rw[if_pos Z];rw[b]at hz;exact hz
 .rw[if_neg (λq=>e (qms nd (by lia) a (Dh.inj q)))];exact h j z (by lia) hz
noncomputable abbrev Act:=Str×Str×Int
noncomputable def qdy (t:Act):List V:=[.str t.1,.str t.2.1,.int t.2.2]
structure TD where
 name:Str
 opens:Option Str
 base:Option Nat
 rd:RD
noncomputable abbrev ZZ:=Nat->List RS
noncomputable abbrev dRS:RS:=⟨[],false,0,0,[],[],.non⟩
theorem qy3 (bs:List Bool)(rs:List Rw)(rd:RD)(st:RS)(s:Option Int):∃r0:Option Int,∀r,(∀x,s=some x->0<=x)->LsS bs rs rd st s r->r0=r:=by
 by_cases h:∃r,(∀x,s=some x->0<=x)/\LsS bs rs rd st s r
 .obtain⟨r,a,b⟩:=h;exact⟨r,λr' _ c=>qen a b c⟩
 .exact⟨none,λr a b=>absurd ⟨r,a,b⟩ h⟩
noncomputable def lsC (bs:List Bool)(rs:List Rw)(rd:RD)(st:RS)(s:Option Int):Option Int:=Classical.choose (qy3 bs rs rd st s)
theorem qs3 {bs:List Bool}{rs:List Rw}{rd:RD}{st:RS}{s r:Option Int}(a:∀x,s=some x->0<=x)(h:LsS bs rs rd st s r):lsC bs rs rd st s=r:=Classical.choose_spec (qy3 bs rs rd st s) r a h
def stF (bs:List Bool)(rs:List Rw)(ts:Nat->TD)(Zq:ZZ):Nat->Nat->RS->Option Int
 |0,_,st=>some st.day
 |n+1,i,st=>match st.bv,(ts i).base with
  |.int k,some b=>lsC bs rs (ts b).rd ((Zq b).getD k.toNat dRS) (stF bs rs ts Zq n b ((Zq b).getD k.toNat dRS))
  |_,_=>some st.day
noncomputable def qj4 (x:Nat->Nat->Addr)(base:Option Nat)(v:V):V:=match v,base with
 |.int k,some b=>.ref (x b k.toNat)
 |_,_=>.non
def qgw {x:Nat->Nat->Addr}{base:Option Nat}:qj4 x base .non=.non:=by unfold qj4;cases base <;>rfl
noncomputable abbrev wB (st:RS)(v:V):RS:={st with bv:=v}
def qy4 {rd:RD}{st:RS}{s r:Option Int}{w k:Str}{d:Int}(f:V->V)(a:f .non=.non):qa7 rd (wB st (f st.bv)) s r w d k=(qa7 rd st s r w d k).map λq=>wB q (f q.bv):=by
 unfold qa7;split
 .rfl
 .split
  .rfl
  .split
   .show some _=some (wB _ (f .non));rw[a]
   .split
    .show (match qno rd st.gr k with|none=>none|some t=>_)=_;cases qno rd st.gr k <;>rfl
    .split
     .show (if qai st.ps=true then _ else _)=_;split <;>rfl
     .show (if qai st.ps=true then _ else _)=_;split <;>rfl
def feel_bv {rd:RD}{st:RS}{s r:Option Int}{n k:Str}{d:Int}(f:V->V)(a:f .non=.non):qa3 rd (wB st (f st.bv)) s r n d k=(wB (qa3 rd st s r n d k).1 (f (qa3 rd st s r n d k).1.bv),(qa3 rd st s r n d k).2):=by
 unfold qa3;show (if qaq rd k=Aa "" \/ st.over=true then _ else _)=_;split
 .rfl
 .rw[qy4 f a];cases qa7 rd st s r (qaq rd k) d k <;>rfl
def StOk.bv {st:RS}{c:Int}(h:StOk st c)(v:V):StOk (wB st v) c:=⟨h.ps,h.d0,h.u1,h.pl,h.rl,h.gl,h.gi,h.cu,h.r0⟩
def LsS.bv {bs:List Bool}{rs:List Rw}{rd:RD}{st:RS}{s r:Option Int}(h:LsS bs rs rd st s r)(v:V):LsS bs rs rd (wB st v) s r:=by cases s <;>exact h
theorem feel_ok {bs:List Bool}{rs:List Rw}{rd:RD}{st:RS}{s r:Option Int}{n k:Str}{c d:Int}(g:RdOk rd)(ok:StOk st c)(a:c<=d)(f:st.rows.length<400)(o:∀x,s=some x->0<=x):StOk (qa3 rd st s r n d k).1 d:=by
 have cu:∀p∈st.ps,∀e,p.2=some e->e<d:=λp j e b=>by have:=ok.cu p j e b;lia
 unfold qa3;split
 .exact ok.mono a
 .unfold qa7;by_cases l:qaq rd k=Aa "ends"
  .rw[if_pos l];exact qhb (st:=st) (o':=true) ok (qlb ok.ps) (BS qpn) (quk a ok.cu) f
  .rw[if_neg l];cases A:under s r d with
   |false=>rw[if_pos Z];exact ok.mono a
   |true =>
    rw[if_neg Ud];obtain⟨x,z,xd,rd'⟩:=qri A;by_cases m:qaq rd k=Aa "anew"
    .rw[if_pos m];have C:=o x z;have hr:(st.rows++[(n,d,qaq rd k)]).length=st.rows.length+1:=by rw[Af];rfl
     exact⟨⟨.nil,λ_ h=>absurd h AB⟩,by show 0<=d;lia,g.m1,AS _,by show (st.rows++_).length<=400;lia,AS _,(λk v h=>by cases h),(λ_ h=>absurd h AB),λq=>by cases (Dc.mp q).2⟩
    .rw[if_neg m];by_cases i:qaq rd k=Aa "longer"
     .rw[if_pos i];cases D:qno rd st.gr k with|none=>exact ok.mono a|some t =>have B:=g.u t (Du D);have lo:=qug (n:=gv st.gr k+1) (k:=k) (nm:=n) ok a B f;rw[<- i]at lo;exact lo
     .rw[if_neg i];by_cases w:qaq rd k=Aa "still"
      .rw[if_pos w];cases y:qai st.ps with
       |true=>rw[if_pos Z];exact ok.mono a
       |false =>
        rw[if_neg Ud];have C:=o x z;refine qhb (st:=st) (o':=st.over) ok (quj ok.ps y cu (by lia)) (by rw[Af];exact Al _) (λp j e b=>?_) f;rcases Az.mp j with q|q
        .exact cu p q e b
        .rw[Aj.mp q]at b;cases b
      .rw[if_neg w];cases y:qai st.ps with|false=>rw[if_neg Ud];exact ok.mono a|true =>rw[if_pos Z];exact qhb (st:=st) (o':=st.over) ok (qlb ok.ps) (BS qpn) (quk a ok.cu) f
def qnp (l:List RS):Bool:=match l.getLast? with
 |some st=>!st.over
 |none=>false
noncomputable def fB (o:Option Nat)(f:Nat->Bool):Bool:=match o with
 |some b=>f b
 |none=>false
def opT (t:TD)(k:Str)(f:Nat->Bool):Bool:=decide (t.opens=some k) || fB t.base f
noncomputable def qgx (t:TD)(ac:Act)(f:Nat->Bool)(Zq:ZZ):RS:=⟨[(ac.1,ac.2.2,Aa "begins")],false,ac.2.2,t.rd.many,[],[],match t.base with
 |some b=>if f b=true then .int (((Zq b).length-1:Nat):Int) else .non
 |none=>.non⟩
def qhk (bs:List Bool)(rs:List Rw)(ts:Nat->TD)(Zq:ZZ)(i:Nat)(ac:Act):List RS:=(Zq i).dropLast++[(qa3 (ts i).rd ((Zq i).getD ((Zq i).length-1) dRS) (stF bs rs ts Zq 3 i ((Zq i).getD ((Zq i).length-1) dRS)) (lsC bs rs (ts i).rd ((Zq i).getD ((Zq i).length-1) dRS) (stF bs rs ts Zq 3 i ((Zq i).getD ((Zq i).length-1) dRS))) ac.1 ac.2.2 ac.2.1).1]
def tk (bs:List Bool)(rs:List Rw)(ts:Nat->TD)(Zq:ZZ)(ac:Act):Nat->ZZ×(Nat->Bool)
 |0=>(Zq,λ_=>false)
 |i+1=>if qnp ((tk bs rs ts Zq ac i).1 i)=true then (put (tk bs rs ts Zq ac i).1 i (qhk bs rs ts (tk bs rs ts Zq ac i).1 i ac),(tk bs rs ts Zq ac i).2)
  else if opT (ts i) ac.2.1 (tk bs rs ts Zq ac i).2=true then (put (tk bs rs ts Zq ac i).1 i ((tk bs rs ts Zq ac i).1 i++[qgx (ts i) ac (tk bs rs ts Zq ac i).2 (tk bs rs ts Zq ac i).1]),put (tk bs rs ts Zq ac i).2 i true)
  else tk bs rs ts Zq ac i
def qcm (bs:List Bool)(rs:List Rw)(ts:Nat->TD)(n:Nat)(acts:List Act):ZZ:=acts.foldl (λZq ac=>(tk bs rs ts Zq ac n).1) (λ_=>[])
def WfB (ts:Nat->TD)(Zq:ZZ)(i:Nat)(st:RS):Prop:=(st.bv=.non \/ ∃k:Nat,st.bv=.int (k:Int))/\∀k:Int,st.bv=.int k->∃b,(ts i).base=some b/\b<i/\0<=k/\k.toNat<(Zq b).length
structure PZ (n:Nat)(ts:Nat->TD)(Zq:ZZ)(D:Int)(N:Nat):Prop where
 ok:∀i<n,∀st∈Zq i,StOk st D
 wf:∀i<n,∀st∈Zq i,WfB ts Zq i st
 rl:∀i<n,(Zq i).length<=N/\∀st∈Zq i,st.rows.length<=N
 D0:0<=D
structure TsOk (n:Nat)(ts:Nat->TD):Prop where
 n4:n<=4
 rd:∀i<n,RdOk (ts i).rd
 ba:∀i<n,∀b,(ts i).base=some b->b<i
 nn:∀i<n,∀j<n,(ts i).name=(ts j).name->i=j
def qnq (bs:List Bool)(rs:List Rw):Prop:=∀(rd:RD)(st:RS)(c:Int)(s:Option Int),StOk st c->(∀x,s=some x->0<=x)->∃r,LsS bs rs rd st s r
def qmt {bs:List Bool}{rs:List Rw}{rd:RD}{st:RS}{s:Option Int}{l:Int}(h:LsS bs rs rd st s (some l)):∃x,s=some x/\x<l:=by
 cases s with|none=>cases h|some x=>exact⟨x,Z,qyt h⟩
section
variable {n:Nat}{ts:Nat->TD}{Zq:ZZ}{D:Int}{N:Nat}{bs:List Bool}{rs:List Rw}
def qb3 {l:List RS}{j:Nat}(h:j<l.length):l.getD j dRS∈l:=by rw[Ak,Ae h];exact BI h
theorem qj5 (P:PZ n ts Zq D N)(ex:qnq bs rs):∀(m i:Nat)(st:RS),i<n->StOk st D->WfB ts Zq i st->∀x,stF bs rs ts Zq m i st=some x->0<=x
 |0,i,st,_,ok,_,x,e=>by cases e;exact ok.d0
 |m+1,i,st,hi,ok,wf,x,e=>by
  rcases wf.1 with a|⟨k,a⟩
  .unfold stF at e;rw[a]at e;cases e;exact ok.d0
  .obtain⟨b,l,h2,h3,h⟩:=wf.2 _ a;unfold stF at e;rw[a,l]at e;have e:lsC bs rs (ts b).rd ((Zq b).getD (k:Int).toNat dRS) (stF bs rs ts Zq m b ((Zq b).getD (k:Int).toNat dRS))=some x:=e;have g:=qb3 h;have c:=P.ok b (by lia) _ g;have d:=qj5 P ex m b _ (by lia) c (P.wf b (by lia) _ g);obtain⟨r,f⟩:=ex (ts b).rd _ D _ c d;rw[qs3 d f]at e;subst e;obtain⟨y,j,lt⟩:=qmt f;have:=d y j;lia
def qmu (P:PZ n ts Zq D N)(ex:qnq bs rs){m i:Nat}{st:RS}(c:i<n)(ok:StOk st D)(d:WfB ts Zq i st):LsS bs rs (ts i).rd st (stF bs rs ts Zq m i st) (lsC bs rs (ts i).rd st (stF bs rs ts Zq m i st)):=by have a:=qj5 P ex m i st c ok d;obtain⟨r,b⟩:=ex (ts i).rd st D _ ok a;rw[qs3 a b];exact b
end
structure WH (a:Adr)(B H:Hp)(n:Nat)(ts:Nat->TD)(Zq:ZZ)(x:Nat->Nat->Addr)(S:Nat->Nat->List Addr)(p:Nat->Addr)(L:Nat->Nat)(E:List Addr)(bs:List Bool)(rs:List Rw):Prop where
 sm:Same B H
 hl:∀i<n,H (p i)=some (.lst ((Aq (L i)).map λj=>.ref (x i j)))
 Ll:∀i<n,L i<=(Zq i).length
 R:∀i<n,∀j<(Zq i).length,RunAt a B H (x i j) (S i j) (ts i).rd (wB ((Zq i).getD j dRS) (qj4 x (ts i).base ((Zq i).getD j dRS).bv)) bs rs
 sep:∀i<n,∀j<(Zq i).length,∀i'<n,∀j'<(Zq i').length,(i≠i'\/j≠j')->∀b∈S i j,b∉S i' j'
 pB:∀i<n,B (p i)=none
 pp:∀i<n,∀i'<n,i≠i'->p i≠p i'
 pS:∀i<n,∀i'<n,∀j<(Zq i').length,p i∉S i' j
 eB:∀c∈E,B c=none/\(∃o,H c=some o/\∀t,o ≠ .tup t)/\(∀i<n,c≠p i)/\∀i<n,∀j<(Zq i).length,c∉S i j
theorem qum {a:Adr}{B H:Hp}{n:Nat}{ts:Nat->TD}{Zq:ZZ}{x:Nat->Nat->Addr}{S:Nat->Nat->List Addr}{p:Nat->Addr}{L:Nat->Nat}{E:List Addr}{bs:List Bool}{rs:List Rw}{D:Int}{N:Nat}(W:WH a B H n ts Zq x S p L E bs rs)(P:PZ n ts Zq D N)(ex:qnq bs rs)(tok:TabOk bs rs):∀(m i:Nat)(st:RS),i<n->i<=m->WfB ts Zq i st->BaseAt a m H (qj4 x (ts i).base st.bv) st.day (stF bs rs ts Zq m i st):=by
 intro m
 induction m with
 |zero =>
  intro i st l o wf;rcases wf.1 with c|⟨k,c⟩
  .rw[c,qgw];exact⟨Z,Z⟩
  .obtain⟨b,_,q,_⟩:=wf.2 _ c;lia
 |succ m ih =>
  intro i st l o wf;rcases wf.1 with c|⟨k,c⟩
  .refine .inl ⟨by rw[c,qgw],?_⟩;unfold stF;rw[c]
  .obtain⟨b,j,q,h3,g⟩:=wf.2 _ c;have h:=qb3 g;have f:=P.ok b (by lia) _ h;have d:=P.wf b (by lia) _ h;refine .inr ⟨x b (k:Int).toNat,B,S b (k:Int).toNat,(ts b).rd,_,bs,rs,D,stF bs rs ts Zq m b ((Zq b).getD (k:Int).toNat dRS),?_,W.R b (by lia) _ g,tok,f.bv _,ih b _ (by lia) (by lia) d,?_⟩
   .rw[c,j];rfl
   .have:=(qmu P ex (m:=m) (by lia) f d).bv (qj4 x (ts b).base ((Zq b).getD (k:Int).toNat dRS).bv);have e:stF bs rs ts Zq (m+1) i st=lsC bs rs (ts b).rd ((Zq b).getD (k:Int).toNat dRS) (stF bs rs ts Zq m b ((Zq b).getD (k:Int).toNat dRS)):=by rw[stF,c,j]
    rw[e];exact this
section
variable {a:Adr}{B H H':Hp}{n:Nat}{ts:Nat->TD}{Zq:ZZ}{x:Nat->Nat->Addr}{S:Nat->Nat->List Addr}{p:Nat->Addr}{L:Nat->Nat}{E:List Addr}{bs:List Bool}{rs:List Rw}
def WH.same (W:WH a B H n ts Zq x S p L E bs rs)(s:Same H H'):WH a B H' n ts Zq x S p L E bs rs :=
 ⟨W.sm.trans s,λi b=>s _ _ (W.hl i b),W.Ll,λi b j g=>(W.R i b j g).same s,W.sep,W.pB,W.pp,W.pS,λc h=>by obtain⟨k,⟨o,d,e⟩,f⟩:=W.eB c h;exact⟨k,⟨o,s _ _ d,e⟩,f⟩⟩
def WH.less (W:WH a B H n ts Zq x S p L E bs rs){E':List Addr}(h:∀c∈E',c∈E):WH a B H n ts Zq x S p L E' bs rs :=
 ⟨W.sm,W.hl,W.Ll,W.R,W.sep,W.pB,W.pp,W.pS,λc b=>W.eB c (h c b)⟩
def WH.more (W:WH a B H n ts Zq x S p L E bs rs){c:Addr}{o:HO}(f:H c=none)(l:∀t,o ≠ .tup t):WH a B (upd H c o) n ts Zq x S p L (c::E) bs rs:=by
 have s:=qx (o:=o) f;have b:=W.same s;refine⟨b.sm,b.hl,b.Ll,b.R,b.sep,b.pB,b.pp,b.pS,λd h=>?_⟩;rcases Aw.mp h with rfl|h
 .refine⟨W.sm.free f,⟨o,qk,l⟩,λi g z=>?_,λi g j k z=>?_⟩
  .rw[z,W.hl i g]at f;cases f
  .obtain⟨u,e,_⟩:=(W.R i g j k).ex.2.1 d z;rw[e]at f;cases f
 .exact b.eB d h
def WH.but (W:WH a B H n ts Zq x S p L E bs rs){c:Addr}(l:c∈E){o:HO}(s:∀t,o ≠ .tup t):WH a B (upd H c o) n ts Zq x S p L E bs rs:=by
 obtain⟨g,⟨u,r,F⟩,y,A⟩:=W.eB c l;have k:∀b o',b≠c->H b=some o'->upd H c o b=some o':=λb o' m e=>by rw[qr m];exact e
 refine⟨λb o' e=>k b o' (λz=>by rw[z,g]at e;cases e) (W.sm b o' e),λi f=>k _ _ (B6 (y i f)) (W.hl i f),W.Ll,λi f j h=>?_,W.sep,W.pB,W.pp,W.pS,λd D=>?_⟩
 .refine(W.R i f j h).but (λb=>b=c) (λb o' m e=>k b o' m e) (λb q z=>A i f j h (z ▸ q)) (λb t e z=>?_) (λb o' e z=>by rw[z,g]at e;cases e);rw[z,r]at e;exact F t (AA e)
 .obtain⟨G,⟨o',v,C⟩,w⟩:=W.eB d D;refine⟨G,?_,w⟩;by_cases z:d=c
  .rw[z];exact⟨o,qk,s⟩
  .exact⟨o',k d o' z v,C⟩
noncomputable def pu2 {α:Type}(f:Nat->Nat->α)(i j:Nat)(v:α):Nat->Nat->α:=λi' j'=>if i'=i/\j'=j then v else f i' j'
def qdt {α:Type}{f:Nat->Nat->α}{i j:Nat}{v:α}:pu2 f i j v i j=v:=if_pos ⟨Z,Z⟩
def qch {α:Type}{f:Nat->Nat->α}{i j b a:Nat}{v:α}(h:b≠i\/a≠j):pu2 f i j v b a=f b a:=if_neg λz=>h.elim (λq=>q z.1) λq=>q z.2
def qiz {l:List RS}{q:RS}(h:l≠[]):(l.dropLast++[q]).length=l.length:=by have:=BP.mpr h;rw[Af,CG,AU];lia
def qpp {l:List RS}{q:RS}{j:Nat}(h:l≠[])(hj:j<l.length):(l.dropLast++[q]).getD j dRS=if j=l.length-1 then q else l.getD j dRS:=by
 have:=BP.mpr h;by_cases z:j=l.length-1
 .rw[if_pos z,Ak,AK (by rw[CG];lia),CG,z,Da];rfl
 .rw[if_neg z,Ak,AI (by rw[CG];lia),List.getElem?_dropLast,if_pos (by lia),Ak]
theorem WH.felt (W:WH a B H n ts Zq x S p L E bs rs){i:Nat}(D:i<n)(C:Zq i≠[]){G:List Addr}{q:RS}(K:KeepS (S i ((Zq i).length-1)) H H')(F:Fresh H (S i ((Zq i).length-1)) G)(R:RunAt a B H' (x i ((Zq i).length-1)) G (ts i).rd (wB q (qj4 x (ts i).base q.bv)) bs rs) :
  WH a B H' n ts (put Zq i ((Zq i).dropLast++[q])) x (pu2 S i ((Zq i).length-1) G) p L E bs rs:=by
 have hp:=BP.mpr C;have N:(Zq i).length-1<(Zq i).length:=by lia
 obtain⟨x1,Y,x3⟩:=(W.R i D _ N).ex;have len:∀d,(put Zq i ((Zq i).dropLast++[q]) d).length=(Zq d).length:=λd=>by
  by_cases z:d=i
  .subst z;rw[qav,qiz C]
  .rw[qar z]
 have P:∀d<n,∀g<(Zq d).length,(d≠i\/g≠(Zq i).length-1)->RunAt a B H' (x d g) (S d g) (ts d).rd (wB ((Zq d).getD g dRS) (qj4 x (ts d).base ((Zq d).getD g dRS).bv)) bs rs:=λd f g j Q=>by refine(W.R d f g j).but (λb=>b∈S i ((Zq i).length-1)) K (λb s z=>W.sep d f g j i D _ N Q b s z) (λb t e z=>?_) (λb o e z=>by rw[x3 b z]at e;cases e);obtain⟨o,V,nt⟩:=Y b z;rw[e]at V;exact nt t (AA V).symm
 have u:∀b,(∃o,H b=some o)->b∉S i ((Zq i).length-1)->b∉G:=λb ⟨o,e⟩ n1 m=>by
  rcases F b m with z|z
  .exact n1 z
  .rw[z]at e;cases e
 refine⟨R.ex.1,λd f=>K _ _ (W.pS d f i D _ N) (W.hl d f),λd f=>by rw[len];exact W.Ll d f,λd f g j=>?_,λJ v M y k r l h Q b s=>?_,W.pB,W.pp,λd f k r l h=>?_,λc X=>?_⟩
 .rw[len]at j;by_cases z:d=i
  .subst z;rw[qav,qpp C j];by_cases w:g=(Zq d).length-1
   .rw[if_pos w,w,qdt];exact R
   .rw[if_neg w,qch (.inr w)];exact P d f g j (.inr w)
  .rw[qar z,qch (.inl z)];exact P d f g j (.inl z)
 .rw[len]at y h;have A:∀d g,(d≠i\/g≠(Zq i).length-1)\/(d=i/\g=(Zq i).length-1):=λd g=>by lia
  rcases A J M with U|⟨rfl,rfl⟩
  .rw[qch U]at s;rcases A k l with I|⟨rfl,rfl⟩
   .rw[qch I];exact W.sep J v M y k r l h Q b s
   .rw[qdt];obtain⟨o,e,_⟩:=(W.R J v M y).ex.2.1 b s;exact u b ⟨o,e⟩ (W.sep J v M y _ r _ h U b s)
  .rw[qdt]at s;rcases A k l with I|⟨rfl,rfl⟩
   .rw[qch I];intro m;obtain⟨o,e,_⟩:=(W.R k r l h).ex.2.1 b m;exact u b ⟨o,e⟩ (W.sep k r l h _ v _ y I b m) s
   .lia
 .rw[len]at h;by_cases w:k=i/\l=(Zq i).length-1
  .obtain⟨rfl,rfl⟩:=w;rw[qdt];exact u _ ⟨_,W.hl d f⟩ (W.pS d f _ r _ h)
  .rw[qch (by lia)];exact W.pS d f k r l h
 .obtain⟨v,⟨o,r,h3⟩,h4,T⟩:=W.eB c X;refine⟨v,⟨o,K _ _ (T i D _ N) r,h3⟩,h4,λk O l h=>?_⟩;rw[len]at h;by_cases w:k=i/\l=(Zq i).length-1
  .obtain⟨rfl,rfl⟩:=w;rw[qdt];exact u _ ⟨_,r⟩ (T _ O _ h)
  .rw[qch (by lia)];exact T k O l h
end
def qfj {l:List RS}{q:RS}{j:Nat}:(l++[q]).getD j dRS=if j=l.length then q else l.getD j dRS:=by
 rcases Nat.lt_trichotomy j l.length with h|h|h
 .rw[if_neg (by lia),Ak,AI h,Ak]
 .rw[if_pos h,Ak,AK (by lia),h,Da];rfl
 .rw[if_neg (by lia),Ak,Ak,AR (by rw[Af,AU];lia),AR (by lia)]
section
variable {a:Adr}{B H H':Hp}{n:Nat}{ts:Nat->TD}{Zq:ZZ}{x:Nat->Nat->Addr}{S:Nat->Nat->List Addr}{p:Nat->Addr}{L:Nat->Nat}{E:List Addr}{bs:List Bool}{rs:List Rw}
def qun {i j:Nat}{v:Addr}{t:TD}{st:RS}{d:Nat}(c:WfB ts Zq d st)(e:ts d=t)(hj:(Zq i).length<=j):qj4 (pu2 x i j v) t.base st.bv=qj4 x t.base st.bv:=by
 rcases c.1 with a|⟨k,a⟩
 .rw[a,qgw,qgw]
 .obtain⟨b,f,h2,h3,h4⟩:=c.2 _ a;rw[<- e,a,f];show V.ref (pu2 x i j v b (k:Int).toNat)=V.ref (x b (k:Int).toNat);rw[qch];by_cases z:b=i
  .subst z;exact .inr (by lia)
  .exact .inl z
theorem WH.begun (W:WH a B H n ts Zq x S p L E bs rs)(wf:∀i<n,∀st∈Zq i,WfB ts Zq i st){i:Nat}(hi:i<n){y cn:Addr}{o:HO}{J:List Addr}{q:RS}(s:Same H H')(F:∀b∈J,H b=none)(G:H cn=none)(nS:cn∉J)(wq:WfB ts Zq i q)
  (R:RunAt a (upd B cn o) H' y J (ts i).rd (wB q (qj4 x (ts i).base q.bv)) bs rs):WH a (upd B cn o) H' n ts (put Zq i (Zq i++[q])) (pu2 x i (Zq i).length y) (pu2 S i (Zq i).length J) p L E bs rs:=by
 have P:B cn=none:=W.sm.free G;have sB:Same B (upd B cn o):=qx P;obtain⟨X,x2,x3⟩:=R.ex;have len:∀d,(put Zq i (Zq i++[q]) d).length=if d=i then (Zq i).length+1 else (Zq d).length:=λd=>by
  by_cases z:d=i
  .subst z;rw[qav,if_pos Z,Af,AU]
  .rw[qar z,if_neg z]
 have T:∀d<n,∀g<(Zq d).length,∀b∈S d g,b≠cn:=λd f g D b k z=>by obtain⟨u,e,_⟩:=(W.R d f g D).ex.2.1 b k;rw[z,G]at e;cases e
 have split:∀d g,g<(if d=i then (Zq i).length+1 else (Zq d).length)->(d=i/\g=(Zq i).length)\/(g<(Zq d).length/\(d≠i\/g≠(Zq i).length)):=λd g h=>by
  by_cases z:d=i
  .subst z;rw[if_pos Z]at h;by_cases w:g=(Zq d).length
   .exact .inl ⟨Z,w⟩
   .exact .inr ⟨by lia,.inr w⟩
  .rw[if_neg z]at h;exact .inr ⟨h,.inl z⟩
 refine⟨X,λd f=>?_,λd f=>?_,λd f g D=>?_,λN M O U l r t v K b k=>?_,λd f=>?_,W.pp,λd f l r t v=>?_,λc Y=>?_⟩
 .rw[s _ _ (W.hl d f)]
  congr 2
  refine BQ λj I=>?_
  have:=AV.mp I
  have:=W.Ll d f
  rw[qch]
  by_cases z:d=i
  .subst z;exact .inr (by lia)
  .exact .inl z
 .have:=W.Ll d f;rw[len];split
  .rename_i z;subst z;lia
  .exact this
 .rw[len]at D;rcases split d g D with ⟨rfl,rfl⟩|⟨I,K⟩
  .rw[qav,qfj,if_pos Z,qdt,qdt,qun wq Z (Al _)];exact R
  .have e:(put Zq i (Zq i++[q]) d).getD g dRS=(Zq d).getD g dRS:=by
    by_cases z:d=i
    .subst z;rw[qav,qfj,if_neg (by lia)]
    .rw[qar z]
   rw[e,qch K,qch K,qun (wf d f _ (qb3 I)) Z (Al _)]
   refine((W.R d f g I).same s).rebase sB X λb k=>?_
   rw[qr (T d f g I b k)]
   exact(W.R d f g I).ex.2.2 b k
 .rw[len]at U v;rcases split N O U with ⟨rfl,rfl⟩|⟨V,n1⟩
  .rw[qdt]at k;rcases split l t v with ⟨rfl,rfl⟩|⟨C,A⟩
   .lia
   .rw[qch A];intro m;obtain⟨u,e,_⟩:=(W.R l r t C).ex.2.1 b m;rw[F b k]at e;cases e
  .rw[qch n1]at k;rcases split l t v with ⟨rfl,rfl⟩|⟨C,A⟩
   .rw[qdt];intro m;obtain⟨u,e,_⟩:=(W.R N M O V).ex.2.1 b k;rw[F b m]at e;cases e
   .rw[qch A];exact W.sep N M O V l r t C K b k
 .rw[qr (λz=>by have:=W.hl d f;rw[z,G]at this;cases this)];exact W.pB d f
 .rw[len]at v;rcases split l t v with ⟨rfl,rfl⟩|⟨C,A⟩
  .rw[qdt];intro m;have:=W.hl d f;rw[F _ m]at this;cases this
  .rw[qch A];exact W.pS d f l r t C
 .obtain⟨M,⟨o',r,h3⟩,h4,h5⟩:=W.eB c Y;refine⟨?_,⟨o',s _ _ r,h3⟩,h4,λl Q t v=>?_⟩
  .rw[qr (λz=>by rw[z,G]at r;cases r)];exact M
  .rw[len]at v;rcases split l t v with ⟨rfl,rfl⟩|⟨C,A⟩
   .rw[qdt];intro m;rw[F _ m]at r;cases r
   .rw[qch A];exact h5 l Q t C
def WH.listed (W:WH a B H n ts Zq x S p L E bs rs){i:Nat}(g:i<n)(q:L i<(Zq i).length):WH a B (upd H (p i) (.lst ((Aq (L i+1)).map λj=>.ref (x i j)))) n ts Zq x S p (put L i (L i+1)) E bs rs:=by
 have k:∀b o',b≠p i->H b=some o'->upd H (p i) (.lst ((Aq (L i+1)).map λj=>.ref (x i j))) b=some o':=λb o' m e=>by rw[qr m];exact e
 refine⟨λb o' e=>k b o' (λz=>by rw[z,W.pB i g]at e;cases e) (W.sm b o' e),λf c=>?_,λf c=>?_,λf c j l=>?_,W.sep,W.pB,W.pp,W.pS,λd u=>?_⟩
 .by_cases z:f=i
  .subst z;rw[qav,qk]
  .rw[qar z];exact k _ _ (W.pp f c i g z) (W.hl f c)
 .by_cases z:f=i
  .subst z;rw[qav];exact q
  .rw[qar z];exact W.Ll f c
 .refine(W.R f c j l).but (λb=>b=p i) (λb o' m e=>k b o' m e) (λb o z=>W.pS i g f c j l (z ▸ o)) (λb t e z=>?_) (λb o' e z=>by rw[z,W.pB i g]at e;cases e);rw[z,W.hl i g]at e;cases e
 .obtain⟨v,⟨o',r,s⟩,h,w⟩:=W.eB d u;exact⟨v,⟨o',k d o' (h i g) r,s⟩,h,w⟩
end
theorem qv7 {rd:RD}{st q:RS}{s r:Option Int}{w k:Str}{d:Int}(h:qa7 rd st s r w d k=some q):q.bv=st.bv\/q.bv=.non:=by
 unfold qa7 at h;split at h
 .cases h;exact .inl rfl
 .split at h
  .cases h
  .split at h
   .cases h;exact .inr rfl
   .split at h
    .cases e:qno rd st.gr k with
     |none=>rw[e]at h;cases h
     |some t=>rw[e]at h;cases h;exact .inl rfl
    .split at h
     .split at h
      .cases h
      .cases h;exact .inl rfl
     .split at h
      .cases h;exact .inl rfl
      .cases h
theorem qy5 {rd:RD}{st:RS}{s r:Option Int}{n k:Str}{d:Int}:(qa3 rd st s r n d k).1.bv=st.bv\/(qa3 rd st s r n d k).1.bv=.non:=by
 unfold qa3;split
 .exact .inl rfl
 .cases e:qa7 rd st s r (qaq rd k) d k with
  |none=>exact .inl rfl
  |some q =>show q.bv=st.bv\/q.bv=.non;exact qv7 e
theorem qv8 {rd:RD}{st:RS}{s r:Option Int}{n k:Str}{d:Int}:(qa3 rd st s r n d k).1.rows=st.rows\/(qa3 rd st s r n d k).1.rows=st.rows++[(n,d,qaq rd k)]:=by
 unfold qa3;split
 .exact .inl rfl
 .cases e:qa7 rd st s r (qaq rd k) d k with
  |none=>exact .inl rfl
  |some q=>exact .inr (by show q.rows++_=_;rw[qf1 e])
def WfB.mono {ts:Nat->TD}{Zq Z':ZZ}{i:Nat}{st:RS}(h:WfB ts Zq i st)(m:∀i,(Zq i).length<=(Z' i).length):WfB ts Z' i st:=⟨h.1,λk e=>by obtain⟨b,f,a,c,d⟩:=h.2 k e;exact⟨b,f,a,c,A0 d (m b)⟩⟩
theorem qkn {bs:List Bool}{rs:List Rw}{ts:Nat->TD}{Zq:ZZ}{ac:Act}:∀{m i:Nat},m<=i->(tk bs rs ts Zq ac m).1 i=Zq i
 |0,i,_=>rfl
 |m+1,i,h=>by
  unfold tk;have a:=qkn (bs:=bs) (rs:=rs) (ts:=ts) (Zq:=Zq) (ac:=ac) (m:=m) (i:=i) (by lia);split
  .show put _ m _ i=_;rw[qar (by lia),a]
  .split
   .show put _ m _ i=_;rw[qar (by lia),a]
   .exact a
def qgy {l:List RS}(h:qnp l=true):l≠[]:=λz=>by rw[z]at h;cases h
theorem qi0 {bs:List Bool}{rs:List Rw}{ts:Nat->TD}{Zq:ZZ}{ac:Act}:∀{m i:Nat},((tk bs rs ts Zq ac m).2 i=true->i<m)/\((tk bs rs ts Zq ac m).1 i).length=(Zq i).length+(if (tk bs rs ts Zq ac m).2 i=true then 1 else 0)
 |0,i=>⟨λz=>(by cases z),Z⟩
 |m+1,i=>by
  obtain⟨b,a⟩:=qi0 (bs:=bs) (rs:=rs) (ts:=ts) (Zq:=Zq) (ac:=ac) (m:=m) (i:=i);unfold tk;split
  .rename_i c;refine⟨λz=>DI (b z),?_⟩;show D8 (put _ m _ i)=_;by_cases z:i=m
   .subst z;rw[qav];unfold qhk;rw[qiz (qgy c)];exact a
   .rw[qar z];exact a
  .split
   .by_cases z:i=m
    .subst z;refine⟨λ_=>Ca _,?_⟩;show D8 (put _ i _ i)=_+if put _ i true i=true then 1 else 0;rw[qav,qav,if_pos Z,Af,AU,qkn (Al _)]
    .refine⟨λw=>?_,?_⟩
     .have w:put _ m true i=true:=w;rw[qar z]at w;exact DI (b w)
     .show D8 (put _ m _ i)=_+if put _ m true i=true then 1 else 0;rw[qar z,qar z];exact a
   .exact⟨λz=>DI (b z),a⟩
theorem qmv {bs:List Bool}{rs:List Rw}{n:Nat}{ts:Nat->TD}{Zq:ZZ}{ac:Act}{D:Int}{N:Nat}(T:TsOk n ts)(P:PZ n ts Zq D N)(ex:qnq bs rs)(y:D<=ac.2.2)(B:N<300):∀{m:Nat},m<=n->PZ n ts (tk bs rs ts Zq ac m).1 ac.2.2 (N+1)
 |0,_=>⟨λi a st h=>(P.ok i a st h).mono y,P.wf,λi a=>⟨BS (P.rl i a).1,λst h=>BS ((P.rl i a).2 st h)⟩,Bp P.D0 y⟩
 |m+1,hm=>by
  have g:=qmv (bs:=bs) (rs:=rs) (ac:=ac) T P ex y B (m:=m) (by lia);have t:=qkn (bs:=bs) (rs:=rs) (ts:=ts) (Zq:=Zq) (ac:=ac) (Al m);have A:=λi=>qi0 (bs:=bs) (rs:=rs) (ts:=ts) (Zq:=Zq) (ac:=ac) (m:=m) (i:=i);unfold tk;generalize tk bs rs ts Zq ac m=W at g t A |-;obtain⟨Y,f⟩:=W;dsimp only at g t A |-;split
  .rename_i c;have u:=qgy c;have hp:=BP.mpr u;have p:=qb3 (l:=Y m) (j:=(Y m).length-1) (by lia);have len:∀i,(put Y m (qhk bs rs ts Y m ac) i).length=(Y i).length:=λi=>by
    by_cases z:i=m
    .subst z;rw[qav];unfold qhk;rw[qiz u]
    .rw[qar z]
   have o:∀i st,st∈put Y m (qhk bs rs ts Y m ac) i->st∈Y i\/(i=m/\st=(qa3 (ts m).rd ((Y m).getD ((Y m).length-1) dRS) (stF bs rs ts Y 3 m ((Y m).getD ((Y m).length-1) dRS)) (lsC bs rs (ts m).rd ((Y m).getD ((Y m).length-1) dRS) (stF bs rs ts Y 3 m ((Y m).getD ((Y m).length-1) dRS))) ac.1 ac.2.2 ac.2.1).1):=λi st h=>by
    by_cases z:i=m
    .subst z;rw[qav]at h;unfold qhk at h;rcases Az.mp h with h|h
     .exact .inl (List.dropLast_subset _ h)
     .exact .inr ⟨Z,Aj.mp h⟩
    .rw[qar z]at h;exact .inl h
   have rows:=(P.rl m (by lia)).2 _ (by rw[<- t];exact p);have C:=qj5 g ex 3 m _ (by lia) (g.ok m (by lia) _ p) (g.wf m (by lia) _ p);refine⟨λi a st h=>?_,λi a st h=>?_,λi a=>⟨by rw[len];exact(g.rl i a).1,λst h=>?_⟩,g.D0⟩
   .rcases o i st h with h|⟨rfl,rfl⟩
    .exact g.ok i a st h
    .exact feel_ok (bs:=bs) (rs:=rs) (T.rd i a) (g.ok i a _ p) (Bb _) (by lia) C
   .rcases o i st h with h|⟨rfl,rfl⟩
    .exact(g.wf i a st h).mono λi=>Ce (len i).symm
    .have w:=(g.wf i a _ p).mono (Z':=put Y i (qhk bs rs ts Y i ac)) λi=>Ce (len i).symm;rcases qy5 (rd:=(ts i).rd) (st:=(Y i).getD ((Y i).length-1) dRS) (s:=stF bs rs ts Y 3 i ((Y i).getD ((Y i).length-1) dRS)) (r:=lsC bs rs (ts i).rd ((Y i).getD ((Y i).length-1) dRS) (stF bs rs ts Y 3 i ((Y i).getD ((Y i).length-1) dRS))) (n:=ac.1) (k:=ac.2.1) (d:=ac.2.2) with e|e
     .unfold WfB;rw[e];exact w
     .exact⟨.inl e,λk z=>by rw[e]at z;cases z⟩
   .rcases o i st h with h|⟨rfl,rfl⟩
    .exact(g.rl i a).2 st h
    .rcases qv8 (rd:=(ts i).rd) (st:=(Y i).getD ((Y i).length-1) dRS) (s:=stF bs rs ts Y 3 i ((Y i).getD ((Y i).length-1) dRS)) (r:=lsC bs rs (ts i).rd ((Y i).getD ((Y i).length-1) dRS) (stF bs rs ts Y 3 i ((Y i).getD ((Y i).length-1) dRS))) (n:=ac.1) (k:=ac.2.1) (d:=ac.2.2) with e|e
     .rw[e];lia
     .rw[e,Af,AU];lia
  .split
   .have len:∀i,(Y i).length<=(put Y m (Y m++[qgx (ts m) ac f Y]) i).length:=λi=>by
     by_cases z:i=m
     .subst z;rw[qav,Af];lia
     .rw[qar z];exact Al _
    have o:∀i st,st∈put Y m (Y m++[qgx (ts m) ac f Y]) i->st∈Y i\/(i=m/\st=qgx (ts m) ac f Y):=λi st h=>by
     by_cases z:i=m
     .subst z;rw[qav]at h;rcases Az.mp h with h|h
      .exact .inl h
      .exact .inr ⟨Z,Aj.mp h⟩
     .rw[qar z]at h;exact .inl h
    refine⟨λi a st h=>?_,λi a st h=>?_,λi a=>⟨?_,λst h=>?_⟩,g.D0⟩
    .rcases o i st h with h|⟨rfl,rfl⟩
     .exact g.ok i a st h
     .exact⟨⟨.nil,λ_ h=>absurd h AB⟩,g.D0,(T.rd i a).m1,AS _,(by show 1<=400;decide),AS _,(λk v h=>by cases h),(λ_ h=>absurd h AB),λq=>by cases q⟩
    .rcases o i st h with h|⟨rfl,rfl⟩
     .exact(g.wf i a st h).mono len
     .refine⟨?_,λk e=>?_⟩
      .unfold qgx;dsimp only;cases (ts i).base with
       |none=>exact .inl rfl
       |some b =>
        dsimp only;split
        .exact .inr ⟨_,Z⟩
        .exact .inl rfl
      .unfold qgx at e;dsimp only at e;cases x:(ts i).base with
       |none=>rw[x]at e;cases e
       |some b =>
        rw[x]at e;dsimp only at e;split at e
        .rename_i E;cases e;obtain⟨_,l⟩:=A b;have l:(Y b).length=(Zq b).length+1:=l.trans (by rw[if_pos (show (Y,f).snd b=true from E)]);refine⟨b,Z,T.ba i a b x,by lia,A0 ?_ (len b)⟩;rw[B3];lia
        .cases e
    .by_cases z:i=m
     .subst z;have:=(P.rl i a).1;show D8 (put Y i _ i)<=_;rw[qav,Af,AU,t];lia
     .show D8 (put Y m _ i)<=_;rw[qar z];exact(g.rl i a).1
    .rcases o i st h with h|⟨rfl,rfl⟩
     .exact(g.rl i a).2 st h
     .show 1<=_;lia
   .exact g
noncomputable def lamPos:List Stmt->Pos
 | [.Return (some (.Call _ _ [⟨_,.Lambda _ _ _ p,_⟩] _)) _]=>p
 |_=>⟨0,0,0,0⟩
abbrev ioP:Pos:=lamPos (qaw qdl)
noncomputable abbrev ioQ:Str:=Aa "in_order.<locals>.<lambda>"
noncomputable def qc8 (t:Act):Int×Str:=(t.2.2,t.1)
noncomputable abbrev dA:Act:=(Be,Be,0)
def spIo (Pt:Addr):Sp:=λvs H Q _=>∃(p:Addr)(us:List V)(acts:List Act),vs=[.ref p]/\H p=some (.lst us)/\Tups H us (acts.map qdy)/\acts.length<64/\Lam.LamAt H Pt ioP ioQ /\
 ∀(q:Addr)(H':Hp)(us':List V)(acts':List Act),H q=none->SameBut Pt H H'->Lam.LamAt H' Pt ioP ioQ->acts'.Perm acts->(acts'.Pairwise λx y=>Lam.ltK (qc8 y) (qc8 x)=false)->H' q=some (.lst us')->Tups H' us' (acts'.map qdy)->Q (.ref q) H'
theorem qce {H H':Hp}{us:List V}{ts:List (List V)}(t:Tups H us ts)(k:∀b u,H b=some (.tup u)->H' b=some (.tup u)):Tups H' us ts:=by
 induction t with
 |nil=>exact .nil
 |cons h _ ih=>exact .cons (k _ _ h) ih
theorem qj6 {H:Hp}{us:List V}{ts:List (List V)}{p:Addr}{r:List V}(t:Tups H us ts)(h:H p=some (.tup r)):Tups H (us++[.ref p]) (ts++[r]):=by
 induction t with
 |nil=>exact .cons h .nil
 |cons e _ ih=>exact .cons e ih
theorem qmw {H:Hp}{us:List V}{b:List Act}(d:Tups H us (b.map qdy)):∀(js:List Nat),(∀i∈js,i<b.length)->Tups H (js.map λi=>us.getD i V.non) ((js.map λi=>b.getD i dA).map qdy)
 | [],_=>.nil
 |i::js,h=>by
  have c:=h i Am;obtain⟨a,l,g⟩:=d.get (i:=i) (r:=qdy b[i]) (by simp[c]);have e:us.getD i V.non=.ref a:=by rw[Ak,l];rfl
  have f:b.getD i dA=b[i]:=by simp[c]
  rw[Bc,Bc,Bc,e,f];exact .cons g (qmw d js λj k=>h j (Ay _ k))
def spIr (a:Adr):Sp:=λvs H Q _=>∃(l:Addr)(xs:List V)(b:Bool),vs=[.ref l]/\H l=some (.lst xs)/\xs.length<=1000/\((xs=[]/\b=false) \/ ∃(ys:List V)(y:Addr)(B:Hp)(S:List Addr)(rd:RD)(st:RS)(bs:List Bool)(rs:List Rw),xs=ys++[.ref y]/\RunAt a B H y S rd st bs rs/\b = !st.over)/\Q (.bl b) H
noncomputable def opV:Option Str->V
 |some o=>.str o
 |none=>.non
noncomputable def baV (ts:Nat->TD):Option Nat->V
 |some b=>.str (ts b).name
 |none=>.non
theorem opV_is (o:Option Str)(k:Str):qwp (.str k) (opV o)=true/\decide (V.str k=opV o)=decide (o=some k):=by
 cases o with
 |none=>exact⟨Z,by rw[decide_eq_false (λz=>nomatch z),decide_eq_false (λz=>nomatch z)]⟩
 |some o =>
  refine⟨Z,?_⟩;show decide (V.str k=V.str o)=_;by_cases e:o=k
  .rw[decide_eq_true (by rw[e]),decide_eq_true (by rw[e])]
  .rw[decide_eq_false (λz=>e (V.str.inj z).symm),decide_eq_false (λz=>e (AA z))]
def RuleT (a:Adr)(H:Hp)(rl:Addr)(ts:Nat->TD)(i:Nat):Prop:=∃(dx pe pa pl:Addr)(w s py:V)(us:List V),H rl=some (.ins a.kB dx (rlF (.str (ts i).name) w (.str (ts i).rd.owes) (opV (ts i).opens) (baV ts (ts i).base) (.int (ts i).rd.many) (.str (qkm (ts i).rd.unit)) s (.ref pe) (.ref pa) (.ref pl) py))/\StAt H s (ts i).rd.still/\H pe=some (.lst ((ts i).rd.ends.map V.str))/\H pa=some (.lst ((ts i).rd.anew.map V.str))/\H pl=some (.lst us)/\Tups H us ((ts i).rd.longer.map qrc)
def RuleT.at {a:Adr}{H:Hp}{b:Addr}{ts:Nat->TD}{i:Nat}(h:RuleT a H b ts i):RuleAt a H b (ts i).rd:=by obtain⟨c,l,f,pl,w,s,j,us,m,d,k,e,n,g⟩:=h;exact⟨c,l,f,pl,_,w,_,_,s,j,us,m,d,k,e,n,g⟩
def RuleT.same {a:Adr}{H H':Hp}{b:Addr}{ts:Nat->TD}{i:Nat}(h:RuleT a H b ts i)(z:Same H H'):RuleT a H' b ts i:=by obtain⟨c,l,f,pl,w,s,j,us,m,d,k,e,n,g⟩:=h;exact⟨c,l,f,pl,w,s,j,us,z _ _ m,d.same z,z _ _ k,z _ _ e,z _ _ n,g.same z⟩
def BookT (a:Adr)(H:Hp)(bk:Addr)(n:Nat)(ts:Nat->TD):Prop:=∃(nms:List Str)(us:List V),BookAt a.kL H bk nms ((Aq n).map λi=>(ts i).name) us/\∀i<n,∃(j:Nat)(rl:Addr),nm nms j=(ts i).name/\us[j]?=some (.ref rl)/\RuleT a H rl ts i
def BookT.same {a:Adr}{H H':Hp}{bk:Addr}{n:Nat}{ts:Nat->TD}(h:BookT a H bk n ts)(z:Same H H'):BookT a H' bk n ts:=by obtain⟨nms,us,k,d⟩:=h;exact⟨nms,us,k.same z,λi b=>by obtain⟨j,e,g,f,c⟩:=d i b;exact⟨j,e,g,f,c.same z⟩⟩
noncomputable def kvR (n:Nat)(ts:Nat->TD)(p:Nat->Addr):List (Key×V):=(Aq n).map λi=>(.inr (ts i).name,.ref (p i))
def qlc {n:Nat}{ts:Nat->TD}{p:Nat->Addr}:(kvR n ts p).length=n:=by unfold kvR;rw[Ab,As]
def qpq {n:Nat}{ts:Nat->TD}{p:Nat->Addr}{i:Nat}{a:Key×V}(e:(kvR n ts p)[i]?=some a):i<n/\a=(.inr (ts i).name,.ref (p i)):=by
 unfold kvR at e;rw[Ah]at e;by_cases h:i<n
 .rw[AX h]at e;cases e;exact⟨h,Z⟩
 .rw[AR (by rw[As];lia)]at e;cases e
theorem quo {l:List (Key×V)}{k:Key}{v:V}(h:(k,v)∈l)(u:∀w,(k,w)∈l->w=v):qbn l k=some v:=by
 induction l with
 |nil=>cases h
 |cons p l ih =>
  by_cases e:p.1=k
  .rw[qca e];exact congrArg some (u p.2 (by rw[<- e];exact Am))
  .rw[qb0 e];refine ih ((Aw.mp h).resolve_left λz=>e (by rw[<- z])) λw m=>u w (Ay _ m)
def qhc {n:Nat}{ts:Nat->TD}{p:Nat->Addr}(c:∀i<n,∀j<n,(ts i).name=(ts j).name->i=j){i:Nat}(a:i<n):qbn (kvR n ts p) (.inr (ts i).name)=some (.ref (p i)):=by refine quo (Bd.mpr ⟨i,AV.mpr a,Z⟩) λw m=>?_;obtain⟨j,b,e⟩:=Bd.mp m;injection e with e1 e2;rw[<- e2,c j (AV.mp b) i a (Dh.inj e1)]
noncomputable def bgK (ts:Nat->TD)(y:Nat->Addr)(f:Nat->Bool)(m:Nat):List (Key×V):=((Aq m).filter f).map λi=>(.inr (ts i).name,.ref (y i))
theorem qpr {l:List (Key×V)}{k:Key}(h:∀w,(k,w)∉l):qbn l k=none:=by
 induction l with
 |nil=>rfl
 |cons p l ih =>have e:¬p.1=k:=λz=>h p.2 (by rw[<- z];exact Am);rw[qb0 e];exact ih λw m=>h w (Ay _ m)
def qld {n m b:Nat}{ts:Nat->TD}{y:Nat->Addr}{f:Nat->Bool}(l:∀i<n,∀j<n,(ts i).name=(ts j).name->i=j)(hm:m<=n)(o:b<n):qbn (bgK ts y f m) (.inr (ts b).name)=if b<m/\f b=true then some (.ref (y b)) else none:=by
 have a:∀w,((Dh (ts b).name:Key),w)∈bgK ts y f m->b<m/\f b=true/\w=.ref (y b):=λw h=>by obtain⟨j,d,e⟩:=Bd.mp h;obtain⟨k,g⟩:=BW.mp d;have d:=AV.mp k;injection e with e1 e2;have:j=b:=l j (by lia) b o (Dh.inj e1);subst this;exact⟨d,g,e2.symm⟩
 by_cases c:b<m/\f b=true
 .rw[if_pos c];exact quo (Bd.mpr ⟨b,BW.mpr ⟨AV.mpr c.1,c.2⟩,Z⟩) λw h=>(a w h).2.2
 .rw[if_neg c];exact qpr λw h=>c ⟨(a w h).1,(a w h).2.1⟩
def qy6 {ts:Nat->TD}{y a:Nat->Addr}{f:Nat->Bool}{i:Nat}(h:f i=false)(b:∀j<i,a j=y j):bgK ts a f (i+1)=bgK ts y f i:=by unfold bgK;rw[Bv,Ck,CS (by rw[h];decide),List.filter_nil,Bu];exact BQ λj c=>by rw[b j (AV.mp (BW.mp c).1)]
def bgK_yes {ts:Nat->TD}{y a:Nat->Addr}{f:Nat->Bool}{i:Nat}(c:∀j<i,a j=y j):bgK ts a (put f i true) (i+1)=bgK ts y f i++[(.inr (ts i).name,.ref (a i))]:=by
 unfold bgK;rw[Bv,Ck,Cs qav,List.filter_nil,Ax]
 congr 1
 have e:(Aq i).filter (put f i true)=(Aq i).filter f:=List.filter_congr λj b=>by rw[qar (AE (AV.mp b))]
 rw[e];exact BQ λj b=>by rw[c j (AV.mp (BW.mp b).1)]
def bgK_len {ts:Nat->TD}{y:Nat->Addr}{f:Nat->Bool}{m:Nat}:(bgK ts y f m).length<=m:=by unfold bgK;rw[Ab];exact A9 (Df _ _) (by rw[As];exact Al _)
section
variable {bs:List Bool}{rs:List Rw}{ts:Nat->TD}{Zq:ZZ}{ac:Act}{i:Nat}
theorem qy7:tk bs rs ts Zq ac (i+1)=if qnp ((tk bs rs ts Zq ac i).1 i)=true then (put (tk bs rs ts Zq ac i).1 i (qhk bs rs ts (tk bs rs ts Zq ac i).1 i ac),(tk bs rs ts Zq ac i).2)
  else if opT (ts i) ac.2.1 (tk bs rs ts Zq ac i).2=true then (put (tk bs rs ts Zq ac i).1 i ((tk bs rs ts Zq ac i).1 i++[qgx (ts i) ac (tk bs rs ts Zq ac i).2 (tk bs rs ts Zq ac i).1]),put (tk bs rs ts Zq ac i).2 i true)
  else tk bs rs ts Zq ac i:=rfl
def tk_run (c:qnp (Zq i)=true):tk bs rs ts Zq ac (i+1)=(put (tk bs rs ts Zq ac i).1 i (qhk bs rs ts (tk bs rs ts Zq ac i).1 i ac),(tk bs rs ts Zq ac i).2):=by rw[qy7,if_pos (by rw[qkn (Al i)];exact c)]
def tk_beg (c:¬qnp (Zq i)=true)(d:opT (ts i) ac.2.1 (tk bs rs ts Zq ac i).2=true):tk bs rs ts Zq ac (i+1)=(put (tk bs rs ts Zq ac i).1 i ((tk bs rs ts Zq ac i).1 i++[qgx (ts i) ac (tk bs rs ts Zq ac i).2 (tk bs rs ts Zq ac i).1]),put (tk bs rs ts Zq ac i).2 i true):=by rw[qy7,if_neg (by rw[qkn (Al i)];exact c),if_pos d]
def tk_no (c:¬qnp (Zq i)=true)(d:opT (ts i) ac.2.1 (tk bs rs ts Zq ac i).2=false):tk bs rs ts Zq ac (i+1)=tk bs rs ts Zq ac i:=by rw[qy7,if_neg (by rw[qkn (Al i)];exact c),if_neg (by rw[d];decide)]
end
def qup {l:List RS}(h:l≠[]):qnp l = !(l.getD (l.length-1) dRS).over:=by have hp:=BP.mpr h;unfold qnp;rw[Dr,Ak,Ae (by lia)];rfl
def qrk {l:Nat}(h:0<l)(f:Nat->Addr):((Aq l).map λj=>V.ref (f j))=((Aq (l-1)).map λj=>V.ref (f j))++[V.ref (f (l-1))]:=by obtain⟨k,rfl⟩:∃k,l=k+1:=⟨l-1,by lia⟩;rw[Bv,Ax];rfl
theorem newR_wf {ts:Nat->TD}{Y Zq:ZZ}{i:Nat}{ac:Act}{f:Nat->Bool}(c:∀b,(ts i).base=some b->b<i)(d:∀b,f b=true->(Y b).length=(Zq b).length+1):WfB ts Y i (qgx (ts i) ac f Y):=by
 refine⟨?_,λk e=>?_⟩
 .unfold qgx;dsimp only;cases (ts i).base with
  |none=>exact .inl rfl
  |some b =>
   dsimp only;split
   .exact .inr ⟨_,Z⟩
   .exact .inl rfl
 .unfold qgx at e;dsimp only at e;cases a:(ts i).base with
  |none=>rw[a]at e;cases e
  |some b =>
   rw[a]at e;dsimp only at e;split at e
   .rename_i g;cases e;have:=d b g;exact⟨b,Z,c b a,by lia,by rw[B3];lia⟩
   .cases e
theorem newR_bb {n i:Nat}{ts:Nat->TD}{Y Zq:ZZ}{ac:Act}{f:Nat->Bool}{x:Nat->Nat->Addr}(d:∀i<n,∀j<n,(ts i).name=(ts j).name->i=j)(c:i<n)(h:∀b,(ts i).base=some b->b<i)(m:∀b,f b=true->(Y b).length=(Zq b).length+1){H:Hp}{e:Addr}(a:H e=some (.dK (bgK ts (λj=>x j (Zq j).length) f i))) :
  ∃o:Option V,qqp H e (baV ts (ts i).base) o/\o.isSome=fB (ts i).base f/\o.getD .non=qj4 x (ts i).base (qgx (ts i) ac f Y).bv:=by
 unfold qgx;dsimp only;cases l:(ts i).base with
 |none=>exact⟨none,.inl ⟨Z,Z,_,.inl a⟩,Z,Z⟩
 |some b =>
  have lt:=h b l;refine⟨_,.inr (DGet.k (k:=.inr (ts b).name) a),?_,?_⟩
  .rw[qld d (BG c) (by lia)];show _=f b;cases g:f b with|true=>rw[if_pos ⟨lt,Z⟩];rfl|false=>rw[if_neg (λz=>nomatch z.2)];rfl
  .rw[qld d (BG c) (by lia)];show _=qj4 x (some b) (if f b=true then V.int (((Y b).length-1:Nat):Int) else V.non);cases g:f b with|true =>rw[if_pos ⟨lt,Z⟩,if_pos Z];show V.ref (x b (Zq b).length)=V.ref (x b ((((Y b).length-1:Nat):Int)).toNat);rw[B3,m b g,D5]|false =>rw[if_neg (λz=>nomatch z.2),if_neg Ud];rfl
def spTake (a:Adr):Sp:=λvs H Q _=>∃(bk tb pd aa:Addr)(B:Hp)(n N:Nat)(ts:Nat->TD)(Zq:ZZ)(x:Nat->Nat->Addr)(S:Nat->Nat->List Addr)(p:Nat->Addr)(bs:List Bool)(rs:List Rw)(D:Int)(ac:Act),vs=[.ref bk,.ref tb,.ref pd,.ref aa]/\TsOk n ts/\BookT a B bk n ts/\TabAt a.kH a.kG B tb bs rs/\TabOk bs rs/\qnq bs rs/\B aa=some (.tup (qdy ac))/\H pd=some (.dK (kvR n ts p))/\WH a B H n ts Zq x S p (λi=>(Zq i).length) [pd] bs rs/\PZ n ts Zq D N/\D<=ac.2.2/\N<300 /\
 ∀(H' B':Hp)(x':Nat->Nat->Addr)(S':Nat->Nat->List Addr),Same B B'->H' pd=some (.dK (kvR n ts p))->WH a B' H' n ts (tk bs rs ts Zq ac n).1 x' S' p (λi=>((tk bs rs ts Zq ac n).1 i).length) [pd] bs rs->Q .non H'
noncomputable def nm0 (st:RS):Str:=(st.rows.headD (Be,0,Be)).1
def AccI (bs:List Bool)(rs:List Rw)(ts:Nat->TD)(Zq:ZZ)(i:Nat)(H:Hp)(l:Addr)(y p4 p6:Nat->Addr):Prop:=H l=some (.lst ((Aq (Zq i).length).map λj=>.ref (y j)))/\∀j<(Zq i).length,AccAt H (y j) (p4 j) (p6 j) (nm0 ((Zq i).getD j dRS)) ((Zq i).getD j dRS) (stF bs rs ts Zq 3 i ((Zq i).getD j dRS)) (lsC bs rs (ts i).rd ((Zq i).getD j dRS) (stF bs rs ts Zq 3 i ((Zq i).getD j dRS)))
def AccAt.same {H H':Hp}{q a b:Addr}{n:Str}{st:RS}{s r:Option Int}(h:AccAt H q a b n st s r)(z:Same H H'):AccAt H' q a b n st s r:=⟨z _ _ h.1,h.2.1.same z,h.2.2.same z⟩
def AccI.same {bs:List Bool}{rs:List Rw}{ts:Nat->TD}{Zq:ZZ}{i:Nat}{H H':Hp}{l:Addr}{y a b:Nat->Addr}(h:AccI bs rs ts Zq i H l y a b)(z:Same H H'):AccI bs rs ts Zq i H' l y a b:=⟨z _ _ h.1,λj c=>(h.2 j c).same z⟩
def ToldAt (bs:List Bool)(rs:List Rw)(ts:Nat->TD)(Zq:ZZ)(n:Nat)(H:Hp)(d:Addr)(q:Nat->Addr)(y p4 p6:Nat->Nat->Addr):Prop:=H d=some (.dK (kvR n ts q))/\∀i<n,AccI bs rs ts Zq i H (q i) (y i) (p4 i) (p6 i)
def ToldAt.same {bs:List Bool}{rs:List Rw}{ts:Nat->TD}{Zq:ZZ}{n:Nat}{H H':Hp}{d:Addr}{q:Nat->Addr}{y a b:Nat->Nat->Addr}(h:ToldAt bs rs ts Zq n H d q y a b)(z:Same H H'):ToldAt bs rs ts Zq n H' d q y a b:=⟨z _ _ h.1,λi c=>(h.2 i c).same z⟩
def NewT (H:Hp)(Zq:ZZ)(n:Nat)(d:Addr)(q:Nat->Addr)(y p4 p6:Nat->Nat->Addr):Prop:=H d=none/\∀i<n,H (q i)=none/\∀j<(Zq i).length,H (y i j)=none/\H (p4 i j)=none/\H (p6 i j)=none
def SepT (Zq:ZZ)(n:Nat)(q:Nat->Addr)(p4 p6:Nat->Nat->Addr):Prop:=∀i1<n,∀i2<n,(i1≠i2->q i1≠q i2)/\∀j<(Zq i2).length,q i1≠p4 i2 j/\q i1≠p6 i2 j
def qy8 {Zq:ZZ}{i:Nat}{q:Nat->Addr}{m l:Nat->Nat->Addr}{e:Addr}{g n:Nat->Addr}(h:SepT Zq i q m l)(a:∀c<i,q c≠e/\(∀j<(Zq c).length,e≠m c j/\e≠l c j)/\∀j<(Zq i).length,q c≠g j/\q c≠n j)(b:∀j<(Zq i).length,e≠g j/\e≠n j):SepT Zq (i+1) (put q i e) (put m i g) (put l i n):=by
 intro c h1 f h2;by_cases o:c=i
 .subst o;rw[qav];by_cases d:f=c
  .subst d;rw[qav,qav,qav];exact⟨λz=>absurd Z z,b⟩
  .rw[qar d,qar d,qar d];obtain⟨k,r,_⟩:=a f (by lia);exact⟨λ_=>B6 k,r⟩
 .rw[qar o];by_cases d:f=i
  .subst d;rw[qav,qav,qav];obtain⟨k,_,p⟩:=a c (by lia);exact⟨λ_=>k,p⟩
  .rw[qar d,qar d,qar d];exact h c (by lia) f (by lia)
noncomputable def ofl (l:List Addr)(H:Hp):Hp:=λb=>if b∈l then none else H b
def qj7 {l:List Addr}{b:Addr}{H:Hp}{o:HO}(n:b∉l)(h:H b=some o):ofl l H b=some o:=by unfold ofl;rw[if_neg n];exact h
def qh7 {l:List Addr}{b:Addr}{H:Hp}{o:HO}(e:ofl l H b=some o):b∉l/\H b=some o:=by
 unfold ofl at e;by_cases c:b∈l
 .rw[if_pos c]at e;cases e
 .rw[if_neg c]at e;exact⟨c,e⟩
def qgz {l a:List Addr}{H H':Hp}(h:∀b∈a,b∈l)(k:∀b o,b∉l->H b=some o->H' b=some o):Same (ofl l H) (ofl a H'):=λb o e=>by obtain⟨n,e⟩:=qh7 e;exact qj7 (λz=>n (h b z)) (k b o n e)
def quq {l:List Addr}{H H':Hp}(k:∀b o,b∉l->H b=some o->H' b=some o):Same (ofl l H) H':=λb o e=>by obtain⟨n,e⟩:=qh7 e;exact k b o n e
def AccAt.ofL {H:Hp}{q f d:Addr}{l:List Addr}{n:Str}{st:RS}{s r:Option Int}(h:AccAt H q f d n st s r)(w:∀c∈l,∀t,H c≠some (.tup t))(g:f∉l)(i:d∉l):AccAt (ofl l H) q f d n st s r:=by have a:∀b t,H b=some (.tup t)->ofl l H b=some (.tup t):=λb t e=>qj7 (λz=>w b z t e) e;obtain⟨u,⟨p,j,m⟩,⟨o,k,v⟩⟩:=h;exact⟨a _ _ u,⟨p,qj7 g j,qce m a⟩,⟨o,qj7 i k,qce v a⟩⟩
def KpT (H H':Hp):Prop:=∀b o,(∀t,o ≠ .tbl t)->H b=some o->H' b=some o
def KpT.of {H H':Hp}{a:Addr}{ps:Array Value}(h:H a=some (.tbl ps))(k:SameBut a H H'):KpT H H':=λb o n e=>k b o (λz=>by rw[z,h]at e;exact n ps (AA e).symm) e
section
variable {H H':Hp}(k:KpT H H')
include k
def qs4 {us:List V}{ts:List (List V)}(t:Tups H us ts):Tups H' us ts:=qce t λb u e=>k b _ (λ_ z=>nomatch z) e
theorem qy9 {a:Adr}{bk:Addr}{n:Nat}{ts:Nat->TD}(h:BookT a H bk n ts):BookT a H' bk n ts:=by
 obtain⟨nms,us,⟨d,E,p,kvs,G,o,y,q⟩,I⟩:=h;refine⟨nms,us,⟨d,E,p,kvs,k _ _ (λ_ z=>nomatch z) G,k _ _ (λ_ z=>nomatch z) o,k _ _ (λ_ z=>nomatch z) y,q⟩,λi f=>?_⟩;obtain⟨j,B,F,C,d,D,v,pl,w,s,x,us,m,c,t,l,A,u⟩:=I i f;refine⟨j,B,F,C,d,D,v,pl,w,s,x,us,k _ _ (λ_ z=>nomatch z) m,?_,k _ _ (λ_ z=>nomatch z) t,k _ _ (λ_ z=>nomatch z) l,k _ _ (λ_ z=>nomatch z) A,qs4 k u⟩;cases e:(ts i).rd.still with
 |none=>rw[e]at c;exact c
 |some z=>rw[e]at c;obtain⟨b,r,g⟩:=c;exact⟨b,r,k _ _ (λ_ z=>nomatch z) g⟩
def tab_T {a C t:Addr}{bs:List Bool}{rs:List Rw}(h:TabAt a C H t bs rs):TabAt a C H' t bs rs:=by obtain⟨c,p,q,z,o,⟨b,i,s,d,f,n,g,r,m⟩,⟨us,e,j⟩,l⟩:=h;exact⟨c,p,q,z,k _ _ (λ_ z=>nomatch z) o,⟨b,i,s,d,k _ _ (λ_ z=>nomatch z) f,k _ _ (λ_ z=>nomatch z) n,k _ _ (λ_ z=>nomatch z) g,k _ _ (λ_ z=>nomatch z) r,m⟩,⟨us,k _ _ (λ_ z=>nomatch z) e,qs4 k j⟩,k _ _ (λ_ z=>nomatch z) l⟩
end
def run_in {a:Adr}{B H:Hp}{x:Addr}{S:List Addr}{rd:RD}{st:RS}{bs:List Bool}{rs:List Rw}(h:RunAt a B H x S rd st bs rs):x∈S:=by obtain⟨dx,rl,cn,pr,pp,pg,ur,up,rfl,_⟩:=h;exact Am
def WH.inj {a:Adr}{B H:Hp}{n:Nat}{ts:Nat->TD}{Zq:ZZ}{x:Nat->Nat->Addr}{S:Nat->Nat->List Addr}{p:Nat->Addr}{L:Nat->Nat}{E:List Addr}{bs:List Bool}{rs:List Rw}(W:WH a B H n ts Zq x S p L E bs rs){i j b:Nat}(c:i<n)(f:j<(Zq i).length)(d:b<(Zq i).length)(e:x i j=x i b):j=b:=by
 by_cases z:j=b
 .exact z
 .exact absurd (e ▸ run_in (W.R i c b d)) (W.sep i c j f i c b d (.inr z) _ (run_in (W.R i c j f)))
def qhl (acts:List Act):Prop:=acts.Pairwise λx y=>Lam.ltK (qc8 y) (qc8 x)=false
def spHist (a:Adr)(Pt:Addr):Sp:=λvs H Q _=>∃(bk tb pa:Addr)(us:List V)(acts:List Act)(n:Nat)(ts:Nat->TD)(bs:List Bool)(rs:List Rw),vs=[.ref bk,.ref tb,.ref pa]/\TsOk n ts/\BookT a H bk n ts/\TabAt a.kH a.kG H tb bs rs/\TabOk bs rs/\qnq bs rs/\H pa=some (.lst us)/\Tups H us (acts.map qdy)/\acts.length<=20/\(∀t∈acts,0<=t.2.2)/\Lam.LamAt H Pt ioP ioQ /\
 ∀(d:Addr)(H':Hp)(acts':List Act)(q:Nat->Addr)(y p4 p6:Nat->Nat->Addr),SameBut Pt H H'->Lam.LamAt H' Pt ioP ioQ->acts'.Perm acts->qhl acts'->ToldAt bs rs ts (qcm bs rs ts n acts') n H' d q y p4 p6->NewT H (qcm bs rs ts n acts') n d q y p4 p6->PZ n ts (qcm bs rs ts n acts') (acts'.getLastD dA).2.2 acts'.length->SepT (qcm bs rs ts n acts') n q p4 p6->Q (.ref d) H'
def qj8 {bs:List Bool}{rs:List Rw}{ts:Nat->TD}{n:Nat}{l:List Act}{ac:Act}:qcm bs rs ts n (l++[ac])=(tk bs rs ts (qcm bs rs ts n l) ac n).1:=by unfold qcm;rw[Dk];rfl
def qur {a:List Act}(h:qhl a){i j:Nat}{x y:Act}(b:i<j)(g:a[i]?=some x)(f:a[j]?=some y):x.2.2<=y.2.2:=by obtain⟨k,e⟩:=Ac.mp g;obtain⟨c,d⟩:=Ac.mp f;have:=Bh.mp h i j k c b;rw[e,d,Lam.ltK_no]at this;have:¬y.2.2<x.2.2:=λz=>this (.inl z);lia
noncomputable def uix (c:Int):Three:=if c % 3=0 then .a else if c % 3=1 then .b else .c
def uix_at (c:Int):atI [V.str (Aa "days"),V.str (Aa "weeks"),V.str (Aa "court")] (c % 3)=some (V.str (qkm (uix c))):=by unfold uix;rcases (by lia:c % 3=0\/c % 3=1\/c % 3=2) with e|e|e <;>rw[e] <;>rfl
def qf2 (ns:List Int)(k:Int):Int:=(cell ns k+1+k*k)*48271 % 2147483647*(69621+2*k) % 2147483629
def qi1 (a:List Int)(k:Int):0<=qf2 a k/\qf2 a k<2147483629:=by unfold qf2;lia
def spMix (K:Ag):Sp:=λvs H Q _=>∃(l:Addr)(ns:List Int)(k:Int),vs=[.ref l,.int k]/\SqL K H l (ns.map V.int)/\0<=k/\k<=100/\Q (.int (qf2 ns k)) H
noncomputable def nwp (H H':Hp):Hp:=λb=>if H b=none then H' b else none
def qe7 {H H':Hp}{b:Addr}{o:HO}(n:H b=none)(e:H' b=some o):nwp H H' b=some o:=by unfold nwp;rw[if_pos n];exact e
def qmx {H H':Hp}{b:Addr}{o:HO}(e:nwp H H' b=some o):H b=none/\H' b=some o:=by
 unfold nwp at e;by_cases c:H b=none
 .rw[if_pos c]at e;exact⟨c,e⟩
 .rw[if_neg c]at e;cases e
def nwp_keep {H H' a:Hp}(k:∀b o,H b=none->H' b=some o->a b=some o):Same (nwp H H') a:=λb o e=>by obtain⟨d,c⟩:=qmx e;exact k b o d c
def nwp_same {H J a:Hp}(s:Same J a):Same (nwp H J) (nwp H a):=λb o e=>by obtain⟨d,c⟩:=qmx e;exact qe7 d (s _ _ c)
def RuleB (a:Adr)(H:Hp)(rl:Addr)(t:TD)(bv:V):Prop:=∃(dx pe pa pl:Addr)(w s py:V)(us:List V),H rl=some (.ins a.kB dx (rlF (.str t.name) w (.str t.rd.owes) (opV t.opens) bv (.int t.rd.many) (.str (qkm t.rd.unit)) s (.ref pe) (.ref pa) (.ref pl) py))/\StAt H s t.rd.still/\H pe=some (.lst (t.rd.ends.map V.str))/\H pa=some (.lst (t.rd.anew.map V.str))/\H pl=some (.lst us)/\Tups H us (t.rd.longer.map qrc)
def RuleB.same {a:Adr}{H H':Hp}{b:Addr}{t:TD}{bv:V}(h:RuleB a H b t bv)(z:Same H H'):RuleB a H' b t bv:=by obtain⟨c,k,f,pl,w,s,i,us,l,d,j,e,m,g⟩:=h;exact⟨c,k,f,pl,w,s,i,us,z _ _ l,d.same z,z _ _ j,z _ _ e,z _ _ m,g.same z⟩
def useS2 {p:Option V->Option V->Prop}{f:Option V->Option V->L2.St}{J:Hp}{k:L2.St->Hp->Prop}{R:Prop}(m:(∀x y,p x y->k (f x y) J)->R)(l:∀x y,p x y->k (f x y) J):R:=m l
def qus {p:Option V->Hp->Prop}{f:Option V->L2.St}{k:L2.St->Hp->Prop}{R:Prop}(m:(∀x J,p x J->k (f x) J)->R)(l:∀x J,p x J->k (f x) J):R:=m l
def gn2 {i:Nat}{k:L2.St->Hp->Prop}{v:V}{σ σ':L2.St}{H:Hp}(e:σ.set i (some v)=σ')(h:k σ' H):qbq i v σ H k:=by subst e;exact h
def as2 {i:Nat}{v:V}{D:L2.Ends}{σ σ':L2.St}{H:Hp}(e:σ.set i (some v)=σ')(h:D.nx σ' H):tAsg (tC v) (qbq i) D σ H:=by subst e;exact h
def tn2 {D:L2.Ends}{σ σ':L2.St}{H:Hp}(e:σ=σ')(h:D.nx σ' H):tNext D σ H:=by subst e;exact h
def qop {a:List Str}{j:Nat}(h:j<a.length):atI (a.map V.str) (j:Int)=some (.str (a.getD j Be)):=qa0 (by rw[Ah,Ak,Ae h];rfl)
def qg0 {a:List Str}{x:Int}(h0:0<=x)(h:x<a.length):atI (a.map V.str) x=some (.str (a.getD x.toNat Be)):=by obtain⟨j,rfl⟩:∃j:Nat,x=(j:Int):=⟨x.toNat,by lia⟩;rw[B3];exact qop (by lia)
theorem qmy {α β:Type}(f:Nat->α)(g:α->β)(i:Nat):((Aq (i+1)).map f).map g=((Aq i).map f).map g++[g (f i)]:=by rw[Bv,Ax,Ax];rfl
noncomputable def bvN (names:List Str):Option Nat->V
 |some b=>.str (names.getD b Be)
 |none=>.non
structure TdOk (names:List Str)(t:TD)(k:Nat):Prop where
 nm:t.name=names.getD k Be
 ba:∀b,t.base=some b->b<k
 op:t.base=none->∃o,t.opens=some o
 rd:RdOk t.rd
 ls:t.rd.ends.length<=2/\t.rd.anew.length<=2/\t.rd.longer.length<=2
def spRl55 (a:Adr)(K:Ag):Sp:=λvs H Q _=>∃(l pn pk:Addr)(ns:List Int)(names kinds:List Str)(k:Nat),vs=[.ref l,.int 4,.int (k:Int),.ref pn,.ref pk]/\SqL K H l (ns.map V.int)/\H pn=some (.lst (names.map V.str))/\names.length=26/\H pk=some (.lst (kinds.map V.str))/\11<=kinds.length/\k<4 /\
 ∀(x:Addr)(H':Hp)(t:TD),Same H H'->H x=none->TdOk names t k->RuleB a (nwp H H') x t (bvN names t.base)->Q (.ref x) H'
def RsL (a:Adr)(H:Hp)(us:List V)(Ts:List TD)(names:List Str):Prop:=us.length=Ts.length/\∀(j:Nat)(t:TD),Ts[j]?=some t->∃rl,us[j]?=some (.ref rl)/\RuleB a H rl t (bvN names t.base)
def RsL.same {a:Adr}{H H':Hp}{us:List V}{Ts:List TD}{names:List Str}(h:RsL a H us Ts names)(s:Same H H'):RsL a H' us Ts names:=⟨h.1,λj t e=>by obtain⟨c,d,b⟩:=h.2 j t e;exact⟨c,d,b.same s⟩⟩
def RsL.snoc {a:Adr}{H:Hp}{us:List V}{Ts:List TD}{names:List Str}{x:Addr}{t:TD}(h:RsL a H us Ts names)(r:RuleB a H x t (bvN names t.base)):RsL a H (us++[.ref x]) (Ts++[t]) names:=by
 refine⟨by rw[Af,Af,h.1];rfl,λj t' e=>?_⟩;by_cases c:j<Ts.length
 .rw[AI c]at e;obtain⟨d,f,b⟩:=h.2 j t' e;exact⟨d,by rw[AI (by rw[h.1];exact c)];exact f,b⟩
 .rw[AK (by lia)]at e;have:j-Ts.length=0:=by have:=(Ac.mp e).1;simpa using this
  rw[this]at e;cases e;exact⟨x,by rw[AK (by rw[h.1];lia),h.1,this];rfl,r⟩
def RsL.rev {a:Adr}{H:Hp}{us:List V}{Ts:List TD}{names:List Str}(h:RsL a H us Ts names):RsL a H us.reverse Ts.reverse names:=by refine⟨by rw[BO,BO,h.1],λj t e=>?_⟩;have b:=(Ac.mp e).1;rw[BO]at b;rw[Dg b]at e;obtain⟨d,f,c⟩:=h.2 _ t e;exact⟨d,by rw[Dg (by rw[h.1];exact b),h.1];exact f,c⟩
def spBk55 (a:Adr)(K:Ag):Sp:=λvs H Q _=>∃(l pn pk:Addr)(ns:List Int)(names kinds:List Str),vs=[.ref l,.ref pn,.ref pk]/\SqL K H l (ns.map V.int)/\H pn=some (.lst (names.map V.str))/\names.length=26/\H pk=some (.lst (kinds.map V.str))/\11<=kinds.length /\
 ∀(pr:Addr)(H':Hp)(us:List V)(Ts:List TD)(rv:Bool),H pr=none->Same H H'->1<=Ts.length->Ts.length<=4->(∀k t,Ts[k]?=some t->TdOk names t k)->H' pr=some (.lst us)->RsL a (ofl [pr] H') us (if rv=true then Ts.reverse else Ts) names->Q (.ref pr) H'
def qew (t:TD):List Str:=t.rd.owes::(t.rd.ends++t.rd.anew++t.rd.longer.map (·.1))++(t.opens.toList++(match t.rd.still with|some s=>[s.1,s.2] | none=>[]))
def spMe55 (a:Adr):Sp:=λvs H Q _=>∃(pr:Addr)(us:List V)(Ts:List TD)(names:List Str),vs=[.ref pr]/\H pr=some (.lst us)/\RsL a H us Ts names/\Ts.length<=4/\(∀t∈Ts,t.rd.ends.length<=2/\t.rd.anew.length<=2/\t.rd.longer.length<=2) /\
 ∀(q:Addr)(H':Hp),H q=none->Same H H'->H' q=some (.lst ((Ts.flatMap qew).map V.str))->Q (.ref q) H'
def qv9 {t:TD}(h:t.rd.ends.length<=2/\t.rd.anew.length<=2/\t.rd.longer.length<=2):(qew t).length<=10:=by
 unfold qew;have h1:t.opens.toList.length<=1:=by cases t.opens <;>simp
 have h2:(match t.rd.still with|some s=>[s.1,s.2] | none=>([]:List Str)).length<=2:=by cases t.rd.still <;>simp
 rw[Af,Af,AD,Af,Af,Ab];lia
theorem qrl {Ts:List TD}(h:∀t∈Ts,t.rd.ends.length<=2/\t.rd.anew.length<=2/\t.rd.longer.length<=2):(Ts.flatMap qew).length<=10*Ts.length:=by
 induction Ts with
 |nil=>exact Al _
 |cons t Ts ih =>have:=ih λx a=>h x (Ay _ a);have:=qv9 (h t Am);rw[List.flatMap_cons,Af,AD];lia
def str23 {s:Int}(h1:1<=s)(h2:s<=22){i j:Nat}(b:i<23)(c:j<23)(e:((i:Int)*s+s / 2) % 23=((j:Int)*s+s / 2) % 23):i=j:=by
 have d:((Aq 23).all λs=>(Aq 23).all λi=>(Aq 23).all λj=>s == 0 || (i*s+s / 2) % 23 != (j*s+s / 2) % 23 || i == j)=true:=Uk;obtain⟨t,rfl⟩:∃t:Nat,s=(t:Int):=⟨s.toNat,by lia⟩;have e:(i*t+t / 2) % 23=(j*t+t / 2) % 23:=by exact_mod_cast e
 have a:=Cb.mp (Cb.mp (Cb.mp d t (AV.mpr (by lia))) i (AV.mpr b)) j (AV.mpr c);rw[e]at a;simp at a;lia
def qps {names:List Str}(nd:names.Nodup){i j:Nat}(a:i<names.length)(b:j<names.length)(e:names.getD i Be=names.getD j Be):i=j:=by rw[Ak,Ak,Ae a,Ae b]at e;exact(List.getElem_inj nd).mp e
def NmA (names:List Str)(s:Int)(acts:List Act):Prop:=∀(j:Nat)(t:Act),acts[j]?=some t->t.1=names.getD (((j:Int)*s+s / 2) % 23).toNat Be
def nma_nd {names:List Str}{s:Int}{a:List Act}(ln:names.length=26)(nd:names.Nodup)(k:1<=s)(d:s<=22)(l:a.length<=20)(h:NmA names s a):(a.map (·.1)).Nodup:=by rw[Cz,Cq,Bh];intro i j b g hij e;have f:=h i a[i] (Ae b);have c:=h j a[j] (Ae g);rw[f,c]at e;have:=qps nd (by lia) (by lia) e;have:=str23 k d (i:=i) (j:=j) (by lia) (by lia) (by lia);lia
def spAc55 (a:Adr)(K:Ag):Sp:=λvs H Q _=>∃(l pr pn:Addr)(ns:List Int)(names:List Str)(us:List V)(Ts:List TD)(first:Int)(many:Nat),vs=[.ref l,.ref pr,.ref pn,.int first,.int (many:Int)]/\SqL K H l (ns.map V.int)/\H pr=some (.lst us)/\RsL a H us Ts names/\1<=Ts.length/\Ts.length<=4/\(∀t∈Ts,t.rd.ends.length<=2/\t.rd.anew.length<=2/\t.rd.longer.length<=2)/\(∃t∈Ts,∃o,t.opens=some o)/\H pn=some (.lst (names.map V.str))/\names.length=26/\names.Nodup/\0<=first/\many<=20 /\
 ∀(q:Addr)(H':Hp)(uA:List V)(acts:List Act)(s:Int),H q=none->Same H H'->H' q=some (.lst uA)->Tups (nwp H H') uA (acts.map qdy)->acts.length=many->1<=s->s<=22->NmA names s acts->(∀t∈acts,first<=t.2.2)->Q (.ref q) H'
def ltK_asym {a b:Int×Str}(h:Lam.ltK a b=true):Lam.ltK b a=false:=(Lam.ordK [a,b]).1 0 1 h
def ltK_up {y f t:Int×Str}(b:Lam.ltK y f=false)(a:Lam.ltK f t=false):Lam.ltK y t=false:=(Lam.ordK [t,f,y]).2 0 1 2 a b
def sort_ins {a:List Act}{t:Act}{k:Nat}(h:qhl a)(hk:k<=a.length)(m:∀j x,j<k->a[j]?=some x->Lam.ltK (qc8 x) (qc8 t)=true)(l:∀x,a[k]?=some x->Lam.ltK (qc8 x) (qc8 t)=false):qhl (a.take k++t::a.drop k):=by
 have c:qhl (a.drop k):=h.sublist (List.drop_sublist k a);have e:=Bm.mp (show (a.take k++a.drop k).Pairwise _ by rw[Ci];exact h);refine Bm.mpr ⟨e.1,BA.mpr ⟨λy b=>?_,c⟩,λx g y b=>?_⟩
 .by_cases z:k<a.length
  .rw[Ch z]at b c;have f:=l _ (Ae z);rcases Aw.mp b with rfl|b
   .exact f
   .exact ltK_up ((BA.mp c).1 y b) f
  .rw[List.drop_eq_nil_of_le (by lia)]at b;cases b
 .rcases Aw.mp b with rfl|b
  .obtain⟨j,d⟩:=Bt g;have i:=(Ac.mp d).1;rw[Bj]at i;rw[List.getElem?_take_of_lt (by lia)]at d;exact ltK_asym (m j x (by lia) d)
  .exact e.2.2 x g y b
def spSo55:Sp:=λvs H Q _=>∃(p:Addr)(us:List V)(acts:List Act),vs=[.ref p]/\H p=some (.lst us)/\Tups H us (acts.map qdy)/\acts.length<=20 /\
 ∀(q:Addr)(H':Hp)(us':List V)(acts':List Act),H q=none->Same H H'->acts'.Perm acts->qhl acts'->H' q=some (.lst us')->Tups H us' (acts'.map qdy)->Q (.ref q) H'
def Pq (Zq:ZZ)(n:Nat)(p4 p6:Nat->Nat->Addr)(b:Addr):Prop:=∃i,i<n/\∃j,j<(Zq i).length/\(b=p4 i j\/b=p6 i j)
section
variable {H J J':Hp}{Zq:ZZ}{n:Nat}{d:Addr}{kvs:List (Key×V)}{q:Nat->Addr}{p4 p6:Nat->Nat->Addr}{L:Nat->List V}{N m:Nat}
end
theorem lst_ex {g b:Int->Bool}{ps:List Pz}{s m:Int}(i:qs1 g)(j:qs1 b)(e:0<=s)(d:1<=m):∃r,Lst g b ps s m r:=by
 obtain⟨c,a⟩:=full_ex (ps:=ps) i e d;cases c with
 |none=>exact⟨none,.inl ⟨a,Z⟩⟩
 |some f =>obtain⟨r,h⟩:=due_ex (ps:=ps) j (f:=f) (by have:=a.1;lia);exact⟨r,.inr ⟨f,a,h⟩⟩
def ls_ex55 {wk:List Int}(a:PartsOk wk [] []):qnq (fdL wk []) (ov []):=λrd st c s ok b=>by
 cases s with|none=>exact⟨none,Z⟩|some d=>exact lst_ex (qui a rd.unit) (qui a .c) (b d Z) (need1 ok.u1 _)
def qpt (K:Ag)(Pt:Addr):Sp:=λvs H Q _=>∃(a:Addr)(ns:List Int),vs=[.ref a]/\SqL K H a (ns.map V.int)/\ns.length<=63/\H Pt=some (.tbl #[])/\∀H',Q (.bl true) H'
def str_ext' {x y:Str}(h:x.cps.toList=y.cps.toList):x=y:=by obtain⟨a⟩:=x;obtain⟨b⟩:=y;have:a=b:=Array.toList_inj.mp h;rw[this]
def ltK_eq {a b:Int×Str}(d:Lam.ltK a b=false)(c:Lam.ltK b a=false):a.2=b.2:=by
 rw[Lam.ltK_no]at d c;have e:a.1=b.1:=by have:=λz=>d (.inl z);have:=λz=>c (.inl z);lia
 exact str_ext' (List.le_antisymm (List.not_lt.mp λz=>c (.inr ⟨e.symm,z⟩)) (List.not_lt.mp λz=>d (.inr ⟨e,z⟩)))
theorem qrm:∀{l m:List Act},l.Perm m->(l.map (·.1)).Nodup->qhl l->qhl m->l=m
 | [],m,p,_,_,_=>p.nil_eq
 |x::l,[],p,_,_,_=>by have:=p.length_eq;cases this
 |x::l,y::m,p,nd,hl,hm=>by
  have e:x=y:=by
   by_cases z:x=y
   .exact z
   .exfalso;have g:x∈m:=by
     rcases Aw.mp (p.mem_iff.mp (Am (a:=x) (l:=l))) with h|h
     .exact absurd h z
     .exact h
    have b:y∈l:=by
     rcases Aw.mp (p.mem_iff.mpr (Am (a:=y) (l:=m))) with h|h
     .exact absurd h.symm z
     .exact h
    have d:=(BA.mp hl).1 y b;have f:=(BA.mp hm).1 x g;have c:y.1=x.1:=ltK_eq d f;rw[Bc,Cv]at nd;exact nd.1 (c ▸ List.mem_map_of_mem b)
  subst e;rw[Bc,Cv]at nd;rw[qrm (p.cons_inv) nd.2 (BA.mp hl).2 (BA.mp hm).2]
inductive GoodI (bs:List (Option Nat)) (n:Nat):List Nat->Prop
 |nil:GoodI bs n []
 |snoc {l:List Nat} {k:Nat}:GoodI bs n l->k<n->k∉l->(∀b,bo bs k=some b->b∈l)->GoodI bs n (l++[k])
theorem GoodI.lt {bs:List (Option Nat)}{n:Nat}{l:List Nat}(h:GoodI bs n l):∀k∈l,k<n:=by
 induction h with
 |nil=>exact λk h=>absurd h AB
 |snoc _ hk _ _ ih =>
  intro x a;rcases Az.mp a with h|h
  .exact ih x h
  .rw[Aj.mp h];exact hk
theorem GoodI.nd {bs:List (Option Nat)}{n:Nat}{l:List Nat}(h:GoodI bs n l):l.Nodup:=by
 induction h with
 |nil=>exact .nil
 |snoc _ _ hn _ ih =>refine List.nodup_append.mpr ⟨ih,CP _ _,λa c b d z=>?_⟩;rw[Aj.mp d]at z;exact hn (z ▸ c)
theorem GoodI.base {bs:List (Option Nat)}{n:Nat}{l:List Nat}(h:GoodI bs n l):∀(i k b:Nat),l[i]?=some k->bo bs k=some b->∃j,j<i/\l[j]?=some b:=by
 induction h with
 |nil=>intro i k b e;cases e
 | @snoc l k0 _ _ _ hb ih =>
  intro i k b a f;by_cases c:i<l.length
  .rw[AI c]at a;obtain⟨j,d,o⟩:=ih i k b a f;exact⟨j,d,by rw[AI (by lia)];exact o⟩
  .rw[AK (by lia)]at a;have m:i-l.length=0:=by have:=(Ac.mp a).1;simpa using this
   rw[m]at a;cases a;obtain⟨j,d⟩:=Bt (hb b f);have g:=(Ac.mp d).1;exact⟨j,by lia,by rw[AI g];exact d⟩
def mem_nm {nms:List Str}{bs:List (Option Nat)}{b:Nat->Nat}(f:WdN nms bs b){l:List Nat}(c:∀k∈l,k<nms.length){k:Nat}(d:k<nms.length)(h:nm nms k∈l.map (nm nms)):k∈l:=by obtain⟨j,a,e⟩:=Bd.mp h;rw[<- qms f.nd (c j a) d e];exact a
theorem qut {nms:List Str}{bs:List (Option Nat)}{d:Nat->Nat}(g:WdN nms bs d){l:List Nat}(i:GoodI bs nms.length l):∀(f k:Nat),k<nms.length->d k<f->∃e:List Nat,(upW nms bs (l.map (nm nms)) f k).reverse=e.map (nm nms)/\GoodI bs nms.length (l++e)/\k∈l++e/\∀x∈e,d x<=d k
 |0,k,_,h=>absurd h (B0 _)
 |f+1,k,hk,h=>by
  unfold upW;by_cases c:nm nms k∈l.map (nm nms)
  .rw[if_pos c];refine⟨[],Z,by rw[Bu];exact i,by rw[Bu];exact mem_nm g i.lt hk c,λx a=>absurd a AB⟩
  .rw[if_neg c];have o:k∉l:=λz=>c (List.mem_map_of_mem z);cases m:bo bs k with
   |none=>exact⟨[k],Z,i.snoc hk o (λb e=>by rw[m]at e;cases e),by simp,λx a=>by rw[Aj.mp a];exact Al _⟩
   |some b =>
    obtain⟨q,b2⟩:=g.ok k b (by rw[bo_at (by rw[g.len];exact hk),m]);obtain⟨e,s,r,p,n⟩:=qut g i f b q (by lia);refine⟨e++[k],?_,?_,by simp,λx a=>?_⟩
    .show (nm nms k::upW nms bs (l.map (nm nms)) f b).reverse=_;rw[Dj,s,Ax];rfl
    .rw[<- List.append_assoc];refine r.snoc hk (λz=>?_) (λb' j=>by rw[m]at j;cases j;exact p);rcases Az.mp z with z|z
     .exact o z
     .have:=n k z;lia
    .rcases Az.mp a with z|z
     .have:=n x z;lia
     .rw[Aj.mp z];exact Al _
theorem qrn {nms:List Str}{bs:List (Option Nat)}{b:Nat->Nat}(a:WdN nms bs b):∀i,i<=nms.length->∃l:List Nat,qiy nms bs i=l.map (nm nms)/\GoodI bs nms.length l/\∀k<i,k∈l
 |0,_=>⟨[],Z,.nil,λk h=>absurd h (B0 _)⟩
 |i+1,hi=>by
  obtain⟨l,f,g,c⟩:=qrn a i (by lia);obtain⟨e,j,m,d,_⟩:=qut a g 7 i (by lia) (a.lo i);refine⟨l++e,by rw[qj3,f,j,Ax],m,λk hk=>?_⟩;by_cases z:k=i
  .rw[z];exact d
  .exact B7 _ (c k (by lia))
def nd_range {n:Nat}{l:List Nat}(nd:l.Nodup)(lt:∀k∈l,k<n)(all:∀k<n,k∈l):l.Perm (Aq n):=(List.perm_ext_iff_of_nodup nd Dq).mpr λk=>⟨λh=>AV.mpr (lt k h),λh=>all k (AV.mp h)⟩
noncomputable def fR (rv:Bool)(n j:Nat):Nat:=if rv=true then n-1-j else j
def qc9 {rv:Bool}{n j:Nat}(h:j<n):fR rv n j<n:=by unfold fR;split <;>lia
def qro {rv:Bool}{n j:Nat}(h:j<n):fR rv n (fR rv n j)=j:=by unfold fR;split <;>lia
def fR_inj {rv:Bool}{n i j:Nat}(a:i<n)(b:j<n)(e:fR rv n i=fR rv n j):i=j:=by rw[<- qro (rv:=rv) a,e,qro b]
def nmF (names:List Str)(rv:Bool)(n:Nat):List Str:=(Aq n).map λj=>names.getD (fR rv n j) Be
def bsF (T:Nat->TD)(rv:Bool)(n:Nat):List (Option Nat):=(Aq n).map λj=>((T (fR rv n j)).base).map (fR rv n)
def rkF (rv:Bool)(n j:Nat):Nat:=if j<n then fR rv n j else 0
section
variable {names:List Str}{T:Nat->TD}{rv:Bool}{n:Nat}
def qhd:(nmF names rv n).length=n:=by unfold nmF;rw[Ab,As]
def qpu {j:Nat}(h:j<n):nm (nmF names rv n) j=names.getD (fR rv n j) Be:=by unfold nm nmF;rw[Ak,Ah,AX h];rfl
def qs5 {j:Nat}(h:j<n):bo (bsF T rv n) j=((T (fR rv n j)).base).map (fR rv n):=by unfold bo bsF;rw[Ak,Ah,AX h];rfl
def wd_F (p:∀k<n,TdOk names (T k) k)(n4:n<=4)(ln:names.length=26)(nd:names.Nodup):WdN (nmF names rv n) (bsF T rv n) (rkF rv n):=by
 refine⟨?_,by unfold bsF;rw[qhd,Ab,As],by rw[qhd];lia,λk b e=>?_,λk=>?_⟩
 .unfold nmF;rw[Cz,Cq,Bh];intro i j g l hij e;rw[As]at g l;rw[D6,D6]at e;have q:=qc9 (rv:=rv) g;have f2:=qc9 (rv:=rv) l;have:=fR_inj g l (qps nd (by lia) (by lia) e);lia
 .have f:k<n:=by
   have:=(Ac.mp e).1
   unfold bsF at this
   rw[Ab,As]at this
   exact this
  have a:=qs5 (T:=T) (rv:=rv) f
  unfold bo at a
  rw[Ak,e]at a
  cases m:(T (fR rv n k)).base with
  |none=>rw[m]at a;cases a
  |some c =>
   rw[m]at a;cases a;have o:=(p _ (qc9 f)).ba c m;have q:=qc9 (rv:=rv) f;have d:c<n:=by lia
   rw[qhd];refine⟨qc9 d,?_⟩;unfold rkF;rw[if_pos (qc9 d),if_pos f,qro d];exact o
 .unfold rkF;split
  .rename_i h;have:=qc9 (rv:=rv) h;lia
  .decide
def tsF (T:Nat->TD)(rv:Bool)(n:Nat)(l:List Nat)(i:Nat):TD:={T (fR rv n (l.getD i 0)) with base:=((T (fR rv n (l.getD i 0))).base).map λb=>l.idxOf (fR rv n b)}
def idx_at {l:List Nat}(nd:l.Nodup){j k:Nat}(e:l[j]?=some k):l.idxOf k=j:=by obtain⟨a,rfl⟩:=Ac.mp e;exact nd.idxOf_getElem j a
def ts_F (p:∀k<n,TdOk names (T k) k)(u:n<=4)(ln:names.length=26)(nd:names.Nodup){l:List Nat}(h:GoodI (bsF T rv n) n l)(ll:l.length=n):TsOk n (tsF T rv n l)/\∀i<n,(tsF T rv n l i).name=names.getD (fR rv n (l.getD i 0)) Be/\baV (tsF T rv n l) (tsF T rv n l i).base=bvN names (T (fR rv n (l.getD i 0))).base:=by
 have at':∀i<n,l[i]?=some (l.getD i 0)/\l.getD i 0<n:=λi a=>by
  have e:l[i]?=some (l.getD i 0):=by rw[Ak,Ae (by lia)];rfl
  exact⟨e,h.lt _ (A4 e)⟩
 have o:∀i<n,∀b,(T (fR rv n (l.getD i 0))).base=some b->b<n/\∃j,j<i/\l[j]?=some (fR rv n b):=λi a b e=>by obtain⟨y,q⟩:=at' i a;have:=(p _ (qc9 q)).ba b e;have x:=qc9 (rv:=rv) q;exact⟨by lia,h.base i _ (fR rv n b) y (by rw[qs5 q,e];rfl)⟩
 have d:∀i<n,(tsF T rv n l i).name=names.getD (fR rv n (l.getD i 0)) Be:=λi a=>(p _ (qc9 (at' i a).2)).nm;refine⟨⟨u,λi a=>(p _ (qc9 (at' i a).2)).rd,λi a b e=>?_,λi a j f e=>?_⟩,λi a=>⟨d i a,?_⟩⟩
 .change ((T (fR rv n (l.getD i 0))).base).map _=some b at e;cases g:(T (fR rv n (l.getD i 0))).base with
  |none=>rw[g]at e;cases e
  |some c =>rw[g]at e;cases e;obtain⟨_,j,f,m⟩:=o i a c g;show l.idxOf (fR rv n c)<i;rw[idx_at h.nd m];exact f
 .rw[d i a,d j f]at e;obtain⟨w,t⟩:=at' i a;obtain⟨s,r⟩:=at' j f;have x:=qc9 (rv:=rv) t;have f2:=qc9 (rv:=rv) r;have:=fR_inj t r (qps nd (by lia) (by lia) e);rw[<- this,<- w]at s;exact((Ev (by lia) h.nd).mp s.symm)
 .show baV (tsF T rv n l) (((T (fR rv n (l.getD i 0))).base).map λb=>l.idxOf (fR rv n b))=_;cases g:(T (fR rv n (l.getD i 0))).base with
  |none=>rfl
  |some c =>obtain⟨v,j,f,m⟩:=o i a c g;show V.str (tsF T rv n l (l.idxOf (fR rv n c))).name=.str (names.getD c Be);rw[idx_at h.nd m,d j (by lia),Ak (l:=l),m];show V.str (names.getD (fR rv n (fR rv n c)) Be)=_;rw[qro v]
def RsL.rules {a:Adr}{H:Hp}{us:List V}(p:us.length=n)(o:∀j<n,∃d,us[j]?=some (.ref d)/\RuleB a H d (T (fR rv n j)) (bvN names (T (fR rv n j)).base))(g:∀k<n,TdOk names (T k) k):qy2 a.kB H us (nmF names rv n) (bsF T rv n):=by
 refine⟨by rw[p,qhd],λj v e=>?_⟩;have b:j<n:=by have:=(Ac.mp e).1;lia
 obtain⟨d,h,i,pe,pa,pl,w,s,py,ul,l,_⟩:=o j b;rw[e]at h;cases h;refine⟨d,i,_,Z,l,by rw[qpu b,<- (g _ (qc9 b)).nm];rfl,?_⟩;rw[qs5 b];have:qrj (nmF names rv n) (((T (fR rv n j)).base).map (fR rv n))=bvN names (T (fR rv n j)).base:=by
  cases m:(T (fR rv n j)).base with
  |none=>rfl
  |some c =>
   have:=(g _ (qc9 b)).ba c m;have f1:=qc9 (rv:=rv) b;have f:c<n:=by lia
   show V.str (nm (nmF names rv n) (fR rv n c))=_;rw[qpu (qc9 f),qro f];rfl
 rw[this];rfl
def book_F {a:Adr}{H:Hp}{us:List V}{bk:Addr}(v:∀k<n,TdOk names (T k) k)(o:n<=4)(r:names.length=26)(nd:names.Nodup)(B:∀j<n,∃c,us[j]?=some (.ref c)/\RuleB a H c (T (fR rv n j)) (bvN names (T (fR rv n j)).base)){l:List Nat}(h:GoodI (bsF T rv n) n l)(y:l.length=n)(t:BookAt a.kL H bk (nmF names rv n) (l.map (nm (nmF names rv n))) us):BookT a H bk n (tsF T rv n l):=by
 obtain⟨t1,f⟩:=ts_F (rv:=rv) v o r nd h y;have lt:∀i<n,l[i]?=some (l.getD i 0)/\l.getD i 0<n:=λi b=>by
  have e:l[i]?=some (l.getD i 0):=by rw[Ak,Ae (by lia)];rfl
  exact⟨e,h.lt _ (A4 e)⟩
 refine⟨nmF names rv n,us,?_,λi b=>?_⟩
 .have:((Aq n).map λi=>(tsF T rv n l i).name)=l.map (nm (nmF names rv n)):=by
   refine Cr λi=>?_
   rw[Ah,Ah]
   by_cases b:i<n
   .obtain⟨g,d⟩:=lt i b;rw[AX b,g];show some (tsF T rv n l i).name=some (nm (nmF names rv n) (l.getD i 0));rw[(f i b).1,qpu d]
   .rw[AR (by rw[As];lia),AR (by lia)];rfl
  rw[this]
  exact t
 .obtain⟨g,d⟩:=lt i b;obtain⟨c,q,m,A,x,pl,w,s,z,p,u⟩:=B _ d;refine⟨l.getD i 0,c,by rw[qpu d,(f i b).1],q,m,A,x,pl,w,s,z,p,?_⟩;rw[(f i b).2];exact u
end
def qle {n:Nat}{H:Hp}{v:V}(h:qbv v=true):DkV n H v v:=by
 cases n with|zero=>exact⟨Z,h⟩|succ n=>exact .inl ⟨Z,h⟩
def qi2 {H:Hp}{p q:Addr}{us d:List V}{ts:List (List V)}(m:H p=some (.lst us))(n:H q=some (.lst d))(t:Tups H us ts)(t':Tups H d ts)(o:∀r∈ts,∀v∈r,qbv v=true):DkV 2 H (.ref p) (.ref q):=by refine .inr ⟨p,q,us,d,Z,Z,.inl ⟨m,n⟩,by rw[t.length,t'.length],λi x y ex k=>?_⟩;obtain⟨a,r,rfl,f,l⟩:=t.get' ex;obtain⟨b,r',rfl,c,h⟩:=t'.get' k;rw[f]at c;cases c;refine .inr ⟨a,b,r,r,Z,Z,.inr ⟨l,h⟩,Z,λj x y g e=>?_⟩;rw[g]at e;cases e;exact qle (o r (A4 f) x (A4 g))
def oV_fl (o:Option Int):qbv (oV o)=true:=by cases o <;>rfl
def quu {ps:List Pz}:∀r∈ps.map qky,∀v∈r,qbv v=true:=λr b v a=>by
 obtain⟨t,_,rfl⟩:=Bd.mp b;unfold qky at a;simp at a;rcases a with rfl|rfl
 .rfl
 .exact oV_fl _
def qpv {ps:List R3}:∀r∈ps.map qj2,∀v∈r,qbv v=true:=λr b v a=>by obtain⟨t,_,rfl⟩:=Bd.mp b;unfold qj2 at a;simp at a;rcases a with rfl|rfl|rfl <;>rfl
structure Tc where
 d:Addr
 q:Nat->Addr
 y:Nat->Nat->Addr
 p4:Nat->Nat->Addr
 p6:Nat->Nat->Addr
def Cel (Zq:ZZ)(n:Nat)(c:Tc)(b:Addr):Prop:=b=c.d\/(∃i,i<n/\b=c.q i)\/Pq Zq n c.p4 c.p6 b
section
variable {bs:List Bool}{rs:List Rw}{ts:Nat->TD}{Zq:ZZ}{n:Nat}{H H':Hp}{c:Tc}{d:Addr}{q:Nat->Addr}{y p4 p6:Nat->Nat->Addr}
abbrev TdA (bs:List Bool)(rs:List Rw)(ts:Nat->TD)(Zq:ZZ)(n:Nat)(H:Hp)(c:Tc):Prop:=ToldAt bs rs ts Zq n H c.d c.q c.y c.p4 c.p6
def told_kp (h:TdA bs rs ts Zq n H c)(k:∀b o,(Cel Zq n c b \/ ∃t,o=.tup t)->H b=some o->H' b=some o):TdA bs rs ts Zq n H' c:=by have f:∀b u,H b=some (.tup u)->H' b=some (.tup u):=λb u e=>k b _ (.inr ⟨u,Z⟩) e;refine⟨k _ _ (.inl (.inl Z)) h.1,λi a=>⟨k _ _ (.inl (.inr (.inl ⟨i,a,Z⟩))) (h.2 i a).1,λj d=>?_⟩⟩;obtain⟨q,⟨r,g,l⟩,⟨s,m,p⟩⟩:=(h.2 i a).2 j d;exact⟨f _ _ q,⟨r,k _ _ (.inl (.inr (.inr ⟨i,a,j,d,.inl Z⟩))) g,qce l f⟩,⟨s,k _ _ (.inl (.inr (.inr ⟨i,a,j,d,.inr Z⟩))) m,qce p f⟩⟩
def cel_ex (h:TdA bs rs ts Zq n H c){b:Addr}(d:Cel Zq n c b):(∃kv,H b=some (.dK kv)) \/ ∃u,H b=some (.lst u):=by
 rcases d with rfl|⟨i,a,rfl⟩|⟨i,a,j,g,d⟩
 .exact .inl ⟨_,h.1⟩
 .exact .inr ⟨_,(h.2 i a).1⟩
 .obtain⟨h1,⟨u4,e,h3⟩,⟨u6,f,h5⟩⟩:=(h.2 i a).2 j g;rcases d with rfl|rfl
  .exact .inr ⟨_,e⟩
  .exact .inr ⟨_,f⟩
variable {B J J':Hp}{pT Pt:Addr}{cs:List Tc}{ps:Array Value}
def cel_ne (h:TdA bs rs ts Zq n H c)(d:H Pt=some (.tbl ps)){b:Addr}{o:HO}(a:Cel Zq n c b \/ ∃t,o=.tup t)(e:H b=some o):b≠Pt:=λz=>by
 rw[z,d]at e;rcases a with a|⟨t,rfl⟩
 .rw[z]at a;rcases cel_ex h a with ⟨u,q⟩|⟨u,q⟩ <;>rw[d]at q <;>cases q
 .cases e
end
section
variable {names:List Str}{T:Nat->TD}{rv:Bool}{n:Nat}
end
def dk_strs {H:Hp}{p q:Addr}{xs:List Str}(c:H p=some (.lst (xs.map V.str)))(d:H q=some (.lst (xs.map V.str))):DkV 1 H (.ref p) (.ref q):=by
 refine .inr ⟨p,q,_,_,Z,Z,.inl ⟨c,d⟩,Z,λi x y a b=>?_⟩;rw[a]at b;cases b;rw[Ah]at a;cases e:xs[i]? with|none=>rw[e]at a;cases a|some z=>rw[e]at a;cases a;exact⟨Z,Z⟩
def kvR_keys {n:Nat}{ts:Nat->TD}{p:Nat->Addr}:((kvR n ts p).map λa=>kV a.1)=((Aq n).map λi=>(ts i).name).map V.str:=by unfold kvR;rw[Cf,Cf];rfl
def KpT.l {H H':Hp}{b:Addr}{u:List V}(k:KpT H H')(e:H b=some (.lst u)):H' b=some (.lst u):=k b _ (λ_ z=>nomatch z) e
noncomputable def wkF (c:Int)(n:Nat):List Int:=(Aq n).map λ(j:Nat)=>1+(c / 7+(j:Int)) % 7
def wk_ok (c:Int){n:Nat}(h:n<=6):OkW (wkF c n):=by
 refine⟨by unfold wkF;rw[Ab,As];exact h,?_,λw f=>?_⟩
 .unfold wkF;refine Cq.mpr (Dq.imp_of_mem λ{i j} a d b e=>b ?_);have:=AV.mp a;have:=AV.mp d;lia
 .obtain⟨j,_,rfl⟩:=Bd.mp f;lia
def wds_nd {c:Int}:(wds c 26).Nodup:=by unfold wds;rw[Cz,Cq,Bh];intro i j a b hij e;rw[As]at a b;rw[D6,D6]at e;have:=wd_inj (by lia) (by lia) e;lia
def lst_none {g t:Int->Bool}{ps:List Pz}{s m:Int}(h:Lst g t ps s m none):∃F,(F,none)∈ps:=by
 rcases h with ⟨h,_⟩|⟨f,_,h⟩
 .exact h.1
 .exact h.1
theorem cn_leB {G1 G2:Int->Bool}{a:Int}(b:0<=a):∀k:Nat,(∀n,a<=n->n<a+(k:Int)->G1 n=true->G2 n=true)->cn G2 (a+(k:Int))-cn G2 a<=cn G1 (a+(k:Int))-cn G1 a
 |0,_=>by rw[DQ,Cn];lia
 |k+1,h=>by
  have ih:=cn_leB b k λn d h2=>h n d (by lia);have f:=(qds G1).st (a+(k:Int)) (by lia);have c:=(qds G2).st (a+(k:Int)) (by lia);rw[show a+((k+1:Nat):Int)=a+(k:Int)+1 by lia,f,c];cases e:G1 (a+(k:Int)) with|true=>rw[h _ (by lia) (by lia) e];lia|false=>rw[if_neg (show ¬false=true by decide)];split <;>lia
def qpw {g t:Int->Bool}{i f:List Pz}{s u v d b:Int}{l:Option Int}(s0:0<=s)(A:∀n,n<d->stl i n=true->stl f n=true)(hm:u<=v)(w:Lst g t i s u l)(r:Lst g t f s v (some b))(lt:b<d):∃l1,l=some l1/\l1<=b:=by
 have o:∀(g:Int->Bool) n,n<d->gst g i n=true->gst g f n=true:=λg n h e=>by unfold gst at e |-;rw[Dz]at e |-;exact e.imp id (A n h)
 rcases r with ⟨_,z⟩|⟨c,⟨f2s,q,f2c⟩,⟨d2f,j,_⟩⟩
 .cases z
 have x:=(qds (gst g f)).st c (by lia);rw[q,if_neg Ud]at x;have le:=cn_leB (G1:=gst g i) (G2:=gst g f) (a:=s+1) (by lia) (c-s).toNat λn w r=>o g n (by lia);rw[show s+1+((c-s).toNat:Int)=c+1 by lia]at le;rcases w with ⟨⟨_,y⟩,_⟩|⟨p,⟨f1s,f1g,f1c⟩,k⟩
 .have:=y (c+1) (by lia);lia
 have f12:p<=c:=by
  by_cases z:p<=c
  .exact z
  .have:=(qds (gst g i)).le (n:=c+1) (m:=p) (by lia) (by lia);lia
 cases l with
 |none =>have:=o t b lt (k.2 b (by lia));rw[j]at this;cases this
 |some d1 =>
  refine⟨d1,Z,?_⟩;by_cases z:d1<=b
  .exact z
  .have:=o t b lt (k.2.2 b (by lia) (by lia));rw[j]at this;cases this
def lst_open {g a:Int->Bool}{ps:List Pz}{s m l:Int}(h:Lst g a ps s m (some l)):gst a ps l=false:=by
 rcases h with ⟨_,h⟩|⟨f,_,h⟩
 .cases h
 .exact h.2.1
theorem lst_halt {g a:Int->Bool}{ps:List Pz}{s m l d:Int}{r:Option Int}(b:0<=s)(f:Lst g a ps s m (some l))(h:Lst g a (ps++[(d,none)]) s m r)(dl:d<=l):r=none:=by
 cases r with
 |none=>rfl
 |some x =>exfalso;obtain⟨l1,c,lt⟩:=qpw b (d:=x+1) (λn _ e=>by unfold stl at e |-;rw[Ec,e];rfl) (Bb m) f h (by lia);cases c;have o:=lst_open h;have:gst a (ps++[(d,none)]) x=true:=qmq (Az.mpr (.inr (Aj.mpr Z))) (by lia);rw[this]at o;cases o
structure Nx (bs:List Bool)(rs:List Rw)(rd:RD)(st:RS)(s r:Option Int)(d:Int)(st':RS):Prop where
 ok:StOk st' d
 stay:∀l,r=some l->l<d->st'.day=st.day/\st'.units=st.units/\st'.ps=st.ps/\st'.bv=st.bv
 bv:st'.bv=st.bv\/st'.bv=.non
 fs:∀z∈st'.ps,z.1<=d
 halt:∀r',LsS bs rs rd st' s r'->qai st'.ps=true->r'=none/\∃x,s=some x/\x<d
theorem nx54 {bs:List Bool}{rs:List Rw}{rd:RD}{st:RS}{s r:Option Int}{n k:Str}{c d:Int}(D:RdOk rd)(ok:StOk st c)(A:c<=d)(C:st.rows.length<400)(B:∀x,s=some x->0<=x)(lst:LsS bs rs rd st s r)(N:∀z∈st.ps,z.1<=c)
  (J:qai st.ps=true->r=none/\∃x,s=some x/\x<c):Nx bs rs rd st s r d (qa3 rd st s r n d k).1:=by
 have g:∀z∈st.ps,z.1<=d:=λz hz=>by have:=N z hz;lia
 have same:Nx bs rs rd st s r d st:=⟨ok.mono A,λ_ _ _=>⟨Z,Z,Z,Z⟩,.inl Z,g,λj h a=>by obtain⟨I,x,m,U⟩:=J a;exact⟨(qen B h lst).trans I,x,m,by lia⟩⟩;have cu:∀p∈st.ps,∀e,p.2=some e->e<d:=λp o e i=>by have:=ok.cu p o e i;lia
 unfold qa3;split
 .exact same
 .unfold qa7;by_cases K:qaq rd k=Aa "ends"
  .rw[if_pos K];refine⟨qhb (st:=st) (o':=true) ok (qlb ok.ps) (BS qpn) (quk A ok.cu) C,λl f lt=>⟨Z,Z,?_,Z⟩,.inl Z,qy0 g,λj _ a=>?_⟩
   .refine qev ?_;cases e:qai st.ps with|false=>rfl|true=>rw[(J e).1]at f;cases f
   .have a:qai (qgv st.ps d)=true:=a;rw[qs2 ok.ps]at a;cases a
  .rw[if_neg K];cases R:under s r d with
   |false=>rw[if_pos Z];exact same
   |true =>
    rw[if_neg Ud];obtain⟨x,w,Q,E⟩:=qri R;have b:∀l,r=some l->l<d->False:=λl e lt=>by have:=E l e;lia
    by_cases L:qaq rd k=Aa "anew"
    .rw[if_pos L];have M:=B x w;have hr:(st.rows++[(n,d,qaq rd k)]).length=st.rows.length+1:=by rw[Af];rfl
     exact⟨⟨⟨.nil,λ_ h=>absurd h AB⟩,by show 0<=d;lia,D.m1,AS _,by show (st.rows++_).length<=400;lia,AS _,(λk v h=>by cases h),(λ_ h=>absurd h AB),λq=>by cases (Dc.mp q).2⟩,λl e lt=>(b l e lt).elim,.inr Z,λ_ h=>absurd h AB,λj _ a=>by cases a⟩
    .rw[if_neg L];by_cases H:qaq rd k=Aa "longer"
     .rw[if_pos H];cases T:qno rd st.gr k with
      |none=>exact same
      |some t =>
       have S:=D.u t (Du T);have lo:=qug (n:=gv st.gr k+1) (k:=k) (nm:=n) ok A S C;rw[<- H]at lo;refine⟨lo,λl e lt=>(b l e lt).elim,.inl Z,g,λj h a=>?_⟩;obtain⟨I,y,m,U⟩:=J a;refine⟨?_,y,m,by lia⟩;rw[m]at h lst;rw[I]at lst;cases P:j with
       |none=>rfl
       |some l2 =>rw[P]at h;obtain⟨l1,V,_⟩:=qpw (B y m) (d:=l2+1) (λ_ _ e=>e) (qoo (show st.units<=st.units+t.2.1 by lia)) lst h (by lia);cases V
     .rw[if_neg H];by_cases O:qaq rd k=Aa "still"
      .rw[if_pos O];cases G:qai st.ps with
       |true=>rw[if_pos Z];exact same
       |false =>
        rw[if_neg Ud];have M:=B x w;rw[w]at lst;obtain⟨l,f⟩:∃l,r=some l:=by
         cases r with
         |some l=>exact⟨l,Z⟩
         |none =>obtain⟨F,W⟩:=lst_none lst;obtain⟨e,i⟩:=qrh ok.ps G _ W;cases i
        rw[f]at lst;refine⟨qhb (st:=st) (o':=st.over) ok (quj ok.ps G cu (by lia)) (by rw[Af];exact Al _) (λp o e i=>?_) C,λl e lt=>(b l e lt).elim,.inl Z,λp o=>?_,λj h _=>⟨?_,x,w,Q⟩⟩
        .rcases Az.mp o with q|q
         .exact cu p q e i
         .rw[Aj.mp q]at i;cases i
        .rcases Az.mp o with q|q
         .exact g p q
         .rw[Aj.mp q];exact Bb _
        .rw[w]at h;exact lst_halt M lst h (E l f)
      .rw[if_neg O];cases G:qai st.ps with|false=>rw[if_neg Ud];exact same|true =>rw[if_pos Z];refine⟨qhb (st:=st) (o':=st.over) ok (qlb ok.ps) (BS qpn) (quk A ok.cu) C,λl e lt=>(b l e lt).elim,.inl Z,qy0 g,λj _ a=>?_⟩;have a:qai (qgv st.ps d)=true:=a;rw[qs2 ok.ps]at a;cases a
def qs6 {H:Hp}{us:List V}{ts:List (List V)}{t:List V}(h:Tups H us (ts++[t])):∃vs c,us=vs++[V.ref c]/\H c=some (.tup t):=by obtain⟨c,d,a⟩:=h.get (i:=ts.length) (r:=t) (by rw[AK (Al _),Da];rfl);have b:=h.length;rw[Af,AU]at b;refine⟨us.take ts.length,c,?_,a⟩;rw[<- qcl d,C6 (by lia)]
section
variable {bs:List Bool}{rs:List Rw}{ts:Nat->TD}{Zq Z':ZZ}{n:Nat}{ac:Act}
theorem feel_was {rd:RD}{st:RS}{s r:Option Int}{n k:Str}{d:Int}:(qa3 rd st s r n d k).1=st\/(qa3 rd st s r n d k).1.rows=st.rows++[(n,d,qaq rd k)]:=by
 unfold qa3;split
 .exact .inl rfl
 .cases e:qa7 rd st s r (qaq rd k) d k with
  |none=>exact .inl rfl
  |some q=>exact .inr (by show q.rows++_=_;rw[qf1 e])
def tk_else {m i:Nat}(h:i≠m):(tk bs rs ts Zq ac (m+1)).1 i=(tk bs rs ts Zq ac m).1 i/\(tk bs rs ts Zq ac (m+1)).2 i=(tk bs rs ts Zq ac m).2 i:=by
 rw[qy7];split
 .exact⟨qar h,Z⟩
 .split
  .exact⟨qar h,qar h⟩
  .exact⟨Z,Z⟩
def Cls0 (ts:Nat->TD)(C:Nat->Prop):Prop:=∀i b,C i->(ts i).base=some b->C b
def EqC (C:Nat->Prop)(Zq Z':ZZ):Prop:=∀i,C i->Zq i=Z' i
theorem stF_eq {C:Nat->Prop}(c:Cls0 ts C)(e:EqC C Zq Z'):∀(m i:Nat)(st:RS),C i->stF bs rs ts Zq m i st=stF bs rs ts Z' m i st
 |0,_,_,_=>rfl
 |m+1,i,st,hi=>by
  unfold stF;cases d:(ts i).base with
  |none=>cases st.bv <;>rfl
  |some b =>
   have a:=c i b hi d;cases st.bv <;>try rfl
   rename_i k;show lsC bs rs (ts b).rd ((Zq b).getD k.toNat dRS) (stF bs rs ts Zq m b ((Zq b).getD k.toNat dRS))=lsC bs rs (ts b).rd ((Z' b).getD k.toNat dRS) (stF bs rs ts Z' m b ((Z' b).getD k.toNat dRS));rw[e b a,stF_eq c e m b _ a]
end
def AccI.kp {bs:List Bool}{rs:List Rw}{ts:Nat->TD}{Zq:ZZ}{i:Nat}{H H':Hp}{l:Addr}{y f d:Nat->Addr}(h:AccI bs rs ts Zq i H l y f d)(k:∀b o,((∃u,o=.lst u) \/ ∃t,o=.tup t)->H b=some o->H' b=some o):AccI bs rs ts Zq i H' l y f d:=by have a:∀b u,H b=some (.lst u)->H' b=some (.lst u):=λb u e=>k b _ (.inl ⟨u,Z⟩) e;have c:∀b u,H b=some (.tup u)->H' b=some (.tup u):=λb u e=>k b _ (.inr ⟨u,Z⟩) e;refine⟨a _ _ h.1,λj p=>?_⟩;obtain⟨r,⟨v,g,n⟩,⟨q,m,s⟩⟩:=h.2 j p;exact⟨c _ _ r,⟨v,a _ _ g,qce n c⟩,⟨q,a _ _ m,qce s c⟩⟩
def Fut (d:Int)(r:Option Int):Prop:=∀l,r=some l->d<=l
theorem lss_fut {bs:List Bool}{rs:List Rw}{rd:RD}{st st':RS}{s r b:Option Int}{d:Int}(h:∀x,s=some x->0<=x)(c:∀n,n<d->stl st.ps n=true->stl st'.ps n=true)(g:st.units<=st'.units)(k:LsS bs rs rd st s r)(a:LsS bs rs rd st' s b)(f:Fut d r):Fut d b:=λl e=>by
 by_cases z:d<=l
 .exact z
 .exfalso;subst e;cases s with
  |none=>cases a
  |some x =>obtain⟨i,j,le⟩:=qpw (h x Z) c (qoo g) k a (by lia);have:=f i j;lia
theorem stl_go {ps:List Pz}{d n:Int}(hn:n<d)(h:stl ps n=true):stl (qgv ps d) n=true:=by
 unfold qgv;cases e:ps.getLast? with
 |none=>exact h
 |some p =>
  obtain⟨F,o⟩:=p;cases o with
  |some x=>exact h
  |none =>
   have a:ps≠[]:=λz=>by rw[z]at e;cases e
   have b:ps.dropLast++[(F,none)]=ps:=by have:=List.dropLast_concat_getLast a;rw[List.getLast?_eq_some_getLast a]at e;rw[AA e]at this;exact this
   rw[<- b]at h;unfold stl at h |-;dsimp only;rw[Ec,Dz]at h;rw[Ec,Dz];rcases h with h|h
   .exact .inl h
   .refine .inr ?_;rw[De,List.any_nil,Dw,qiv]at h;have h:=of_decide_eq_true h;rw[if_pos (by lia),De,List.any_nil,Dw];unfold inP;simp;lia
theorem feel_fu {rd:RD}{st:RS}{s r:Option Int}{n k:Str}{d:Int}(f:RdOk rd):((qa3 rd st s r n d k).1.day=st.day/\(qa3 rd st s r n d k).1.bv=st.bv/\(∀e,e<d->stl st.ps e=true->stl (qa3 rd st s r n d k).1.ps e=true)/\st.units<=(qa3 rd st s r n d k).1.units)\/((qa3 rd st s r n d k).1.bv=.non/\(qa3 rd st s r n d k).1.day=d/\(qa3 rd st s r n d k).1.ps=[]):=by
 have same:(st.day=st.day/\st.bv=st.bv/\(∀e,e<d->stl st.ps e=true->stl st.ps e=true)/\st.units<=st.units):=⟨Z,Z,λ_ _ h=>h,Bb _⟩;unfold qa3;split
 .exact .inl same
 .unfold qa7;by_cases b:qaq rd k=Aa "ends"
  .rw[if_pos b];exact .inl ⟨Z,Z,λe a h=>stl_go a h,Bb _⟩
  .rw[if_neg b];cases eu:under s r d with
   |false=>rw[if_pos Z];exact .inl same
   |true =>
    rw[if_neg Ud];by_cases c:qaq rd k=Aa "anew"
    .rw[if_pos c];exact .inr ⟨Z,Z,Z⟩
    .rw[if_neg c];by_cases i:qaq rd k=Aa "longer"
     .rw[if_pos i];cases l:qno rd st.gr k with|none=>exact .inl same|some t =>have t0:=f.u t (Du l);exact .inl ⟨Z,Z,λ_ _ h=>h,by show st.units<=st.units+t.2.1;lia⟩
     .rw[if_neg i];by_cases g:qaq rd k=Aa "still"
      .rw[if_pos g];cases j:qai st.ps with
       |true=>rw[if_pos Z];exact .inl same
       |false =>rw[if_neg Ud];refine .inl ⟨Z,Z,λe _ h=>?_,Bb _⟩;show stl (st.ps++[(d,none)]) e=true;unfold stl at h |-;rw[Ec,h];rfl
      .rw[if_neg g];cases j:qai st.ps with|false=>rw[if_neg Ud];exact .inl same|true =>rw[if_pos Z];exact .inl ⟨Z,Z,λe a h=>stl_go a h,Bb _⟩
section
variable {bs:List Bool}{rs:List Rw}{ts:Nat->TD}{Zq Z':ZZ}{n:Nat}{ac:Act}{D:Int}{N:Nat}
theorem qrp (T:TsOk n ts)(P:PZ n ts Zq D N):∀(m i:Nat)(st:RS),i<n->i<=m->WfB ts Zq i st->stF bs rs ts Zq (m+1) i st=stF bs rs ts Zq m i st
 |0,i,st,hi,hm,wf=>by
  rcases wf.1 with a|⟨k,a⟩
  .unfold stF;rw[a]
  .obtain⟨b,_,d,_⟩:=wf.2 _ a;lia
 |m+1,i,st,hi,hm,wf=>by
  rcases wf.1 with a|⟨k,a⟩
  .rw[stF,stF,a]
  .obtain⟨b,f,d,h3,e⟩:=wf.2 _ a;have c:=qrp T P m b ((Zq b).getD (k:Int).toNat dRS) (by lia) (by lia) (P.wf b (by lia) _ (qb3 e));rw[stF,stF,a,f];show lsC bs rs (ts b).rd ((Zq b).getD (k:Int).toNat dRS) (stF bs rs ts Zq (m+1) b ((Zq b).getD (k:Int).toNat dRS))=lsC bs rs (ts b).rd ((Zq b).getD (k:Int).toNat dRS) (stF bs rs ts Zq m b ((Zq b).getD (k:Int).toNat dRS));rw[c]
def quv (T:TsOk n ts)(P:PZ n ts Zq D N){i b:Nat}{st:RS}{k:Nat}(hi:i<n)(wf:WfB ts Zq i st)(f:st.bv=.int (k:Int))(d:(ts i).base=some b):stF bs rs ts Zq 3 i st=lsC bs rs (ts b).rd ((Zq b).getD k dRS) (stF bs rs ts Zq 3 b ((Zq b).getD k dRS)):=by
 have n4:=T.n4;obtain⟨b',a,h2,h3,c⟩:=wf.2 _ f;rw[d]at a;cases a;rw[B3]at c;have e:=qrp (bs:=bs) (rs:=rs) T P 2 b ((Zq b).getD k dRS) (by lia) (by lia) (P.wf b (by lia) _ (qb3 c));rw[e]
 conv=>lhs;rw[stF,f,d]
 show lsC bs rs (ts b).rd ((Zq b).getD (k:Int).toNat dRS) _=_;rw[B3]
def qs7 {i:Nat}{st:RS}(a:st.bv=.non):stF bs rs ts Zq 3 i st=some st.day:=by rw[stF,a]
end
section
variable {bs:List Bool}{rs:List Rw}{ts:Nat->TD}{Zq Y Z':ZZ}{n:Nat}{ac:Act}{D:Int}{N:Nat}
theorem quw {i:Nat}:∀{m:Nat},i<m->(tk bs rs ts Zq ac m).1 i=(tk bs rs ts Zq ac (i+1)).1 i
 |0,h=>absurd h (B0 _)
 |m+1,h=>by
  by_cases c:i=m
  .rw[c]
  .rw[(tk_else c).1];exact quw (by lia)
theorem stF_low (T:TsOk n ts){i:Nat}(d:i<n)(e:∀b<i,Y b=Z' b)(m:Nat)(st:RS):stF bs rs ts Y (m+1) i st=stF bs rs ts Z' (m+1) i st:=by
 have f:Cls0 ts λb=>b<i:=λb c hb h=>by have:=T.ba b (by lia) c h;show c<i;lia
 unfold stF;cases g:(ts i).base with
 |none=>cases st.bv <;>rfl
 |some b =>
  have a:=T.ba i d b g;cases st.bv <;>try rfl
  rename_i k;show lsC bs rs (ts b).rd ((Y b).getD k.toNat dRS) (stF bs rs ts Y m b ((Y b).getD k.toNat dRS))=lsC bs rs (ts b).rd ((Z' b).getD k.toNat dRS) (stF bs rs ts Z' m b ((Z' b).getD k.toNat dRS));rw[e b a,stF_eq f e m b _ a]
def qi3 (T:TsOk n ts){i:Nat}(d:i<n)(e:(tk bs rs ts Zq ac n).1=Z'):Z' i=Zq i\/(qnp (Zq i)=true/\Z' i=(Zq i).dropLast++[(qa3 (ts i).rd ((Zq i).getD ((Zq i).length-1) dRS) (stF bs rs ts Z' 3 i ((Zq i).getD ((Zq i).length-1) dRS)) (lsC bs rs (ts i).rd ((Zq i).getD ((Zq i).length-1) dRS) (stF bs rs ts Z' 3 i ((Zq i).getD ((Zq i).length-1) dRS))) ac.1 ac.2.2 ac.2.1).1]) \/ ∃f Y,Z' i=Zq i++[qgx (ts i) ac f Y]:=by
 have a:=qkn (bs:=bs) (rs:=rs) (ts:=ts) (Zq:=Zq) (ac:=ac) (Al i);have g:∀b<i,(tk bs rs ts Zq ac i).1 b=Z' b:=λb j=>by rw[quw j,<- quw (m:=n) (by lia),e]
 have h:Z' i=(tk bs rs ts Zq ac (i+1)).1 i:=by rw[<- e,quw d]
 rw[h,qy7];split
 .rename_i c;refine .inr (.inl ⟨by rw[<- a];exact c,?_⟩);show put _ i _ i=_;rw[qav];unfold qhk;rw[a,stF_low T d g 2]
 .split
  .refine .inr (.inr ⟨(tk bs rs ts Zq ac i).2,(tk bs rs ts Zq ac i).1,?_⟩);show put _ i _ i=_;rw[qav,a]
  .exact .inl a
def qmz {m i:Nat}{st st':RS}(b:st'.bv=st.bv)(a:st'.day=st.day):stF bs rs ts Zq m i st'=stF bs rs ts Zq m i st:=by
 cases m with|zero=>show some st'.day=some st.day;rw[a]|succ m=>rw[stF,stF,b,a]
def lss_like {rd:RD}{st st':RS}{s r:Option Int}(b:st'.ps=st.ps)(a:st'.units=st.units)(h:LsS bs rs rd st s r):LsS bs rs rd st' s r:=by
 cases s with|none=>exact h|some x =>show Lst _ _ st'.ps x (qyp rd.unit st'.units) r;rw[b,a];exact h
abbrev lsZ (bs:List Bool)(rs:List Rw)(ts:Nat->TD)(Zq:ZZ)(i:Nat)(st:RS):Option Int:=lsC bs rs (ts i).rd st (stF bs rs ts Zq 3 i st)
def HZ (bs:List Bool)(rs:List Rw)(ts:Nat->TD)(Zq:ZZ)(D:Int)(i:Nat)(st:RS):Prop:=(qai st.ps=true->lsZ bs rs ts Zq i st=none/\∃x,stF bs rs ts Zq 3 i st=some x/\x<D)/\∀z∈st.ps,z.1<=D
structure Mv (bs:List Bool)(rs:List Rw)(ts:Nat->TD)(Zq Z':ZZ)(d:Int)(i:Nat)(st st':RS):Prop where
 p:∀l,lsZ bs rs ts Zq i st=some l->l<d->stF bs rs ts Z' 3 i st'=stF bs rs ts Zq 3 i st/\lsZ bs rs ts Z' i st'=some l
 f:Fut d (lsZ bs rs ts Zq i st)->Fut d (lsZ bs rs ts Z' i st')
 h:HZ bs rs ts Z' d i st'
def qs8 {p:Nat->Prop}(h:∀i,(∀b<i,p b)->p i)(i:Nat):p i:=Nat.strongRecOn i h
def mv_all (T:TsOk n ts)(P:PZ n ts Zq D N)(ex:qnq bs rs)(hD:D<=ac.2.2)(hN:N<300)(eZ:(tk bs rs ts Zq ac n).1=Z')(hz:∀i<n,∀st∈Zq i,HZ bs rs ts Zq D i st):∀i,i<n->∀j,j<(Zq i).length->Mv bs rs ts Zq Z' ac.2.2 i ((Zq i).getD j dRS) ((Z' i).getD j dRS):=by
 have B:PZ n ts Z' ac.2.2 (N+1):=by rw[<- eZ];exact qmv T P ex hD hN (Al n)
 have len:∀i,(Zq i).length<=(Z' i).length:=λi=>by have:=(qi0 (bs:=bs) (rs:=rs) (ts:=ts) (Zq:=Zq) (ac:=ac) (m:=n) (i:=i)).2;rw[eZ]at this;rw[this];lia
 refine qs8 λi ih a j hj=>?_;have I:=qb3 hj;have ok:=P.ok i a _ I;have wf:=P.wf i a _ I;have C:=wf.mono len;obtain⟨V,K⟩:=hz i a _ I;have rows:=(P.rl i a).2 _ I;generalize E:(Zq i).getD j dRS=st at I ok wf C V K rows;have U:=ok.mono hD
 -- the start,its base having felt the act
 have s1:(∀x,stF bs rs ts Zq 3 i st=some x->x<ac.2.2->stF bs rs ts Z' 3 i st=some x)/\(stF bs rs ts Z' 3 i st=stF bs rs ts Zq 3 i st\/Fut ac.2.2 (stF bs rs ts Z' 3 i st)):=by
  rcases wf.1 with F|⟨k,F⟩
  .rw[qs7 F,qs7 F];exact⟨λx e _=>e,.inl Z⟩
  .obtain⟨b,M,h2,h3,h4⟩:=wf.2 _ F;rw[B3]at h4;rw[quv T P a wf F M,quv T B a C F M];have m:=ih b h2 (by lia) k h4;refine⟨λx e lt=>(m.p x e lt).2,?_⟩;by_cases c:∃x,lsZ bs rs ts Zq b ((Zq b).getD k dRS)=some x/\x<ac.2.2
   .obtain⟨x,e,lt⟩:=c;exact .inl ((m.p x e lt).2.trans e.symm)
   .refine .inr (m.f λl e=>?_);by_cases z:ac.2.2<=l
    .exact z
    .exact absurd ⟨l,e,by lia⟩ c
 have nn:=qj5 P ex 3 i st a ok wf;have G:=qj5 B ex 3 i st a U C;have L:=qmu P ex (m:=3) a ok wf;have Q:=qmu B ex (m:=3) a U C;have same:stF bs rs ts Z' 3 i st=stF bs rs ts Zq 3 i st->lsZ bs rs ts Z' i st=lsZ bs rs ts Zq i st:=λe=>by unfold lsZ;rw[e]
 have p1:∀l,lsZ bs rs ts Zq i st=some l->l<ac.2.2->stF bs rs ts Z' 3 i st=stF bs rs ts Zq 3 i st/\lsZ bs rs ts Z' i st=some l:=λl e lt=>by have h:=L;change LsS bs rs (ts i).rd st _ (lsZ bs rs ts Zq i st) at h;rw[e]at h;obtain⟨x,g,xl⟩:=qmt h;have:=(s1.1 x g (by lia)).trans g.symm;exact⟨this,(same this).trans e⟩
 have f1:Fut ac.2.2 (lsZ bs rs ts Zq i st)->Fut ac.2.2 (lsZ bs rs ts Z' i st):=λf=>by
  rcases s1.2 with e|fs
  .rw[same e];exact f
  .intro l e;have h:=Q;change LsS bs rs (ts i).rd st _ (lsZ bs rs ts Z' i st) at h;rw[e]at h;obtain⟨x,g,xl⟩:=qmt h;have:=fs x g;lia
 have M:qai st.ps=true->lsZ bs rs ts Z' i st=none/\∃x,stF bs rs ts Z' 3 i st=some x/\x<D:=λe=>by obtain⟨y,x,o,O⟩:=V e;have q:=s1.1 x o (by lia);exact⟨(same (q.trans o.symm)).trans y,x,q,O⟩
 have stay:Mv bs rs ts Zq Z' ac.2.2 i st st:=⟨p1,f1,λe=>by obtain⟨y,x,o,O⟩:=M e;exact⟨y,x,o,by lia⟩,λz ad=>by have:=K z ad;lia⟩;rcases qi3 (bs:=bs) (rs:=rs) T a eZ with c|⟨c,e⟩|⟨f,Y,e⟩
 .rw[c,E];exact stay
 .have ae:=qgy c;have t:=qpp (q:=(qa3 (ts i).rd ((Zq i).getD ((Zq i).length-1) dRS) (stF bs rs ts Z' 3 i ((Zq i).getD ((Zq i).length-1) dRS)) (lsC bs rs (ts i).rd ((Zq i).getD ((Zq i).length-1) dRS) (stF bs rs ts Z' 3 i ((Zq i).getD ((Zq i).length-1) dRS))) ac.1 ac.2.2 ac.2.1).1) ae hj;rw[<- e]at t;by_cases w:j=(Zq i).length-1
  .rw[if_pos w,<- w,E]at t;rw[t];have X:=nx54 (n:=ac.1) (k:=ac.2.1) (T.rd i a) ok hD (by lia) G Q K M;have fu:=feel_fu (st:=st) (s:=stF bs rs ts Z' 3 i st) (r:=lsC bs rs (ts i).rd st (stF bs rs ts Z' 3 i st)) (n:=ac.1) (k:=ac.2.1) (d:=ac.2.2) (T.rd i a);have m':(Z' i).getD j dRS∈Z' i:=qb3 (by have:=len i;lia);rw[t]at m';have H:=B.ok i a _ m';have J:=B.wf i a _ m';generalize (qa3 (ts i).rd st (stF bs rs ts Z' 3 i st) (lsC bs rs (ts i).rd st (stF bs rs ts Z' 3 i st)) ac.1 ac.2.2 ac.2.1).1=q at X fu H J;have S:=qmu B ex (m:=3) a H J;have nnq:=qj5 B ex 3 i q a H J;refine⟨λl W lt=>?_,λf=>?_,λhh=>?_,X.fs⟩
   .obtain⟨y,o⟩:=p1 l W lt;obtain⟨v,u,A,R⟩:=X.stay l o lt;have es:=qmz (bs:=bs) (rs:=rs) (ts:=ts) (Zq:=Z') (m:=3) (i:=i) R v;refine⟨es.trans y,?_⟩;have L2:=lss_like (st':=q) A u Q;show lsC bs rs (ts i).rd q (stF bs rs ts Z' 3 i q)=_;rw[es,qs3 G L2];exact o
   .rcases fu with ⟨v,u,A,R⟩|⟨v,u,A⟩
    .have es:=qmz (bs:=bs) (rs:=rs) (ts:=ts) (Zq:=Z') (m:=3) (i:=i) u v;rw[es]at S;have:=lss_fut G A R Q S (f1 f);show Fut _ (lsC bs rs (ts i).rd q (stF bs rs ts Z' 3 i q));rw[es];exact this
    .intro l W;have h:=S;change LsS bs rs (ts i).rd q _ (lsZ bs rs ts Z' i q) at h;rw[W]at h;obtain⟨x,g,xl⟩:=qmt h;rw[qs7 v,u]at g;cases g;lia
   .rcases fu with ⟨v,u,A,R⟩|⟨v,u,A⟩
    .have es:=qmz (bs:=bs) (rs:=rs) (ts:=ts) (Zq:=Z') (m:=3) (i:=i) u v;have L3:=S;rw[es]at L3;obtain⟨y,x,o,O⟩:=X.halt _ L3 hh;refine⟨?_,x,by rw[es];exact o,O⟩;show lsC bs rs (ts i).rd q (stF bs rs ts Z' 3 i q)=none;rw[es];exact y
    .rw[A]at hh;cases hh
  .rw[if_neg w,E]at t;rw[t];exact stay
 .have t:=qfj (l:=Zq i) (q:=qgx (ts i) ac f Y) (j:=j);rw[<- e,if_neg (by lia),E]at t;rw[t];exact stay
end
def RZ (st:RS):Prop:=(st.over=true->qai st.ps=false/\∃rr x d,st.rows=rr++[(x,d,Aa "ends")])/\∃x d rr,st.rows=(x,d,Aa "begins")::rr
def feel_rz {rd:RD}{st:RS}{s r:Option Int}{n k:Str}{d:Int}(ok:PsOk st.ps)(h:RZ st):RZ (qa3 rd st s r n d k).1:=by
 obtain⟨p,x,g,i,f⟩:=h;have l:∀w,∃x' d' rr',st.rows++[(n,d,w)]=(x',d',Aa "begins")::rr':=λw=>⟨x,g,i++[(n,d,w)],by rw[f];rfl⟩;unfold qa3;split
 .exact⟨p,x,g,i,f⟩
 .rename_i c;have b:st.over=false:=by
   cases e:st.over with|false=>rfl|true=>exact absurd (.inr e) c
  cases e:qa7 rd st s r (qaq rd k) d k with
  |none=>exact⟨p,x,g,i,f⟩
  |some q =>
   have j:=qf1 e;have o:qaq rd k≠Aa "ends" -> q.over=false:=λa=>by
    unfold qa7 at e;rw[if_neg a]at e;split at e
    .cases e
    .split at e
     .cases e;exact b
     .split at e
      .cases m:qno rd st.gr k with
       |none=>rw[m]at e;cases e
       |some t=>rw[m]at e;cases e;exact b
      .split at e
       .split at e
        .cases e
        .cases e;exact b
       .split at e
        .cases e;exact b
        .cases e
   by_cases a:qaq rd k=Aa "ends"
   .refine⟨λ_=>⟨?_,st.rows,n,d,by show q.rows++_=_;rw[j,a]⟩,?_⟩
    .show qai q.ps=false;unfold qa7 at e;rw[if_pos a]at e;cases e;exact qs2 ok
    .show ∃x' d' rr',q.rows++[(n,d,qaq rd k)]=(x',d',Aa "begins")::rr';rw[j];exact l _
   .refine⟨λz=>?_,?_⟩
    .have z:q.over=true:=z;rw[o a]at z;cases z
    .show ∃x' d' rr',q.rows++[(n,d,qaq rd k)]=(x',d',Aa "begins")::rr';rw[j];exact l _
section
variable {bs:List Bool}{rs:List Rw}{ts:Nat->TD}{Zq Z':ZZ}{n:Nat}{ac:Act}{D:Int}{N:Nat}
def new_rz {t:TD}{f:Nat->Bool}{Y:ZZ}:RZ (qgx t ac f Y):=⟨(λz=>by cases z),_,_,[],Z⟩
def rz_all (T:TsOk n ts)(P:PZ n ts Zq D N)(k:(tk bs rs ts Zq ac n).1=Z')(h:∀i<n,∀st∈Zq i,RZ st):∀i<n,∀st∈Z' i,RZ st:=λi b st a=>by
 rcases qi3 (bs:=bs) (rs:=rs) T b k with c|⟨c,e⟩|⟨f,Y,e⟩
 .rw[c]at a;exact h i b st a
 .have d:=qgy c;have hp:=BP.mpr d;rw[e]at a;rcases Az.mp a with a|a
  .exact h i b st (List.dropLast_subset _ a)
  .rw[Aj.mp a];have g:=qb3 (l:=Zq i) (j:=(Zq i).length-1) (by lia);exact feel_rz (P.ok i b _ g).ps (h i b _ g)
 .rw[e]at a;rcases Az.mp a with a|a
  .exact h i b st a
  .rw[Aj.mp a];exact new_rz
def hz_all (T:TsOk n ts)(P:PZ n ts Zq D N)(ex:qnq bs rs)(s:D<=ac.2.2)(r:N<300)(m:(tk bs rs ts Zq ac n).1=Z')(hz:∀i<n,∀st∈Zq i,HZ bs rs ts Zq D i st):∀i<n,∀st∈Z' i,HZ bs rs ts Z' ac.2.2 i st:=λi k st t=>by
 have M:=mv_all T P ex s r m hz i k;have p:∀j<(Zq i).length,(Z' i).getD j dRS=st->HZ bs rs ts Z' ac.2.2 i st:=λj b e=>by have:=(M j b).h;rw[e]at this;exact this
 obtain⟨j,b⟩:=Bt t;have a:=(Ac.mp b).1;have o:(Z' i).getD j dRS=st:=by rw[Ak,b];rfl
 by_cases c:j<(Zq i).length
 .exact p j c o
 .rcases qi3 (bs:=bs) (rs:=rs) T k m with g|⟨g,e⟩|⟨f,Y,e⟩
  .rw[g]at a;exact absurd a c
  .rw[e,qiz (qgy g)]at a;exact absurd a c
  .have d:=qfj (l:=Zq i) (q:=qgx (ts i) ac f Y) (j:=j);rw[<- e,o]at d;rw[e,Af,AU]at a;rw[if_pos (by lia)]at d;rw[d];exact⟨(λz=>by cases z),λz h=>absurd h AB⟩
def rst_all (T:TsOk n ts)(l:(tk bs rs ts Zq ac n).1=Z'){i j:Nat}(h:i<n)(o:j<(Zq i).length):(Z' i).getD j dRS=(Zq i).getD j dRS\/(((Zq i).getD j dRS).over=false/\∃w,((Z' i).getD j dRS).rows=((Zq i).getD j dRS).rows++[(ac.1,ac.2.2,w)]):=by
 rcases qi3 (bs:=bs) (rs:=rs) T h l with c|⟨c,e⟩|⟨f,Y,e⟩
 .rw[c];exact .inl rfl
 .have a:=qgy c;rw[e,qpp a o];by_cases w:j=(Zq i).length-1
  .rw[if_pos w];have g:=qup a;rw[c]at g;rcases feel_was (rd:=(ts i).rd) (st:=(Zq i).getD ((Zq i).length-1) dRS) (s:=stF bs rs ts Z' 3 i ((Zq i).getD ((Zq i).length-1) dRS)) (r:=lsC bs rs (ts i).rd ((Zq i).getD ((Zq i).length-1) dRS) (stF bs rs ts Z' 3 i ((Zq i).getD ((Zq i).length-1) dRS))) (n:=ac.1) (d:=ac.2.2) (k:=ac.2.1) with b|b
   .rw[b,w];exact .inl rfl
   .rw[w];refine .inr ⟨?_,_,b⟩;cases m:((Zq i).getD ((Zq i).length-1) dRS).over with|false=>rfl|true=>rw[m]at g;cases g
  .rw[if_neg w];exact .inl rfl
 .rw[e,qfj,if_neg (by lia)];exact .inl rfl
def new_all (T:TsOk n ts)(b:(tk bs rs ts Zq ac n).1=Z'){i:Nat}(a:i<n):(Z' i).length=(Zq i).length\/((Z' i).length=(Zq i).length+1/\((Z' i).getD (Zq i).length dRS).rows=[(ac.1,ac.2.2,Aa "begins")]):=by
 rcases qi3 (bs:=bs) (rs:=rs) T a b with c|⟨c,e⟩|⟨f,Y,e⟩
 .rw[c];exact .inl rfl
 .rw[e,qiz (qgy c)];exact .inl rfl
 .rw[e,qfj,if_pos Z,Af];exact .inr ⟨Z,Z⟩
end
def SndOk (st:RS)(s r:Option Int):Prop:=(∀l,r=some l->(∃x,s=some x/\x<l)/\qai st.ps=false)/\RZ st/\1<=st.units
def MvOk (ac:Act)(st:RS)(s r:Option Int)(st':RS)(s' r':Option Int):Prop:=(∀l,r=some l->l<ac.2.2->s'=s/\r'=some l)/\(Fut ac.2.2 r->Fut ac.2.2 r')/\(st'=st\/(st.over=false/\∃w,st'.rows=st.rows++[(ac.1,ac.2.2,w)]))
theorem qeo {o:Bool}{r:Option Int}:swd o r=Aa "over" ↔ o=true:=by
 unfold swd;cases o with
 |true=>simp
 |false =>
  refine⟨λz=>?_,λz=>by cases z⟩;cases r with|none=>rw[if_neg Ud,if_pos Z]at z;exact absurd z Uk|some l=>rw[if_neg Ud,if_neg (λq=>by cases q)]at z;exact absurd z Uk
def hal_last {ps:List Pz}{F:Int}{o:Option Int}:qai (ps++[(F,o)])=decide (oV o=V.non):=by unfold qai;rw[List.getLast?_concat];cases o <;>rfl
def qrq {p:Hp->Prop}{σ:L2.St}{k:L2.St->Hp->Prop}{R:Prop}(m:(∀J,p J->k σ J)->R)(l:∀J,p J->k σ J):R:=m l
def spSd57:Sp:=λvs H Q _=>∃(q p4 p6:Addr)(st:RS)(s r:Option Int),vs=[.ref q]/\AccAt H q p4 p6 (nm0 st) st s r/\SndOk st s r/\∀H',Same H H'->Q (.bl true) H'
def spMv57:Sp:=λvs H Q _=>∃(q p4 p6 q' p4' p6' qa:Addr)(nn:Str)(st:RS)(s r:Option Int)(st':RS)(s' r':Option Int)(ac:Act),vs=[.ref q,.ref q',.ref qa]/\AccAt H q p4 p6 nn st s r/\AccAt H q' p4' p6' nn st' s' r'/\H qa=some (.tup (qdy ac))/\MvOk ac st s r st' s' r'/\st.rows.length<=100/\∀H',Same H H'->Q (.bl true) H'
def spBe57:Sp:=λvs H Q _=>∃(q p4 p6 qa:Addr)(st:RS)(s r:Option Int)(ac:Act),vs=[.ref q,.ref qa]/\AccAt H q p4 p6 ac.1 st s r/\H qa=some (.tup (qdy ac))/\st.rows=[(ac.1,ac.2.2,Aa "begins")]/\∀H',Same H H'->Q (.bl true) H'
structure StpOk (bs:List Bool)(rs:List Rw)(ts:Nat->TD)(Zq Z':ZZ)(n:Nat)(ac:Act):Prop where
 mv:∀i<n,∀j<(Zq i).length,MvOk ac ((Zq i).getD j dRS) (stF bs rs ts Zq 3 i ((Zq i).getD j dRS)) (lsZ bs rs ts Zq i ((Zq i).getD j dRS)) ((Z' i).getD j dRS) (stF bs rs ts Z' 3 i ((Z' i).getD j dRS)) (lsZ bs rs ts Z' i ((Z' i).getD j dRS))/\nm0 ((Z' i).getD j dRS)=nm0 ((Zq i).getD j dRS)/\((Zq i).getD j dRS).rows.length<=100
 nw:∀i<n,(Z' i).length=(Zq i).length\/((Z' i).length=(Zq i).length+1/\((Z' i).getD (Zq i).length dRS).rows=[(ac.1,ac.2.2,Aa "begins")])
 sd:∀i<n,∀j<(Z' i).length,SndOk ((Z' i).getD j dRS) (stF bs rs ts Z' 3 i ((Z' i).getD j dRS)) (lsZ bs rs ts Z' i ((Z' i).getD j dRS))
 ln:∀i<n,(Z' i).length<=100
def spSt57:Sp:=λvs H Q _=>∃(d d' qa:Addr)(bs:List Bool)(rs:List Rw)(ts:Nat->TD)(Zq Z':ZZ)(n:Nat)(q:Nat->Addr)(y p4 p6:Nat->Nat->Addr)(q':Nat->Addr)(y' p4' p6':Nat->Nat->Addr)(ac:Act),vs=[.ref d,.ref d',.ref qa]/\ToldAt bs rs ts Zq n H d q y p4 p6/\ToldAt bs rs ts Z' n H d' q' y' p4' p6'/\d≠d'/\TsOk n ts/\H qa=some (.tup (qdy ac))/\StpOk bs rs ts Zq Z' n ac/\∀H',Same H H'->Q (.bl true) H'
def stp_ok {bs:List Bool}{rs:List Rw}{ts:Nat->TD}{Zq Z':ZZ}{n N:Nat}{ac:Act}{D:Int}(T:TsOk n ts)(P:PZ n ts Zq D N)(ex:qnq bs rs)(o:D<=ac.2.2)(hN:N<50)(c:(tk bs rs ts Zq ac n).1=Z')(hz:∀i<n,∀st∈Zq i,HZ bs rs ts Zq D i st)(q:∀i<n,∀st∈Zq i,RZ st):StpOk bs rs ts Zq Z' n ac:=by
 have h:PZ n ts Z' ac.2.2 (N+1):=by rw[<- c];exact qmv T P ex o (by lia) (Al n)
 have M:=mv_all T P ex o (by lia) c hz;have r:=hz_all T P ex o (by lia) c hz;have s:=rz_all T P c q;refine⟨λi a j g=>?_,λi a=>new_all T c a,λi a j g=>?_,λi a=>by have:=(h.rl i a).1;lia⟩
 .have m:=M i a j g;have b:=qb3 g;have k:=rst_all T c a g;obtain⟨_,x,d,rr,u⟩:=q i a _ b;refine⟨⟨m.p,m.f,k⟩,?_,by have:=(P.rl i a).2 _ b;lia⟩;rcases k with e|⟨_,w,e⟩
  .rw[e]
  .unfold nm0;rw[e,u];rfl
 .have b:=qb3 g;have ok:=h.ok i a _ b;have wf:=h.wf i a _ b;refine⟨λl e=>⟨?_,?_⟩,s i a _ b,ok.u1⟩
  .have L:=qmu h ex (m:=3) a ok wf;change LsS bs rs (ts i).rd _ _ (lsZ bs rs ts Z' i _) at L;rw[e]at L;exact qmt L
  .cases t:qai ((Z' i).getD j dRS).ps with
   |false=>rfl
   |true =>rw[((r i a _ b).1 t).1]at e;cases e
def hz_nil {bs:List Bool}{rs:List Rw}{ts:Nat->TD}{n:Nat}{D:Int}:∀i<n,∀st∈qcm bs rs ts n [] i,HZ bs rs ts (qcm bs rs ts n []) D i st/\RZ st:=λi _ st h=>absurd h AB
def last_le {a:List Act}(d:qhl a){m:Nat}{ac:Act}(b:a[m]?=some ac)(c:0<=ac.2.2):((a.take m).getLastD dA).2.2<=ac.2.2:=by
 have hm:=(Ac.mp b).1;rw[List.getLastD_eq_getLast?];cases m with|zero=>exact c|succ m =>rw[List.getLast?_take,if_neg (by lia),D5,Ae (by lia)];exact qur d (Ca m) (Ae (by lia)) b
def start12 {vs:List Str}{v:V}(h:vs.length=12):L2.start vs [v]=[some v,none,none,none,none,none,none,none,none,none,none,none]:=by unfold L2.start;rw[h];rfl
noncomputable abbrev oR (x:Addr):Option V:=some (.ref x)
abbrev oI (x:Int):Option V:=some (.int x)
section
variable {P:AJ}{w:World}{K:Ag}{mg:Str->Option Value}{base:Heap}{a:Adr}
set_option maxHeartbeats 4000000
theorem qep (T:Txt K mg a):FnOk P w K mg base CX0 1 a.bA a.xD ["self","table"] (spKInit a):=by
 refine T.dC.fn.ok qmb (λvs H Q E h=>?_) (λcdv A outer s H vs Q E hr h=>?_)
 .obtain⟨_,_,_,_,rfl,_⟩:=h
  all_goals rfl
 .obtain⟨i,x,dx,tb,rfl,d,k⟩:=h;refine⟨_,(qj (qa2 (pv 0) (pv 1) Z)),?_⟩;cases i with|a=>exact(nmc Z (nmc Z ⟨_,_,_,_,Z,d,T.bH,qp T.pY Ud,Ud,k⟩))|b=>exact(nmc Z (nmc Z ⟨_,_,_,_,Z,d,T.bK,qp T.mQ Ud,Ud,k⟩))|c=>exact(nmc Z (nmc Z ⟨_,_,_,_,Z,d,T.gD,qp T.gY Ud,Ud,k⟩))
theorem okKindOf (T:Txt K mg a):FnOk P w K mg base CX0 3 a.mM a.nC ["unit","table"] (spKind a):=by
 refine T.bS.fn.ok qxw (λvs H Q E h=>?_) (λcdv A outer s H vs Q E e h=>?_)
 .obtain⟨_,_,rfl,_⟩:=h
  all_goals rfl
 .obtain⟨i,tb,rfl,k⟩:=h;refine⟨_,(qf (zb (qt qbt (pv 0) zg (qab _)) (qj (qo (qer T.zI (qep T) (e.mono Ud) Z T.zM T.dC.bd .nil qad (qd (pv 1) qg qe)))) qae)
   (qf (zb (qt qbt (pv 0) zg (qab _)) (qj (qo (qer T.xY (qep T) (e.mono Ud) Z T.zK T.dC.bd .nil qad (qd (pv 1) qg qe)))) qae)
   (qj (qo (qer T.y9 (qep T) (e.mono Ud) Z T.yS T.dC.bd .nil qad (qd (pv 1) qg qe)))))),?_⟩
  cases i with|a=>exact(nmc Z ⟨Z,(nmc Z (qbo Uk (nmc Z ⟨Z,(nmc Z (qbo Uk (nmc Z (λx d nx nd f=>⟨.a,x,d,_,Z,qk,Z,k x d _ (qmo nx nd) nx qk⟩))))⟩)))⟩)|b=>exact(nmc Z ⟨Z,(nmc Z (qcs Z (nmc Z (λx d nx nd f=>⟨.b,x,d,_,Z,qk,Z,k x d _ (qmo nx nd) nx qk⟩))))⟩)|c=>exact(nmc Z ⟨Z,(nmc Z (qbo Uk (nmc Z ⟨Z,(nmc Z (qcs Z (nmc Z (λx d nx nd f=>⟨.c,x,d,_,Z,qk,Z,k x d _ (qmo nx nd) nx qk⟩))))⟩)))⟩)
theorem qhe (T:Txt K mg a):FnOk P w K mg base CX0 1 a.r8 a.nO ["thing"] (sp1 λ_=>.bl true):=by
 refine T.kT.fn.ok qvw (λvs H Q E h=>?_) (λcdv A outer s H vs Q E hr h=>?_)
 .obtain⟨_,rfl,_⟩:=h
  all_goals rfl
 .obtain⟨y,rfl,k⟩:=h;refine⟨_,(qj (qo (qd4 (zd qie (by rfl) T.dX qct (qd (pv 0) (qd (qk1 (v:=.ty "int") Z T.tQ qqt Z) qg qe) qe)) (qdn (qr0 (zd qie (by rfl) T.dX qct (qd (pv 0) (qd (qk1 (v:=.ty "bool") Z T.yD qvv Z) qg qe) qe))))))),?_⟩;exact(nmc Z ⟨_,_,_,_,Z,.int _,qqb,(nmc Z (qdo (nmc Z ⟨_,_,_,_,Z,.int _,qo0,(nmc Z k)⟩)))⟩)
theorem qhm (T:Txt K mg a):FnOk P w K mg base CX0 2 a.nA a.tJ ["first","last","most"] spStr:=by
 refine T.gH.fn.ok qni (λvs H Q E h=>?_) (λcdv A outer s H vs Q E b h=>?_)
 .obtain⟨_,_,_,rfl,_⟩:=h
  all_goals rfl
 .obtain⟨f,l,m,rfl,c,e,d,k⟩:=h;refine⟨_,(qf (zb (qc0 (PW.pt (qcf (zf (zc (qhe T) (b.mono Ud) Z T.kT.mgx T.kT.fn.kp T.kT.bd .nil qad (qd (pv 0) qg qe))) (qbw (zf (zc (qhe T) (b.mono Ud) Z T.kT.mgx T.kT.fn.kp T.kT.bd .nil qad (qd (pv 1) qg qe))))))) (qj (qo qbk)) qae)
   (qj (qo (qvl qf3 qf3 qcx qi (pv 0) (pv 1) (qv qah (pv 0) (pv 2)))))),?_⟩
  refine(nmc Z (nmc Z (nmc Z (qdo (nmc Z (nmc Z (nmc Z (qbs ?_))))))));refine(nmc Z (iic Z Z (nmc Z (qcs c (nmc Z (iic Z Z (nmc Z (qcs e (nmc Z (nmc Z (iic Z Z (iic Z Z ?_))))))))))));show Q (.bl (decide (l<f+m))) H;rw[decide_eq_true d];exact k
theorem qpx (T:Txt K mg a):FnOk P w K mg base CX0 1 a.tL a.nG ["stretches","day"] spPlace:=by
 refine T.gC.fn.ok qg7 (λvs H Q E h=>?_) (λcdv A outer s H vs Q E hr h=>?_)
 .obtain⟨_,_,_,_,_,rfl,_⟩:=h
  all_goals rfl
 .obtain⟨p,us,ts,es,d,rfl,M,W,he,hl,N,k⟩:=h;refine⟨_,(qf (qu (i:=2) qg7.nd Z (Ar Z) qi)
   (qf (qu (i:=3) qg7.nd Z (Ar Z) (zd qa5 (by rfl) T.kP qa6 (qd (pv 0) qg qe)))
   (qf (qh9 A8 (qt qcx (pv 2) (pv 3) (qab _)) (qf (qu (i:=4) qg7.nd Z (Ar Z) (qv qa4 (qv qah (pv 2) (pv 3)) qi))
   (qj (zb (qt qcx (zp zq (zp zr (pv 0) (pv 4) (λ_ _=>rfl)) qi (λ_ _=>rfl)) (pv 1) (qab _)) (qj (qu (i:=2) qg7.nd Z (Ar Z) (qv qah (pv 4) qi))) (qj (qu (i:=3) qg7.nd Z (Ar Z) (pv 4)))))))
   (qj (qo (pv 2)))))),?_⟩
  have I:=W.length.trans hl;refine(nmc Z ⟨_,_,Z,.inl ⟨_,SqL.of M,Z⟩,?_⟩);refine⟨λm σ' H'=>H'=H/\∃(lo b:Int)(v:Option V),σ'=[oR p,oI d,oI lo,oI b,v]/\m=(b-lo).toNat/\0<=lo/\lo<=b/\b<=es.length/\(∀(i:Nat)(e:Int),es[i]?=some e->(i:Int)<lo->e<d)/\(∀(i:Nat)(e:Int),es[i]?=some e->b<=(i:Int)->¬e<d), 
   ⟨_,Z,0,(us.length:Int),none,Z,Z,Bb _,D4 _,Int.le_of_eq (congrArg (λn:Nat=>(n:Int)) I),λi e _ z=>absurd z (BC.mpr (D4 i)),λi e z c=>absurd (Dp.mp c) (Nat.not_le.mpr (I ▸ (Ac.mp z).1))⟩,?_⟩
  rintro m σ' H' ⟨rfl,lo,b,v,rfl,rfl,D,h1,F,S,L⟩;refine(nmc Z (nmc Z (iic Z Z (nmc Z ?_))));refine qba (λc=>?_) (λc=>?_)
  .have B:lo<b:=of_decide_eq_true c;refine⟨λσ2 J=>J=H'/\∃(f g:Int)(v:Option V),σ2=[oR p,oI d,oI f,oI g,v]/\g-f<b-lo/\0<=f/\f<=g/\g<=es.length/\(∀(i:Nat)(e:Int),es[i]?=some e->(i:Int)<f->e<d)/\(∀(i:Nat)(e:Int),es[i]?=some e->g<=(i:Int)->¬e<d),?_,?_⟩
   .rintro σ2 J ⟨rfl,f,g,v2,rfl,X,g1,g2,g3,Y,g5⟩;exact⟨_,tn_lt X (Int.sub_pos.mpr B),Z,f,g,v2,Z,Z,g1,g2,g3,Y,g5⟩
   .refine(nmc Z (nmc Z (iic Z Z (icc Z Z ⟨Ud,Ud⟩ ?_))));obtain⟨j,U,R,G⟩:=mid D B;have o:j<es.length:=DJ.mp (Bf G F);have C:es[j]?=some (es[j]'o):=Ae _;obtain⟨t,t1,t2⟩:=he j _ C;obtain⟨a,a1,a2⟩:=W.get t1;dsimp only[];generalize (lo+b) / 2=mid at U |-;subst U;have O:∀{i:Nat}{e:Int},es[i]?=some e->(i<j->e<es[j]'o)/\(j<i->es[j]'o<e):=λ{i e} z=>by obtain⟨zi,ze⟩:=Ac.mp z;subst ze;exact⟨λq=>Bh.mp N i j _ _ q,λq=>Bh.mp N j i _ _ q⟩
    refine(nmc Z (nmc Z (lxo (M) ((qa0 a1)) (txo (a2) t2 (nmc Z (iic Z Z (nmc Z ?_)))))));refine qba (λe=>?_) (λe=>?_)
    .have r:=of_decide_eq_true e;refine(nmc Z (iic Z Z ⟨Z,(j:Int)+1,b,_,Z,Int.sub_lt_sub_left (Int.lt_add_one_of_le R) b,D4 (j+1),G,F,λi x l q=>?_,L⟩));by_cases z:i=j
     .subst z;rw[C]at l;cases l;exact r
     .exact CH ((O l).1 (Nat.lt_of_le_of_ne (Dp.mp (DV q)) z)) r
    .have r:¬es[j]'o<d:=λz=>e (decide_eq_true z);refine(nmc Z ⟨Z,lo,(j:Int),_,Z,Int.sub_lt_sub_right G lo,D,R,Dp.mpr (BG o),S,λi x l q=>?_⟩);by_cases z:i=j
     .subst z;rw[C]at l;cases l;exact r
     .exact λy=>r (CH ((O l).2 (Nat.lt_of_le_of_ne (Dp.mp q) (B6 z))) y)
  .have B:¬lo<b:=λz=>c (decide_eq_true z);have u:(lo.toNat:Int)=lo:=C3 D;have e:(cnt es d:Nat)=lo.toNat:=qsd (Dp.mp (Bp (Int.le_of_eq u) (Bp h1 F))) (λi x l q=>S i x l (Bf (DJ.mpr q) (Int.le_of_eq u))) λi x l q=>L i x l (Bp (BC.mp B) (Bp (Int.le_of_eq u.symm) (Dp.mpr q)));refine(nmc Z ?_);show Q (.int lo) H';rw[<- u,<- e];exact k
theorem okJoined (T:Txt K mg a):FnOk P w K mg base CX0 1 a.rW a.pP ["laid"] spJoin:=by
 refine T.fG.fn.ok qgn (λvs H Q E h=>?_) (λcdv A outer s H vs Q E hr h=>?_)
 .obtain⟨_,_,_,_,_,rfl,_⟩:=h
  all_goals rfl
 .obtain⟨W,dq,j,p,rs,rfl,inj,sc,⟨us,S,X⟩,hl,k⟩:=h;refine⟨_,(qf (qu (i:=1) qgn.nd Z (Ar Z) (zh qg))
   (qf (qa8 A8 Z (qbf (pv 0)) (qd5 Z (qam (qaf (i:=2) qgn.nd Z (Ar Z)) (qam (qaf (i:=3) qgn.nd Z (Ar Z)) (qam (qaf (i:=4) qgn.nd Z (Ar Z)) qc1)))) (qj (zb (PW.pt (qcf (qwr (pv 1) (λ_=>rfl)) (qcf (qt qbt (zp zq (zp zr (pv 1) (qfa qda qi) (λ_ _=>rfl)) qi (λ_ _=>rfl)) (pv 4) (qab _)) (qbw (qt qbt (qv qah (zp zq (zp zr (pv 1) (qfa qda qi) (λ_ _=>rfl)) qi (λ_ _=>rfl)) qi) (pv 2) (qab _)))))) (qj (qwn (zj (qd (zp zq (zp zr (pv 1) (qfa qda qi) (λ_ _=>rfl)) qi (λ_ _=>rfl)) (qd (pv 3) (qd (pv 4) qg qe) qe) zn)) (pg_sub (pv 1) (qfa qda qi) qwx))) (qj (qz (qcp A7 AG AH qau (pv 1) (qd (zj (qd (pv 2) (qd (pv 3) (qd (pv 4) qg qe) qe) qe)) qg zo)))))))
   (qj (qo (pv 1))))),?_⟩
  refine⟨qfh,λq O=>?_⟩;have lu:=AtG.len X;refine(nmc Z ⟨_,Z,⟨_,SqL.of (qx O _ _ S)⟩,qbm (K:=K) (a:=p) (xs:=us) (λi σ H'=>Same H H'/\∃(q:Addr)(N L J:Option V),σ=[oR p,oR q,N,L,J]/\H q=none/\AtG j H' q (jn (rs.take i)))
   ⟨qx O,q,none,none,none,Z,O,[],qk,.nil⟩ (λi σ H' _ h=>SqL.of (h.1 _ _ S)) ?_ ?_⟩)
  .rintro i x σ H' hx ⟨u,B,N,L,J,rfl,l,D,m,d⟩;obtain⟨a,t,rfl,h1,h2⟩:=X.get' hx;obtain⟨r,h3,rfl⟩:=qxy h1;have I:D.length<=1000:=A9 (Ce (AtG.len d)) (A9 (qx2 (rs.take i)) (A9 (DZ _ _) hl));refine⟨_,_,Z,SqT.of (u _ _ h2),Z,_,_,Z,_,_,Z,_,_,Z,Z,?_⟩;have js:rs.take (i+1)=rs.take i++[r]:=qcl h3;have v:=jn_snoc (rs.take i) r;rw[<- js]at v;apply use (p:=jn1 (jn (rs.take i)) r=jn (rs.take i)++[r])
   .intro n;rcases BD (jn (rs.take i)) with e|⟨ts,t,e⟩
    .have M:D=[]:=CV (by rw[AtG.len d,e];rfl);refine(nmc Z ⟨false,.inl ⟨_,SqL.of m,by rw[M];rfl⟩,qbs (qbs ?_)⟩);exact n (by rw[e];rfl)
    .rw[B4]at e;rw[e]at d;obtain⟨Y,b,M,hb⟩:∃(Y:List V)(b:Addr),D=Y++[.ref b]/\H' b=some (.tup (qpf j t)):=by have F:=AtG.len d;rw[Af,AU]at F;obtain⟨b,R,U⟩:=AtG.row d (i:=ts.length) (r:=t) (by simp);refine⟨D.take ts.length,b,?_,U⟩;rw[<- qcl R,C6 (Ce F)]
     have c:=m;rw[M]at c d;refine(nmc Z ⟨true,.inl ⟨_,SqL.of c,by simp⟩,qdo (nmc Z (nmc Z (lxo (c) (qd7 _ _) (txo (hb) Z (nmc Z ⟨sc _ _,(nmc Z ?_)⟩)))))⟩);by_cases y:t.2.2=r.2.2
     .refine qcs (congrArg j y) (nmc Z (nmc Z (lxo (c) (qd7 _ _) (txo (hb) Z (iic Z Z (nmc Z ⟨Z,(nmc Z ?_)⟩))))));by_cases C:t.2.1+1=r.1
      .refine qcs (congrArg V.int C) (nmc Z (nmc Z (lxo (c) (qd7 _ _) (txo (hb) Z (nmc Z (nmc Z ⟨qkx _ _ _,λq2 f=>(nmc Z (nmc Z ⟨_,_,_,_,Z,Z,qx f _ _ c,qt1 _ _,?_⟩))⟩))))));have g:=qx (o:=.tup [V.int t.1,V.int r.2.1,j r.2.2]) f;rw[qx4];refine⟨qan (u.trans g) l,B,_,_,_,Z,l,_,qk,?_⟩;rw[v,e,qeb,if_pos ⟨y,C⟩,Ax];rw[Ax]at d;exact((d.same g).setLast (qk (o:=.tup (qpf j (t.1,r.2.1,r.2.2))))).upd (g _ _ c)
      .refine qbo (λz=>C (V.int.inj z)) ?_;exact n (by rw[e,qeb,if_neg (λz=>C z.2)])
     .refine qbo (λz=>y (inj _ _ z)) (qbs ?_);exact n (by rw[e,qeb,if_neg (λz=>y z.1)])
   .intro ej;refine(nmc Z ⟨.inl ⟨Z,_,SqL.of m⟩,(nmc Z (nmc Z (nmc Z ⟨qkx _ _ _,λq2 f=>⟨_,_,_,Z,Z,qx f _ _ m,qb2 (A9 I Ud),?_⟩⟩)))⟩);have g:=qx (o:=.tup [V.int r.1,V.int r.2.1,j r.2.2]) f;refine⟨qan (u.trans g) l,B,_,_,_,Z,l,_,qk,?_⟩;rw[v,ej,Ax];exact((d.same g).snoc (qk (o:=.tup (qpf j r)))).upd (g _ _ m)
  .rintro σ H' ⟨u,B,N,L,J,rfl,l,G⟩;rw[lu,Bz]at G;exact(nmc Z (k B H' l u G))
theorem qs9 (T:Txt K mg a):FnOk P w K mg base CX0 2 a.mB a.rM ["laid","first","last","word"] spOver:=by
 refine T.dZ.fn.ok qei (λvs H Q E h=>?_) (λcdv A outer s H vs Q E hr h=>?_)
 .obtain⟨_,_,_,_,_,rfl,_⟩:=h
  all_goals rfl
 .obtain⟨p,rs,f,l,d,rfl,⟨us,c,B⟩,S,hfl,hl,k⟩:=h;refine⟨_,(qf (qu (i:=4) qei.nd Z (Ar Z) (zc (qpx T) (hr.mono Ud) Z T.gC.mgx T.gC.fn.kp T.gC.bd .nil qad (qd (pv 0) (qd (pv 1) qg qe) qe)))
   (qf (qu (i:=5) qei.nd Z (Ar Z) (zc (qpx T) (hr.mono Ud) Z T.gC.mgx T.gC.fn.kp T.gC.bd .nil qad (qd (pv 0) (qd (qv qah (pv 2) qi) qg zm) qe)))
   (qf (qu (i:=6) qei.nd Z (Ar Z) (qfb qia (pv 0) qg2 (qg3 (pv 4))))
   (qf (zb (PW.pt (qcf (qt qcx (pv 4) (zd qa5 (by rfl) T.kP qa6 (qd (pv 0) qg qe)) (qab _)) (qbw (qt qcx (zp zq (zp zr (pv 0) (pv 4) (λ_ _=>rfl)) qi (λ_ _=>rfl)) (pv 1) (qab _))))) (qj (qz (qcp A7 AG AH qau (pv 6) (qd (zj (qd (zp zq (zp zr (pv 0) (pv 4) (λ_ _=>rfl)) qi (λ_ _=>rfl)) (qd (qv qby (pv 1) qi) (qd (zp zq (zp zr (pv 0) (pv 4) (λ_ _=>rfl)) qi (λ_ _=>rfl)) qg zn) zm) zn)) qg zo)))) qae)
   (qf (qz (qcp A7 AG AH qau (pv 6) (qd (zj (qd (pv 1) (qd (pv 2) (qd (pv 3) qg qe) qe) qe)) qg zo)))
   (qf (zb (PW.pt (qcf (qt qcx (pv 5) (zd qa5 (by rfl) T.kP qa6 (qd (pv 0) qg qe)) (qab _)) (qbw (qt qf3 (zp zq (zp zr (pv 0) (pv 5) (λ_ _=>rfl)) qi (λ_ _=>rfl)) (pv 2) (qab _))))) (qf (qz (qcp A7 AG AH qau (pv 6) (qd (zj (qd (qv qah (pv 2) qi) (qd (zp zq (zp zr (pv 0) (pv 5) (λ_ _=>rfl)) qi (λ_ _=>rfl)) (qd (zp zq (zp zr (pv 0) (pv 5) (λ_ _=>rfl)) qi (λ_ _=>rfl)) qg zn) zn) zm)) qg zo)))
   (qj (qlg (i:=5) qei.nd Z (Ar Z) qi qr1))) qae)
   (qj (qo (qv qoy (pv 6) (qfb qia (pv 0) (qg3 (pv 5)) qg2)))))))))),?_⟩
  have x:=At.len B;have up:=qts S;have el:(rs.map enc).length=(ends rs).length:=by rw[Ab,Ab]
  refine(nmc Z (nmc Z ⟨_,_,_,_,_,Z,c,B,λi e h=>qmj h,el,up,?_⟩));refine(nmc Z (nmc Z (iic Z Z ⟨_,_,_,_,_,Z,c,B,λi e h=>qmj h,el,up,?_⟩)));have hb:=qo2 (ends rs) f;rw[Ab]at hb;refine(nmc Z (nmc Z ⟨_,Z,_,_,Z,SqL.of c,λq hq=>?_⟩));rw[qiq us (cnt (ends rs) f) (x ▸ hb)];have b:=qx (o:=.lst (us.take (cnt (ends rs) f))) hq;have lc:=qjh f S;have v:(us.take (cnt (ends rs) f)).length<=1000:=A9 (DZ _ _) (x ▸ hl);have O:Tups (upd H q (.lst (us.take (cnt (ends rs) f)))) (us.take (cnt (ends rs) f)) ((rs.take (cnt (ends rs) f)).map enc):=by rw[Ey];exact(B.same b).take _
  have G:=qk (H:=H) (a:=q) (o:=.lst (us.take (cnt (ends rs) f)));generalize upd H q (.lst (us.take (cnt (ends rs) f)))=H0 at b O G |-;generalize us.take (cnt (ends rs) f)=u0 at O G v;apply useH (p:=λ(n:Hp)=>Same H n/\∃j:List V,n q=some (.lst j)/\Tups n j ((left rs f).map enc)/\j.length<=1200)
  .intro I;refine(nmc Z (nmc Z ⟨_,_,Z,.inl ⟨_,SqL.of (b _ _ c),Z⟩,(iic Z Z (nmc Z ?_))⟩));by_cases cb:cnt (ends rs) f<rs.length
   .obtain⟨r1,hr1⟩:∃r1,rs[cnt (ends rs) f]?=some r1:=⟨_,Ae cb⟩;obtain⟨a1,Y,ad⟩:=At.row B hr1;rw[hr1]at lc;refine qcs (lenI x cb) (nmc Z (nmc Z (lxo (b _ _ c) (qa0 Y) (txo (b _ _ ad) Z (nmc Z (iic Z Z (nmc Z ?_)))))));by_cases cf:r1.1<f
    .refine qcs cf (nmc Z ⟨.inl ⟨Z,_,SqL.of G⟩,(nmc Z (nmc Z (lxo (b _ _ c) (qa0 Y) (txo (b _ _ ad) Z (nmc Z (iic Z Z (nmc Z (nmc Z (lxo (b _ _ c) (qa0 Y) (txo (b _ _ ad) Z ⟨qkx _ _ _,λt ag=>⟨_,_,_,Z,Z,qx ag _ _ G,qb2 (A9 v Ud),?_⟩⟩))))))))))⟩);have z1:=qx (o:=.tup [V.int r1.1,V.int (f-1),V.str r1.2.2]) ag;have s1:Same H (upd (upd H0 t (.tup [V.int r1.1,V.int (f-1),V.str r1.2.2])) q (.lst (u0++[.ref t]))):=qan (b.trans z1) hq;have J:=qk (H:=upd H0 t (.tup [V.int r1.1,V.int (f-1),V.str r1.2.2])) (a:=q) (o:=.lst (u0++[.ref t]));have t1:Tups (upd (upd H0 t (.tup [V.int r1.1,V.int (f-1),V.str r1.2.2])) q (.lst (u0++[.ref t]))) (u0++[.ref t]) ((left rs f).map enc):=by rw[show left rs f=rs.take (cnt (ends rs) f)++[((r1.1,f-1,r1.2.2):Rw)] by rw[lc];exact congrArg _ (if_pos cf),Ax];exact((O.same z1).snoc (qk (o:=.tup (enc (r1.1,f-1,r1.2.2))))).upd (z1 _ _ G)
     generalize upd (upd H0 t (.tup [V.int r1.1,V.int (f-1),V.str r1.2.2])) q (.lst (u0++[.ref t]))=n at s1 J t1 |-;exact I n ⟨s1,_,J,t1,sn1 v⟩
    .refine qbo cf ?_;exact I H0 ⟨b,_,G,by rw[show left rs f=rs.take (cnt (ends rs) f) by rw[lc];show _++(if r1.1<f then _ else [])=_;rw[if_neg cf,Bu]];exact O,A9 v Ud⟩
   .rw[AR (DP.mp cb)]at lc;refine qbo (λz=>cb (DJ.mp (x ▸ z))) (qbs ?_);exact I H0 ⟨b,_,G,by rw[show left rs f=rs.take (cnt (ends rs) f) by rw[lc];exact Bu _];exact O,A9 v Ud⟩
  .rintro n ⟨s1,j,J,t1,l1⟩;refine(nmc Z ⟨.inl ⟨Z,_,SqL.of J⟩,(nmc Z (nmc Z (nmc Z ⟨qkx _ _ _,λm ah=>⟨_,_,_,Z,Z,qx ah _ _ J,qb2 (A9 l1 Ud),?_⟩⟩)))⟩);have z2:=qx (o:=.tup [V.int f,V.int l,V.str d]) ah;have g:Same H (upd (upd n m (.tup [V.int f,V.int l,V.str d])) q (.lst (j++[.ref m]))):=qan (s1.trans z2) hq;have D:=qk (H:=upd n m (.tup [V.int f,V.int l,V.str d])) (a:=q) (o:=.lst (j++[.ref m]));have t2:Tups (upd (upd n m (.tup [V.int f,V.int l,V.str d])) q (.lst (j++[.ref m]))) (j++[.ref m]) ((left rs f++[((f,l,d):Rw)]).map enc):=by rw[Ax];exact((t1.same z2).snoc (qk (o:=.tup (enc (f,l,d))))).upd (z2 _ _ J)
   generalize upd (upd n m (.tup [V.int f,V.int l,V.str d])) q (.lst (j++[.ref m]))=H2 at g D t2 |-;have W:(j++[V.ref m]).length<=1500:=sn15 l1;generalize j++[V.ref m]=u2 at D t2 W |-;apply use2 (p:=λ(L:Hp)(N:Nat)=>Same H L/\∃(M:List V)(X:List Rw),L q=some (.lst M)/\Tups L M (X.map enc)/\M.length<=2000/\over rs f l d=X++rs.drop N/\N<=rs.length)
   .intro F;refine(nmc Z (nmc Z ⟨_,_,Z,.inl ⟨_,SqL.of (g _ _ c),Z⟩,(iic Z Z (nmc Z ?_))⟩));have r:=qht l S;by_cases y:cnt (ends rs) (l+1)<rs.length
    .obtain⟨r2,hr2⟩:∃r2,rs[cnt (ends rs) (l+1)]?=some r2:=⟨_,Ae y⟩;obtain⟨a2,U,R⟩:=At.row B hr2;rw[hr2]at r;dsimp only at r;refine qcs (lenI x y) (nmc Z (nmc Z (lxo (g _ _ c) (qa0 U) (txo (g _ _ R) Z (nmc Z (iic Z Z (nmc Z ?_)))))));by_cases cl:r2.1<=l
     .refine qcs cl (nmc Z ⟨.inl ⟨Z,_,SqL.of D⟩,(nmc Z (iic Z Z (nmc Z (nmc Z (lxo (g _ _ c) (qa0 U) (txo (g _ _ R) Z (nmc Z (nmc Z (lxo (g _ _ c) (qa0 U) (txo (g _ _ R) Z ⟨qkx _ _ _,λu af=>⟨_,_,_,Z,Z,qx af _ _ D,qb2 (A9 W Ud),?_⟩⟩))))))))))⟩);have z3:=qx (o:=.tup [V.int (l+1),V.int r2.2.1,V.str r2.2.2]) af;have C:Same H (upd (upd H2 u (.tup [V.int (l+1),V.int r2.2.1,V.str r2.2.2])) q (.lst (u2++[.ref u]))):=qan (g.trans z3) hq;have h3:=qk (H:=upd H2 u (.tup [V.int (l+1),V.int r2.2.1,V.str r2.2.2])) (a:=q) (o:=.lst (u2++[.ref u]));have t3:Tups (upd (upd H2 u (.tup [V.int (l+1),V.int r2.2.1,V.str r2.2.2])) q (.lst (u2++[.ref u]))) (u2++[.ref u]) (((left rs f++[(f,l,d)])++[((l+1,r2.2.1,r2.2.2):Rw)]).map enc):=by rw[Ax];exact((t2.same z3).snoc (qk (o:=.tup (enc (l+1,r2.2.1,r2.2.2))))).upd (z3 _ _ D)
      generalize upd (upd H2 u (.tup [V.int (l+1),V.int r2.2.1,V.str r2.2.2])) q (.lst (u2++[.ref u]))=L at C h3 t3 |-;rw[if_pos cl]at r;have ov:over rs f l d=((left rs f++[(f,l,d)])++[((l+1,r2.2.1,r2.2.2):Rw)])++rs.drop (cnt (ends rs) (l+1)+1):=by unfold over;rw[r];simp
      have hN:cnt (ends rs) (l+1)+1<=rs.length:=y;refine(nmc Z (iic Z Z ?_));dsimp only[];rw[show ((cnt (ends rs) (l+1):Nat):Int)+1=((cnt (ends rs) (l+1)+1:Nat):Int) from Z];generalize cnt (ends rs) (l+1)+1=N at ov hN |-;exact F L N ⟨C,_,_,h3,t3,sn2 W,ov,hN⟩
     .rw[if_neg cl]at r;refine qbo cl ?_;exact F H2 (cnt (ends rs) (l+1)) ⟨g,_,_,D,t2,A9 W Ud,by unfold over;rw[r];simp,BG y⟩
    .rw[AR (DP.mp y)]at r;dsimp only at r;refine qbo (λz=>y (DJ.mp (x ▸ z))) (qbs ?_);have ae:=qo2 (ends rs) (l+1);rw[Ab]at ae;exact F H2 (cnt (ends rs) (l+1)) ⟨g,_,_,D,t2,A9 W Ud,by unfold over;rw[r,List.drop_of_length_le (DP.mp y)];simp,ae⟩
   .rintro L N ⟨C,M,X,h3,t3,l3,ov,hN⟩;refine(nmc Z (nmc Z (nmc Z ⟨_,Z,_,_,Z,SqL.of (C _ _ c),λq5 aj=>?_⟩)));dsimp only[];rw[qxz us N (x ▸ hN)];have s5:=qx (o:=.lst (us.drop N)) aj;refine⟨_,_,_,_,Z,Z,s5 _ _ h3,qk,qdr (by rw[BL];exact A9 (Nat.add_le_add l3 (A9 (Nat.sub_le _ _) (x ▸ hl))) Ud),λq6 ai=>?_⟩;have s6:=qx (o:=.lst (M++us.drop N)) ai;refine k q6 _ (C.free (s5.free ai)) ((C.trans s5).trans s6) ⟨_,qk,?_⟩;have tt:=((t3.same (s5.trans s6)).app ((B.same ((C.trans s5).trans s6)).drop N));rw[<- List.map_drop,<- Ax]at tt;rw[ov];exact tt
theorem qwa (T:Txt K mg a):FnOk P w K mg base CX0 3 a.rE a.pU ["rows"] spOv:=by
 refine T.dY.fn.ok qd1 (λvs H Q E h=>?_) (λcdv A outer s H vs Q E f h=>?_)
 .obtain⟨_,_,rfl,_⟩:=h
  all_goals rfl
 .obtain⟨p,rs,rfl,⟨us,B,D⟩,ok,F,k⟩:=h;refine⟨_,(qf (qu (i:=1) qd1.nd Z (Ar Z) (zh qg))
   (qf (qa8 A8 Z (qbf (pv 0)) (qd5 Z (qam (qaf (i:=2) qd1.nd Z (Ar Z)) (qam (qaf (i:=3) qd1.nd Z (Ar Z)) (qam (qaf (i:=4) qd1.nd Z (Ar Z)) qc1)))) (qj (qu (i:=1) qd1.nd Z (Ar Z) (zc (qs9 T) (f.mono Ud) Z T.dZ.mgx T.dZ.fn.kp T.dZ.bd .nil qad (qd (pv 1) (qd (pv 2) (qd (pv 3) (qd (pv 4) qg qe) qe) qe) qe)))))
   (qj (qo (zc (okJoined T) (f.mono Ud) Z T.fG.mgx T.fG.fn.kp T.fG.bd .nil qad (qd (pv 1) qg qe)))))),?_⟩
  refine⟨qfh,λq u=>?_⟩;have N:=At.len D;refine(nmc Z ⟨_,Z,⟨_,SqL.of (qx u _ _ B)⟩,qbm (K:=K) (a:=p) (xs:=us) (λi σ H'=>Same H H'/\∃(q:Addr)(m l j:Option V),σ=[oR p,oR q,m,l,j]/\H q=none/\At H' q (lay (rs.take i)))
   ⟨qx u,q,none,none,none,Z,u,[],qk,.nil⟩ (λi σ H' _ h=>SqL.of (h.1 _ _ B)) ?_ ?_⟩)
  .rintro i x σ H' M ⟨d,G,m,l,j,rfl,J,c⟩;obtain⟨a,t,rfl,O,I⟩:=D.get' M;obtain⟨r,C,rfl⟩:=qk8 O;have g:=qx3 ok i;have L:=(qxf g).1;have b:=qpg g;have f:=ok r (A4 C);refine⟨_,_,Z,SqT.of (d _ _ I),Z,_,_,Z,_,_,Z,_,_,Z,Z,?_⟩;refine(nmc Z (nmc Z (nmc Z (nmc Z ⟨_,_,_,_,_,Z,c,L,f,A9 b (A9 (Ef 3 (A9 (DZ _ _) F)) Ud),λn y o v e=>?_⟩))));refine⟨d.trans v,n,_,_,_,Z,d.free o,?_⟩;rw[qcl C,qxe];exact e
  .rintro σ H' ⟨d,G,m,l,j,rfl,J,c⟩;rw[N,Bz]at c;have b:=qpg ok;exact(nmc Z ⟨_,_,V.str,_,_,Z,λ_ _ z=>V.str.inj z,λ_ _=>rfl,c,A9 b (A9 (Ef 3 F) Ud),λn y o v e=>k n y (d.free o) (d.trans v) e⟩)
theorem qex (T:Txt K mg a):FnOk P w K mg base CX0 1 a.gI a.dR ["self","units"] (qgt λu=>.int u):=by
 refine T.lP.fn.ok qim (λvs H Q E h=>?_) (λcdv A outer s H vs Q E hr h=>?_)
 .obtain⟨_,_,rfl,_⟩:=h
  all_goals rfl
 .obtain⟨x,u,rfl,k⟩:=h;refine⟨_,(qj (qo (pv 1))),?_⟩;exact(nmc Z k)
theorem qm0 (T:Txt K mg a):FnOk P w K mg base CX0 1 a.bI a.m4 ["self","units"] (qgt λu=>.int (7*u)):=by
 refine T.sG.fn.ok qmc (λvs H Q E h=>?_) (λcdv A outer s H vs Q E hr h=>?_)
 .obtain⟨_,_,rfl,_⟩:=h
  all_goals rfl
 .obtain⟨x,u,rfl,k⟩:=h;refine⟨_,(qj (qo (qv qbr (qb4 (v:=.int 7) Z T.zH.choose_spec ⟨_,Z⟩) (pv 1)))),?_⟩;exact(nmc Z (iic Z Z ⟨.inl ⟨Ud,Ud⟩,k⟩))
theorem qf5 (T:Txt K mg a):FnOk P w K mg base CX0 1 a.gM a.dG ["self","first","many"] (qe6 λf m=>.int (f+m-1)):=by
 refine T.lI.fn.ok qku (λvs H Q E h=>?_) (λcdv A outer s H vs Q E hr h=>?_)
 .obtain⟨_,_,_,rfl,_⟩:=h
  all_goals rfl
 .obtain⟨x,u,v,rfl,k⟩:=h;refine⟨_,(qj (qo (qv qby (qv qah (pv 1) (pv 2)) qi))),?_⟩;exact(nmc Z (nmc Z (iic Z Z (iic Z Z k))))
theorem qi4 (T:Txt K mg a):FnOk P w K mg base CX0 1 a.tO a.r9 ["year"] (sp1 λy=>.int ((3*y+14) / 17)):=by
 refine T.gG.fn.ok qpd (λvs H Q E h=>?_) (λcdv A outer s H vs Q E hr h=>?_)
 .obtain⟨_,rfl,_⟩:=h
  all_goals rfl
 .obtain⟨y,rfl,k⟩:=h;refine⟨_,(qj (qo (qv qa4 (qv qah (qv qbr qi (pv 0)) qi) qi))),?_⟩;exact(nmc Z (icc Z Z (mulL Ud Ud) (iic Z Z (icc Z Z ⟨Ud,Ud⟩ k))))
theorem qbx (T:Txt K mg a):FnOk P w K mg base CX0 2 a.lH a.pN ["self","year"] (spPBy a):=by
 refine T.bL.fn.ok qdw (λvs H Q E h=>?_) (λcdv A outer s H vs Q E g h=>?_)
 .obtain⟨_,_,_,rfl,_⟩:=h
  all_goals rfl
 .obtain⟨x,bs,y,rfl,l,k⟩:=h;refine⟨_,(qf (qu (i:=2) qdw.nd Z (Ar Z) (qv qby (zp zr (qac (pv 0) Z) (qb4 (v:=.int 371) Z T.lG.choose_spec ⟨_,Z⟩) (λ_ _=>rfl)) (zp zr (qac (pv 0) Z) (qb4 (v:=.int 364) Z T.fV.choose_spec ⟨_,Z⟩) (λ_ _=>rfl))))
   (qj (qo (qv qah (qv qbr (pv 1) (zp zr (qac (pv 0) Z) (qb4 (v:=.int 364) Z T.fV.choose_spec ⟨_,Z⟩) (λ_ _=>rfl))) (qv qbr (zc (qi4 T) (g.mono Ud) Z T.gG.mgx T.gG.fn.kp T.gG.bd .nil qad (qd (pv 1) qg qe)) (pv 2)))))),?_⟩
  obtain⟨dx,a1,a2,a3,d,e1,e2,c,b⟩:=l;have f:atI ((cuL bs).map V.int) 371=some (.int (opn bs 371)):=qmk (j:=371) (by rw[Ah,qsg bs (by rw[b];decide)];rfl) rfl;have e:atI ((cuL bs).map V.int) 364=some (.int (opn bs 364)):=qmk (j:=364) (by rw[Ah,qsg bs (by rw[b];decide)];rfl) rfl;refine(nmc Z (flc (d) (T.kO) (qp T.gB Ud) (rfl) (lxo (c) f (nmc Z (flc (d) (T.kO) (qp T.gB Ud) (rfl) (lxo (c) e (iic Z Z ?_)))))));exact(nmc Z (nmc Z (flc (d) (T.kO) (qp T.gB Ud) (rfl) (lxo (c) e (iic Z Z ⟨.inr (opB b),(nmc Z (nmc Z (nmc Z (iic Z Z ⟨.inr (opD b),(iic Z Z k)⟩))))⟩)))))
theorem qi5 (T:Txt K mg a):FnOk P w K mg base CX0 3 a.lW a.tG ["self","many"] (spYw a):=by
 refine T.mF.fn.ok qc5 (λvs H Q E h=>?_) (λcdv A outer s H vs Q E e h=>?_)
 .obtain⟨_,_,_,rfl,_⟩:=h
  all_goals rfl
 .obtain⟨x,bs,m,rfl,j,u,n,k⟩:=h;refine⟨_,(qf (qu (i:=2) qc5.nd Z (Ar Z) (qv qbr (qb4 (v:=.int 17) Z T.mG.choose_spec ⟨_,Z⟩) (qv qa4 (pv 1) (qal (pv 0) T.kO T.dL (qbx T) (e.mono Ud) T.bL.bd .nil qad (qd (qb4 (v:=.int 17) Z T.mG.choose_spec ⟨_,Z⟩) qg qe)))))
   (qf (qh9 A8 (qt qf3 (qal (pv 0) T.kO T.dL (qbx T) (e.mono Ud) T.bL.bd .nil qad (qd (qv qah (pv 2) qi) qg zm)) (pv 1) (qab _)) (qj (qlg (i:=2) qc5.nd Z (Ar Z) qi qr1)))
   (qj (qo (pv 2))))),?_⟩
  have b:=j;obtain⟨dx,a1,a2,a3,o,e1,e2,e3,p⟩:=j;have tb:=pby_17B p n;refine(nmc Z (nmc Z ⟨_,_,_,Z,o,Z,_,_,_,Z,b,(iic Z Z ⟨⟨tb.1,tb.2⟩,(iic Z Z ⟨.inl ⟨Ud,Ud⟩,?_⟩)⟩)⟩));have q0:0<=m / pby bs 17:=Int.ediv_nonneg u (Do tb.1);have g:pby bs (17*(m / pby bs 17))<=m:=by rw[pby_17];exact Int.ediv_mul_le m (Int.ne_of_gt tb.1)
  dsimp only[];have l:0<=17*(m / pby bs 17):=by lia
  generalize 17*(m / pby bs 17)=y0 at g l |-;refine⟨λz σ' H'=>H'=H/\∃y:Int,σ'=[oR x,oI m,oI y]/\z=(m-pby bs y).toNat/\0<=y/\pby bs y<=m,⟨_,Z,y0,Z,Z,l,g⟩,?_⟩;rintro z σ' H' ⟨rfl,y,rfl,rfl,q,t⟩;refine(nmc Z ⟨_,_,_,Z,o,Z,(nmc Z (iic Z Z ⟨_,_,_,Z,b,(nmc Z (iic Z Z (nmc Z (qba (λc=>?_) (λc=>?_)))))⟩))⟩)
  .have d:pby bs (y+1)<=m:=of_decide_eq_true c;have lt:=pby_lt p n y;exact⟨λσ2 f=>f=H'/\σ2=[oR x,oI m,oI (y+1)],λσ2 f ⟨B,r⟩=>⟨(m-pby bs (y+1)).toNat,by lia,B,y+1,r,Z,by lia,d⟩,(nmc Z (iic Z Z ⟨Z,Z⟩))⟩
  .have d:¬pby bs (y+1)<=m:=λz=>c (decide_eq_true z);exact(nmc Z (k y q t (Int.not_le.mp d)))
theorem qko (T:Txt K mg a):FnOk P w K mg base CX0 2 a.rJ a.tK ["year"] (sp1 λy=>.int (fw y)):=by
 refine T.gK.fn.ok qqv (λvs H Q E h=>?_) (λcdv A outer s H vs Q E b h=>?_)
 .obtain⟨_,rfl,_⟩:=h
  all_goals rfl
 .obtain⟨y,rfl,k⟩:=h;refine⟨_,(qj (qo (qv qah (qv qbr qi (pv 0)) (zc (qi4 T) (b.mono Ud) Z T.gG.mgx T.gG.fn.kp T.gG.bd .nil qad (qd (pv 0) qg qe))))),?_⟩;exact(nmc Z (icc Z Z (mulL Ud Ud) (nmc Z (nmc Z (iic Z Z k)))))
theorem qi6 (T:Txt K mg a):FnOk P w K mg base CX0 4 a.hM a.nY ["self","many"] (spPNth a):=by
 refine T.fJ.fn.ok qin (λvs H Q E h=>?_) (λcdv A outer s H vs Q E c h=>?_)
 .obtain⟨_,_,_,rfl,_⟩:=h
  all_goals rfl
 .obtain⟨x,bs,m,rfl,e,o,u,k⟩:=h;refine⟨_,(qf (qu (i:=2) qin.nd Z (Ar Z) (qal (pv 0) T.kO T.yR (qi5 T) (c.mono Ud) T.mF.bd .nil qad (qd (pv 1) qg qe)))
   (qj (qo (qv qah (qv qbr qi (zc (qko T) (c.mono Ud) Z T.gK.mgx T.gK.fn.kp T.gK.bd .nil qad (qd (pv 2) qg qe))) (zp zr (qac (pv 0) Z) (qv qby (pv 1) (qal (pv 0) T.kO T.dL (qbx T) (c.mono Ud) T.bL.bd .nil qad (qd (pv 2) qg qe))) (λ_ _=>rfl)))))),?_⟩
  have b:=e;obtain⟨dx,a1,a2,a3,d,e1,t,e3,v⟩:=e;refine(nmc Z ⟨_,_,_,Z,d,Z,(nmc Z ⟨_,_,_,Z,b,o,u,λy q f l=>?_⟩)⟩);obtain⟨w,r,g,p,n⟩:=pn_day v q f l;exact(nmc Z ⟨_,Z,(iic Z Z ⟨.inl ⟨Ud,Ud⟩,(nmc Z (flc (d) (T.kO) (qp T.gB Ud) (rfl) (nmc Z (nmc Z ⟨_,_,_,Z,d,Z,(nmc Z ⟨_,_,_,Z,b,(iic Z Z (lxo (t) (qmk (j:=(m-pby bs y).toNat) (by rw[Ah,r];rfl) (C3 (Int.sub_nonneg_of_le f)).symm) (iic Z Z (k _ g p n))))⟩)⟩))))⟩)⟩)
theorem qrr (T:Txt K mg a):FnOk P w K mg base CX0 1 a.sZ a.sP ["week"] (sp1 λy=>.int (yo y)):=by
 refine T.gR.fn.ok qxx (λvs H Q E h=>?_) (λcdv A outer s H vs Q E hr h=>?_)
 .obtain⟨_,rfl,_⟩:=h
  all_goals rfl
 .obtain⟨y,rfl,k⟩:=h;refine⟨_,(qj (qo (qv qa4 (qv qah (qv qbr qi (pv 0)) qi) qi))),?_⟩;exact(nmc Z (icc Z Z (mulL Ud Ud) (iic Z Z (icc Z Z ⟨Ud,Ud⟩ k))))
theorem qwb (T:Txt K mg a):FnOk P w K mg base CX0 2 a.mO a.tE ["day"] qv1:=by
 refine T.dJ.fn.ok qvx (λvs H Q E h=>?_) (λcdv A outer s H vs Q E c h=>?_)
 .obtain⟨_,rfl,_⟩:=h
  all_goals rfl
 .obtain⟨n,rfl,b,k⟩:=h;refine⟨_,(qf (zb (qc0 (PW.pt (qcf (zf (zc (qhe T) (c.mono Ud) Z T.kT.mgx T.kT.fn.kp T.kT.bd .nil qad (qd (pv 0) qg qe))) (qbw (qt op_ge (pv 0) qi (qab _)))))) (qj qe9) qae)
   (qj (qo (qv qah (qv qay (pv 0) qi) qi)))),?_⟩
  refine(nmc Z (nmc Z (nmc Z (qdo (nmc Z (iic Z Z (nmc Z (iteNS b ?_))))))));exact(nmc Z (icc Z Z (pos Ud) (iic Z Z k)))
theorem okDateOf (T:Txt K mg a):FnOk P w K mg base CX0 3 a.sY a.pV ["day"] qx5:=by
 refine T.bW.fn.ok qio (λvs H Q E h=>?_) (λcdv A outer s H vs Q E b h=>?_)
 .obtain⟨_,rfl,_⟩:=h
  all_goals rfl
 .obtain⟨n,rfl,c,k⟩:=h;refine⟨_,(qf (qu (i:=1) qio.nd Z (Ar Z) (zc (qwb T) (b.mono Ud) Z T.dJ.mgx T.dJ.fn.kp T.dJ.bd .nil qad (qd (pv 0) qg qe)))
   (qf (qu (i:=2) qio.nd Z (Ar Z) (qv qa4 (pv 0) qi))
   (qf (qu (i:=3) qio.nd Z (Ar Z) (zc (qrr T) (b.mono Ud) Z T.gR.mgx T.gR.fn.kp T.gR.bd .nil qad (qd (pv 2) qg qe)))
   (qj (qo (zj (qd (pv 3) (qd (qv qah (qv qby (pv 2) (zc (qko T) (b.mono Ud) Z T.gK.mgx T.gK.fn.kp T.gK.bd .nil qad (qd (pv 3) qg qe))) qi) (qd (pv 1) qg qe) zm) qe))))))),?_⟩
  exact(nmc Z ⟨_,Z,c,(nmc Z (icc Z Z ⟨Ud,Ud⟩ (nmc Z (nmc Z (nmc Z (nmc Z (nmc Z (nmc Z (iic Z Z (iic Z Z (nmc Z ⟨qkx _ _ _,λp d=>k p d⟩)))))))))))⟩)
theorem qrs (T:Txt K mg a):FnOk P w K mg base CX0 4 a.sT a.xQ ["day"] spDoy:=by
 refine T.bX.fn.ok qkk (λvs H Q E h=>?_) (λcdv A outer s H vs Q E b h=>?_)
 .obtain⟨_,rfl,_⟩:=h
  all_goals rfl
 .obtain⟨n,rfl,c,k⟩:=h;refine⟨_,(qf (qu (i:=1) qkk.nd Z (Ar Z) (zc (okDateOf T) (b.mono Ud) Z T.bW.mgx T.bW.fn.kp T.bW.bd .nil qad (qd (pv 0) qg qe)))
   (qj (qo (qv qby (qv qah (qv qbr qi (qv qby (zp zq (pv 1) qi (λ_ _=>rfl)) qi)) (zp zq (pv 1) qi (λ_ _=>rfl))) qi)))),?_⟩
  refine(nmc Z ⟨_,Z,c,λp f=>?_⟩);have d:=k _ (qx (o:=.tup [V.int (yo (n / 7)),V.int (n / 7-fw (yo (n / 7))+1),V.int (n % 7+1)]) f);refine(nmc Z (txo (qk) Z (iic Z Z (icc Z Z (mulL Ud Ud) (nmc Z (txo (qk) Z (iic Z Z (iic Z Z ?_))))))));have e:7*(n / 7-fw (yo (n / 7))+1-1)+(n % 7+1)-1=doy n:=by unfold doy;lia
  show Q (.int (7*(n / 7-fw (yo (n / 7))+1-1)+(n % 7+1)-1)) _;rw[e];exact d
theorem qdu (T:Txt K mg a):FnOk P w K mg base CX0 5 a.fP a.rT ["self","day"] (spPBef a):=by
 refine T.bY.fn.ok qf4 (λvs H Q E h=>?_) (λcdv A outer s H vs Q E b h=>?_)
 .obtain⟨_,_,_,rfl,_⟩:=h
  all_goals rfl
 .obtain⟨x,bs,n,rfl,f,c,k⟩:=h;refine⟨_,(qf (qu (i:=2) qf4.nd Z (Ar Z) (zc (qrr T) (b.mono Ud) Z T.gR.mgx T.gR.fn.kp T.gR.bd .nil qad (qd (qv qa4 (pv 1) qi) qg zm)))
   (qj (qo (qv qah (qal (pv 0) T.kO T.dL (qbx T) (b.mono Ud) T.bL.bd .nil qad (qd (pv 2) qg qe)) (zp zr (qac (pv 0) Z) (zc (qrs T) (b.mono Ud) Z T.bX.mgx T.bX.fn.kp T.bX.bd .nil qad (qd (pv 1) qg qe)) (λ_ _=>rfl)))))),?_⟩
  have d:=f;obtain⟨dx,a1,a2,a3,g,e1,e2,l,o⟩:=f;obtain⟨e,m⟩:=qx6 c;refine(nmc Z (icc Z Z ⟨Ud,Ud⟩ (nmc Z ?_)));refine(nmc Z ⟨_,_,_,Z,g,Z,(nmc Z ⟨_,_,_,Z,d,(nmc Z (flc (g) (T.kO) (qp T.gB Ud) (rfl) (nmc Z ⟨_,Z,c,λH' s=>?_⟩)))⟩)⟩);exact(lxo (s _ _ l) (qmk (j:=(doy n).toNat) (by rw[Ah,qsg bs (by rw[o];exact BG ((Int.toNat_lt e).mpr m))];rfl) (C3 e).symm) (iic Z Z (k H' s)))
theorem qi7 (T:Txt K mg a):FnOk P w K mg base CX0 6 a.m5 a.pG ["self","row","end"] (spShift a):=by
 refine T.fK.fn.ok qfw (λvs H Q E h=>?_) (λcdv A outer s H vs Q E m h=>?_)
 .obtain⟨_,_,_,_,_,_,_,_,_,rfl,_⟩:=h
  all_goals rfl
 .obtain⟨x,p,q,z,y,dx,bs,r,e,rfl,t,l,o,v,C,k⟩:=h;refine⟨_,(qf (qu (i:=3) qfw.nd Z (Ar Z) (qv qby (qal (qac (pv 0) Z) T.kO T.fU (qdu T) (m.mono Ud) T.bY.bd .nil qad (qd (pv 2) qg qe)) (qal (qac (pv 0) Z) T.kO T.fU (qdu T) (m.mono Ud) T.bY.bd .nil qad (qd (zp zq (pv 1) qi (λ_ _=>rfl)) qg zn))))
   (qf (qu (i:=4) qfw.nd Z (Ar Z) (qco (qt qbt (zp zq (pv 1) qi (λ_ _=>rfl)) zg (qab _)) (qv qby (pv 2) (zp zq (pv 1) qi (λ_ _=>rfl))) qi))
   (qj (qo (qv qby (pv 4) (pv 3)))))),?_⟩
  have f:=l;obtain⟨dp,a1,a2,a3,n,_⟩:=l;refine(nmc Z (flc (t) (T.kI) (qp T.kR Ud) (rfl) ⟨_,_,_,Z,n,Z,(nmc Z ⟨_,_,_,Z,f,C,λH1 d=>?_⟩)⟩));refine(nmc Z (flc (d _ _ t) (T.kI) (qp T.kR Ud) (rfl) ⟨_,_,_,Z,d _ _ n,Z,(nmc Z (txo (d _ _ o) Z ⟨_,_,_,Z,f.same d,v,λu B=>?_⟩))⟩));have g:=d.trans B;have j:=g _ _ o;refine(iic Z Z (nmc Z (txo (j) Z ⟨Z,(nmc Z ?_)⟩)));have b:=k u g;unfold shf at b;by_cases c:r.2.2=Aa "open"
  .rw[if_pos c]at b;exact qcs (congrArg V.str c) (nmc Z (nmc Z (txo (j) Z (iic Z Z (nmc Z (nmc Z (iic Z Z b)))))))
  .rw[if_neg c]at b;exact qbo (λz=>c (V.str.inj z)) (nmc Z (nmc Z (iic Z Z b)))
theorem qcc (T:Txt K mg a):FnOk P w K mg base CX0 7 a.lU a.nZ ["self","day"] (spTBef a):=by
 refine T.gJ.fn.ok qdh (λvs H Q E h=>?_) (λcdv A outer s H vs Q E v h=>?_)
 .obtain⟨_,_,_,_,rfl,_⟩:=h
  all_goals rfl
 .obtain⟨x,bs,rs,n,rfl,R,N,L,F,k⟩:=h;refine⟨_,(qf (qu (i:=2) qdh.nd Z (Ar Z) (zc (qpx T) (v.mono Ud) Z T.gC.mgx T.gC.fn.kp T.gC.bd .nil qad (qd (qac (pv 0) Z) (qd (pv 1) qg qe) qao)))
   (qf (qu (i:=3) qdh.nd Z (Ar Z) (qv qah (qal (qac (pv 0) Z) T.kO T.fU (qdu T) (v.mono Ud) T.bY.bd .nil qad (qd (pv 1) qg qe)) (zp zr (qac (pv 0) Z) (pv 2) (λ_ _=>rfl))))
   (qf (zb (PW.pt (qcf (qt qcx (pv 2) (zd qa5 (by rfl) T.kP qa6 (qd (qac (pv 0) Z) qg qao)) (qab _)) (qbw (qt qcx (zp zq (zp zr (qac (pv 0) Z) (pv 2) (λ_ _=>rfl)) qi (λ_ _=>rfl)) (pv 1) (qab _))))) (qj (qlg (i:=3) qdh.nd Z (Ar Z) (qal (pv 0) T.kI T.pE (qi7 T) (v.mono Ud) T.fK.bd .nil qad (qd (zp zr (qac (pv 0) Z) (pv 2) (λ_ _=>rfl)) (qd (pv 1) qg qe) zn)) qr1)) qae)
   (qj (qo (pv 3)))))),?_⟩
  obtain⟨dx,p,q,z,c,u,⟨us,j,l⟩,hz⟩:=R;have g:=qhv N;have I:=At.len l;have y:=qo2 (ends rs) n;rw[Ab]at y;refine(nmc Z (flc (c) (T.kI) (qp T.kR Ud) (rfl) (nmc Z ⟨_,_,_,_,_,Z,j,l,λi e h=>qmj h,by rw[Ab,Ab],qts g,?_⟩)));have d:=u;obtain⟨dp,a1,a2,a3,M,_⟩:=u;refine(nmc Z (flc (c) (T.kI) (qp T.kR Ud) (rfl) ⟨_,_,_,Z,M,Z,(nmc Z ⟨_,_,_,Z,d,F,λC f=>?_⟩)⟩));have c:=f _ _ c;have j:=f _ _ j;have l:=l.same f;have hz:=f _ _ hz;have d:=d.same f;refine(nmc Z (flc (c) (T.kI) (qp T.kR Ud) (rfl) (nmc Z (lxo (hz) (qa0 (by rw[Ah,qx7 bs rs y];rfl)) (iic Z Z ?_)))));refine(nmc Z (nmc Z (flc (c) (T.kI) (qp T.kR Ud) (rfl) ⟨_,_,Z,.inl ⟨_,SqL.of j,Z⟩,(iic Z Z (nmc Z ?_))⟩)));by_cases t:cnt (ends rs) n<rs.length
  .obtain⟨r,hr'⟩:∃r,rs[cnt (ends rs) n]?=some r:=⟨_,Ae t⟩;obtain⟨b,G,D⟩:=At.row l hr';refine qcs (lenI I t) (nmc Z (flc (c) (T.kI) (qp T.kR Ud) (rfl) (nmc Z (lxo (j) (qa0 G) (txo (D) Z (nmc Z (iic Z Z (nmc Z ?_))))))));by_cases o:r.1<n
   .refine qcs o (nmc Z (nmc Z ⟨_,_,_,Z,c,Z,(nmc Z (flc (c) (T.kI) (qp T.kR Ud) (rfl) (nmc Z (lxo (j) (qa0 G) (nmc Z ⟨_,_,_,_,_,_,_,_,_,Z,c,d,D,L r (A4 hr'),F,λJ O=>(iic Z Z (nmc Z ?_))⟩)))))⟩));have B:=k J (f.trans O);rw[<- tb_some g hr' o]at B;exact B
   .have m:=k C f;rw[<- tb_late g hr' o]at m;exact qbo o (nmc Z m)
  .have m:=k C f;rw[<- tb_none g (AR (DP.mp t))]at m;exact qbo (λz=>t (DJ.mp (I ▸ z))) (qbs (nmc Z m))
theorem qm1 (T:Txt K mg a):FnOk P w K mg base CX0 8 a.lV a.mC ["self","many"] (spTNth a):=by
 refine T.hZ.fn.ok qfx (λvs H Q E h=>?_) (λcdv A outer s H vs Q E L h=>?_)
 .obtain⟨_,_,_,_,rfl,_⟩:=h
  all_goals rfl
 .obtain⟨x,bs,rs,m,rfl,hx,g,B,hw,ho,h0,k⟩:=h;refine⟨_,(qf (qa8 A8 Z (qk6 Z T.bP (qd (qac (pv 0) Z) qg qao)) (qd5 Z (qam (qaf (i:=2) qfx.nd Z (Ar Z)) (qam (qaf (i:=3) qfx.nd Z (Ar Z)) qc1))) (qf (qu (i:=4) qfx.nd Z (Ar Z) (qal (pv 0) T.kI T.gS (qcc T) (L.mono Ud) T.gJ.bd .nil qad (qd (zp zq (pv 3) qi (λ_ _=>rfl)) qg zn)))
   (qf (zb (qt qcx (pv 1) (pv 4) (qab _)) (qj (qo (qal (qac (pv 0) Z) T.kO T.rK (qi6 T) (L.mono Ud) T.fJ.bd .nil qad (qd (qv qby (pv 1) (zp zr (qac (pv 0) Z) (pv 2) (λ_ _=>rfl))) qg zm)))) qae)
   (qj (zb (qt qcx (pv 1) (qal (pv 0) T.kI T.gS (qcc T) (L.mono Ud) T.gJ.bd .nil qad (qd (qv qah (zp zq (pv 3) qi (λ_ _=>rfl)) qi) qg zm)) (qab _)) (qj (qo (qv qby (qv qah (zp zq (pv 3) qi (λ_ _=>rfl)) (pv 1)) (pv 4)))) qae)))))
   (qj (qo (qal (qac (pv 0) Z) T.kO T.rK (qi6 T) (L.mono Ud) T.fJ.bd .nil qad (qd (qv qby (pv 1) (zp zr (qac (pv 0) Z) (qfa qda qi) (λ_ _=>rfl))) qg zm))))),?_⟩
  have R:=hx;obtain⟨dx,p,q,z,v,U,⟨us,hq,hu⟩,hz⟩:=hx;have ad:=qhv g;have lu:=At.len hu;have D:=U;obtain⟨dp,a1,a2,a3,p1,_,_,_,X⟩:=U;have C:=qyd X g hw;refine(nmc Z (flc (v) (T.kI) (qp T.kR Ud) (rfl) ⟨_,_,Z,hq,qig (K:=K) (a:=q) (xs:=us) (λi σ H'=>Same H H'/\qbe bs rs (lo rs i)<=m/\∃v2 v3 v4:Option V,σ=[oR x,oI m,v2,v3,v4]) ⟨Same.refl H,by rw[show lo rs 0=0 from Z,qpi B g.ok];exact h0,none,none,none,Z⟩ (λi σ H' _ h=>SqL.of (h.1 _ _ hq)) ?_ ?_⟩))
  .rintro i y t σ H' hy ⟨j,N,v2,v3,v4,rfl⟩ hn;obtain⟨b,t1,rfl,g1,W⟩:=hu.get' hy;obtain⟨r,n,rfl⟩:=qk8 g1;have hi:i<rs.length:=(Ac.mp n).1;have M:=B r (A4 n);have rk:=g.ok r (A4 n);have G:=j.trans (qx (o:=.tup [V.int (i:Int),V.ref b]) hn);refine⟨_,_,Z,SqT.of qk,Z,_,_,Z,_,_,Z,Z,?_⟩;generalize upd H' t _=H1 at G |-;refine(nmc Z ⟨_,_,_,Z,G _ _ v,Z,(nmc Z (txo (G _ _ W) Z ⟨_,_,_,_,Z,R.same G,g,B,M,λH2 z2=>?_⟩))⟩);have f:=G.trans z2;refine(nmc Z (nmc Z (iic Z Z (nmc Z (qba (λc=>?_) (λc=>?_))))))
   .have c':m<qbe bs rs r.1:=of_decide_eq_true c;obtain⟨F,l⟩:=qua X g B (BG hi) N λs O=>Bf c' (C.le M (qv6 ad n s O));exact(nmc Z (flc ((f _ _ v)) (T.kI) (qp T.kR Ud) (rfl) ⟨_,_,_,Z,f _ _ p1,Z,(nmc Z (nmc Z (flc ((f _ _ v)) (T.kI) (qp T.kR Ud) (rfl) (nmc Z (lxo (f _ _ hz) (qa0 (by rw[Ah,qx7 bs rs (BG hi)];rfl)) (iic Z Z ⟨_,_,_,Z,D.same f,F,ho,λd u I J=>k d H2 f u (l d u I J).1 (l d u I J).2⟩))))))⟩))
   .have c':qbe bs rs r.1<=m:=BC.mp λz=>c (decide_eq_true z);refine(nmc Z (nmc Z ⟨_,_,_,Z,f _ _ v,Z,(nmc Z (txo (f _ _ W) Z (iic Z Z ⟨_,_,_,_,Z,R.same f,g,B,En (Bp M rk),λH3 z3=>?_⟩)))⟩));have Y:=f.trans z3;refine(iic Z Z (nmc Z (qba (λe=>?_) (λe=>?_))))
    .obtain⟨F,l,u2⟩:=row_use g n (hw r (A4 n)) c' (of_decide_eq_true e);exact(nmc Z (txo (Y _ _ W) Z (nmc Z (iic Z Z (nmc Z (iic Z Z (k _ H3 Y (Bp M F) l u2)))))))
    .exact⟨Y,by rw[qt9 n];exact BC.mp λz=>e (decide_eq_true z),_,_,_,Z⟩
  .rintro σ H' ⟨j,N,v2,v3,v4,rfl⟩;rw[lu]at N;obtain⟨F,l⟩:=qua X g B (Al _) N λs O=>by rw[List.drop_length]at O;cases O
   have el:(shL bs rs).map V.int=((Aq rs.length).map λk=>V.int ((rs.take k).map λr=>shf bs r (r.2.1+1)).sum)++[V.int ((rs.take rs.length).map λr=>shf bs r (r.2.1+1)).sum]:=by unfold shL;rw[Bv,Ax,Ax,Cf];rfl
   have S:=j _ _ hz;rw[el]at S;exact(nmc Z (flc ((j _ _ v)) (T.kI) (qp T.kR Ud) (rfl) ⟨_,_,_,Z,j _ _ p1,Z,(nmc Z (nmc Z (flc ((j _ _ v)) (T.kI) (qp T.kR Ud) (rfl) (nmc Z (lxo (S) (qd7 _ _) (iic Z Z ⟨_,_,_,Z,D.same j,F,ho,λd u I J=>k d H' j u (l d u I J).1 (l d u I J).2⟩))))))⟩))
theorem qj9 (T:Txt K mg a):FnOk P w K mg base CX0 9 a.bJ a.fN ["self","first","many"] (qmn a):=by
 refine T.xM.fn.ok qjv (λvs H Q E h=>?_) (λcdv A outer s H vs Q E c h=>?_)
 .obtain⟨_,_,_,_,_,rfl,_⟩:=h
  all_goals rfl
 .obtain⟨x,bs,rs,f,m,rfl,⟨dx,tb,i,b⟩,ok,g,h1,k⟩:=h;refine⟨_,(qj (qo (qal (qac (pv 0) Z) T.kI T.tV (qm1 T) (c.mono Ud) T.hZ.bd .nil qad (qd (qv qby (qv qah (qal (qac (pv 0) Z) T.kI T.gS (qcc T) (c.mono Ud) T.gJ.bd .nil qad (qd (pv 1) qg qe)) (pv 2)) qi) qg zm)))),?_⟩;obtain⟨_,_,_,_,e⟩:=b.ins;have p:=(qyd ok.hl ok.ap ok.wd).le (n:=0) (m:=f) (Bb _) g;rw[qpi ok.nn ok.ap.ok]at p;refine(nmc Z (flc (i) (T.gD) (qp T.gY Ud) (rfl) ⟨_,_,_,Z,e,Z,(nmc Z (flc (i) (T.gD) (qp T.gY Ud) (rfl) ⟨_,_,_,Z,e,Z,(nmc Z ⟨_,_,_,_,Z,b,ok.ap,ok.nn,g,λH1 j=>(nmc Z (iic Z Z (iic Z Z ⟨_,_,_,_,Z,b.same j,ok.ap,ok.nn,ok.wd,ok.op,by lia,λd o r t l q=>k d o (j.trans r) t l q⟩)))⟩)⟩))⟩))
theorem qdx (T:Txt K mg a):FnOk P w K mg base CX0 1 a.gP a.bN ["self","first","last"] (qe6 λf l=>.int (if l-f+1 > 0 then l-f+1 else 0)):=by
 refine T.lL.fn.ok qhh (λvs H Q E h=>?_) (λcdv A outer s H vs Q E hr h=>?_)
 .obtain⟨_,_,_,rfl,_⟩:=h
  all_goals rfl
 .obtain⟨x,u,v,rfl,k⟩:=h;refine⟨_,(qj (qo (zd (qjc Z) (by rfl) T.hX qma (qd qi (qd (qv qah (qv qby (pv 2) (pv 1)) qi) qg zm) ql)))),?_⟩;exact(nmc Z (nmc Z (iic Z Z (iic Z Z ⟨_,_,Z,k⟩))))
theorem qg1 (T:Txt K mg a):FnOk P w K mg base CX0 8 a.bD a.fY ["self","first","last"] (qyf a):=by
 refine T.mE.fn.ok qgo (λvs H Q E h=>?_) (λcdv A outer s H vs Q E g h=>?_)
 .obtain⟨_,_,_,_,_,rfl,_⟩:=h
  all_goals rfl
 .obtain⟨x,bs,rs,f,l,rfl,⟨dx,tb,j,e⟩,ok,n,k⟩:=h;refine⟨_,(qf (zb (qt qcx (pv 2) (pv 1) (qab _)) (qj (qo qi)) qae)
   (qj (qo (qv qby (qal (qac (pv 0) Z) T.kI T.gS (qcc T) (g.mono Ud) T.gJ.bd .nil qad (qd (qv qah (pv 2) qi) qg zm)) (qal (qac (pv 0) Z) T.kI T.gS (qcc T) (g.mono Ud) T.gJ.bd .nil qad (qd (pv 1) qg qe)))))),?_⟩
  obtain⟨_,_,_,_,i⟩:=e.ins;refine(nmc Z (nmc Z (iic Z Z (nmc Z (qba (λc=>?_) (λc=>?_))))))
  .have b:=k H (Same.refl H);rw[if_pos (of_decide_eq_true c)]at b;exact b
  .have p:¬l<f:=λz=>c (decide_eq_true z);refine(nmc Z (flc (j) (T.gD) (qp T.gY Ud) (rfl) ⟨_,_,_,Z,i,Z,(nmc Z (iic Z Z ⟨_,_,_,_,Z,e,ok.ap,ok.nn,by lia,λH1 d=>(nmc Z (flc ((d _ _ j)) (T.gD) (qp T.gY Ud) (rfl) ⟨_,_,_,Z,d _ _ i,Z,(nmc Z ⟨_,_,_,_,Z,e.same d,ok.ap,ok.nn,n,λm o=>(iic Z Z ?_)⟩)⟩))⟩))⟩));have b:=k m (d.trans o);rw[if_neg p]at b;exact b
theorem qwc (T:Txt K mg a):FnOk P w K mg base CX0 10 a.nE a.nL ["kind","start","units","pauses"] (spFullD a):=by
 refine T.dH.fn.ok qcy (λvs H Q E h=>?_) (λcdv A outer s H vs Q E n h=>?_)
 .obtain⟨_,_,_,_,_,_,_,_,rfl,_⟩:=h
  all_goals rfl
 .obtain⟨x,pq,i,st,u,bs,rs,ps,rfl,G,tok,hq,ok,y,u1,k⟩:=h;refine⟨_,(qf (qu (i:=4) qcy.nd Z (Ar Z) (qlx (ι:=Three) (C:=(qcq a.kN a.kQ a.kM)) (f:=(qcq a.gI a.bI a.gI)) (fd:=(qcq a.dR a.m4 a.dR)) (ps:=(qcq (["self","units"]:List Str) (["self","units"]:List Str) (["self","units"]:List Str))) (sp:=(qcq (qgt λu=>.int u) (qgt λu=>.int (7*u)) (qgt λu=>.int u))) (k:=(qcq 1 1 1)) (pv 0) (qf7 T.bH T.bK T.gD) (qf7 T.zF T.yM T.zN) (qf7 (qex T) (qm0 T) (qex T)) (qf7 (n.mono Ud) (n.mono Ud) (n.mono Ud)) (qf7 T.lP.bd T.sG.bd T.lP.bd) .nil qad (qd (pv 2) qg qe)))
   (qf (qu (i:=5) qcy.nd Z (Ar Z) (qv qah (pv 1) qi))
   (qf (qa8 A8 Z (qbf (pv 3)) (qd5 Z (qam (qaf (i:=6) qcy.nd Z (Ar Z)) (qam (qaf (i:=7) qcy.nd Z (Ar Z)) qc1))) (qf (qu (i:=8) qcy.nd Z (Ar Z) (qlx (ι:=Three) (C:=(qcq a.kN a.kQ a.kM)) (f:=(qcq a.gP a.gP a.bD)) (fd:=(qcq a.bN a.bN a.fY)) (ps:=(qcq (["self","first","last"]:List Str) (["self","first","last"]:List Str) (["self","first","last"]:List Str))) (sp:=(qcq (qe6 λf l=>.int (if l-f+1 > 0 then l-f+1 else 0)) (qe6 λf l=>.int (if l-f+1 > 0 then l-f+1 else 0)) (qyf a))) (k:=(qcq 1 1 8)) (pv 0) (qf7 T.bH T.bK T.gD) (qf7 T.yQ T.zV T.yA) (qf7 (qdx T) (qdx T) (qg1 T)) (qf7 (n.mono Ud) (n.mono Ud) (n.mono Ud)) (qf7 T.lL.bd T.lL.bd T.mE.bd) .nil qad (qd (pv 5) (qd (qv qby (pv 6) qi) qg zm) qe)))
   (qf (zb (qt op_ge (pv 8) (pv 4) (qab _)) (qj qp5) qae)
   (qf (zb (qt qbz (pv 7) qap (qab _)) (qj (qo qap)) qae)
   (qf (qlg (i:=4) qcy.nd Z (Ar Z) (pv 8) ip_sub)
   (qj (qu (i:=5) qcy.nd Z (Ar Z) (zd (qjc Z) (by rfl) T.hX qma (qd (pv 5) (qd (qv qah (pv 7) qi) qg zm) qe)))))))))
   (qj (qo (qlx (ι:=Three) (C:=(qcq a.kN a.kQ a.kM)) (f:=(qcq a.gM a.gM a.bJ)) (fd:=(qcq a.dG a.dG a.fN)) (ps:=(qcq (["self","first","many"]:List Str) (["self","first","many"]:List Str) (["self","first","many"]:List Str))) (sp:=(qcq (qe6 λf m=>.int (f+m-1)) (qe6 λf m=>.int (f+m-1)) (qmn a))) (k:=(qcq 1 1 9)) (pv 0) (qf7 T.bH T.bK T.gD) (qf7 T.yN T.zU T.z9) (qf7 (qf5 T) (qf5 T) (qj9 T)) (qf7 (n.mono Ud) (n.mono Ud) (n.mono Ud)) (qf7 T.lI.bd T.lI.bd T.xM.bd) .nil qad (qd (pv 5) (qd (pv 4) qg qe) qe))))))),?_⟩
  obtain⟨D,tb,I,ht⟩:=id G;obtain⟨us,J,ty⟩:=hq;have B:=kcnt tok i;have m1:=qq9 u1 i;have lu:us.length=ps.length:=by rw[ty.length,Ab]
  refine(nmc Z ⟨i,x,D,_,Z,I,Z,(nmc Z (kfor (nmc Z (iic Z Z (nmc Z ?_)))))⟩);refine⟨_,Z,⟨_,SqL.of J⟩,qbm (K:=K) (a:=pq) (xs:=us) (λj σ H'=>Same H H'/\∃(b L:Int)(U v7 S:Option V),σ=[oR x,oI st,oI u,oR pq,oI L,oI b,U,v7,S]/\Go (kf bs rs i) ps st (qcq u (7*u) u i) j b L)
   ⟨Same.refl H,_,_,none,none,none,Z,go_zero m1⟩ (λj σ H' _ h=>SqL.of (h.1 _ _ J)) ?_ ?_⟩
  .rintro j v σ H' ad ⟨p,b,L,U,v7,S,rfl,q⟩;obtain⟨c,t,rfl,h1,O⟩:=ty.get' ad;obtain⟨⟨F,o⟩,X,rfl⟩:=qq8 h1;have O:=p _ _ O;have hb:=q.hb;refine⟨_,_,Z,SqT.of O,Z,_,_,Z,_,_,Z,Z,?_⟩;refine(nmc Z ⟨i,x,D,_,Z,p _ _ I,Z,(nmc Z (nmc Z (iic Z Z (kin (G.same p) tok (by lia) λH2 s2=>?_))))⟩);have r:=p.trans s2;refine(nmc Z (nmc Z (iic Z Z (nmc Z (qba (λc=>?_) (λc=>?_))))))
   .have g:=go_fin B y ok q X (of_decide_eq_true c);exact(nmc Z ⟨i,x,D,_,Z,r _ _ I,Z,(nmc Z (nmc Z (qyh (G.same r) tok (by have:=g.hb;lia) g.hL λd W N Y M R=>k W (some d) (r.trans N) (qq6 B y g Y M R))))⟩)
   .have c':cin (kb bs rs i) b (F-1)<L:=Int.not_le.mp λz=>c (decide_eq_true z);cases o with|none=>exact(nmc Z ⟨Z,(nmc Z (qcs Z (k _ none r (go_none B y ok q X c'))))⟩)|some e=>exact(nmc Z ⟨Z,(nmc Z (qbo (λz=>nomatch z) (nmc Z (nmc Z (iic Z Z (nmc Z (nmc Z (iic Z Z ⟨_,_,Z,r,_,_,_,_,_,Z,go_next B y ok q X c'⟩))))))))⟩)
  .rintro σ H' ⟨p,b,L,U,v7,S,rfl,q⟩;rw[lu]at q;have g:=go_end (f:=kb bs rs i) q;exact(nmc Z ⟨i,x,D,_,Z,p _ _ I,Z,(nmc Z (nmc Z (qyh (G.same p) tok (by have:=g.hb;lia) g.hL λd W N Y M R=>k W (some d) (p.trans N) (qq6 B y g Y M R))))⟩)
theorem qf6 (T:Txt K mg a):FnOk P w K mg base CX0 9 a.lK a.mL ["self","day"] (spTNext a):=by
 refine T.fT.fn.ok qkv (λvs H Q E h=>?_) (λcdv A outer s H vs Q E i h=>?_)
 .obtain⟨_,_,_,_,rfl,_⟩:=h
  all_goals rfl
 .obtain⟨x,bs,rs,n,rfl,r,e,f,o,F,j,k⟩:=h;refine⟨_,(qj (qo (qal (pv 0) T.kI T.tV (qm1 T) (i.mono Ud) T.hZ.bd .nil qad (qd (qal (pv 0) T.kI T.gS (qcc T) (i.mono Ud) T.gJ.bd .nil qad (qd (pv 1) qg qe)) qg zl)))),?_⟩;have c:=r;obtain⟨dx,p,q,z,g,_⟩:=r;refine(nmc Z ⟨_,_,_,Z,g,Z,(nmc Z ⟨_,_,_,Z,g,Z,(nmc Z ⟨_,_,_,_,Z,c,e,f,j,λH1 t=>?_⟩)⟩)⟩);obtain⟨dp,a1,a2,a3,p1,p2,p3,p4,hl⟩:∃dp a1 a2 a3,H p=some (.ins a.kH dp (pfs a1 a2 a3))/\H a1=some (.lst (bs.map V.bl))/\H a2=some (.lst ((odL bs).map V.int))/\H a3=some (.lst ((cuL bs).map V.int))/\bs.length=371:=by obtain⟨_,p',_,_,b,v,_⟩:=c;rw[g]at b;injection b with b;injection b with _ _ b;injection b with b _;injection b with _ b;injection b with b;subst b;exact v
  have l:=(qyd hl e o).le (n:=0) (m:=n) (Bb _) j;rw[qpi f e.ok]at l;exact⟨_,_,_,_,Z,c.same t,e,f,o,F,l,λd y C D u B=>k d y (t.trans C) D u B⟩
theorem qta (T:Txt K mg a):FnOk P w K mg base CX0 10 a.rG a.sM ["table","day","pauses"] (spFDue a):=by
 refine T.fC.fn.ok qej (λvs H Q E h=>?_) (λcdv A outer s H vs Q E B h=>?_)
 .obtain⟨_,_,_,_,_,_,rfl,_⟩:=h
  all_goals rfl
 .obtain⟨tb,I,d,bs,rs,ps,rfl,y,tok,O,ok,x,k⟩:=h;refine⟨_,(qf (qu (i:=3) qej.nd Z (Ar Z) (qal (pv 0) T.kI T.xR (qf6 T) (B.mono Ud) T.fT.bd .nil qad (qd (pv 1) qg qe)))
   (qf (qa8 A8 Z (qbf (pv 2)) (qd5 Z (qam (qaf (i:=4) qej.nd Z (Ar Z)) (qam (qaf (i:=5) qej.nd Z (Ar Z)) qc1))) (qf (zb (qt qcx (pv 3) (pv 4) (qab _)) (qj qp5) qae)
   (qf (zb (qt qbz (pv 5) qap (qab _)) (qj (qo qap)) qae)
   (qj (zb (qt qf3 (pv 3) (pv 5) (qab _)) (qj (qu (i:=3) qej.nd Z (Ar Z) (qal (pv 0) T.kI T.xR (qf6 T) (B.mono Ud) T.fT.bd .nil qad (qd (qv qah (pv 5) qi) qg zm)))) qae)))))
   (qj (qo (pv 3))))),?_⟩
  obtain⟨_,_,_,_,C⟩:=y.ins;obtain⟨us,G,ty⟩:=O;have J:=qyd tok.hl tok.ap tok.wd;have N:us.length=ps.length:=by rw[ty.length,Ab]
  refine(nmc Z ⟨_,_,_,Z,C,Z,(nmc Z ⟨_,_,_,_,Z,y,tok.ap,tok.nn,tok.wd,tok.op,x,λt H1 b m n p=>?_⟩)⟩);refine(nmc Z ⟨_,Z,⟨_,SqL.of (b _ _ G)⟩,qbm (K:=K) (a:=I) (xs:=us) (λj σ H'=>Same H H'/\∃(t:Int)(r q:Option V),σ=[oR tb,oI d,oR I,oI t,r,q]/\Gd (tfr bs rs) ps d j t)
   ⟨b,t,none,none,Z,gd_zero J x m n p⟩ (λj σ H' _ h=>SqL.of (h.1 _ _ G)) ?_ ?_⟩)
  .clear m n p;rintro j v σ H' D ⟨b,t,r,q,rfl,f⟩;obtain⟨c,t,rfl,R,u⟩:=ty.get' D;obtain⟨⟨F,o⟩,l,rfl⟩:=qq8 R;have u:=b _ _ u;have hf:=f.hf;refine⟨_,_,Z,SqT.of u,Z,_,_,Z,_,_,Z,Z,?_⟩;refine(nmc Z (nmc Z (iic Z Z (nmc Z (qba (λc=>?_) (λc=>?_))))))
   .exact(nmc Z (k _ (some _) b (gd_not ok f l (of_decide_eq_true c))))
   .have L:F<=_:=BC.mp λz=>c (decide_eq_true z);cases o with
    |none=>exact(nmc Z ⟨Z,(nmc Z (qcs Z (k _ none b (gd_none f l L))))⟩)
    |some e =>
     have e0:=(ok.ok _ (A4 l)).2 e rfl;refine(nmc Z ⟨Z,(nmc Z (qbo (λz=>nomatch z) (nmc Z (nmc Z (iic Z Z (nmc Z (qba (λg=>?_) (λg=>?_))))))))⟩)
     .have g:=of_decide_eq_true g;exact(nmc Z ⟨_,_,_,Z,b _ _ C,Z,(nmc Z (iic Z Z ⟨_,_,_,_,Z,y.same b,tok.ap,tok.nn,tok.wd,tok.op,by lia,λt' H2 M m n p=>⟨b.trans M,_,_,_,Z,gd_leap J x f l L g m n p⟩⟩))⟩)
     .exact⟨b,_,_,_,Z,gd_over f l (Int.not_le.mp λz=>g (decide_eq_true z))⟩
  .rintro σ H' ⟨b,t,r,q,rfl,f⟩;rw[N]at f;exact(nmc Z (k _ (some t) b (gd_end f)))
theorem qhf (T:Txt K mg a):FnOk P w K mg base CX0 11 a.xG a.rH ["kind","start","units","pauses"] (spLastD a):=by
 refine T.kX.fn.ok qoh (λvs H Q E h=>?_) (λcdv A outer s H vs Q E d h=>?_)
 .obtain⟨_,_,_,_,_,_,_,_,rfl,_⟩:=h
  all_goals rfl
 .obtain⟨x,g,i,st,u,bs,rs,ps,rfl,e,tok,j,ok,n,v,k⟩:=h;refine⟨_,(qf (qu (i:=4) qoh.nd Z (Ar Z) (zc (qwc T) (d.mono Ud) Z T.dH.mgx T.dH.fn.kp T.dH.bd .nil qad (qd (pv 0) (qd (pv 1) (qd (pv 2) (qd (pv 3) qg qe) qe) qe) qe)))
   (qf (zb (qt qbz (pv 4) qap (qab _)) (qj (qo qap)) qae)
   (qj (qo (zc (qta T) (d.mono Ud) Z T.fC.mgx T.fC.fn.kp T.fC.bd .nil qad (qd (qac (pv 0) Z) (qd (pv 4) (qd (pv 3) qg qe) qe) qao)))))),?_⟩
  obtain⟨dx,tb,q,t⟩:=id e;refine(nmc Z (nmc Z (nmc Z (nmc Z ⟨x,g,i,st,u,bs,rs,ps,Z,e,tok,j,ok,n,v,λH1 m c b=>?_⟩))));cases m with|none=>exact(nmc Z ⟨Z,(nmc Z (qcs Z (k _ none c (.inl ⟨b,Z⟩))))⟩)|some f =>have f0:=b.1;exact(nmc Z ⟨Z,(nmc Z (qbo (λz=>nomatch z) (nmc Z ⟨_,_,_,_,_,Z,c _ _ q,qf7 (p:=λi=>Cls K (kC a i)) T.bH T.bK T.gD i,qf7 (p:=λi=>NoAttr K (kC a i) (Aa "table")) (qp T.pY Ud) (qp T.mQ Ud) (qp T.gY Ud) i,Z,(nmc Z (nmc Z ⟨tb,g,f,bs,rs,ps,Z,t.same c,tok,j.same c,ok,by lia,λH2 r o l=>k _ r (c.trans o) (.inr ⟨f,b,l⟩)⟩))⟩)))⟩)
theorem qwd (T:Txt K mg a){cL m:Addr}(hcl:a.bG.code=.ref cL)(LF:Lam.LamF mg base cL m):FnOk P w K mg base CX0 4 a.nN a.bG ["acts"] (spIo m):=by
 refine Lam.okT T.dI.fn hcl qvy (λvs H Q E h=>?_) (λcdv ad A outer s H vs Q E hr h=>?_)
 .obtain⟨_,_,_,rfl,_⟩:=h
  all_goals rfl
 .obtain⟨p,us,d,rfl,hp,R,hl,hL,k⟩:=h;refine⟨_,(qj (qo (Lam.pe_sortLamT (N:=["act"]) (js:=[none]) (XN:=["acts"]) (xs:=qaa qdl) Z (hr.mono Ud) (by rfl) T.rX (qd (pv 0) qg qe) LF ad Z Z Uk Z Z Uk Z Z Z (λ_ _ _ _ _=>rfl) (λ_ _ _ _ _ _=>(zj (qd (zp (qk4 (K:=K) Z) (pv 0) qi (λ_ _=>rfl)) (qd (zp (qk4 (K:=K) Z) (pv 0) qi (λ_ _=>rfl)) qg zn) zn)))))),?_⟩;have U:=R.length;rw[Ab]at U;refine(nmc Z ⟨p,us,Z,SqL.of hp,by lia,hL,λX c' kp G M F D=>?_⟩);obtain⟨ps,L⟩:=hL.tbl;have af:Tups X us (d.map qdy):=qce R λb t e=>kp b _ (λz=>by rw[z,L]at e;cases e) e;have nkP:F≠m:=λz=>by rw[z,G]at D;cases D
  refine⟨λi H'=>Same X H'/\∃y,H' F=some (.lst y)/\Tups H' y ((d.take i).map λt=>Lam.encK (qc8 t)),⟨qx D,[],qk,.nil⟩,λi x H' hx W=>?_,λH' W=>?_⟩
  .obtain⟨f,y,v,l⟩:=W;have I:i<d.length:=by have:=(Ac.mp hx).1;lia
   obtain⟨b,eb,qb⟩:=af.get (i:=i) (r:=qdy d[i]) (by rw[Ah,Ae I];rfl);rw[hx]at eb;cases eb;have e3:=f _ _ qb;refine⟨f _ _ M,(nmc Z (txo (e3) Z (nmc Z (txo (e3) Z ⟨qkw _ _,λt S=>?_⟩))))⟩;obtain⟨st,et⟩:=alc (o:=.tup [V.int d[i].2.2,V.str d[i].1]) S;have lk:=l.length;rw[Ab,Bj]at lk;refine⟨y,st _ _ v,qb2 (by lia),?_,_,qk,?_⟩
   .exact λb o e=>by rw[qr (qag e D)];exact st _ _ (f _ _ e)
   .rw[B8,Ae I,Ax];refine qj6 (qce l λc u e=>?_) ?_
    .rw[qr (λz=>by rw[z,v]at e;cases e)];exact st _ _ e
    .rw[qr (λz=>by rw[z,v]at S;cases S)];exact et
  .obtain⟨f,y,v,l⟩:=W;rw[U,Bz]at l;refine⟨y,d.map qc8,v,by rw[Cf];exact l,by rw[Ab];lia,λB q pp pw g=>?_⟩;have C:∀j∈B,j<d.length:=λj Y=>by have:=AV.mp (pp.mem_iff.mp Y);lia
   have nqk:q≠F:=λz=>by rw[z,v]at g;cases g
   have s3:Same X (upd (upd H' F (.lst [])) q (.lst (B.map λi=>us.getD i V.non))):=λb o e=>by rw[qr (qag (f _ _ e) g),qr (qag e D)];exact f _ _ e
   have O:∀b t,H b=some (.tup t)->b≠m:=λb t e z=>by rw[z,L]at e;cases e
   have J:SameBut m H (upd (upd H' F (.lst [])) q (.lst (B.map λi=>us.getD i V.non))):=λb o n e=>s3 _ _ (kp b o n e);have ae:H q=none:=by
    by_cases z:q=m
    .rw[z]at g;rw[f _ _ G]at g;cases g
    .cases e:H q with
     |none=>rfl
     |some o=>rw[f _ _ (kp q o z e)]at g;cases g
   refine k q _ _ (B.map λi=>d.getD i dA) ae J (Lam.LamAt.same (.inr ⟨c',G,M⟩) s3) ?_ ?_ qk ?_
   .have:=pp.map λi=>d.getD i dA;rw[U,qsf]at this;exact this
   .rw[Cq]at pw |-;refine pw.imp_of_mem λ{i j} I Y h=>?_;have ei:(d.map qc8).getD i Lam.kDf=qc8 (d.getD i dA):=by simp[C i I]
    have ej:(d.map qc8).getD j Lam.kDf=qc8 (d.getD j dA):=by simp[C j Y]
    rw[ei,ej]at h;exact h
   .exact qmw (qce R λb t e=>J b _ (O b t e) e) B C
theorem qnr (T:Txt K mg a):FnOk P w K mg base CX0 1 a.hU a.sL ["self"] (spBHang a):=by
 refine T.pA.fn.ok qnj (λvs H Q E h=>?_) (λcdv A outer s H vs Q E hr h=>?_)
 .obtain⟨_,_,_,_,rfl,_⟩:=h
  all_goals rfl
 .obtain⟨x,nms,ord,us,rfl,c,k⟩:=h;refine⟨_,(qj (qo (qdz qfl (by rfl) T.gZ qd0 (qd (qac (pv 0) Z) qg qao)))),?_⟩;obtain⟨dx,po,pd,kvs,d,b,h3,h4,h5⟩:=c;exact(nmc Z (flc (d) (T.gF) (qp T.gT Ud) (rfl) ⟨_,_,Z,.inl (SqL.of b),λl e=>k l e⟩))
theorem qpy (T:Txt K mg a):FnOk P w K mg base CX0 1 a.fM a.xP ["self","name"] (spBRule a):=by
 refine T.rF.fn.ok qpe (λvs H Q E h=>?_) (λcdv A outer s H vs Q E c h=>?_)
 .obtain⟨_,_,_,_,_,_,rfl,_⟩:=h
  all_goals rfl
 .obtain⟨x,nms,ord,us,j,y,rfl,i,f,k⟩:=h;refine⟨_,(qf (zb (qwm (qve (qb9 c) (pv 1) (qac (pv 0) Z))) (qj qe9) qae)
   (qj (qo (qb5 (qb9 c) (qac (pv 0) Z) (pv 1) (λ_ _=>rfl))))),?_⟩
  obtain⟨dx,po,b,kvs,d,h2,e,h4,l⟩:=i;have g:DGet H b (.str (nm nms j)) (some y):=l j y f ▸ DGet.k (k:=.inr (nm nms j)) e;exact(nmc Z (nmc Z (flc (d) (T.gF) (qp T.gT Ud) (rfl) ⟨b,_,Z,g,(nmc Z (qbs (nmc Z (flc (d) (T.gF) (qp T.gT Ud) (rfl) (nmc Z ⟨b,_,Z,g,k⟩)))))⟩)))
theorem qrt (T:Txt K mg a):FnOk P w K mg base CX0 1 a.lQ a.n9 ["self"] (spOvr a):=by
 refine T.rV.fn.ok qqw (λvs H Q E h=>?_) (λcdv A outer s H vs Q E hr h=>?_)
 .obtain⟨_,_,_,_,_,_,_,rfl,_⟩:=h
  all_goals rfl
 .obtain⟨x,B,S,rd,st,bs,rs,rfl,b,k⟩:=h;refine⟨_,(qj (qo (qac (pv 0) Z))),?_⟩;obtain⟨dx,rl,cn,pr,pp,pg,ur,up,rfl,R⟩:=id b;exact(nmc Z (flc (R.hx) (T.k7) (qp T.kA Ud) (rfl) k))
theorem qru (T:Txt K mg a):FnOk P w K mg base CX0 2 a.rR a.nV ["runs"] (spIr a):=by
 refine T.bT.fn.ok qqx (λvs H Q E h=>?_) (λcdv A outer s H vs Q E e h=>?_)
 .obtain⟨_,_,_,rfl,_⟩:=h
  all_goals rfl
 .obtain⟨l,xs,b,rfl,c,hl,d,k⟩:=h;refine⟨_,(qj (qo (qd4 (qbp qkb (zd qa5 (by rfl) T.kP qa6 (qd (pv 0) qg qe)) qi (qab _)) (qdn (qr0 (qbj (zp zr (pv 0) (qfa qda qi) (λ_ _=>rfl)) T.k7 T.yX (qrt T) (e.mono Ud) T.rV.bd .nil qad)))))),?_⟩;refine(nmc Z ⟨_,_,Z,.inl ⟨_,SqL.of c,Z⟩,(iic Z Z ?_)⟩);rcases d with ⟨rfl,rfl⟩|⟨ys,y,B,S,rd,st,bs,rs,rfl,R,rfl⟩
  .exact⟨_,Z,qbs k⟩
  .obtain⟨dy,rly,cny,pry,ppy,pgy,ury,upy,eS,Y⟩:=id R;have hn:((ys++[V.ref y]).length:Int)=(ys.length:Int)+1:=by rw[Af];rfl
   refine⟨_,Z,?_⟩;rw[if_pos (decide_eq_true (by lia))];exact(nmc Z ⟨_,Z,(lxo (c) (qiw _ _) ⟨_,_,_,Z,Y.hx,Z,y,B,S,rd,st,bs,rs,Z,R,_,Z,k⟩)⟩)
theorem qi8 (T:Txt K mg a):FnOk P w K mg base CX0 1 a.fZ a.xL ["self","kind"] (spStl a):=by
 refine T.tT.fn.ok qip (λvs H Q E h=>?_) (λcdv A outer s H vs Q E hr h=>?_)
 .obtain⟨_,_,_,rfl,_⟩:=h
  all_goals rfl
 .obtain⟨rl,d,rd,rfl,m,k⟩:=h;refine⟨_,(qf (zb (qt qbz (qac (pv 0) Z) qap (qab _)) (qj (qo zg)) qae)
   (qf (zb (qt qbt (pv 1) (zp zq (qac (pv 0) Z) qi (λ_ _=>rfl)) (qab _)) (qj (qo zg)) qae)
   (qj (qo (qco (qt qbt (pv 1) (zp zq (qac (pv 0) Z) qi (λ_ _=>rfl)) (qab _)) zg zg))))),?_⟩
  obtain⟨dx,pe,pa,pl,nm',w1,op,b1,s1,py,us,j,g,h3,h4,h5,h6⟩:=m;cases e:rd.still with
  |none =>rw[e]at g k;cases g;exact(nmc Z (flc (j) (T.kD) (qp T.kE Ud) (rfl) ⟨Z,(nmc Z (qcs Z k))⟩))
  |some z =>
   obtain⟨i,f⟩:=z;rw[e]at g k;obtain⟨p,rfl,l⟩:=g;refine(nmc Z (flc (j) (T.kD) (qp T.kE Ud) (rfl) ⟨Z,(nmc Z (qbo (λz=>nomatch z) (nmc Z (nmc Z (flc (j) (T.kD) (qp T.kE Ud) (rfl) (txo (l) Z ⟨Z,(nmc Z (qba (λc=>?_) (λc=>?_)))⟩))))))⟩))
   .have c:=V.str.inj (of_decide_eq_true c);rw[show qrd (some (i,f)) d=Aa "still" by unfold qrd;simp only;rw[if_pos c]]at k;exact k
   .have c:¬d=i:=λq=>c (decide_eq_true (congrArg V.str q));refine(nmc Z (nmc Z (flc (j) (T.kD) (qp T.kE Ud) (rfl) (txo (l) Z ⟨Z,(nmc Z (qba (λb=>?_) (λb=>?_)))⟩))))
    .have b:=V.str.inj (of_decide_eq_true b);rw[show qrd (some (i,f)) d=Aa "goes on" by unfold qrd;simp only;rw[if_neg c,if_pos b]]at k;exact k
    .have b:¬d=f:=λq=>b (decide_eq_true (congrArg V.str q));rw[show qrd (some (i,f)) d=Aa "" by unfold qrd;simp only;rw[if_neg c,if_neg b]]at k;exact k
theorem qtb (T:Txt K mg a):FnOk P w K mg base CX0 2 a.lZ a.mS ["self","kind"] (spRole a):=by
 refine T.xU.fn.ok qsq (λvs H Q E h=>?_) (λcdv A outer s H vs Q E O h=>?_)
 .obtain⟨_,_,_,rfl,_⟩:=h
  all_goals rfl
 .obtain⟨Y,e,rd,rfl,C,ok,k⟩:=h;refine⟨_,(qf (zb (PW.pt (qdv (qt qbt (pv 1) (qac (pv 0) Z) (qab _)) (qd3 (qt qdb (pv 1) (qac (pv 0) Z) (by with_unfolding_all rfl))))) (qj (qo zg)) qae)
   (qf (zb (qt qdb (pv 1) (qac (pv 0) Z) (by with_unfolding_all rfl)) (qj (qo zg)) qae)
   (qf (zb (qt qdb (pv 1) (qfn (N:=["row"]) (js:=[none]) (XN:=["self","kind"]) (xs:=qaa qg6) Z Z Z Uk (qbf (qac (pv 0) Z)) (λ_ _ _ _ _ _=>(qaf (i:=0) (show Cz (["row"]:List Str) from by decide +kernel) Z (Ar Z) (DN Z))) (λ_ _ _ _ _ _=>qfm) (λ_ _ _ _ _ _=>(zp (qk4 (K:=K) Z) (pv 0) qi (λ_ _=>rfl)))) (by with_unfolding_all rfl)) (qj (qo zg)) qae)
   (qj (qo (qal (pv 0) T.kD T.zD (qi8 T) (O.mono Ud) T.tT.bd .nil qad (qd (pv 1) qg qe))))))),?_⟩
  have J:=C;obtain⟨dx,pe,pa,pl,nm',w1,op,b1,s1,py,us,u,h2,X,U,M,G⟩:=id C;apply use (p:=¬(e=rd.owes\/rd.ends.contains e=true))
  .intro mm;have B:e=rd.owes\/rd.ends.contains e=true->Q (.str (Aa "ends")) H:=λz=>by have:=k H (Same.refl H);unfold qaq at this;rw[if_pos z]at this;exact this
   refine(nmc Z (nmc Z (flc (u) (T.kD) (qp T.kE Ud) (rfl) ⟨Z,(nmc Z (qba (λc=>qdo (B (.inl (V.str.inj (of_decide_eq_true c))))) (λc=>(nmc Z (nmc Z (flc (u) (T.kD) (qp T.kE Ud) (rfl) ⟨_,_,Z,.inl (SqL.of X),Z,qfi _,(nmc Z ?_)⟩))))))⟩)));show if inV (.str e) (rd.ends.map V.str)=true then _ else _;rw[qgu];exact qba (λd=>B (.inr d)) (λd=>mm λz=>by
    rcases z with z|z
    .exact c (decide_eq_true (congrArg V.str z))
    .exact d z)
  .intro D;refine(nmc Z (nmc Z (flc (u) (T.kD) (qp T.kE Ud) (rfl) ⟨_,_,Z,.inl (SqL.of U),Z,qfi _,(nmc Z ?_)⟩)));show if inV (.str e) (rd.anew.map V.str)=true then _ else _;rw[qgu];refine qba (λd=>?_) (λd=>?_)
   .have:=k H (Same.refl H);unfold qaq at this;rw[if_neg D,if_pos d]at this;exact this
   .have lu:us.length=rd.longer.length:=by rw[G.length,Ab]
    have hll:=ok.l;refine(nmc Z (nmc Z (flc (u) (T.kD) (qp T.kE Ud) (rfl) ⟨_,Z,⟨_,SqL.of M⟩,?_⟩)));let f:V->V:=λv=>match v with
     |.ref b=>match H b with
      |some (.tup [.str y,.int _,.int _])=>.str y
      |_=>.non
     |_=>.non
    refine qg5 f (λσ'=>∃v,σ'=[v]) (qd8 (K:=K) (SqL.of M)) (qdr (by lia)) ⟨none,Z⟩ (λv σ' H' RR S R W q=>?_) qeu λp5 L=>?_
    .obtain⟨v0,rfl⟩:=W;obtain⟨j,hj⟩:=Bt S;obtain⟨b,t,rfl,g,x⟩:=G.get' hj;rw[Ah]at g;cases n:rd.longer[j]? with
     |none=>rw[n]at g;cases g
     |some r =>
      rw[n]at g;cases g;have ef:f (.ref b)=.str r.1:=by show (match H b with|some (.tup [.str y,.int _,.int _])=>V.str y|_=>.non)=_;rw[x];rfl
      have q:=q [oR b] ⟨_,Z⟩;rw[ef]at q;exact(nmc Z (txo (R _ _ x) Z q))
    have F:us.map f=(rd.longer.map (·.1)).map V.str:=by
     refine Cr λj=>?_;rw[Ah,Ah,Ah];cases n:rd.longer[j]? with
     |none=>rw[AR (by rw[lu];exact Dt.mp n)];rfl
     |some r =>obtain⟨b,g,x⟩:=G.get (i:=j) (r:=qrc r) (by rw[Ah,n];rfl);rw[g];show some (match H b with|some (.tup [.str y,.int _,.int _])=>V.str y|_=>.non)=_;rw[x];rfl
    have m:=qx (o:=.lst (us.map f)) L;refine⟨_,_,Z,.inl (SqL.of qk),Z,by rw[F];exact qfi _,(nmc Z ?_)⟩;show if inV (.str e) (us.map f)=true then _ else _;rw[F,qgu];rw[F]at m;refine qba (λI=>?_) (λI=>?_)
    .have:=k _ m;unfold qaq at this;rw[if_neg D,if_neg d,if_pos I]at this;exact this
    .have:=k _ m;unfold qaq at this;rw[if_neg D,if_neg d,if_neg I]at this;exact(nmc Z ⟨_,_,_,Z,m _ _ u,Z,(nmc Z ⟨Y,e,rd,Z,J.same m,this⟩)⟩)
theorem qhn (T:Txt K mg a):FnOk P w K mg base CX0 1 a.hV a.tH ["self"] (spHl a):=by
 refine T.lD.fn.ok qnk (λvs H Q E h=>?_) (λcdv A outer s H vs Q E hr h=>?_)
 .obtain⟨_,_,_,_,_,_,_,rfl,_⟩:=h
  all_goals rfl
 .obtain⟨x,B,S,rd,st,bs,rs,rfl,i,k⟩:=h;refine⟨_,(qj (qo (qd4 (qbp qkb (zd qa5 (by rfl) T.kP qa6 (qd (qac (pv 0) Z) qg qao)) qi (qab _)) (qdn (qbp qbz (zp zq (zp zr (qac (pv 0) Z) (qfa qda qi) (λ_ _=>rfl)) qi (λ_ _=>rfl)) qap (qab _)))))),?_⟩;obtain⟨dx,rl,cn,pr,pp,pg,ur,g,rfl,R⟩:=id i;refine(nmc Z (flc (R.hx) (T.k7) (qp T.kA Ud) (rfl) ⟨_,_,Z,.inl ⟨_,SqL.of R.hp,Z⟩,(iic Z Z (nmc Z ?_))⟩));rcases BD st.ps with e|⟨qs,p,e⟩
  .have f:g=[]:=CV (by rw[R.tp.length,Ab,e];rfl);rw[e]at k;subst f;exact qbs k
  .rw[B4]at e;obtain⟨F,o⟩:=p;have tp:=R.tp;rw[e]at tp k;obtain⟨vs,c,b,d,tv⟩:=qj1 tp;rw[qmr]at k;refine qcs (by rw[b,Af,AU];lia) (nmc Z (flc (R.hx) (T.k7) (qp T.kA Ud) (rfl) ⟨_,Z,(lxo (R.hp) ((b ▸ qiw vs _)) (txo (d) Z ⟨Z,k⟩))⟩))
theorem qoq (T:Txt K mg a):FnOk P w K mg base CX0 2 a.hJ a.mK ["self","day"] (spGo a):=by
 refine T.l9.fn.ok qoi (λvs H Q E h=>?_) (λcdv A outer s H vs Q E M h=>?_)
 .obtain⟨_,_,_,_,_,_,_,_,_,rfl,_⟩:=h
  all_goals rfl
 .obtain⟨x,B,S,rd,st,bs,rs,c,d,rfl,C,ok,k⟩:=h;refine⟨_,(qf (zb (qc0 (zf (qbj (pv 0) T.k7 T.sH (qhn T) (M.mono Ud) T.lD.bd .nil qad))) (qj (qo qbk)) qae)
   (qf (qu (i:=2) qoi.nd Z (Ar Z) (zp zq (qw0 A7 PySem.F.slot_list_pop PySem.F.type_list_pop mt_pop (qac (pv 0) Z)) qi (λ_ _=>rfl)))
   (qf (zb (qt qcx (pv 2) (pv 1) (qab _)) (qj (qz (qcp A7 AG AH qau (qac (pv 0) Z) (qd (zj (qd (pv 2) (qd (qv qby (pv 1) qi) qg zm) qe)) qg zo)))) qae)
   (qj (qo qbk))))),?_⟩
  obtain⟨D,rl,cn,y,j,u,J,N,rfl,R⟩:=id C;refine(nmc Z ⟨_,_,_,Z,R.hx,Z,x,B,_,rd,st,bs,rs,Z,C,(nmc Z ?_)⟩);cases m:qai st.ps with
  |false =>rw[m,qev m]at k;exact qdo (k H (KeepS.of (Same.refl H)) C)
  |true =>
   obtain⟨l,F,e⟩:=qh6 m;have tp:=R.tp;rw[e]at tp;obtain⟨vs,c1,r,v,I⟩:=qj1 tp;rw[m,e,qha]at k;refine qbs (nmc Z (flc (R.hx) (T.k7) (qp T.kA Ud) (rfl) ⟨.inl ⟨Z,_,SqL.of R.hp⟩,_,_,_,Z,Z,R.hp,(r ▸ last_ix vs _),?_⟩));have L:N.dropLast=vs:=by rw[r,List.dropLast_concat]
   rw[L];have g:=R.setP (up':=vs) (ps':=l) I;have t:KeepS [x,y,j,u] H (upd H j (.lst vs)):=qem (by simp);have q:=(qr (o:=.lst vs) (λz=>by rw[z,R.hp]at v;cases v)).trans v;generalize upd H j _=H1 at g t q |-;refine(txo (q) Z (nmc Z (nmc Z (iic Z Z (nmc Z (qba (λf=>?_) (λf=>?_)))))))
   .have f:=of_decide_eq_true f;rw[if_pos f]at k;refine(nmc Z (flc (g.hx) (T.k7) (qp T.kA Ud) (rfl) ⟨.inl ⟨Z,_,SqL.of g.hp⟩,(nmc Z (nmc Z (iic Z Z ⟨qkw _ _,λU G=>?_⟩)))⟩));dsimp only[];obtain⟨p,O⟩:=alc (o:=.tup (qky (F,some (d-1)))) G;have ll:=ok.pl;have lr:=ok.rl;have lq:l.length+1=st.ps.length:=by rw[e,Af];rfl
    have lv:vs.length=l.length:=by rw[I.length,Ab]
    refine⟨_,_,_,Z,Z,p _ _ g.hp,qb2 (by lia),?_⟩;have R2:=(g.same p).setP (up':=vs++[.ref U]) (ps':=l++[(F,some (d-1))]) (by rw[Ax];exact(g.tp.same p).snoc O);exact k _ (λb o n e=>qem (by simp) b o n (p _ _ (t b o n e))) ⟨D,rl,cn,y,j,u,J,_,Z,R2⟩
   .have f:¬F<d:=λz=>f (decide_eq_true z);rw[if_neg f,Bu]at k;exact k _ t ⟨D,rl,cn,y,j,u,J,vs,Z,g⟩
theorem qrv (T:Txt K mg a):FnOk P w K mg base CX0 3 a.m8 a.rS ["self","day"] (spFi a):=by
 refine T.sK.fn.ok qqy (λvs H Q E h=>?_) (λcdv A outer s H vs Q E v h=>?_)
 .obtain⟨_,_,_,_,_,_,_,_,_,rfl,_⟩:=h
  all_goals rfl
 .obtain⟨x,B,S,rd,st,bs,rs,c,d,rfl,q,ok,k⟩:=h;refine⟨_,(qf (qz (qal (pv 0) T.k7 T.pJ (qoq T) (v.mono Ud) T.l9.bd .nil qad (qd (pv 1) qg qe)))
   (qf (qa2 (pv 0) qbk Z)
   (qj (qo qbk)))),?_⟩
  obtain⟨dx,rl,cn,j,l,i,ur,up,rfl,R⟩:=id q;refine(nmc Z ⟨_,_,_,Z,R.hx,Z,(nmc Z ⟨x,B,_,rd,st,bs,rs,c,d,Z,q,ok,λH1 u y=>?_⟩)⟩);obtain⟨p,f,g,pr1,pp1,pg1,r,m,z,t⟩:=y;cases z;refine(nmc Z ⟨_,_,_,_,Z,t.hx,T.k7,qp T.kA Ud,(show 9<1000 by decide),?_⟩);rw[show qbi (Aa "over") (.bl true) (rnF (.ref f) (.ref g) (.ref j) (.bl st.over) (.int st.day) st.bv (.int st.units) (.ref l) (.ref i))=rnF (.ref f) (.ref g) (.ref j) (.bl true) (.int st.day) st.bv (.int st.units) (.ref l) (.ref i) by with_unfolding_all rfl];exact k _ (λb o n e=>qem (by simp) b o n (u b o n e)) ⟨p,f,g,j,l,i,r,m,Z,t.setF (o':=true) (u':=st.units)⟩
theorem qm2 (T:Txt K mg a):FnOk P w K mg base CX0 1 a.gU a.bM ["self"] (spSt a 0):=by
 refine T.gA.fn.ok qdi (λvs H Q E h=>?_) (λcdv A outer s H vs Q E hr h=>?_)
 .obtain⟨_,_,_,_,_,_,_,_,rfl,_⟩:=h
  all_goals rfl
 .obtain⟨x,B,S,rd,st,bs,rs,s,rfl,c,b,k⟩:=h;refine⟨_,(qj (qo (qco (qt qbz (qac (pv 0) Z) qap (qab _)) (qac (pv 0) Z) qxc))),?_⟩;obtain⟨dx,rl,cn,pr,pp,pg,ur,up,rfl,R⟩:=id c;obtain⟨d,rfl⟩:=b;exact(nmc Z (flc (R.hx) (T.k7) (qp T.kA Ud) (rfl) ⟨Z,(nmc Z (qcs d (nmc Z (flc (R.hx) (T.k7) (qp T.kA Ud) (rfl) (k H (Same.refl H))))))⟩))
theorem qns (T:Txt K mg a):FnOk P w K mg base CX0 12 a.gX a.bE ["self"] (spLt a 0):=by
 refine T.gE.fn.ok qbu (λvs H Q E h=>?_) (λcdv A outer s H vs Q E f h=>?_)
 .obtain⟨_,_,_,_,_,_,_,_,_,rfl,_⟩:=h
  all_goals rfl
 .obtain⟨x,B,S,rd,st,bs,rs,c,s,rfl,g,tok,ok,e,k⟩:=h;refine⟨_,(qf (qu (i:=1) qbu.nd Z (Ar Z) (qbj (pv 0) T.k7 T.gW (qm2 T) (f.mono Ud) T.gA.bd .nil qad))
   (qf (zb (qt qbz (pv 1) qap (qab _)) (qj (qo qap)) qae)
   (qj (qo (zc (qhf T) (f.mono Ud) Z T.kX.mgx T.kX.fn.kp T.kX.bd .nil qad (qd (qac (pv 0) Z) (qd (pv 1) (qd (qac (pv 0) Z) (qd (qac (pv 0) Z) qg qao) qao) qe) qao)))))),?_⟩
  obtain⟨dx,rl,cn,pr,m,pg,ur,l,rfl,R⟩:=id g;refine(nmc Z ⟨_,_,_,Z,R.hx,Z,x,B,_,rd,st,bs,rs,s,Z,g,e,λj b=>?_⟩);have R:=R.same b;cases s with|none=>exact(nmc Z ⟨Z,(nmc Z (qcs Z (k j none b Z)))⟩)|some d =>refine(nmc Z ⟨Z,(nmc Z (qbo (λz=>nomatch z) ?_))⟩);exact(nmc Z (flc (R.hx) (T.k7) (qp T.kA Ud) (rfl) (nmc Z (nmc Z (flc (R.hx) (T.k7) (qp T.kA Ud) (rfl) (nmc Z (flc (R.hx) (T.k7) (qp T.kA Ud) (rfl) ⟨cn,m,rd.unit,d,st.units,bs,rs,st.ps,Z,R.kd.same R.sm,tok,⟨l,R.hp,R.tp⟩,ok.ps,qdj e ok.d0,ok.u1,λH' r s lst=>k H' r (b.trans s) lst⟩)))))))
theorem qm3 (T:Txt K mg a):FnOk P w K mg base CX0 13 a.gU a.bM ["self"] (spSt a 1):=by
 refine T.gA.fn.ok qdi (λvs H Q E h=>?_) (λcdv A outer s H vs Q E n h=>?_)
 .obtain⟨_,_,_,_,_,_,_,_,rfl,_⟩:=h
  all_goals rfl
 .obtain⟨x,B,S,rd,st,bs,rs,s,rfl,u,m,k⟩:=h;refine⟨_,(qj (qo (qco (qt qbz (qac (pv 0) Z) qap (qab _)) (qac (pv 0) Z) (qbj (qac (pv 0) Z) T.k7 T.bC (qns T) (n.mono Ud) T.gE.bd .nil qad)))),?_⟩;obtain⟨dx,rl,cn,pr,pp,pg,ur,up,rfl,R⟩:=id u;rcases m with ⟨b,rfl⟩|⟨y,p,l,i,st',c,g,C,q,b,d,t,f,j,r⟩
  .exact(nmc Z (flc (R.hx) (T.k7) (qp T.kA Ud) (rfl) ⟨Z,(nmc Z (qcs b (nmc Z (flc (R.hx) (T.k7) (qp T.kA Ud) (rfl) (k H (Same.refl H))))))⟩))
  .obtain⟨dy,rly,cny,pry,ppy,pgy,ury,upy,eS,Y⟩:=id d;refine(nmc Z (flc (R.hx) (T.k7) (qp T.kA Ud) (rfl) ⟨Z,(nmc Z (qbo (by rw[b];exact λz=>nomatch z) (nmc Z (flc (R.hx) (T.k7) (qp T.kA Ud) (rfl) ⟨_,_,_,b,Y.hx,Z,y,p,l,i,st',c,g,C,q,(by rw[b];rfl),d,t,f,j,λo r1 D v=>?_⟩))))⟩));obtain rfl:=qen (λx e=>qdj (e ▸ j) f.d0) v r;exact k o D
theorem qnt (T:Txt K mg a):FnOk P w K mg base CX0 14 a.gX a.bE ["self"] (spLt a 1):=by
 refine T.gE.fn.ok qbu (λvs H Q E h=>?_) (λcdv A outer s H vs Q E f h=>?_)
 .obtain⟨_,_,_,_,_,_,_,_,_,rfl,_⟩:=h
  all_goals rfl
 .obtain⟨x,B,S,rd,st,bs,rs,c,s,rfl,g,tok,ok,e,k⟩:=h;refine⟨_,(qf (qu (i:=1) qbu.nd Z (Ar Z) (qbj (pv 0) T.k7 T.gW (qm3 T) (f.mono Ud) T.gA.bd .nil qad))
   (qf (zb (qt qbz (pv 1) qap (qab _)) (qj (qo qap)) qae)
   (qj (qo (zc (qhf T) (f.mono Ud) Z T.kX.mgx T.kX.fn.kp T.kX.bd .nil qad (qd (qac (pv 0) Z) (qd (pv 1) (qd (qac (pv 0) Z) (qd (qac (pv 0) Z) qg qao) qao) qe) qao)))))),?_⟩
  obtain⟨dx,rl,cn,pr,m,pg,ur,l,rfl,R⟩:=id g;refine(nmc Z ⟨_,_,_,Z,R.hx,Z,x,B,_,rd,st,bs,rs,s,Z,g,e,λj b=>?_⟩);have R:=R.same b;cases s with|none=>exact(nmc Z ⟨Z,(nmc Z (qcs Z (k j none b Z)))⟩)|some d =>refine(nmc Z ⟨Z,(nmc Z (qbo (λz=>nomatch z) ?_))⟩);exact(nmc Z (flc (R.hx) (T.k7) (qp T.kA Ud) (rfl) (nmc Z (nmc Z (flc (R.hx) (T.k7) (qp T.kA Ud) (rfl) (nmc Z (flc (R.hx) (T.k7) (qp T.kA Ud) (rfl) ⟨cn,m,rd.unit,d,st.units,bs,rs,st.ps,Z,R.kd.same R.sm,tok,⟨l,R.hp,R.tp⟩,ok.ps,qdj e ok.d0,ok.u1,λH' r s lst=>k H' r (b.trans s) lst⟩)))))))
theorem qm4 (T:Txt K mg a):FnOk P w K mg base CX0 15 a.gU a.bM ["self"] (spSt a 2):=by
 refine T.gA.fn.ok qdi (λvs H Q E h=>?_) (λcdv A outer s H vs Q E n h=>?_)
 .obtain⟨_,_,_,_,_,_,_,_,rfl,_⟩:=h
  all_goals rfl
 .obtain⟨x,B,S,rd,st,bs,rs,s,rfl,u,m,k⟩:=h;refine⟨_,(qj (qo (qco (qt qbz (qac (pv 0) Z) qap (qab _)) (qac (pv 0) Z) (qbj (qac (pv 0) Z) T.k7 T.bC (qnt T) (n.mono Ud) T.gE.bd .nil qad)))),?_⟩;obtain⟨dx,rl,cn,pr,pp,pg,ur,up,rfl,R⟩:=id u;rcases m with ⟨b,rfl⟩|⟨y,p,l,i,st',c,g,C,q,b,d,t,f,j,r⟩
  .exact(nmc Z (flc (R.hx) (T.k7) (qp T.kA Ud) (rfl) ⟨Z,(nmc Z (qcs b (nmc Z (flc (R.hx) (T.k7) (qp T.kA Ud) (rfl) (k H (Same.refl H))))))⟩))
  .obtain⟨dy,rly,cny,pry,ppy,pgy,ury,upy,eS,Y⟩:=id d;refine(nmc Z (flc (R.hx) (T.k7) (qp T.kA Ud) (rfl) ⟨Z,(nmc Z (qbo (by rw[b];exact λz=>nomatch z) (nmc Z (flc (R.hx) (T.k7) (qp T.kA Ud) (rfl) ⟨_,_,_,b,Y.hx,Z,y,p,l,i,st',c,g,C,q,(by rw[b];rfl),d,t,f,j,λo r1 D v=>?_⟩))))⟩));obtain rfl:=qen (λx e=>qdj (e ▸ j) f.d0) v r;exact k o D
theorem qnu (T:Txt K mg a):FnOk P w K mg base CX0 16 a.gX a.bE ["self"] (spLt a 2):=by
 refine T.gE.fn.ok qbu (λvs H Q E h=>?_) (λcdv A outer s H vs Q E f h=>?_)
 .obtain⟨_,_,_,_,_,_,_,_,_,rfl,_⟩:=h
  all_goals rfl
 .obtain⟨x,B,S,rd,st,bs,rs,c,s,rfl,g,tok,ok,e,k⟩:=h;refine⟨_,(qf (qu (i:=1) qbu.nd Z (Ar Z) (qbj (pv 0) T.k7 T.gW (qm4 T) (f.mono Ud) T.gA.bd .nil qad))
   (qf (zb (qt qbz (pv 1) qap (qab _)) (qj (qo qap)) qae)
   (qj (qo (zc (qhf T) (f.mono Ud) Z T.kX.mgx T.kX.fn.kp T.kX.bd .nil qad (qd (qac (pv 0) Z) (qd (pv 1) (qd (qac (pv 0) Z) (qd (qac (pv 0) Z) qg qao) qao) qe) qao)))))),?_⟩
  obtain⟨dx,rl,cn,pr,m,pg,ur,l,rfl,R⟩:=id g;refine(nmc Z ⟨_,_,_,Z,R.hx,Z,x,B,_,rd,st,bs,rs,s,Z,g,e,λj b=>?_⟩);have R:=R.same b;cases s with|none=>exact(nmc Z ⟨Z,(nmc Z (qcs Z (k j none b Z)))⟩)|some d =>refine(nmc Z ⟨Z,(nmc Z (qbo (λz=>nomatch z) ?_))⟩);exact(nmc Z (flc (R.hx) (T.k7) (qp T.kA Ud) (rfl) (nmc Z (nmc Z (flc (R.hx) (T.k7) (qp T.kA Ud) (rfl) (nmc Z (flc (R.hx) (T.k7) (qp T.kA Ud) (rfl) ⟨cn,m,rd.unit,d,st.units,bs,rs,st.ps,Z,R.kd.same R.sm,tok,⟨l,R.hp,R.tp⟩,ok.ps,qdj e ok.d0,ok.u1,λH' r s lst=>k H' r (b.trans s) lst⟩)))))))
theorem qeq (T:Txt K mg a):FnOk P w K mg base CX0 17 a.gU a.bM ["self"] (spSt a 3):=by
 refine T.gA.fn.ok qdi (λvs H Q E h=>?_) (λcdv A outer s H vs Q E n h=>?_)
 .obtain⟨_,_,_,_,_,_,_,_,rfl,_⟩:=h
  all_goals rfl
 .obtain⟨x,B,S,rd,st,bs,rs,s,rfl,u,m,k⟩:=h;refine⟨_,(qj (qo (qco (qt qbz (qac (pv 0) Z) qap (qab _)) (qac (pv 0) Z) (qbj (qac (pv 0) Z) T.k7 T.bC (qnu T) (n.mono Ud) T.gE.bd .nil qad)))),?_⟩;obtain⟨dx,rl,cn,pr,pp,pg,ur,up,rfl,R⟩:=id u;rcases m with ⟨b,rfl⟩|⟨y,p,l,i,st',c,g,C,q,b,d,t,f,j,r⟩
  .exact(nmc Z (flc (R.hx) (T.k7) (qp T.kA Ud) (rfl) ⟨Z,(nmc Z (qcs b (nmc Z (flc (R.hx) (T.k7) (qp T.kA Ud) (rfl) (k H (Same.refl H))))))⟩))
  .obtain⟨dy,rly,cny,pry,ppy,pgy,ury,upy,eS,Y⟩:=id d;refine(nmc Z (flc (R.hx) (T.k7) (qp T.kA Ud) (rfl) ⟨Z,(nmc Z (qbo (by rw[b];exact λz=>nomatch z) (nmc Z (flc (R.hx) (T.k7) (qp T.kA Ud) (rfl) ⟨_,_,_,b,Y.hx,Z,y,p,l,i,st',c,g,C,q,(by rw[b];rfl),d,t,f,j,λo r1 D v=>?_⟩))))⟩));obtain rfl:=qen (λx e=>qdj (e ▸ j) f.d0) v r;exact k o D
theorem qho (T:Txt K mg a):FnOk P w K mg base CX0 18 a.gX a.bE ["self"] (spLt a 3):=by
 refine T.gE.fn.ok qbu (λvs H Q E h=>?_) (λcdv A outer s H vs Q E f h=>?_)
 .obtain⟨_,_,_,_,_,_,_,_,_,rfl,_⟩:=h
  all_goals rfl
 .obtain⟨x,B,S,rd,st,bs,rs,c,s,rfl,g,tok,ok,e,k⟩:=h;refine⟨_,(qf (qu (i:=1) qbu.nd Z (Ar Z) (qbj (pv 0) T.k7 T.gW (qeq T) (f.mono Ud) T.gA.bd .nil qad))
   (qf (zb (qt qbz (pv 1) qap (qab _)) (qj (qo qap)) qae)
   (qj (qo (zc (qhf T) (f.mono Ud) Z T.kX.mgx T.kX.fn.kp T.kX.bd .nil qad (qd (qac (pv 0) Z) (qd (pv 1) (qd (qac (pv 0) Z) (qd (qac (pv 0) Z) qg qao) qao) qe) qao)))))),?_⟩
  obtain⟨dx,rl,cn,pr,m,pg,ur,l,rfl,R⟩:=id g;refine(nmc Z ⟨_,_,_,Z,R.hx,Z,x,B,_,rd,st,bs,rs,s,Z,g,e,λj b=>?_⟩);have R:=R.same b;cases s with|none=>exact(nmc Z ⟨Z,(nmc Z (qcs Z (k j none b Z)))⟩)|some d =>refine(nmc Z ⟨Z,(nmc Z (qbo (λz=>nomatch z) ?_))⟩);exact(nmc Z (flc (R.hx) (T.k7) (qp T.kA Ud) (rfl) (nmc Z (nmc Z (flc (R.hx) (T.k7) (qp T.kA Ud) (rfl) (nmc Z (flc (R.hx) (T.k7) (qp T.kA Ud) (rfl) ⟨cn,m,rd.unit,d,st.units,bs,rs,st.ps,Z,R.kd.same R.sm,tok,⟨l,R.hp,R.tp⟩,ok.ps,qdj e ok.d0,ok.u1,λH' r s lst=>k H' r (b.trans s) lst⟩)))))))
theorem qk0 (T:Txt K mg a):FnOk P w K mg base CX0 19 a.lA a.nJ ["self","day"] (spUw a):=by
 refine T.tR.fn.ok qdq (λvs H Q E h=>?_) (λcdv A outer s H vs Q E n h=>?_)
 .obtain⟨_,_,_,_,_,_,_,_,_,_,_,rfl,_⟩:=h
  all_goals rfl
 .obtain⟨x,B,S,rd,st,bs,rs,c,d,s,r,rfl,j,tok,ok,g,lst,k⟩:=h;refine⟨_,(qf (qu (i:=2) qdq.nd Z (Ar Z) (qbj (pv 0) T.k7 T.gW (qeq T) (n.mono Ud) T.gA.bd .nil qad))
   (qf (zb (PW.pt (qdv (qt qbz (pv 2) qap (qab _)) (qd3 (qt qf3 (pv 1) (pv 2) (qab _))))) (qj (qo qbk)) qae)
   (qf (qu (i:=3) qdq.nd Z (Ar Z) (qbj (pv 0) T.k7 T.bC (qho T) (n.mono Ud) T.gE.bd .nil qad))
   (qj (qo (pe_or (qbp qbz (pv 3) qap (qab _)) (qdn (qbp qf3 (pv 1) (pv 3) (qab _))))))))),?_⟩
  obtain⟨dx,rl,cn,pr,pp,pg,ur,up,rfl,R⟩:=id j;have u:∀z,s=some z->0<=z:=λz e=>qdj (e ▸ g) ok.d0;refine(nmc Z ⟨_,_,_,Z,R.hx,Z,x,B,_,rd,st,bs,rs,s,Z,j,g,λo b=>?_⟩);have R:=R.same b;cases s with
  |none=>exact(nmc Z ⟨Z,(nmc Z (qcs Z (qdo (k o b))))⟩)
  |some z =>
   refine(nmc Z ⟨Z,(nmc Z (qbo (λz=>nomatch z) (nmc Z (nmc Z (iic Z Z (nmc Z (qba (λf=>?_) (λf=>?_))))))))⟩)
   .have f:=of_decide_eq_true f;have e:under (some z) r d=false:=by unfold under;simp only;rw[decide_eq_false (by lia)];rfl
    rw[e]at k;exact k o b
   .have f:¬d<=z:=λq=>f (decide_eq_true q);refine(nmc Z ⟨_,_,_,Z,R.hx,Z,x,B,_,rd,st,bs,rs,c,_,Z,j.same b,tok,ok,g.same b,λp t v m=>?_⟩);obtain rfl:=qen u m lst;have k:=k p (b.trans v);cases t with
    |none =>
     have e:under (some z) none d=true:=by unfold under;simp only;rw[decide_eq_true (by lia)];rfl
     rw[e]at k;exact(nmc Z ⟨Z,(nmc Z (qcs Z k))⟩)
    |some l =>
     have e:under (some z) (some l) d=decide (d<=l):=by unfold under;simp only;rw[decide_eq_true (by lia)];rfl
     rw[e]at k;exact(nmc Z ⟨Z,(nmc Z (qbo (λz=>nomatch z) (nmc Z (nmc Z (iic Z Z k)))))⟩)
theorem qkp (T:Txt K mg a):FnOk P w K mg base CX0 1 a.fL a.mI ["self","day","base"] (spSetO a):=by
 refine T.lE.fn.ok qqz (λvs H Q E h=>?_) (λcdv A outer s H vs Q E hr h=>?_)
 .obtain⟨_,_,_,_,_,_,_,_,_,_,rfl,_⟩:=h
  all_goals rfl
 .obtain⟨x,i,b,cn,c,ov,f,fs,d,rd,rfl,hx,ag,af,v,k⟩:=h;refine⟨_,(qf (qa2 (pv 0) (pv 1) Z)
   (qf (qa2 (pv 0) (pv 2) Z)
   (qf (qa2 (pv 0) (qac (qac (pv 0) Z) Z) Z)
   (qf (qa2 (pv 0) (zh qg) Z)
   (qj (qa2 (pv 0) qfd Z)))))),?_⟩
  obtain⟨dxr,pe,pa,pl,vn,vw,vp,vb,vs',py,us,ae,_⟩:=af;rcases ag with rfl|⟨dy,M,un,p,l,rfl⟩
  .have b0:SameBut x H H:=λ_ _ _ e=>e;have x0:H x=some (.ins a.k8 i (rn4 (.ref b) cn c ov)):=hx;have g0:=ae;refine(nmc Z (nmc Z ⟨_,_,_,_,Z,x0,T.k7,qp T.kA Ud,(show 4<1000 by decide),?_⟩));rw[show qbi (Aa "day") (.int d) (rn4 (.ref b) cn c ov)=(rn5 (.ref b) cn c ov (.int d)) by with_unfolding_all rfl];have W:SameBut x H (upd H x (.ins a.k8 i (rn5 (.ref b) cn c ov (.int d)))):=b0.set;have x1:=qk (H:=H) (a:=x) (o:=.ins a.k8 i (rn5 (.ref b) cn c ov (.int d)));have S:=(qr (o:=.ins a.k8 i (rn5 (.ref b) cn c ov (.int d))) v).trans g0;generalize upd H x _=H1 at W x1 S |-;refine(nmc Z (nmc Z ⟨_,_,_,_,Z,x1,T.k7,qp T.kA Ud,(show 5<1000 by decide),?_⟩));rw[show qbi (Aa "base") (f) (rn5 (.ref b) cn c ov (.int d))=(rn6 (.ref b) cn c ov (.int d) f) by with_unfolding_all rfl];have U:SameBut x H (upd H1 x (.ins a.k8 i (rn6 (.ref b) cn c ov (.int d) f))):=W.set;have L:=qk (H:=H1) (a:=x) (o:=.ins a.k8 i (rn6 (.ref b) cn c ov (.int d) f));have G:=(qr (o:=.ins a.k8 i (rn6 (.ref b) cn c ov (.int d) f)) v).trans S;generalize upd H1 x _=H2 at U L G |-;refine(nmc Z (flc (L) (T.k7) (qp T.kA Ud) (rfl) (flc (G) (T.kD) (qp T.kE Ud) (rfl) (nmc Z ⟨_,_,_,_,Z,L,T.k7,qp T.kA Ud,(show 6<1000 by decide),?_⟩))));rw[show qbi (Aa "units") (.int rd.many) (rn6 (.ref b) cn c ov (.int d) f)=(rn7 (.ref b) cn c ov (.int d) f (.int rd.many)) by with_unfolding_all rfl];have R:SameBut x H (upd H2 x (.ins a.k8 i (rn7 (.ref b) cn c ov (.int d) f (.int rd.many)))):=U.set;have O:=qk (H:=H2) (a:=x) (o:=.ins a.k8 i (rn7 (.ref b) cn c ov (.int d) f (.int rd.many)));have g3:=(qr (o:=.ins a.k8 i (rn7 (.ref b) cn c ov (.int d) f (.int rd.many))) v).trans G;generalize upd H2 x _=H3 at R O g3 |-;refine⟨qfh,λj t=>?_⟩;obtain⟨I,g⟩:=alc (o:=.lst []) t;have C:=I _ _ O;have q:j≠x:=λz=>by rw[z,O]at t;cases t
   have Y:H j=none:=R.free q t;have D:=R.trans (SameBut.of I);generalize upd H3 j _=J3 at I g C D  |-;refine(nmc Z ⟨_,_,_,_,Z,C,T.k7,qp T.kA Ud,(show 7<1000 by decide),?_⟩);rw[show qbi (Aa "pauses") (.ref j) (rn7 (.ref b) cn c ov (.int d) f (.int rd.many))=(rn8 (.ref b) cn c ov (.int d) f (.int rd.many) (.ref j)) by with_unfolding_all rfl];have N:SameBut x H (upd J3 x (.ins a.k8 i (rn8 (.ref b) cn c ov (.int d) f (.int rd.many) (.ref j)))):=D.set;have J:=qk (H:=J3) (a:=x) (o:=.ins a.k8 i (rn8 (.ref b) cn c ov (.int d) f (.int rd.many) (.ref j)));have g:=(qr (o:=.ins a.k8 i (rn8 (.ref b) cn c ov (.int d) f (.int rd.many) (.ref j))) q).trans g;generalize upd J3 x _=H4 at N J g |-;refine λm r=>?_;obtain⟨y,n⟩:=alc (o:=.dK []) r;have F:=y _ _ J;have u:m≠x:=λz=>by rw[z,J]at r;cases r
   have ad:H m=none:=N.free u r;have B:=N.trans (SameBut.of y);have g:=y _ _ g;generalize upd H4 m _=J4 at y n F B g |-;refine(nmc Z ⟨_,_,_,_,Z,F,T.k7,qp T.kA Ud,(show 8<1000 by decide),?_⟩);rw[show qbi (Aa "grants") (.ref m) (rn8 (.ref b) cn c ov (.int d) f (.int rd.many) (.ref j))=(rn9 (.ref b) cn c ov (.int d) f (.int rd.many) (.ref j) (.ref m)) by with_unfolding_all rfl];have V:SameBut x H (upd J4 x (.ins a.k8 i (rn9 (.ref b) cn c ov (.int d) f (.int rd.many) (.ref j) (.ref m)))):=B.set;have X:=qk (H:=J4) (a:=x) (o:=.ins a.k8 i (rn9 (.ref b) cn c ov (.int d) f (.int rd.many) (.ref j) (.ref m)));have g:=(qr (o:=.ins a.k8 i (rn9 (.ref b) cn c ov (.int d) f (.int rd.many) (.ref j) (.ref m))) q).trans g;have n:=(qr (o:=.ins a.k8 i (rn9 (.ref b) cn c ov (.int d) f (.int rd.many) (.ref j) (.ref m))) u).trans n;generalize upd J4 x _=H5 at V X g n |-;exact k H5 j m V Y ad X g n
  .have b0:SameBut x H H:=λ_ _ _ e=>e;have x0:H x=some (.ins a.k8 i (rn9 (.ref b) cn c ov dy M un p l)):=hx;have g0:=ae;refine(nmc Z (nmc Z ⟨_,_,_,_,Z,x0,T.k7,qp T.kA Ud,(show 9<1000 by decide),?_⟩));rw[show qbi (Aa "day") (.int d) (rn9 (.ref b) cn c ov dy M un p l)=(rn9 (.ref b) cn c ov (.int d) M un p l) by with_unfolding_all rfl];have W:SameBut x H (upd H x (.ins a.k8 i (rn9 (.ref b) cn c ov (.int d) M un p l))):=b0.set;have x1:=qk (H:=H) (a:=x) (o:=.ins a.k8 i (rn9 (.ref b) cn c ov (.int d) M un p l));have S:=(qr (o:=.ins a.k8 i (rn9 (.ref b) cn c ov (.int d) M un p l)) v).trans g0;generalize upd H x _=H1 at W x1 S |-;refine(nmc Z (nmc Z ⟨_,_,_,_,Z,x1,T.k7,qp T.kA Ud,(show 9<1000 by decide),?_⟩));rw[show qbi (Aa "base") (f) (rn9 (.ref b) cn c ov (.int d) M un p l)=(rn9 (.ref b) cn c ov (.int d) f un p l) by with_unfolding_all rfl];have U:SameBut x H (upd H1 x (.ins a.k8 i (rn9 (.ref b) cn c ov (.int d) f un p l))):=W.set;have L:=qk (H:=H1) (a:=x) (o:=.ins a.k8 i (rn9 (.ref b) cn c ov (.int d) f un p l));have G:=(qr (o:=.ins a.k8 i (rn9 (.ref b) cn c ov (.int d) f un p l)) v).trans S;generalize upd H1 x _=H2 at U L G |-;refine(nmc Z (flc (L) (T.k7) (qp T.kA Ud) (rfl) (flc (G) (T.kD) (qp T.kE Ud) (rfl) (nmc Z ⟨_,_,_,_,Z,L,T.k7,qp T.kA Ud,(show 9<1000 by decide),?_⟩))));rw[show qbi (Aa "units") (.int rd.many) (rn9 (.ref b) cn c ov (.int d) f un p l)=(rn9 (.ref b) cn c ov (.int d) f (.int rd.many) p l) by with_unfolding_all rfl];have R:SameBut x H (upd H2 x (.ins a.k8 i (rn9 (.ref b) cn c ov (.int d) f (.int rd.many) p l))):=U.set;have O:=qk (H:=H2) (a:=x) (o:=.ins a.k8 i (rn9 (.ref b) cn c ov (.int d) f (.int rd.many) p l));have g3:=(qr (o:=.ins a.k8 i (rn9 (.ref b) cn c ov (.int d) f (.int rd.many) p l)) v).trans G;generalize upd H2 x _=H3 at R O g3 |-;refine⟨qfh,λj t=>?_⟩;obtain⟨I,g⟩:=alc (o:=.lst []) t;have C:=I _ _ O;have q:j≠x:=λz=>by rw[z,O]at t;cases t
   have Y:H j=none:=R.free q t;have D:=R.trans (SameBut.of I);generalize upd H3 j _=J3 at I g C D  |-;refine(nmc Z ⟨_,_,_,_,Z,C,T.k7,qp T.kA Ud,(show 9<1000 by decide),?_⟩);rw[show qbi (Aa "pauses") (.ref j) (rn9 (.ref b) cn c ov (.int d) f (.int rd.many) p l)=(rn9 (.ref b) cn c ov (.int d) f (.int rd.many) (.ref j) l) by with_unfolding_all rfl];have N:SameBut x H (upd J3 x (.ins a.k8 i (rn9 (.ref b) cn c ov (.int d) f (.int rd.many) (.ref j) l))):=D.set;have J:=qk (H:=J3) (a:=x) (o:=.ins a.k8 i (rn9 (.ref b) cn c ov (.int d) f (.int rd.many) (.ref j) l));have g:=(qr (o:=.ins a.k8 i (rn9 (.ref b) cn c ov (.int d) f (.int rd.many) (.ref j) l)) q).trans g;generalize upd J3 x _=H4 at N J g |-;refine λm r=>?_;obtain⟨y,n⟩:=alc (o:=.dK []) r;have F:=y _ _ J;have u:m≠x:=λz=>by rw[z,J]at r;cases r
   have ad:H m=none:=N.free u r;have B:=N.trans (SameBut.of y);have g:=y _ _ g;generalize upd H4 m _=J4 at y n F B g |-;refine(nmc Z ⟨_,_,_,_,Z,F,T.k7,qp T.kA Ud,(show 9<1000 by decide),?_⟩);rw[show qbi (Aa "grants") (.ref m) (rn9 (.ref b) cn c ov (.int d) f (.int rd.many) (.ref j) l)=(rn9 (.ref b) cn c ov (.int d) f (.int rd.many) (.ref j) (.ref m)) by with_unfolding_all rfl];have V:SameBut x H (upd J4 x (.ins a.k8 i (rn9 (.ref b) cn c ov (.int d) f (.int rd.many) (.ref j) (.ref m)))):=B.set;have X:=qk (H:=J4) (a:=x) (o:=.ins a.k8 i (rn9 (.ref b) cn c ov (.int d) f (.int rd.many) (.ref j) (.ref m)));have g:=(qr (o:=.ins a.k8 i (rn9 (.ref b) cn c ov (.int d) f (.int rd.many) (.ref j) (.ref m))) q).trans g;have n:=(qr (o:=.ins a.k8 i (rn9 (.ref b) cn c ov (.int d) f (.int rd.many) (.ref j) (.ref m))) u).trans n;generalize upd J4 x _=H5 at V X g n |-;exact k H5 j m V Y ad X g n
theorem qm5 (T:Txt K mg a):FnOk P w K mg base CX0 2 a.m6 a.nT ["self","day"] (spAn a):=by
 refine T.tS.fn.ok qmd (λvs H Q E h=>?_) (λcdv A outer s H vs Q E hr h=>?_)
 .obtain⟨_,_,_,_,_,_,_,_,rfl,_⟩:=h
  all_goals rfl
 .obtain⟨x,B,S,rd,st,bs,rs,d,rfl,F,k⟩:=h;refine⟨_,(qf (qz (qal (pv 0) T.k7 T.nM (qkp T) (hr.mono Ud) T.lE.bd .nil qad (qd (pv 1) (qd qap qg ql) qe)))
   (qj (qo qbk))),?_⟩
  obtain⟨r,rl,cn,l,pp,pg,D,up,rfl,R⟩:=id F;have y:rl≠x:=λz=>by obtain⟨dxr,pe,pa,pl,vn,vw,vp,vb,vs',py,us,g,_⟩:=R.rl;rw[z,R.bx]at g;cases g
  refine(nmc Z ⟨_,_,_,Z,R.hx,Z,(nmc Z ⟨x,r,rl,.ref cn,.ref l,.bl st.over,.non,_,d,rd,Z,R.hx,.inr ⟨_,_,_,_,_,Z⟩,R.rl.same R.sm,y,λu i p j f m I C t=>?_⟩)⟩);have q:=B6 (qix R.hx R.hr);have v:l≠i:=λz=>by rw[<- z,R.hr]at f;cases f
  have G:Same B u:=λb o e=>j b o (qag e R.bx) (R.sm b o e);refine k u [x,l,i,p] (λb o n e=>j b o (λz=>n (by rw[z];simp)) e) (λb c=>?_) ⟨r,rl,cn,l,i,p,D,[],Z,v,I,j _ _ q R.hr,qir j R.hx R.tr,C,.nil,t,R.rl,R.kd,G,R.bx,R.br,R.sm.free f,R.sm.free m⟩;rcases Aw.mp c with z|c
  .exact .inl (by rw[z];simp)
  .rcases Aw.mp c with z|c
   .exact .inl (by rw[z];simp)
   .rcases Aw.mp c with z|c
    .exact .inr (by rw[z];exact f)
    .exact .inr (by rw[Aj.mp c];exact m)
theorem qnv (T:Txt K mg a):FnOk P w K mg base CX0 1 a.fS a.pC ["self","kind"] (spLe a):=by
 refine T.t9.fn.ok qcr (λvs H Q E h=>?_) (λcdv A outer s H vs Q E I h=>?_)
 .obtain⟨_,_,_,_,_,_,_,_,_,rfl,_⟩:=h
  all_goals rfl
 .obtain⟨x,B,S,rd,st,bs,rs,c,d,rfl,hR,ok,U,k⟩:=h;refine⟨_,(qf (qu (i:=2) qcr.nd Z (Ar Z) (qw5 (qb9 I) (qac (pv 0) Z) (pv 1) qi ⟨Z,Z,Z,Z⟩))
   (qf (qa8 A8 Z (qbf (qac (qac (pv 0) Z) Z)) (qd5 Z (qam (qaf (i:=3) qcr.nd Z (Ar Z)) (qam (qaf (i:=4) qcr.nd Z (Ar Z)) (qam (qaf (i:=5) qcr.nd Z (Ar Z)) qc1)))) (qj (zb (PW.pt (qcf (qt qbt (pv 3) (pv 1) (qab _)) (qbw (qt qcx (pv 2) (pv 5) (qab _))))) (qf (qg4 (qb9 I) (qac (pv 0) Z) (pv 1) (qv qah (pv 2) qi) Z)
   (qf (qu6 (pv 0) (pv 4) in_add)
   (qj (qo qbk)))) qae)))
   (qj (qo qbk)))),?_⟩
  obtain⟨dx,rl,cn,y,u,f,ur,X,rfl,R⟩:=id hR;obtain⟨dxr,pe,pa,pl,vn,vw,vp,vb,vs',py,us,h1,h2,h3,h4,O,L⟩:=R.rl.same R.sm;refine(nmc Z (flc (R.hx) (T.k7) (qp T.kA Ud) (rfl) ⟨f,Z,.inl ⟨_,.inl R.hg⟩,(nmc Z ⟨_,DGet.k (k:=.inr d) R.hg,?_⟩)⟩));rw[gv_get ok.gi d];refine(nmc Z (flc (R.hx) (T.k7) (qp T.kA Ud) (rfl) (flc (h1) (T.kD) (qp T.kE Ud) (rfl) ⟨_,Z,⟨_,SqL.of O⟩,qbm (K:=K) (a:=pl) (xs:=us) (λi σ H'=>H'=H/\(∃G D F:Option V,σ=[oR x,some (.str d),oI (gv st.gr d),G,D,F])/\((rd.longer.take i).find? λt=>decide (t.1=d) && decide (gv st.gr d<t.2.2))=none) ⟨Z,⟨none,none,none,Z⟩,Z⟩ (λi σ H' _ h=>SqL.of (h.1 ▸ O)) ?_ ?_⟩)))
  .rintro i v σ H' hx ⟨rfl,⟨G,D,F,rfl⟩,l⟩;obtain⟨b,t,rfl,m,W⟩:=L.get' hx;rw[Ah]at m;cases p:rd.longer[i]? with
   |none=>rw[p]at m;cases m
   |some z =>
    rw[p]at m;cases m;obtain⟨M,r,J⟩:=z;refine⟨_,_,Z,SqT.of W,Z,_,_,Z,_,_,Z,_,_,Z,Z,?_⟩;refine(nmc Z (nmc Z ⟨Z,(nmc Z (qba (λj=>?_) (λj=>qbs ?_)))⟩))
    .have j:=V.str.inj (of_decide_eq_true j);refine(nmc Z (nmc Z (iic Z Z (nmc Z (qba (λg=>?_) (λg=>?_))))))
     .have g:=of_decide_eq_true g;have ef:=find_at l p (by simp only;rw[decide_eq_true j,decide_eq_true g];rfl);have lg:=ok.gl;have lr:=ok.rl;refine(nmc Z (iic Z Z (nmc Z (flc (R.hx) (T.k7) (qp T.kA Ud) (rfl) (nmc Z ⟨f,_,Z,DPut.k (k:=.inr d) R.hg (by rw[Bx];lia),?_⟩)))));dsimp only[];have C:=R.setG (gr':=qc7 st.gr (.inr d) (.int (gv st.gr d+1)));have N:KeepS [x,y,u,f] H' (upd H' f (.dK (qc7 st.gr (.inr d) (.int (gv st.gr d+1))))):=qem (by simp);generalize upd H' f _=H1 at C N |-;refine(nmc Z ⟨_,_,_,_,(_),Z,C.hx,T.k7,qp T.kA Ud,Z,(nmc Z (iic Z Z ⟨_,_,C.hx,(show 9<1000 by decide),?_⟩))⟩);rw[show qbi (Aa "units") (V.int (st.units+r)) (rnF (.ref rl) (.ref cn) (.ref y) (.bl st.over) (.int st.day) st.bv (.int st.units) (.ref u) (.ref f))=rnF (.ref rl) (.ref cn) (.ref y) (.bl st.over) (.int st.day) st.bv (.int (st.units+r)) (.ref u) (.ref f) by with_unfolding_all rfl];exact k _ (M,r,J) (λb o n e=>qem (by simp) b o n (N b o n e)) ef ⟨dx,rl,cn,y,u,f,ur,X,Z,C.setF (o':=st.over) (u':=st.units+r)⟩
     .have g:¬gv st.gr d<J:=λq=>g (decide_eq_true q);exact⟨Z,⟨_,_,_,Z⟩,quf l p (by simp only;rw[decide_eq_false g,Co])⟩
    .have j:¬M=d:=λq=>j (decide_eq_true (congrArg V.str q));exact⟨Z,⟨_,_,_,Z⟩,quf l p (by simp only;rw[decide_eq_false j,CN])⟩
  .rintro σ H' ⟨rfl,⟨G,D,F,rfl⟩,l⟩;have Y:us.length=rd.longer.length:=by rw[L.length,Ab]
   rw[Y,Bz]at l;exact U l
theorem qwe (T:Txt K mg a):FnOk P w K mg base CX0 2 a.lN a.sV ["self","day"] (spHa a):=by
 refine T.rO.fn.ok qvz (λvs H Q E h=>?_) (λcdv A outer s H vs Q E q h=>?_)
 .obtain⟨_,_,_,_,_,_,_,_,_,rfl,_⟩:=h
  all_goals rfl
 .obtain⟨x,B,S,rd,st,bs,rs,c,d,rfl,l,ok,r,k⟩:=h;refine⟨_,(qf (zb (zf (qbj (pv 0) T.k7 T.sH (qhn T) (q.mono Ud) T.lD.bd .nil qad)) (qj (qo qbk)) qae)
   (qf (qz (qcp A7 AG AH qau (qac (pv 0) Z) (qd (zj (qd (pv 1) (qd qap qg ql) qe)) qg zo)))
   (qj (qo qbk)))),?_⟩
  obtain⟨m,rl,cn,v,y,p,t,i,rfl,R⟩:=id l;refine(nmc Z ⟨_,_,_,Z,R.hx,Z,x,B,_,rd,st,bs,rs,Z,l,(nmc Z ?_)⟩);cases j:qai st.ps with
  |true=>exact qdo (r j)
  |false =>
   refine qbs (nmc Z (flc (R.hx) (T.k7) (qp T.kA Ud) (rfl) ⟨.inl ⟨Z,_,SqL.of R.hp⟩,(nmc Z ⟨qkw _ _,λz g=>?_⟩)⟩));obtain⟨f,u⟩:=alc (o:=.tup (qky (d,none))) g;have ll:=ok.pl;have lr:=ok.rl;have lv:i.length=st.ps.length:=by rw[R.tp.length,Ab]
   refine⟨_,_,_,Z,Z,f _ _ R.hp,qb2 (by lia),?_⟩;have R2:=(R.same f).setP (up':=i++[.ref z]) (ps':=st.ps++[(d,none)]) (by rw[Ax];exact(R.tp.same f).snoc u);exact k _ (λb o n e=>qem (by simp) b o n (f _ _ e)) j ⟨m,rl,cn,v,y,p,t,_,Z,R2⟩
theorem qtc (T:Txt K mg a):FnOk P w K mg base CX0 20 a.fO a.sS ["self","word","day","kind"] (spWk a):=by
 refine T.sR.fn.ok qsr (λvs H Q E h=>?_) (λcdv A outer s H vs Q E C h=>?_)
 .obtain⟨_,_,_,_,_,_,_,_,_,_,_,_,_,rfl,_⟩:=h
  all_goals rfl
 .obtain⟨x,B,S,rd,st,bs,rs,c,d,F,k1,s,r,rfl,G,tok,ok,N,lst,k⟩:=h;refine⟨_,(qf (zb (qt qbt (pv 1) zg (qab _)) (qj (qo (qal (pv 0) T.k7 T.yI (qrv T) (C.mono Ud) T.sK.bd .nil qad (qd (pv 2) qg qe)))) qae)
   (qf (zb (qc0 (zf (qal (pv 0) T.k7 T.zX (qk0 T) (C.mono Ud) T.tR.bd .nil qad (qd (pv 2) qg qe)))) (qj (qo qbk)) qae)
   (qf (zb (qt qbt (pv 1) zg (qab _)) (qj (qo (qal (pv 0) T.k7 T.yZ (qm5 T) (C.mono Ud) T.tS.bd .nil qad (qd (pv 2) qg qe)))) qae)
   (qf (zb (qt qbt (pv 1) zg (qab _)) (qj (qo (qal (pv 0) T.k7 T.yJ (qnv T) (C.mono Ud) T.t9.bd .nil qad (qd (pv 3) qg qe)))) qae)
   (qj (qo (qco (qt qbt (pv 1) zg (qab _)) (qal (pv 0) T.k7 T.zL (qwe T) (C.mono Ud) T.rO.bd .nil qad (qd (pv 2) qg qe)) (qal (pv 0) T.k7 T.pJ (qoq T) (C.mono Ud) T.l9.bd .nil qad (qd (pv 2) qg qe))))))))),?_⟩
  obtain⟨dx,rl,cn,Y,pp,O,ur,up,rfl,R⟩:=id G;refine(nmc Z ⟨Z,(nmc Z (qba (λf=>?_) (λf=>?_)))⟩)
  .have f:=V.str.inj (of_decide_eq_true f);exact(nmc Z ⟨_,_,_,Z,R.hx,Z,(nmc Z ⟨x,B,_,rd,st,bs,rs,c,d,Z,G,ok,λD M X=>(k D _ M Fresh.refl).2 _ (by unfold qa7;rw[if_pos f]) X⟩)⟩)
  .have f:¬F=Aa "ends" := λq=>f (decide_eq_true (congrArg V.str q));refine(nmc Z ⟨_,_,_,Z,R.hx,Z,(nmc Z ⟨x,B,_,rd,st,bs,rs,c,d,s,r,Z,G,tok,ok,N,lst,λD m=>?_⟩)⟩);have l:=G.same m;have R:=R.same m;cases J:under s r d with
   |false=>exact(nmc Z (qdo ((k D _ (KeepS.of m) Fresh.refl).1 (by unfold qa7;rw[if_neg f,if_pos J]) l)))
   |true =>
    have j:¬under s r d=false:=λz=>by rw[J]at z;cases z
    refine(nmc Z (qbs (nmc Z ⟨Z,(nmc Z (qba (λg=>?_) (λg=>?_)))⟩)))
    .have g:=V.str.inj (of_decide_eq_true g);exact(nmc Z ⟨_,_,_,Z,R.hx,Z,(nmc Z ⟨x,B,_,rd,st,bs,rs,d,Z,l,λp S2 y L R2=>(k p S2 (λb o n e=>y b o n (m _ _ e)) (λb U=>(L b U).imp id λz=>m.free z)).2 _ (by unfold qa7;rw[if_neg f,if_neg j,if_pos g]) R2⟩)⟩)
    .have g:¬F=Aa "anew" := λq=>g (decide_eq_true (congrArg V.str q));refine(nmc Z ⟨Z,(nmc Z (qba (λi=>?_) (λi=>?_)))⟩)
     .have i:=V.str.inj (of_decide_eq_true i);refine(nmc Z ⟨_,_,_,Z,R.hx,Z,(nmc Z ⟨x,B,_,rd,st,bs,rs,c,k1,Z,l,ok,λen=>?_,λp t y W R2=>?_⟩)⟩)
      .exact(k D _ (KeepS.of m) Fresh.refl).1 (by unfold qa7;rw[if_neg f,if_neg j,if_neg g,if_pos i,en]) l
      .exact(k p _ (λb o n e=>y b o n (m _ _ e)) Fresh.refl).2 _ (by unfold qa7;rw[if_neg f,if_neg j,if_neg g,if_pos i,W]) R2
     .have i:¬F=Aa "longer" := λq=>i (decide_eq_true (congrArg V.str q));refine(nmc Z ⟨Z,(nmc Z (qba (λu=>?_) (λu=>?_)))⟩)
      .have u:=V.str.inj (of_decide_eq_true u);refine(nmc Z ⟨_,_,_,Z,R.hx,Z,(nmc Z ⟨x,B,_,rd,st,bs,rs,c,d,Z,l,ok,λv=>?_,λp y v R2=>?_⟩)⟩)
       .exact(k D _ (KeepS.of m) Fresh.refl).1 (by unfold qa7;rw[if_neg f,if_neg j,if_neg g,if_neg i,if_pos u,if_pos v]) l
       .exact(k p _ (λb o n e=>y b o n (m _ _ e)) Fresh.refl).2 _ (by unfold qa7;rw[if_neg f,if_neg j,if_neg g,if_neg i,if_pos u,v,if_neg Ud]) R2
      .have u:¬F=Aa "still" := λq=>u (decide_eq_true (congrArg V.str q));refine(nmc Z ⟨_,_,_,Z,R.hx,Z,(nmc Z ⟨x,B,_,rd,st,bs,rs,c,d,Z,l,ok,λp y R2=>?_⟩)⟩);have I:KeepS [x,Y,pp,O] H p:=λb o n e=>y b o n (m _ _ e);cases v:qai st.ps with|true=>exact(k p _ I Fresh.refl).2 _ (by unfold qa7;rw[if_neg f,if_neg j,if_neg g,if_neg i,if_neg u,if_pos v]) R2|false =>rw[qev v]at R2;exact(k p _ I Fresh.refl).1 (by unfold qa7;rw[if_neg f,if_neg j,if_neg g,if_neg i,if_neg u,v,if_neg Ud]) R2
theorem qwf (T:Txt K mg a):FnOk P w K mg base CX0 21 a.fH a.tU ["self","name","day","kind"] (spFe a):=by
 refine T.pR.fn.ok qoj (λvs H Q E h=>?_) (λcdv A outer s H vs Q E hr h=>?_)
 .obtain⟨_,_,_,_,_,_,_,_,_,_,_,_,_,rfl,_⟩:=h
  all_goals rfl
 .obtain⟨x,B,S,rd,st,bs,rs,c,d,n,g,s,r,rfl,hR,tok,Y,ok,hB,lst,k⟩:=h;refine⟨_,(qf (qu (i:=4) qoj.nd Z (Ar Z) (qal (qac (pv 0) Z) T.kD T.yL (qtb T) (hr.mono Ud) T.xU.bd .nil qad (qd (pv 3) qg qe)))
   (qf (zb (PW.pt (qdv (qt qbt (pv 4) zg (qab _)) (qdv (zf (qac (pv 0) Z)) (qd3 (qc0 (zf (qal (pv 0) T.k7 T.zP (qtc T) (hr.mono Ud) T.sR.bd .nil qad (qd (pv 4) (qd (pv 2) (qd (pv 3) qg qe) qe) qe)))))))) (qj (qo qbk)) qae)
   (qf (qz (qcp A7 AG AH qau (qac (pv 0) Z) (qd (zj (qd (pv 1) (qd (pv 2) (qd (pv 4) qg qe) qe) qe)) qg zo)))
   (qj (qo qbk))))),?_⟩
  obtain⟨dx,rl,cn,F,D,I,ur,up,rfl,R⟩:=id hR;have l:=R.rl.same R.sm;obtain⟨dxr,pe,pa,pl,vn,vw,vp,vb,vs',py,us,h1,_⟩:=id l;refine(nmc Z (flc (R.hx) (T.k7) (qp T.kA Ud) (rfl) ⟨_,_,_,Z,h1,Z,(nmc Z ⟨rl,g,rd,Z,l,Y,λH1 f=>?_⟩)⟩));have v:=hR.same f;have R1:=R.same f;have O:∀H' G,KeepS [x,F,D,I] H H'->Fresh H [x,F,D,I] G->RunAt a B H' x G rd st bs rs->qa3 rd st s r n d g=(st,false)->Q (.bl false) H':=λH' G K' F' R' e=>by have:=k H' G K' F';rw[e]at this;exact this R'
  refine(nmc Z ⟨Z,(nmc Z (qba (λj=>qdo ?_) (λj=>?_)))⟩)
  .have j:=V.str.inj (of_decide_eq_true j);exact O H1 _ (KeepS.of f) Fresh.refl v (by unfold qa3;rw[if_pos (.inl j)])
  .have j:¬qaq rd g=Aa "" := λq=>j (decide_eq_true (congrArg V.str q));refine(nmc Z (flc (R1.hx) (T.k7) (qp T.kA Ud) (rfl) (nmc Z (qba (λN=>qdo ?_) (λN=>?_)))))
   .exact O H1 _ (KeepS.of f) Fresh.refl v (by unfold qa3;rw[if_pos (.inr N)])
   .have L:¬(qaq rd g=Aa "" \/ st.over=true):=λz=>z.elim j N;refine(nmc Z ⟨_,_,_,Z,R1.hx,Z,(nmc Z (nmc Z (nmc Z ⟨x,B,_,rd,st,bs,rs,c,d,_,g,s,r,Z,v,tok,ok,hB.same f,lst,λH2 S2 K2 W=>⟨λen R2=>?_,λu es R2=>?_⟩⟩)))⟩)
    .exact(nmc Z (qdo (O H2 S2 (λb o n e=>K2 b o n (f _ _ e)) (λb U=>(W b U).imp id λz=>f.free z) R2 (by unfold qa3;rw[if_neg L,en]))))
    .have k:=k;have ef:qa3 rd st s r n d g=({u with rows:=u.rows++[(n,d,qaq rd g)]},true):=by unfold qa3;rw[if_neg L,es]
     rw[ef]at k;obtain⟨ag,ah,X,t,p,y,J,ae,rfl,m⟩:=R2;refine(nmc Z (qbs (nmc Z (flc (m.hx) (T.k7) (qp T.kA Ud) (rfl) ⟨.inl ⟨Z,_,SqL.of m.hr⟩,(nmc Z (nmc Z (nmc Z ⟨qkx _ _ _,λq3 ad=>?_⟩)))⟩))));obtain⟨C,e3⟩:=alc (o:=.tup (qj2 (n,d,qaq rd g))) ad;have lr:u.rows.length<=400:=by rw[qf1 es];exact ok.rl
     have lv:J.length=u.rows.length:=by rw[m.tr.length,Ab]
     refine⟨_,_,_,Z,Z,C _ _ m.hr,qb2 (by lia),?_⟩;have X3:=(m.same C).setR (ur':=J++[.ref q3]) (rows':=u.rows++[(n,d,qaq rd g)]) (by rw[Ax];exact(m.tr.same C).snoc e3);have M:Fresh H [x,F,D,I] [x,t,p,y]:=λb U=>(W b U).imp id λz=>f.free z;have af:KeepS [x,F,D,I] H H2:=λb o n e=>K2 b o n (f _ _ e);refine k _ [x,t,p,y] (af.trans M (λb o n e=>qem (by simp) b o n (C _ _ e))) M ⟨ag,ah,X,t,p,y,_,ae,Z,X3⟩
theorem qwg (T:Txt K mg a):FnOk P w K mg base CX0 4 a.m9 a.mV ["self","rule","table","name","day","base"] (qys a):=by
 refine T.rB.fn.ok qv0 (λvs H Q E h=>?_) (λcdv A outer s H vs Q E hr h=>?_)
 .obtain⟨_,_,_,_,_,_,_,_,_,_,_,rfl,_⟩:=h
  all_goals rfl
 .obtain⟨x,g,c,tb,n,d,rd,bs,rs,r,bb,rfl,hx,sb,t,B,ah,k⟩:=h;refine⟨_,(qf (qa2 (pv 0) (pv 1) Z)
   (qf (qa2 (pv 0) (zc (okKindOf T) (hr.mono Ud) Z T.bS.mgx T.bS.fn.kp T.bS.bd .nil qad (qd (qac (pv 1) Z) (qd (pv 2) qg qe) qao)) Z)
   (qf (qa2 (pv 0) (zh (qd (zj (qd (pv 3) (qd (pv 4) (qd zg qg ql) qe) qe)) qg zo)) Z)
   (qf (qa2 (pv 0) qbk Z)
   (qj (qz (qal (pv 0) T.k7 T.nM (qkp T) (hr.mono Ud) T.lE.bd .nil qad (qd (pv 4) (qd (pv 5) qg qe) qe)))))))),?_⟩
  have aq:=B.same sb;have htb0:=ah.same sb;obtain⟨aw,pe,pa,pl,vn,vw,vp,vb,bc,py,us,q,_⟩:=id aq;have ak:c≠x:=λz=>by obtain⟨aw,pe,pa,pl,vn,vw,vp,vb,bc,py,us,q,_⟩:=id B;rw[z,t]at q;cases q
  refine(nmc Z (nmc Z ⟨_,_,_,_,Z,hx,T.k7,qp T.kA Ud,(show 0<1000 by decide),?_⟩));rw[show qbi (Aa "rule") (.ref c) []=(rn1 (.ref c)) by with_unfolding_all rfl];have z1:Same r (upd H x (.ins a.k8 g (rn1 (.ref c)))):=qan sb t;have y1:SameBut x H (upd H x (.ins a.k8 g (rn1 (.ref c)))):=SameBut.set (λ_ _ _ e=>e);have x1:=qk (H:=H) (a:=x) (o:=.ins a.k8 g (rn1 (.ref c)));have g1:=(qr (o:=.ins a.k8 g (rn1 (.ref c))) ak).trans q;generalize upd H x _=H1 at z1 y1 x1 g1 |-;refine(nmc Z (flc (g1) (T.kD) (qp T.kE Ud) (rfl) (nmc Z ⟨rd.unit,tb,Z,λcn y H2 s2 v ay=>?_⟩)));have x2:=s2 _ _ x1;have z2:=z1.trans s2;have y2:=y1.trans (SameBut.of s2);have l:cn≠x:=λz=>by rw[z,x1]at v;cases v
  refine(nmc Z ⟨_,_,_,_,Z,x2,T.k7,qp T.kA Ud,(show 1<1000 by decide),?_⟩);rw[show qbi (Aa "counting") (.ref cn) (rn1 (.ref c))=(rn2 (.ref c) (.ref cn)) by with_unfolding_all rfl];have z3:Same r (upd H2 x (.ins a.k8 g (rn2 (.ref c) (.ref cn)))):=qan z2 t;have y3:SameBut x H (upd H2 x (.ins a.k8 g (rn2 (.ref c) (.ref cn)))):=y2.set;have x3:=qk (H:=H2) (a:=x) (o:=.ins a.k8 g (rn2 (.ref c) (.ref cn)));have R:=(qr (o:=.ins a.k8 g (rn2 (.ref c) (.ref cn))) l).trans ay;generalize upd H2 x _=H3 at z3 y3 x3 R |-;refine(nmc Z (nmc Z ⟨qkx _ _ _,λY bf=>?_⟩));obtain⟨s4,D⟩:=alc (o:=.tup [V.str n,V.int d,V.str (Aa "begins")]) bf;generalize upd H3 Y _=H4 at s4 D |-;refine⟨fit1 _,λf N=>?_⟩;obtain⟨s5,e5⟩:=alc (o:=.lst [V.ref Y]) N;have ax:=(z3.trans s4).free N;generalize upd H4 f _=H5 at s5 e5 |-;have u:=s4.trans s5;have x5:=u _ _ x3;have am:=u _ _ R;have D:=s5 _ _ D;have z5:=z3.trans u;have y5:=y3.trans (SameBut.of u);have p:f≠x:=B6 (qix x5 e5);have J:Y≠x:=λz=>by rw[z,x5]at D;cases D
  refine(nmc Z ⟨_,_,_,_,Z,x5,T.k7,qp T.kA Ud,(show 2<1000 by decide),?_⟩);rw[show qbi (Aa "rows") (.ref f) (rn2 (.ref c) (.ref cn))=(rn3 (.ref c) (.ref cn) (.ref f)) by with_unfolding_all rfl];have z6:Same r (upd H5 x (.ins a.k8 g (rn3 (.ref c) (.ref cn) (.ref f)))):=qan z5 t;have y6:SameBut x H (upd H5 x (.ins a.k8 g (rn3 (.ref c) (.ref cn) (.ref f)))):=y5.set;have x6:=qk (H:=H5) (a:=x) (o:=.ins a.k8 g (rn3 (.ref c) (.ref cn) (.ref f)));have L:=(qr (o:=.ins a.k8 g (rn3 (.ref c) (.ref cn) (.ref f))) l).trans am;have ad:=(qr (o:=.ins a.k8 g (rn3 (.ref c) (.ref cn) (.ref f))) p).trans e5;have ae:=(qr (o:=.ins a.k8 g (rn3 (.ref c) (.ref cn) (.ref f))) J).trans D;generalize upd H5 x _=H6 at z6 y6 x6 L ad ae |-;refine(nmc Z ⟨_,_,_,_,Z,x6,T.k7,qp T.kA Ud,(show 3<1000 by decide),?_⟩);rw[show qbi (Aa "over") (.bl false) (rn3 (.ref c) (.ref cn) (.ref f))=(rn4 (.ref c) (.ref cn) (.ref f) (.bl false)) by with_unfolding_all rfl];have I:Same r (upd H6 x (.ins a.k8 g (rn4 (.ref c) (.ref cn) (.ref f) (.bl false)))):=qan z6 t;have W:SameBut x H (upd H6 x (.ins a.k8 g (rn4 (.ref c) (.ref cn) (.ref f) (.bl false)))):=y6.set;have O:=qk (H:=H6) (a:=x) (o:=.ins a.k8 g (rn4 (.ref c) (.ref cn) (.ref f) (.bl false)));have U:=(qr (o:=.ins a.k8 g (rn4 (.ref c) (.ref cn) (.ref f) (.bl false))) l).trans L;have M:=(qr (o:=.ins a.k8 g (rn4 (.ref c) (.ref cn) (.ref f) (.bl false))) p).trans ad;have ai:=(qr (o:=.ins a.k8 g (rn4 (.ref c) (.ref cn) (.ref f) (.bl false))) J).trans ae;generalize upd H6 x _=H7 at I W O U M ai |-;refine(nmc Z ⟨_,_,_,Z,O,Z,(nmc Z (nmc Z ⟨x,g,c,.ref cn,.ref f,.bl false,bb,_,d,rd,Z,O,.inl Z,B.same I,ak,λH8 F S G m C x8 af ag=>?_⟩))⟩);have z8:Same r H8:=λb o e=>G b o (qag e t) (I b o e);have j:=G _ _ l U;have aj:=G _ _ p M;have bi:=G _ _ J ai;have av:f≠F:=λz=>by rw[<- z,M]at m;cases m
  have y8:=W.trans G;have fr:=qyr t ax (I.free m) (I.free C);have bh:r cn=none:=z1.free v;have al:cn∉[x,f,F,S]:=λi=>by
   rcases Aw.mp i with z|i
   .exact l z
   .rcases Aw.mp i with z|i
    .rw[z,aj]at j;cases j
    .rcases Aw.mp i with z|i
     .rw[z,af]at j;cases j
     .rw[Aj.mp i,ag]at j;cases j
  have ao:H f=none:=(y3.trans (SameBut.of s4)).free p N;have ar:H F=none:=W.free (λz=>by rw[z,O]at m;cases m) m;have au:H S=none:=W.free (λz=>by rw[z,O]at C;cases C) C;have sB:=qx (o:=.ins (kC a rd.unit) y (kfs tb)) bh;have X:∀b∈[x,f,F,S],upd r cn (.ins (kC a rd.unit) y (kfs tb)) b=none:=λb i=>by rw[qr (λz:b=cn=>al (by rw[<- z];exact i))];exact fr b i
  refine k H8 [x,f,F,S] cn (.ins (kC a rd.unit) y (kfs tb)) y8 (λb i=>?_) (by simp) (y1.free l v) al ⟨g,c,cn,f,F,S,[V.ref Y],[],Z,av,x8,aj,.cons bi .nil,af,.nil,ag,B.same sB,⟨y,tb,qk,ah.same sB⟩,λb o e=>?_,X _ (by simp),X _ (by simp),X _ (by simp),X _ (by simp)⟩
  .rcases Aw.mp i with z|i
   .exact .inl z
   .rcases Aw.mp i with z|i
    .exact .inr (by rw[z];exact ao)
    .rcases Aw.mp i with z|i
     .exact .inr (by rw[z];exact ar)
     .exact .inr (by rw[Aj.mp i];exact au)
  .by_cases z:b=cn
   .rw[z,qk]at e;rw[z,j];exact e
   .rw[qr z]at e;exact z8 b o e
theorem okTake (T:Txt K mg a):FnOk P w K mg base CX0 22 a.pX a.nH ["book","table","runs","act"] (spTake a):=by
 refine T.bR.fn.ok qgp (λvs H Q E h=>?_) (λcdv A outer s H vs Q E G h=>?_)
 .obtain⟨_,_,_,_,_,_,_,_,_,_,_,_,_,_,_,_,rfl,_⟩:=h
  all_goals rfl
 .obtain⟨bk,tb,v,aa,B,n,N,ts,Zq,x,S,p,bs,rs,D,ac,rfl,J,hb,cp,tok,ex,ae,bf,W,ai,hD,hN,k⟩:=h;refine⟨_,(qf (qu (i:=4) qgp.nd Z (Ar Z) (zp zq (pv 3) qi (λ_ _=>rfl)))
   (qf (qu (i:=5) qgp.nd Z (Ar Z) (zp zq (pv 3) qi (λ_ _=>rfl)))
   (qf (qu (i:=6) qgp.nd Z (Ar Z) (zp zq (pv 3) qi (λ_ _=>rfl)))
   (qf (qu (i:=7) qgp.nd Z (Ar Z) qfd)
   (qf (qed A8 Z (pv 2) (qaf (i:=8) qgp.nd Z (Ar Z)) (qf (qu (i:=9) qgp.nd Z (Ar Z) (qal (pv 0) T.gF T.yU (qpy T) (G.mono Ud) T.rF.bd .nil qad (qd (pv 8) qg qe)))
   (qj (zb (zf (zc (qru T) (G.mono Ud) Z T.bT.mgx T.bT.fn.kp T.bT.bd .nil qad (qd (qb5 (qb9 G) (pv 2) (pv 8) (λ_ _=>rfl)) qg zn))) (qj (qz (qal (zp zr (qb5 (qb9 G) (pv 2) (pv 8) (λ_ _=>rfl)) (qfa qda qi) (λ_ _=>rfl)) T.k7 T.yW (qwf T) (G.mono Ud) T.pR.bd .nil qad (qd (pv 4) (qd (pv 6) (qd (pv 5) qg qe) qe) qe)))) (qj (zb (PW.pt (qdv (qt qbt (pv 5) (qac (pv 9) Z) (qab _)) (qd3 (qwm (pc_dinN (qb9 G) (qac (pv 9) Z) (pv 7)))))) (qj (qg4 (qb9 G) (pv 7) (pv 8) (qer T.yV (qwg T) (G.mono Ud) Z T.yP T.rB.bd .nil qad (qd (pv 9) (qd (pv 1) (qd (pv 4) (qd (pv 6) (qd (qvu (qb9 G) (pv 7) (qac (pv 9) Z) ⟨Z,Z,Z,Z⟩) qg zl) qe) qe) qe) qe)) Z)) qae))))))
   (qj (qed A8 Z (pv 7) (qaf (i:=8) qgp.nd Z (Ar Z)) (qj (qz (qcp A7 AG AH qau (qb5 (qb9 G) (pv 2) (pv 8) (λ_ _=>rfl)) (qd (qb5 (qb9 G) (pv 7) (pv 8) (λ_ _=>rfl)) qg zn))))))))))),?_⟩
  have ae:=W.sm _ _ ae;refine(nmc Z (txo (ae) Z (nmc Z (txo (ae) Z (nmc Z (txo (ae) Z (λr nb=>?_)))))));have n4:=J.n4;have s1:=qx (o:=.dK []) nb;have am:=s1 _ _ bf;have af:r≠v:=λz=>by rw[z,bf]at nb;cases nb
  have W1:=W.more (o:=.dK []) nb (λ_ z=>nomatch z);have av:=qk (H:=H) (a:=r) (o:=.dK []);generalize upd H r _=H1 at s1 am W1 av |-;refine(nmc Z ⟨v,_,Z,am,λo=>⟨λi σ' H'=>∃(F:Hp)(g:Nat->Nat->Addr)(S':Nat->Nat->List Addr),i<=n/\Same B F/\H' v=some (.frz o (.dK (kvR n ts p)))/\WH a F H' n ts (tk bs rs ts Zq ac i).1 g S' p (λi=>(Zq i).length) [r,v] bs rs/\H' r=some (.dK (bgK ts (λj=>g j (Zq j).length) (tk bs rs ts Zq ac i).2 i))/\∃v8 X:Option V,σ'=[oR bk,oR tb,oR v,oR aa,some (.str ac.1),some (.str ac.2.1),some (.int ac.2.2),oR r,v8,X],?_,?_,?_,?_⟩⟩)
  .refine⟨B,x,S,AS _,Same.refl B,qk,W1.but (by simp) (λ_ z=>nomatch z),?_,none,none,Z⟩;rw[qr af,av];rfl
  .rintro i σ' H' ⟨_,_,_,_,_,h,_⟩;exact h
  .rintro i kv σ' H' I ⟨F,g,S',hin,sB,ag,C,t,v8,X,rfl⟩;obtain⟨d,rfl⟩:=qpq I;have eY:=qkn (bs:=bs) (rs:=rs) (ts:=ts) (Zq:=Zq) (ac:=ac) (Al i);have L:=qmv (bs:=bs) (rs:=rs) (ac:=ac) J ai ex hD hN (m:=i) (BG d);have M:=λb=>qi0 (bs:=bs) (rs:=rs) (ts:=ts) (Zq:=Zq) (ac:=ac) (m:=i) (i:=b);have t1:=λc=>tk_run (bs:=bs) (rs:=rs) (ts:=ts) (Zq:=Zq) (ac:=ac) (i:=i) c;have t2:=λc=>tk_beg (bs:=bs) (rs:=rs) (ts:=ts) (Zq:=Zq) (ac:=ac) (i:=i) c;have t3:=λc=>tk_no (bs:=bs) (rs:=rs) (ts:=ts) (Zq:=Zq) (ac:=ac) (i:=i) c;generalize tk bs rs ts Zq ac i=YF at C t eY L M t1 t2 t3;obtain⟨Y,f⟩:=YF;dsimp only at C t eY L M t1 t2 t3;have fi:f i=false:=by
    cases e:f i with|false=>rfl|true=>have:=(M i).1 e;lia
   obtain⟨nms,us,bu,dc⟩:=hb.same sB;obtain⟨j,rl,e1,e2,bq⟩:=dc i d;have bc:=bu.same C.sm;have bz:=bq.same C.sm;obtain⟨dxb,pob,pdb,kvb,cr,_⟩:=id bc;refine(nmc Z ⟨_,_,_,Z,cr,Z,(nmc Z ⟨bk,nms,_,us,j,.ref rl,(by rw[e1];rfl),bc,e2,?_⟩)⟩);have aj:DGet H' v (kV (.inr (ts i).name)) (some (.ref (p i))):=.inl ⟨_,.inr (ts i).name,.inr ⟨o,ag⟩,Z,(qhc J.nn d).symm⟩;have hl:=C.hl i d;have lz:=(ai.rl i d).1;have lY:(Y i).length=(Zq i).length:=by rw[eY]
   refine(nmc Z (nmc Z ⟨v,_,Z,aj,p i,_,qnp (Zq i),Z,hl,(by rw[Ab,As];lia),?_,_,Z,?_⟩))
   .by_cases z:Zq i=[]
    .rw[z];exact .inl ⟨Z,Z⟩
    .have hp:=BP.mpr z;refine .inr ⟨_,_,F,_,_,_,bs,rs,qrk hp (g i),C.R i d ((Zq i).length-1) (by lia),?_⟩;rw[qup z,eY]
   refine qba (λc=>?_) (λc=>?_)
   .have z:=qgy c;have hp:=BP.mpr z;have cx:Y i≠[]:=by rw[eY];exact z
    have t1:=t1 c;have mm:=qb3 (l:=Y i) (j:=(Y i).length-1) (by lia);have R0:=C.R i d ((Y i).length-1) (by lia);obtain⟨dx1,rl1,cn1,pr1,pp1,pg1,ur1,up1,eS,X1⟩:=id R0;have ax:=L.wf i d _ mm;have bt:=L.ok i d _ mm;have hB:=qum C L ex tok 3 i _ d (by lia) ax;refine(nmc Z (nmc Z ⟨v,_,Z,aj,_,Z,(lxo (hl) ((by rw[qrk hp];exact qiw _ _)) ⟨_,_,_,Z,(by rw[<- lY];exact X1.hx),Z,(nmc Z (nmc Z (nmc Z ⟨_,F,_,_,_,bs,rs,ac.2.2,ac.2.2,ac.1,ac.2.1,_,_,(by rw[<- lY];rfl),R0,tok,J.rd i d,bt.bv _,hB,(qmu L ex d bt ax).bv _,λH2 S2 K2 F2 R2=>?_⟩)))⟩)⟩));rw[feel_bv (qj4 g (ts i).base) qgw]at R2;have W2:=C.felt d cx K2 F2 R2;have eb:=C.eB r (by simp);have ed:=C.eB v (by simp);refine⟨F,g,_,d,sB,K2 _ _ (ed.2.2.2 i d _ (by lia)) ag,(by rw[t1];exact W2),?_,_,_,Z⟩;rw[t1];show H2 r=some (.dK (bgK ts (λj=>g j (Zq j).length) f (i+1)));rw[qy6 fi λ_ _=>rfl];exact K2 _ _ (eb.2.2.2 i d _ (by lia)) t
   .have bh:∀b,f b=true->(Y b).length=(Zq b).length+1:=λb e=>by rw[(M b).2,if_pos e]
    obtain⟨ob,gN,aw,cg⟩:=newR_bb (ac:=ac) (x:=g) J.nn d (J.ba i d) bh t;obtain⟨dxr,pe,pa,pl,wr,sr,pyr,usr,aq,hr2⟩:=id bz;have bj:=opV_is (ts i).opens ac.2.1;apply use (p:=opT (ts i) ac.2.1 f=true)
    .intro au;have no:opT (ts i) ac.2.1 f=false->∃(F:Hp)(g:Nat->Nat->Addr)(S':Nat->Nat->List Addr),i+1<=n/\Same B F/\H' v=some (.frz o (.dK (kvR n ts p)))/\WH a F H' n ts (tk bs rs ts Zq ac (i+1)).1 g S' p (λi=>(Zq i).length) [r,v] bs rs/\H' r=some (.dK (bgK ts (λj=>g j (Zq j).length) (tk bs rs ts Zq ac (i+1)).2 (i+1)))/\∃v8 X:Option V,[oR bk,oR tb,oR v,oR aa,some (.str ac.1),some (.str ac.2.1),some (.int ac.2.2),oR r,some (.str (ts i).name),oR rl]=[oR bk,oR tb,oR v,oR aa,some (.str ac.1),some (.str ac.2.1),some (.int ac.2.2),oR r,v8,X]:=λe=>by rw[t3 c e];exact⟨F,g,S',d,sB,ag,C,by rw[qy6 fi λ_ _=>rfl];exact t,_,_,Z⟩
     refine(nmc Z (nmc Z (flc (aq) (T.kD) (qp T.kE Ud) (rfl) ⟨bj.1,_,Z,?_⟩)));rw[bj.2];refine qba (λc1=>qdo (au ?_)) (λc1=>(nmc Z (flc (aq) (T.kD) (qp T.kE Ud) (rfl) (nmc Z ⟨r,ob,Z,gN,_,Z,?_⟩))))
     .unfold opT;rw[c1];rfl
     .rw[aw];have eo:opT (ts i) ac.2.1 f=fB (ts i).base f:=by
       unfold opT;cases e:decide ((ts i).opens=some ac.2.1) with|true=>exact absurd e c1|false=>exact DR _
      rw[<- eo];refine qba (λc2=>au c2) (λc2=>no ?_);cases e:opT (ts i) ac.2.1 f with|false=>rfl|true=>exact absurd e c2
    .intro bw;have t2:=t2 c bw;refine(nmc Z (nmc Z (nmc Z (nmc Z (nmc Z ⟨r,Z,.inl ⟨_,.inl t⟩,(nmc Z (flc (aq) (T.kD) (qp T.kE Ud) (rfl) ⟨ob,gN,λy dy ny ar nne=>?_⟩))⟩)))));have keep:Same H' (upd (upd H' dy (.own y)) y (.ins a.k8 dy [])):=λb u e=>by rw[qr (qag e ny),qr (qag e ar)];exact e
     refine⟨y,dy,rl,tb,ac.1,ac.2.2,(ts i).rd,bs,rs,F,_,Z,qk,C.sm.trans keep,C.sm.free ny,bq.at,cp.same sB,λH2 S2 cn oc b2 f2 hy2 bi c9 R2=>⟨Z,(nmc Z (nmc Z ⟨r,_,Z,DPut.k (k:=.inr (ts i).name) ((b2.made ny ar) _ _ t) (by have:=bgK_len (ts:=ts) (y:=λj=>g j (Zq j).length) (f:=f) (m:=i);rw[Bx];lia),?_⟩))⟩⟩;have s2:Same H' H2:=b2.made ny ar;rw[cg]at R2;have cq:=newR_wf (ac:=ac) (J.ba i d) bh;have W2:=C.begun L.wf d s2 (λb ca=>?_) (keep.free bi) c9 cq R2
     .have U:=W2.but (c:=r) (by simp) (o:=.dK (qc7 (bgK ts (λj=>g j (Zq j).length) f i) (.inr (ts i).name) (.ref y))) (λ_ z=>nomatch z);refine⟨_,_,_,d,sB.trans (qx (C.sm.free (keep.free bi))),?_,(by rw[t2];exact U),?_,_,_,Z⟩
      .rw[qr (B6 af)];exact s2 _ _ ag
      .rw[qk,t2];have e3:qbn (bgK ts (λj=>g j (Zq j).length) f i) (.inr (ts i).name)=none:=by rw[qld J.nn (BG d) d,if_neg (λz=>absurd z.1 (Cd _))]
       rw[qid _ e3];show some (HO.dK _)=some (HO.dK (bgK ts (λj=>pu2 g i (Y i).length y j (Zq j).length) (put f i true) (i+1)));rw[bgK_yes (y:=λj=>g j (Zq j).length) (λj hj=>qch (.inl (AE hj)))];show _=some (HO.dK (_++[(_,V.ref (pu2 g i (Y i).length y i (Zq i).length))]));rw[lY,qdt]
     .rcases f2 b ca with z|z
      .rw[z];exact ny
      .exact keep.free z
  .rintro σ' H' ⟨F,g,S',_,sB,ag,C,t,v8,X,rfl⟩;rw[qlc]at C t;have L:=qmv (bs:=bs) (rs:=rs) (ac:=ac) J ai ex hD hN (m:=n) (Al n);have M:=λb=>qi0 (bs:=bs) (rs:=rs) (ts:=ts) (Zq:=Zq) (ac:=ac) (m:=n) (i:=b);generalize tk bs rs ts Zq ac n=YF at C t L M k;obtain⟨Y,f⟩:=YF;dsimp only at C t L M k;have W2:=C.but (c:=v) (by simp) (o:=.dK (kvR n ts p)) (λ_ z=>nomatch z);have ao:upd H' v (.dK (kvR n ts p)) r=some (.dK (bgK ts (λj=>g j (Zq j).length) f n)):=by rw[qr af];exact t
   have ak:=qk (H:=H') (a:=v) (o:=.dK (kvR n ts p));generalize upd H' v _=H2 at W2 ao ak |-;obtain⟨gl,egl⟩:∃gl,gl=(Aq n).filter f:=⟨_,Z⟩;have al:∀i,i∈gl↔i<n/\f i=true:=λi=>by rw[egl,BW,AV]
   have cz:gl.Nodup:=by rw[egl];exact Dq.filter _
   have ay:bgK ts (λj=>g j (Zq j).length) f n=gl.map λi=>(.inr (ts i).name,.ref (g i (Zq i).length)):=by rw[egl];rfl
   refine(nmc Z ⟨r,_,Z,ao,λo2=>⟨λm σ' H'=>H' v=some (.dK (kvR n ts p))/\H' r=some (.frz o2 (.dK (bgK ts (λj=>g j (Zq j).length) f n)))/\WH a F H' n ts Y g S' p (λi=>(Zq i).length+if i∈gl.take m then 1 else 0) [r,v] bs rs/\∃v8 X:Option V,σ'=[oR bk,oR tb,oR v,oR aa,some (.str ac.1),some (.str ac.2.1),some (.int ac.2.2),oR r,v8,X],?_,?_,?_,?_⟩⟩)
   .refine⟨by rw[qr (B6 af)];exact ak,qk,?_,_,_,Z⟩;have:=W2.but (c:=r) (by simp) (o:=.frz o2 (.dK (bgK ts (λj=>g j (Zq j).length) f n))) (λ_ z=>nomatch z);rw[show (λi=>(Zq i).length+if i∈gl.take 0 then 1 else 0)=λi=>(Zq i).length from funext λi=>by rw[DH,if_neg AB];rfl];exact this
   .rintro m σ' H3 ⟨_,h,_⟩;exact h
   .rintro m kv σ' H3 I ⟨ad,ah,U,v8,X,rfl⟩;rw[ay,Ah]at I;cases eg:gl[m]? with
    |none=>rw[eg]at I;cases I
    |some i =>
    rw[eg]at I;cases I;obtain⟨d,fi⟩:=(al i).mp (A4 eg);have nt:i∉gl.take m:=λz=>by obtain⟨j,hj⟩:=Bt z;have lt:=(Ac.mp hj).1;rw[Bj]at lt;rw[List.getElem?_take,if_pos (by lia)]at hj;have:=(Ev (by lia) cz).mp (hj.trans eg.symm);lia
    have lY:(Y i).length=(Zq i).length+1:=by rw[(M i).2,if_pos fi]
    have hl:=U.hl i d;have lz:=(ai.rl i d).1;rw[if_neg nt,Nat.add_zero]at hl;have aj:DGet H3 v (kV (.inr (ts i).name)) (some (.ref (p i))):=.inl ⟨_,.inr (ts i).name,.inl ad,Z,(qhc J.nn d).symm⟩;have cw:DGet H3 r (kV (.inr (ts i).name)) (some (.ref (g i (Zq i).length))):=.inl ⟨_,.inr (ts i).name,.inr ⟨o2,ah⟩,Z,by rw[qld J.nn (Al n) d,if_pos ⟨d,fi⟩]⟩;refine(nmc Z (nmc Z ⟨v,_,Z,aj,.inl ⟨Z,_,SqL.of hl⟩,(nmc Z (nmc Z ⟨r,_,Z,cw,_,_,_,Z,Z,hl,qb2 (by rw[Ab,As];lia),?_⟩))⟩));have W4:=U.listed d (by rw[if_neg nt,lY];lia);rw[if_neg nt,Nat.add_zero,Bv,Ax]at W4;have c8:=U.eB v (by simp);have c7:=U.eB r (by simp);refine⟨by rw[qr (c8.2.2.1 i d)];exact ad,by rw[qr (c7.2.2.1 i d)];exact ah,?_,_,_,Z⟩;rw[show (λO=>(Zq O).length+if O∈gl.take (m+1) then 1 else 0)=put (λO=>(Zq O).length+if O∈gl.take m then 1 else 0) i ((Zq i).length+1) from funext λO=>by
     rw[B8,eg];by_cases z:O=i
     .subst z;rw[qav,if_pos (by simp)]
     .rw[qar z];have:O∈gl.take m++(some i).toList↔O∈gl.take m:=by simp[z]
      by_cases w:O∈gl.take m
      .rw[if_pos w,if_pos (this.mpr w)]
      .rw[if_neg w,if_neg (λq=>w (this.mp q))]]
    exact W4
   .rintro σ' H3 ⟨ad,ah,U,v8,X,rfl⟩;rw[ay,Ab,Bz]at U;have W4:=(U.but (c:=r) (by simp) (o:=.dK (bgK ts (λj=>g j (Zq j).length) f n)) (λ_ z=>nomatch z)).less (E':=[v]) (by simp);rw[show (λi=>(Zq i).length+if i∈gl then 1 else 0)=λi=>(Y i).length from funext λi=>by
     rw[(M i).2];by_cases z:f i=true
     .rw[if_pos z,if_pos ((al i).mpr ⟨(M i).1 z,z⟩)]
     .rw[if_neg z,if_neg (λq=>z ((al i).mp q).2)]]at W4
    exact k _ F g S' sB (by rw[qr (B6 af)];exact ad) W4
theorem qm6 (T:Txt K mg a):FnOk P w K mg base CX0 1 a.l7 a.mT ["self","last"] (spSw a):=by
 refine T.pK.fn.ok qme (λvs H Q E h=>?_) (λcdv A outer s H vs Q E hr h=>?_)
 .obtain⟨_,_,_,_,_,_,_,_,rfl,_⟩:=h
  all_goals rfl
 .obtain⟨x,B,S,rd,st,bs,rs,r,rfl,b,k⟩:=h;refine⟨_,(qf (zb (zf (qac (pv 0) Z)) (qj (qo zg)) qae)
   (qj (qo (qco (qt qbz (pv 1) qap (qab _)) zg zg)))),?_⟩
  obtain⟨dx,rl,cn,pr,pp,pg,ur,up,rfl,R⟩:=id b;unfold swd at k;refine(nmc Z (flc (R.hx) (T.k7) (qp T.kA Ud) (rfl) (nmc Z (qba (λc=>?_) (λc=>?_)))))
  .rw[if_pos c]at k;exact k
  .rw[if_neg c]at k;cases r with|none =>rw[if_pos Z]at k;exact(nmc Z ⟨Z,(nmc Z (qcs Z k))⟩)|some l =>rw[if_neg (λz=>nomatch z)]at k;exact(nmc Z ⟨Z,(nmc Z (qbo (λz=>nomatch z) k))⟩)
theorem qpz (T:Txt K mg a):FnOk P w K mg base CX0 19 a.lC a.rZ ["self"] (spAc a):=by
 refine T.xJ.fn.ok qfy (λvs H Q E h=>?_) (λcdv A outer s H vs Q E hr h=>?_)
 .obtain⟨_,_,_,_,_,_,_,_,_,_,_,_,_,_,rfl,_⟩:=h
  all_goals rfl
 .obtain⟨x,B,S,rd,st,bs,rs,c,s,r,n,w0,d0,rw0,rfl,p,tok,ok,v,lst,U,k⟩:=h;refine⟨_,(qf (qu (i:=1) qfy.nd Z (Ar Z) (qbj (pv 0) T.k7 T.gW (qeq T) (hr.mono Ud) T.gA.bd .nil qad))
   (qf (qu (i:=2) qfy.nd Z (Ar Z) (qbj (pv 0) T.k7 T.bC (qho T) (hr.mono Ud) T.gE.bd .nil qad))
   (qj (qo (zj (qd (zp zq (zp zr (qac (pv 0) Z) qi (λ_ _=>rfl)) qi (λ_ _=>rfl)) (qd (qal (pv 0) T.k7 T.xZ (qm6 T) (hr.mono Ud) T.pK.bd .nil qad (qd (pv 2) qg qe)) (qd (pv 1) (qd (qac (pv 0) Z) (qd (qdz qfl (by rfl) T.gZ qd0 (qd (qac (pv 0) Z) qg qao)) (qd (pv 2) (qd (qdz qfl (by rfl) T.gZ qd0 (qd (qac (pv 0) Z) qg qao)) qg zl) qe) zl) qao) qe) zl) zn)))))),?_⟩
  obtain⟨dx,rl,cn,pr,pp,pg,N,M,rfl,R⟩:=id p;have s0:∀z,s=some z->0<=z:=λz e=>qdj (e ▸ v) ok.d0;refine(nmc Z ⟨_,_,_,Z,R.hx,Z,x,B,_,rd,st,bs,rs,s,Z,p,v,λH0 l=>?_⟩);have X0:=R.same l;refine(nmc Z ⟨_,_,_,Z,X0.hx,Z,x,B,_,rd,st,bs,rs,c,s,Z,p.same l,tok,ok,v.same l,λH1 C d G=>?_⟩);obtain rfl:=qen s0 G lst;have d:=l.trans d;have b:=R.same d;have Y:=p.same d;have tr:=b.tr;rw[U]at tr;obtain⟨q0,L,X⟩:=tr.get (i:=0) (r:=qj2 (n,d0,w0)) rfl;refine(nmc Z (flc (b.hx) (T.k7) (qp T.kA Ud) (rfl) (lxo (b.hr) ((qa0 (j:=0) L)) (txo (X) Z (nmc Z ⟨_,_,_,Z,b.hx,Z,(nmc Z ⟨x,B,_,rd,st,bs,rs,C,Z,Y,(nmc Z (nmc Z (flc (b.hx) (T.k7) (qp T.kA Ud) (rfl) (nmc Z (flc (b.hx) (T.k7) (qp T.kA Ud) (rfl) ⟨_,_,Z,.inl (SqL.of b.hp),λF u=>?_⟩)))))⟩)⟩)))));obtain⟨g,J⟩:=alc (o:=.lst M) u;have n4:=d.free u;generalize upd H1 F _=H4 at g J |-;have m:=b.same g;refine(nmc Z (nmc Z (flc (m.hx) (T.k7) (qp T.kA Ud) (rfl) ⟨_,_,Z,.inl (SqL.of m.hr),λD t=>?_⟩)));obtain⟨y,O⟩:=alc (o:=.lst N) t;have n6:=(d.trans g).free t;generalize upd H4 D _=H6 at y O |-;refine⟨fit7 _ _ _ _ _ _ _,λq W=>?_⟩;have I:=qx (o:=.tup [V.str n,V.str (swd st.over C),oV s,V.int st.units,V.ref F,oV C,V.ref D]) W;have f:=y.trans I;exact k q F D _ (d.trans (g.trans f)) ((d.trans (g.trans y)).free W) n4 n6 ⟨qk,⟨M,f _ _ J,m.tp.same f⟩,⟨N,I _ _ O,m.tr.same f⟩⟩
theorem qor (T:Txt K mg a){cL Pt:Addr}(hcl:a.bG.code=.ref cL)(LF:Lam.LamF mg base cL Pt):FnOk P w K mg base CX0 24 a.rL a.nK ["book","table","acts"] (spHist a Pt):=by
 refine T.gQ.fn.ok qd2 (λvs H Q E h=>?_) (λcdv A outer s H vs Q E hr h=>?_)
 .obtain⟨_,_,_,_,_,_,_,_,_,rfl,_⟩:=h
  all_goals rfl
 .obtain⟨bk,tb,pa,us,bj,n,ts,bs,rs,rfl,T0,hb,fk,tok,ex,dv,gb,hln,hd0,hL,k⟩:=h;refine⟨_,(qf (qu (i:=3) qd2.nd Z (Ar Z) qfd)
   (qf (qa8 A8 Z (qbf (qbj (pv 0) T.gF T.xV (qnr T) (hr.mono Ud) T.pA.bd .nil qad)) (qaf (i:=4) qd2.nd Z (Ar Z)) (qj (qg4 (qb9 hr) (pv 3) (pv 4) (zh qg) Z)))
   (qf (qa8 A8 Z (qbf (zc (qwd T hcl LF) (hr.mono Ud) Z T.dI.mgx T.dI.fn.kp T.dI.bd .nil qad (qd (pv 2) qg qe))) (qaf (i:=5) qd2.nd Z (Ar Z)) (qj (qz (zc (okTake T) (hr.mono Ud) Z T.bR.mgx T.bR.fn.kp T.bR.bd .nil qad (qd (pv 0) (qd (pv 1) (qd (pv 3) (qd (pv 5) qg qe) qe) qe) qe)))))
   (qf (qu (i:=6) qd2.nd Z (Ar Z) qfd)
   (qf (qed A8 Z (pv 3) (qaf (i:=4) qd2.nd Z (Ar Z)) (qj (qg4 (qb9 hr) (pv 6) (pv 4) (qfn (N:=["run"]) (js:=[none]) (XN:=["book","table","acts","runs","term","act","told"]) (xs:=qaa qii) Z Z Z Uk (qbf (qb5 (qb9 hr) (pv 3) (pv 4) (λ_ _=>rfl))) (λ_ _ _ _ _ _=>(qaf (i:=0) (show Cz (["run"]:List Str) from by decide +kernel) Z (Ar Z) (DN Z))) (λ_ _ _ _ _ _=>qfm) (λ_ _ _ _ _ _=>(qbj (pv 0) T.k7 T.zE (qpz T) (hr.mono Ud) T.xJ.bd .nil qad))) Z)))
   (qj (qo (pv 6)))))))),?_⟩
  have n4:=T0.n4;refine λB nd=>?_;obtain⟨s1,al⟩:=alc (o:=.dK []) nd;generalize upd H B _=H1 at s1 al |-;obtain⟨nms,gc,fe,hru⟩:=id hb;have av:=fe.same s1;obtain⟨dxb,pob,pdb,kvb,fq,_⟩:=id av;refine(nmc Z ⟨_,_,_,Z,fq,Z,bk,nms,_,gc,Z,av,λqh nh=>?_⟩);obtain⟨s2,eh⟩:=alc (o:=.lst (((Aq n).map λi=>(ts i).name).map V.str)) nh;have ax:=s2 _ _ al;have ft:qh≠B:=λz=>by rw[z,al]at nh;cases nh
  generalize upd H1 qh _=H2 at s2 eh ax |-;refine⟨_,Z,⟨_,SqL.of eh⟩,qbm (K:=K) (a:=qh) (xs:=((Aq n).map λi=>(ts i).name).map V.str) (λi σ H'=>Same H H'/\H' qh=some (.lst (((Aq n).map λi=>(ts i).name).map V.str))/\∃p:Nat->Addr,H' B=some (.dK (kvR i ts p))/\(∀j<i,H' (p j)=some (.lst [])/\H (p j)=none/\p j≠B/\p j≠qh/\∀j'<j,p j'≠p j)/\∃v4:Option V,σ=[oR bk,oR tb,oR pa,oR B,v4,none,none]) ⟨s1.trans s2,eh,λ_=>B,ax,λj f=>absurd f (B0 _),none,Z⟩ (λi σ H' _ h=>SqL.of h.2.1) ?_ ?_⟩
  .rintro i v σ H' hv ⟨Y,bf,p,ae,G,v4,rfl⟩;have C:i<n:=by have:=(Ac.mp hv).1;rw[Ab,Ab,As]at this;exact this
   rw[Ah,Ah,AX C]at hv;cases hv;refine⟨qfh,λpi ni=>(nmc Z (nmc Z ⟨B,_,Z,DPut.k (k:=.inr (ts i).name) (qx ni _ _ ae) (by rw[qlc,Bx];lia),?_⟩))⟩;have dc:pi≠B:=λz=>by rw[z,ae]at ni;cases ni
   have cx:pi≠qh:=λz=>by rw[z,bf]at ni;cases ni
   have c9:∀j<i,pi≠p j:=λj f z=>by rw[z,(G j f).1]at ni;cases ni
   have e3:qbn (kvR i ts p) (.inr (ts i).name)=none:=qpr λw m=>by obtain⟨j,f,e⟩:=Bd.mp m;injection e with e1 _;have f:=AV.mp f;have:=T0.nn j (by lia) i C (Dh.inj e1);lia
   have bw:qc7 (kvR i ts p) (.inr (ts i).name) (.ref pi)=kvR (i+1) ts (put p i pi):=by rw[qid _ e3];unfold kvR;rw[Bv,Ax];refine congr (congrArg _ (BQ λj f=>by rw[qar (AE (AV.mp f))])) ?_;show _=[(_,V.ref (put p i pi i))];rw[qav]
   rw[bw];refine⟨λb o e=>by rw[qr (qag e nd),qr (qag (Y _ _ e) ni)];exact Y _ _ e,by rw[qr ft,qr (B6 cx)];exact bf,put p i pi,qk,λj f=>?_,_,Z⟩;by_cases z:j=i
   .subst z;rw[qav];exact⟨by rw[qr dc,qk],Y.free ni,dc,cx,λj' am=>by rw[qar (AE am)];exact B6 (c9 j' am)⟩
   .obtain⟨W,U,g3,O,g5⟩:=G j (by lia);rw[qar z];exact⟨by rw[qr g3,qr (B6 (c9 j (by lia)))];exact W,U,g3,O,λj' am=>by rw[qar (by lia)];exact g5 j' am⟩
  rintro σ H3 ⟨Y,bf,p,ae,G,v4,rfl⟩;rw[Ab,Ab,As]at ae G;refine(nmc Z ⟨pa,us,bj,Z,Y _ _ dv,gb.same Y,by lia,hL.same Y,λL H4 aq d ar s4 dz aw cr ea ta=>?_⟩);obtain⟨tps,dt⟩:=(hL.same Y).tbl;have bi:KpT H3 H4:=KpT.of dt s4;have ay:H4 B=some (.dK (kvR n ts p)):=bi _ _ (λ_ z=>nomatch z) ae;have cp:∀j<n,H4 (p j)=some (.lst []):=λj f=>bi _ _ (λ_ z=>nomatch z) (G j f).1;obtain⟨F,f1,f2,f3⟩:=mask_ex (λb=>b=B \/ ∃j,j<n/\b=p j) H4;have aj:∀b o,(∀l,o ≠ .lst l)->(∀l,o ≠ .dK l)->H4 b=some o->F b=some o:=λb o n1 n2 e=>f2 b o (λz=>by
   rcases z with z|⟨j,f,z⟩
   .rw[z,ay]at e;exact n2 _ (AA e).symm
   .rw[z,cp j f]at e;exact n1 _ (AA e).symm) e
  have kF:KpT H F:=λb o n1 e=>f2 b o (λz=>by
   rcases z with z|⟨j,f,z⟩
   .rw[z,nd]at e;cases e
   .rw[z,(G j f).2.1]at e;cases e) (bi b o n1 (Y _ _ e))
  have df:Lam.LamAt F Pt ioP ioQ:=by
   rcases dz with h|⟨c,W,U⟩
   .exact .inl (aj _ _ (λ_ z=>nomatch z) (λ_ z=>nomatch z) h)
   .exact .inr ⟨c,aj _ _ (λ_ z=>nomatch z) (λ_ z=>nomatch z) W,aj _ _ (λ_ z=>nomatch z) (λ_ z=>nomatch z) U⟩
  have fg:F L=some (.lst aq):=f2 _ _ (λz=>by
   rcases z with z|⟨j,f,z⟩
   .rw[z,ae]at ar;cases ar
   .rw[z,(G j f).1]at ar;cases ar) ea
  have cw:Tups F aq (d.map qdy):=qce ta λb u e=>aj b _ (λ_ z=>nomatch z) (λ_ z=>nomatch z) e;have bF:=qy9 kF hb;have tF:=tab_T kF fk;have l4:d.length=bj.length:=aw.length_eq;have ga:aq.length=d.length:=by have:=cw.length;rw[Ab]at this;exact this
  have W0:WH a F H4 n ts (qcm bs rs ts n (d.take 0)) (λ_ _=>B) (λ_ _=>[]) p (λi=>(qcm bs rs ts n (d.take 0) i).length) [B] bs rs:=by
   refine⟨f3,λi C=>cp i C,λi C=>Al _,λi C j f=>absurd f (B0 _),λi C j f=>absurd f (B0 _),λi C=>f1 _ (.inr ⟨i,C,Z⟩),λi C D bc ne=>?_,λi C D bc j f=>absurd f (B0 _),λc hc=>?_⟩
   .rcases Nat.lt_or_gt_of_ne ne with h|h
    .exact(G D bc).2.2.2.2 i h
    .exact B6 ((G i C).2.2.2.2 D h)
   .rw[Aj.mp hc];exact⟨f1 _ (.inl Z),⟨_,ay,λ_ z=>nomatch z⟩,λi C=>B6 (G i C).2.2.1,λi C j f=>absurd f (B0 _)⟩
  have P0:PZ n ts (qcm bs rs ts n (d.take 0)) ((d.take 0).getLastD dA).2.2 0:=⟨λi C st h=>absurd h AB,λi C st h=>absurd h AB,λi C=>⟨Al _,λst h=>absurd h AB⟩,Bb _⟩;refine⟨L,Z,⟨_,SqL.of ea⟩,qbm (K:=K) (a:=L) (xs:=aq) (λm σ H'=>∃(B':Hp)(x:Nat->Nat->Addr)(S:Nat->Nat->List Addr),Same F B'/\H' B=some (.dK (kvR n ts p))/\WH a B' H' n ts (qcm bs rs ts n (d.take m)) x S p (λi=>(qcm bs rs ts n (d.take m) i).length) [B] bs rs/\PZ n ts (qcm bs rs ts n (d.take m)) ((d.take m).getLastD dA).2.2 m/\∃v5:Option V,σ=[oR bk,oR tb,oR pa,oR B,v4,v5,none]) ⟨F,_,_,Same.refl F,ay,W0,P0,none,Z⟩ (λm σ H' _ h=>by obtain⟨B',x,S,sB,_,W',_⟩:=h;exact SqL.of ((sB.trans W'.sm) _ _ fg)) ?_ ?_⟩
  .rintro m v σ H' hv ⟨B',x,S,sB,dh,W',P',v5,rfl⟩;have hm:m<d.length:=by have:=(Ac.mp hv).1;lia
   have em:=Ae hm;obtain⟨b,eb,qb⟩:=cw.get (i:=m) (r:=qdy d[m]) (by rw[Ah,em];rfl);rw[hv]at eb;cases eb;generalize d[m]=ac at em qb;have a0:=hd0 ac (aw.mem_iff.mp (A4 em));have hD:((d.take m).getLastD dA).2.2<=ac.2.2:=by
    rw[List.getLastD_eq_getLast?];cases m with|zero=>exact a0|succ m =>rw[List.getLast?_take,if_neg (by lia),D5,Ae (by lia)];exact qur cr (Ca m) (Ae (by lia)) em
   have et:d.take (m+1)=d.take m++[ac]:=by rw[B8,em];rfl
   refine(nmc Z (nmc Z (nmc Z (nmc Z ⟨bk,tb,B,b,B',n,m,ts,_,x,S,p,bs,rs,_,ac,Z,T0,bF.same sB,tF.same sB,tok,ex,sB _ _ qb,dh,W',P',hD,by lia,λH'' dw x' S' fh c7 dm=>?_⟩))));have dk:=qmv (bs:=bs) (rs:=rs) (ac:=ac) T0 P' ex hD (by lia) (m:=n) (Al n);refine⟨dw,x',S',sB.trans fh,c7,?_,?_,_,Z⟩
   .rw[et,qj8];exact dm
   .rw[et,qj8,show (d.take m++[ac]).getLastD dA=ac by simp];exact dk
  rintro σ H5 ⟨B5,x,S,ao,ca,W5,P5,v5,rfl⟩;rw[ga,Bz]at W5 P5;have ai:∀{J:Hp}{b:Addr},Same B5 J->J b=none->H b=none:=λ{J b} sJ e=>by
   cases eH:H b with
   |none=>rfl
   |some o =>
    exfalso;by_cases z:∃t,o=.tbl t
    .obtain⟨t,rfl⟩:=z;obtain⟨ps,g⟩:=df.tbl;by_cases w:b=Pt
     .rw[w]at e;rw[sJ _ _ (ao _ _ g)]at e;cases e
     .have:=s4 b _ w (Y _ _ eH);rw[sJ _ _ (ao _ _ (aj b (.tbl t) (λ_ z=>by cases z) (λ_ z=>by cases z) this))]at e;cases e
    .rw[sJ _ _ (ao _ _ (kF b o (λt q=>z ⟨t,q⟩) eH))]at e;cases e
  refine λpt ak=>?_;have W6:=W5.more (o:=.dK []) ak (λ_ z=>nomatch z);have c8:=qx (o:=.dK []) ak _ _ ca;have de:=qk (H:=H5) (a:=pt) (o:=.dK []);have bh:pt≠B:=λz=>by rw[z,ca]at ak;cases ak
  have dg:H pt=none:=ai W5.sm ak;generalize upd H5 pt _=H6 at W6 c8 de |-;generalize eZ:qcm bs rs ts n d=Zq at W5 W6 P5;refine(nmc Z ⟨B,_,Z,c8,λo=>⟨λi σ' H'=>∃(q:Nat->Addr)(y p4 p6:Nat->Nat->Addr),H' B=some (.frz o (.dK (kvR n ts p)))/\WH a B5 H' n ts Zq x S p (λi=>(Zq i).length) [pt,B] bs rs/\H' pt=some (.dK (kvR i ts q))/\(∀D<i,AccI bs rs ts Zq D (ofl [pt,B] H') (q D) (y D) (p4 D) (p6 D)/\H (q D)=none/\∀j<(Zq D).length,H (y D j)=none/\H (p4 D j)=none/\H (p6 D j)=none)/\SepT Zq i q p4 p6/\∃v4:Option V,σ'=[oR bk,oR tb,oR pa,oR B,v4,v5,oR pt],?_,?_,?_,?_⟩⟩)
  .exact⟨λ_=>B,λ_ _=>B,λ_ _=>B,λ_ _=>B,qk,W6.but (by simp) (λ_ z=>nomatch z),by rw[qr bh];exact de,λi C=>absurd C (B0 _),λi C=>absurd C (B0 _),_,Z⟩
  .rintro i σ' H' ⟨_,_,_,_,h,_⟩;exact h
  .rintro i kv σ' H' fz ⟨q,y,p4,p6,af,W',ad,hA,ah,v4,rfl⟩;obtain⟨HB,eHB⟩:∃HB,HB=H':=⟨_,Z⟩;obtain⟨C,rfl⟩:=qpq fz;have e9:DGet H' B (kV (.inr (ts i).name)) (some (.ref (p i))):=.inl ⟨_,.inr (ts i).name,.inr ⟨o,af⟩,Z,(qhc T0.nn C).symm⟩;have hl:=W'.hl i C;have lz:=(P5.rl i C).1;refine(nmc Z (nmc Z ⟨B,_,Z,e9,_,Z,⟨_,SqL.of hl⟩,?_⟩));have xj:∀(j:Nat)(v:V),((Aq (Zq i).length).map λj=>V.ref (x i j))[j]?=some v->j<(Zq i).length/\v=.ref (x i j):=λj v e=>by
    rw[Ah]at e;by_cases h:j<(Zq i).length
    .rw[AX h]at e;cases e;exact⟨h,Z⟩
    .rw[AR (by rw[As];lia)]at e;cases e
   refine qxo (λI v L H'=>∃r4 r6:Addr,(∀j,((Aq (Zq i).length).map λj=>V.ref (x i j))[j]?=some v->AccAt (ofl [I,pt,B] H') L r4 r6 (nm0 ((Zq i).getD j dRS)) ((Zq i).getD j dRS) (stF bs rs ts Zq 3 i ((Zq i).getD j dRS)) (lsC bs rs (ts i).rd ((Zq i).getD j dRS) (stF bs rs ts Zq 3 i ((Zq i).getD j dRS))))/\H' L≠none/\L≠I/\H L=none/\H r4=none/\H r6=none/\HB r4=none/\HB r6=none) (λI v L J J' kp=>?_) (λI v L J g=>?_) (λσ'=>∃v,σ'=[v]) (qd8 (K:=K) (SqL.of hl)) (qdr (by rw[Ab,As];lia)) ⟨none,Z⟩ (λI v σ' J RR' hv hpn X du fj qq=>?_) qeu λI H8 qs M s8 e8 l8 nd8 g8=>?_
   .rintro⟨r4,r6,W,U,g3,O⟩;refine⟨r4,r6,λj e=>(W j e).same (qgz (λ_ h=>h) λb u nb e=>kp b u (λz=>nb (by rw[z];simp)) e),?_,g3,O⟩;cases e:J L with|none=>exact absurd e U|some u=>rw[kp _ _ g3 e];exact λz=>nomatch z
   .obtain⟨_,_,_,U,_⟩:=g;exact U
   .obtain⟨v0,rfl⟩:=fj;obtain⟨zs,bu⟩:=du;obtain⟨j,f⟩:=Bt hv;obtain⟨lj,rfl⟩:=xj j _ f;have WJ:=W'.same X;have mm:=qb3 lj;have bt:=P5.ok i C _ mm;have cg:=P5.wf i C _ mm;have R0:=WJ.R i C j lj;obtain⟨dx1,rl1,cn1,pr1,pp1,pg1,ur1,up1,eS,X1⟩:=id R0;have hB:=qum WJ P5 ex tok 3 i _ C (by lia) cg;obtain⟨⟨n0,d0,w0⟩,rw0,erw⟩:∃r0 rr,((Zq i).getD j dRS).rows=r0::rr:=by
     cases e:((Zq i).getD j dRS).rows with|nil=>exact absurd e bt.r0|cons r0 rr=>exact⟨r0,rr,Z⟩
    have en:nm0 ((Zq i).getD j dRS)=n0:=by unfold nm0;rw[erw];rfl
    refine(nmc Z ⟨_,_,_,Z,X1.hx,Z,_,B5,_,_,_,bs,rs,_,_,_,n0,w0,d0,rw0,Z,R0,tok,bt.bv _,hB,(qmu P5 ex C bt cg).bv _,erw,λL r4 r6 H9 s9 nq au bz cz=>?_⟩);have f4:∀b,J b=none->b∉[I,pt,B]:=λb e z=>by
     rcases Aw.mp z with z|z
     .rw[z,bu]at e;cases e
     .rcases Aw.mp z with z|z
      .rw[z,X _ _ ad]at e;cases e
      .rw[Aj.mp z,X _ _ af]at e;cases e
    have di:=cz.ofL (l:=[I,pt,B]) (λc hc t e=>by
     rcases Aw.mp hc with z|z
     .rw[z,s9 _ _ bu]at e;cases e
     .rcases Aw.mp z with z|z
      .rw[z,s9 _ _ (X _ _ ad)]at e;cases e
      .rw[Aj.mp z,s9 _ _ (X _ _ af)]at e;cases e) (f4 _ au) (f4 _ bz)
    refine qq _ L H9 ⟨_,Z⟩ s9 nq ⟨r4,r6,λj' e=>?_,(by rw[cz.1];exact λz=>nomatch z),(λz=>by rw[z,bu]at nq;cases nq),ai WJ.sm nq,ai WJ.sm au,ai WJ.sm bz,eHB ▸ X.free au,eHB ▸ X.free bz⟩;obtain⟨dr,ej⟩:=xj j' _ e;have:j=j':=W'.inj C lj dr (V.ref.inj ej);subst this;rw[en];exact di
   .rw[Ab,As]at l8;have W8:=W'.same s8;have dj:∀j:Nat,∃pr:Addr×Addr,j<(Zq i).length->AccAt (ofl [I,pt,B] H8) (qs.getD j 0) pr.1 pr.2 (nm0 ((Zq i).getD j dRS)) ((Zq i).getD j dRS) (stF bs rs ts Zq 3 i ((Zq i).getD j dRS)) (lsC bs rs (ts i).rd ((Zq i).getD j dRS) (stF bs rs ts Zq 3 i ((Zq i).getD j dRS)))/\H (qs.getD j 0)=none/\H pr.1=none/\H pr.2=none/\HB pr.1=none/\HB pr.2=none:=λj=>by
     by_cases h:j<(Zq i).length
     .have ev:((Aq (Zq i).length).map λj=>V.ref (x i j))[j]?=some (.ref (x i j)):=by rw[Ah,AX h];rfl
      have eq:qs[j]?=some (qs.getD j 0):=by rw[Ak,Ae (by lia)];rfl
      obtain⟨⟨r4,r6,W,U,g3,O⟩,_⟩:=g8 j _ _ ev eq;exact⟨(r4,r6),λ_=>⟨W j ev,O⟩⟩
     .exact⟨(0,0),λz=>absurd z h⟩
    obtain⟨pr,ag⟩:=Classical.axiomOfChoice dj;have cq:I≠pt:=λz=>by rw[z,ad]at M;cases M
    have fc:I≠B:=λz=>by rw[z,af]at M;cases M
    have e3:qbn (kvR i ts q) (.inr (ts i).name)=none:=qpr λw m=>by obtain⟨j,f,e⟩:=Bd.mp m;injection e with e1 _;have f:=AV.mp f;have:=T0.nn j (by lia) i C (Dh.inj e1);lia
    have bw:qc7 (kvR i ts q) (.inr (ts i).name) (.ref I)=kvR (i+1) ts (put q i I):=by rw[qid _ e3];unfold kvR;rw[Bv,Ax];refine congr (congrArg _ (BQ λj f=>by rw[qar (AE (AV.mp f))])) ?_;show _=[(_,V.ref (put q i I i))];rw[qav]
    refine(nmc Z (nmc Z ⟨pt,_,Z,DPut.k (k:=.inr (ts i).name) (s8 _ _ ad) (by rw[qlc,Bx];lia),?_⟩));rw[bw];have kU:∀b u,b∉[pt,B]->H8 b=some u->upd H8 pt (.dK (kvR (i+1) ts (put q i I))) b=some u:=λb u nb e=>by rw[qr (λz=>nb (by rw[z];simp))];exact e
    refine⟨put q i I,put y i (λj=>qs.getD j 0),put p4 i (λj=>(pr j).1),put p6 i (λj=>(pr j).2),by rw[qr (B6 bh)];exact s8 _ _ af,W8.but (by simp) (λ_ z=>nomatch z),qk,λD bc=>?_,qy8 ah ?_ ?_,_,Z⟩
    rotate_left
    .subst eHB;intro i1 h1;obtain⟨⟨W,U⟩,_⟩:=hA i1 h1;have e1:=(qh7 W).2;refine⟨(λz=>by rw[z,M]at e1;cases e1),λj f=>?_,λj f=>?_⟩
     .obtain⟨_,⟨u4,O,_⟩,⟨u6,g6,_⟩⟩:=U j f;have O:=(qh7 O).2;have g6:=(qh7 g6).2;exact⟨(λz=>by rw[<- z,M]at O;cases O),(λz=>by rw[<- z,M]at g6;cases g6)⟩
     .obtain⟨_,_,_,_,c4,c6⟩:=ag j f;exact⟨(λz=>by rw[z,c4]at e1;cases e1),(λz=>by rw[z,c6]at e1;cases e1)⟩
    .intro j f;obtain⟨⟨_,⟨u4,O,_⟩,⟨u6,g6,_⟩⟩,_⟩:=ag j f;exact⟨(λz=>(qh7 O).1 (by rw[<- z];simp)),(λz=>(qh7 g6).1 (by rw[<- z];simp))⟩
    by_cases z:D=i
    .subst z;rw[qav,qav,qav,qav];refine⟨⟨?_,λj f=>(ag j f).1.same (qgz (by simp) λb u nb e=>kU b u (λw=>nb (by simp at w |-;exact .inr w)) e)⟩,ai W'.sm M,λj f=>⟨(ag j f).2.1,(ag j f).2.2.1,(ag j f).2.2.2.1⟩⟩;refine qj7 (by simp[cq,fc]) ?_;rw[qr cq,e8]
     congr 2
     refine Cr λj=>?_;rw[Ah,Ah];by_cases h:j<(Zq D).length
     .rw[AX h];show _=some (V.ref (qs.getD j 0));rw[Ak,Ae (by lia)];rfl
     .rw[AR (by lia),AR (by rw[As];lia)];rfl
    .rw[qar z,qar z,qar z,qar z];obtain⟨W,U⟩:=hA D (by lia);exact⟨W.same (qgz (λ_ h=>h) λb u nb e=>kU b u nb (s8 _ _ e)),U⟩
  .rintro σ' H' ⟨q,y,p4,p6,af,W',ad,hA,ah,v4,rfl⟩;rw[qlc]at ad hA ah;have W9:=W'.but (c:=B) (by simp) (o:=.dK (kvR n ts p)) (λ_ z=>nomatch z);have bq:upd H' B (.dK (kvR n ts p)) pt=some (.dK (kvR n ts q)):=by rw[qr bh];exact ad
   have k9:∀b u,b∉[pt,B]->H' b=some u->upd H' B (.dK (kvR n ts p)) b=some u:=λb u nb e=>by rw[qr (λz=>nb (by rw[z];simp))];exact e
   generalize upd H' B _=H9 at W9 bq k9 |-;have sF:=ao.trans W9.sm;subst eZ;refine(nmc Z (k pt H9 d q y p4 p6 (λb u nb e=>?_) (df.same sF) aw cr ⟨bq,λi C=>(hA i C).1.same (quq k9)⟩ ⟨dg,λi C=>(hA i C).2⟩ P5 ah));have e4:=s4 b u nb (Y _ _ e);refine sF _ _ (f2 b u (λz=>?_) e4);rcases z with z|⟨j,f,z⟩
   .rw[z,nd]at e;cases e
   .rw[z,(G j f).2.1]at e;cases e
theorem qwh (T:Txt K mg a):FnOk P w K mg base CX0 1 a.tP a.tI ["name","bases","taken"] spUnt:=by
 refine T.fF.fn.ok qg8 (λvs H Q E h=>?_) (λcdv A outer s H vs Q E Y h=>?_)
 .obtain⟨_,_,_,_,_,_,_,_,_,rfl,_⟩:=h
  all_goals rfl
 .obtain⟨x,d,t,kvs,nms,bs,p,tk,n,rfl,hd,ht,B,hk,rfl,X,k⟩:=h;refine⟨_,(qf (qu (i:=3) qg8.nd Z (Ar Z) (zh qg))
   (qf (qu (i:=4) qg8.nd Z (Ar Z) (pv 0))
   (qf (qh9 A8 (PW.pt (qcf (qt qfk (pv 4) qap (qab _)) (qbw (qt qic (pv 4) (pv 2) (by with_unfolding_all rfl))))) (qf (zb (qt qdb (pv 4) (pv 3) (by with_unfolding_all rfl)) (qj qe9) qae)
   (qf (qz (qcp A7 AG AH qau (pv 3) (qd (pv 4) qg qe)))
   (qj (qu (i:=4) qg8.nd Z (Ar Z) (qb5 (qb9 Y) (pv 1) (pv 4) (λ_ _=>rfl)))))))
   (qj (qo (pv 3)))))),?_⟩
  refine⟨qfh,λq F=>?_⟩;obtain⟨W,U⟩:=alc (o:=.lst []) F;generalize upd H q _=H0 at W U |-;refine(nmc Z ?_);refine⟨λm σ' H'=>Same H H'/\∃g:List Str,H' q=some (.lst (g.map V.str))/\((∃c:Nat,σ'=[some (.str (nm nms n)),oR d,oR t,oR q,some (.str (nm nms c))]/\c<nms.length/\p c<m/\g++upW nms bs tk m c=upW nms bs tk 7 n/\g.length+m=7/\∀y∈g,∃j,j<nms.length/\y=nm nms j/\p c<p j) \/
    (σ'=[some (.str (nm nms n)),oR d,oR t,oR q,some .non]/\g=upW nms bs tk 7 n)),⟨7,W,[],U,.inl ⟨n,Z,hk,B.lo n,Z,Z,λy N=>absurd N AB⟩⟩,?_⟩
  rintro m σ' H' ⟨G,g,r,⟨c,rfl,v,hm,l,hl,I⟩|⟨rfl,e⟩⟩
  .refine(nmc Z ⟨Z,(nmc Z (qml (λz=>nomatch z) (nmc Z (nmc Z ⟨_,_,Z,.inl (SqL.of (G _ _ ht)),Z,qfi _,(nmc Z ?_)⟩))))⟩);show if (!inV (.str (nm nms c)) (tk.map V.str))=true then _ else _;rw[qgu];cases R:tk.contains (nm nms c) with
   |true =>refine qbs (nmc Z (k q H' F G ?_));rw[up_stop (CB.mp R),Bu]at l;rw[r,l]
   |false =>
    have nt:¬nm nms c∈tk:=λz=>by rw[CB.mpr z]at R;cases R
    have np:g.contains (nm nms c)=false:=by
     cases ep:g.contains (nm nms c) with
     |false=>rfl
     |true =>obtain⟨j,M,L,D⟩:=I _ (CB.mp ep);rw[qms B.nd v M L]at D;exact absurd D (Cd _)
    obtain⟨f,rfl⟩:∃f,m=f+1:=⟨m-1,by lia⟩;rw[up_take nt]at l;have lz:(g.map V.str).length<=90000:=by rw[Ab];lia
    refine qdo ⟨λσ2 u=>Same H u/\∃g:List Str,u q=some (.lst (g.map V.str))/\((∃c:Nat,σ2=[some (.str (nm nms n)),oR d,oR t,oR q,some (.str (nm nms c))]/\c<nms.length/\p c<f/\g++upW nms bs tk f c=upW nms bs tk 7 n/\g.length+f=7/\∀y∈g,∃j,j<nms.length/\y=nm nms j/\p c<p j) \/
     (σ2=[some (.str (nm nms n)),oR d,oR t,oR q,some .non]/\g=upW nms bs tk 7 n)),λσ2 u z=>⟨f,Ca f,z⟩,?_⟩
    refine(nmc Z (nmc Z ⟨_,_,Z,.inl (SqL.of r),Z,qfi _,(nmc Z ?_)⟩));show if (inV (.str (nm nms c)) (g.map V.str))=true then _ else _;rw[qgu,np];refine qbs (nmc Z ⟨.inl ⟨Z,_,SqL.of r⟩,(nmc Z ⟨_,_,_,Z,Z,r,qb2 lz,?_⟩)⟩);have C:Same H (upd H' q (.lst (g.map V.str++[V.str (nm nms c)]))):=qan G F;have J:upd H' q (.lst (g.map V.str++[V.str (nm nms c)])) q=some (.lst ((g++[nm nms c]).map V.str)):=by rw[qk,Ax];rfl
    generalize upd H' q _=u at C J |-;refine(nmc Z (nmc Z ⟨d,_,Z,(X c v) ▸ DGet.k (k:=.inr (nm nms c)) (C _ _ hd),?_⟩));cases O:bo bs c with
    |none =>rw[O]at l;exact⟨C,_,J,.inr ⟨Z,l⟩⟩
    |some b =>
     rw[O]at l;obtain⟨b1,S⟩:=B.ok c b (by rw[bo_at (by rw[B.len];exact v),O]);refine⟨C,_,J,.inl ⟨b,Z,b1,by lia,?_,by rw[Af];show g.length+1+f=7;lia,λy N=>?_⟩⟩
     .rw[List.append_assoc];exact l
     .rcases Az.mp N with z|z
      .obtain⟨j,M,L,D⟩:=I y z;exact⟨j,M,L,Nat.lt_trans S D⟩
      .exact⟨c,v,Aj.mp z,S⟩
  .refine(nmc Z ⟨Z,(nmc Z (qgr Z (qbs (nmc Z (k q H' F G ?_)))))⟩);rw[r,e]
theorem qm7 (T:Txt K mg a):FnOk P w K mg base CX0 2 a.xI a.xS ["rules"] (spHang a):=by
 refine T.dO.fn.ok qb1 (λvs H Q E h=>?_) (λcdv A outer s H vs Q E I h=>?_)
 .obtain⟨_,_,_,_,_,rfl,_⟩:=h
  all_goals rfl
 .obtain⟨y,us,nms,bs,rk,rfl,B,f,v,k⟩:=h;refine⟨_,(qf (qu (i:=1) qb1.nd Z (Ar Z) qfd)
   (qf (qa8 A8 Z (qbf (pv 0)) (qaf (i:=2) qb1.nd Z (Ar Z)) (qj (qg4 (qb9 I) (pv 1) (qac (pv 2) Z) (qac (pv 2) Z) Z)))
   (qf (qu (i:=3) qb1.nd Z (Ar Z) (zh qg))
   (qf (qa8 A8 Z (qbf (pv 0)) (qaf (i:=2) qb1.nd Z (Ar Z)) (qj (qlg (i:=3) qb1.nd Z (Ar Z) (qsh Z (by rfl) T.gZ (by rfl) T.xX qd0 (qd (zc (qwh T) (I.mono Ud) Z T.fF.mgx T.fF.fn.kp T.fF.bd .nil qad (qd (qac (pv 2) Z) (qd (pv 1) (qd (pv 3) qg qe) qe) qao)) qg zl)) ip_ext)))
   (qj (qo (pv 3))))))),?_⟩
  refine λd S=>?_;obtain⟨D,L⟩:=alc (o:=.dK []) S;generalize upd H d _=H0 at D L |-;refine(nmc Z ⟨_,Z,⟨_,SqL.of (D _ _ B)⟩,qbm (K:=K) (a:=y) (xs:=us) (λi σ H'=>Same H H'/\∃(l:Option V)(kvs:List (Key×V)),σ=[oR y,oR d,l,none]/\H' d=some (.dK kvs)/\kvs.length<=i/\∀k<i,qbn kvs (.inr (nm nms k))=some (qrj nms (bo bs k)))
   ⟨D,none,[],Z,L,Al _,λk hk=>absurd hk (B0 _)⟩ (λi σ H' _ h=>SqL.of (h.1 _ _ B)) ?_ ?_⟩)
  .rintro i x σ H' m ⟨e,l,kvs,rfl,j,Y,u⟩;have C:i<nms.length:=by rw[<- f.1];exact(Ac.mp m).1
   obtain⟨p,dx,fs,rfl,r,F,W⟩:=(f.2 i x m).same e;refine(nmc Z (flc (r) (T.kD) (qp T.kE Ud) (W) (nmc Z (nmc Z (flc (r) (T.kD) (qp T.kE Ud) (F) ⟨d,_,Z,DPut.k (k:=.inr (nm nms i)) j (by rw[Bx];have:=v.sm;lia),?_⟩)))));exact⟨qan e S,_,_,Z,qk,A9 (qdk _ _ _) (CQ Y),dic_put v.nd C u⟩
  .rintro σ J ⟨e,l,kvs,rfl,j,Y,u⟩;rw[f.1]at u;refine⟨qfh,λt n=>?_⟩;have G:=e.trans (qx (o:=.lst []) n);have M:=qx (o:=.lst []) n _ _ j;have g:=qk (H:=J) (a:=t) (o:=.lst []);have nt:=e.free n;have X:d≠t:=λz=>by rw[<- z,j]at n;cases n
   generalize upd J t _=H2 at G M g |-;refine(nmc Z ⟨_,Z,⟨_,SqL.of (G _ _ B)⟩,qbm (K:=K) (a:=y) (xs:=us) (λi σ H'=>Same H H'/\H' d=some (.dK kvs)/\H' t=some (.lst ((qiy nms bs i).map V.str))/\∃l:Option V,σ=[oR y,oR d,l,oR t])
    ⟨G,M,g,_,Z⟩ (λi σ H' _ h=>SqL.of (h.1 _ _ B)) ?_ ?_⟩)
   .rintro i x σ H' m ⟨e,j,g,l,rfl⟩;have C:i<nms.length:=by rw[<- f.1];exact(Ac.mp m).1
    obtain⟨p,dx,fs,rfl,r,F,W⟩:=(f.2 i x m).same e;refine(nmc Z (nmc Z (flc (r) (T.kD) (qp T.kE Ud) (F) (nmc Z (nmc Z ⟨_,_,_,_,nms,bs,rk,_,i,Z,j,g,v,C,Z,u,λq1 O n1 z1 e1=>?_⟩)))));refine⟨_,_,Z,SqL.of e1,λU N=>?_⟩;have q:=z1.trans (qx (o:=.lst ((upW nms bs (qiy nms bs i) 7 i).map V.str).reverse) N);have R:=qk (H:=O) (a:=U) (o:=.lst ((upW nms bs (qiy nms bs i) 7 i).map V.str).reverse);generalize upd O U _=H4 at q R |-;refine⟨_,_,_,_,Z,Z,q _ _ g,R,qdr (by have a:=qy1 nms bs i;have b:=qpo nms bs (qiy nms bs i) 7 i;have c:=v.sm;rw[BO,Ab,Ab];lia),?_⟩;refine⟨qan (e.trans q) nt,(qr X).trans (q _ _ j),?_,_,Z⟩;rw[qk,qj3,<- List.map_reverse,<- Ax]
   .rintro σ H' ⟨e,j,g,l,rfl⟩;rw[f.1]at g;exact(nmc Z (k t H' nt e g))
theorem qm8 (T:Txt K mg a):FnOk P w K mg base CX0 1 a.xK a.rP ["within","week","yearly"] spFyw:=by
 refine T.bQ.fn.ok qmf (λvs H Q E h=>?_) (λcdv A outer s H vs Q E hr h=>?_)
 .obtain⟨_,_,_,_,_,rfl,_⟩:=h
  all_goals rfl
 .obtain⟨i,pw,py,e,yr,rfl,L,⟨us,u,ty⟩,hl,k⟩:=h;refine⟨_,(qj (qo (pe_or (qbp qdb (qv qah (qv qay (pv 0) qi) qi) (pv 1) (by with_unfolding_all rfl)) (qdn (zd (qvk Z) (by rfl) T.yT qxu (qd (qfn (N:=["first","last","within"]) (js:=[none,none,some 0]) (XN:=["within","week","yearly"]) (xs:=qaa qdg) Z Z Z Uk (qbf (pv 2)) (λ_ _ _ _ _ _=>(pg_tupC (K:=K) Z (n:=2) Z (qam (qaf (i:=0) (show Cz (["first","last","within"]:List Str) from by decide +kernel) Z (Ar Z) (DN Z)) (qam (qaf (i:=1) (show Cz (["first","last","within"]:List Str) from by decide +kernel) Z (Ar Z) (DN Z)) qc1)))) (λ_ _ _ _ _ _=>qfm) (λ_ _ _ _ _ _=>(qp6 qf3 qf3 (pv 0) (pv 2) (pv 1)))) qg qw9)))))),?_⟩;refine(nmc Z (icc Z Z (pos Ud) (iic Z Z (nmc Z ⟨_,_,Z,.inl (SqL.of L),Z,qoc _,(nmc Z ?_)⟩))));show if inV (.int (i % 7+1)) (e.map V.int)=true then _ else _;rw[qqj];have c:=λH' s=>k H' s;unfold fy at c;cases o:e.contains (i % 7+1) with
  |true =>rw[o,Bool.true_or]at c;exact qdo (c _ (Same.refl H))
  |false =>
   rw[o]at c;have lu:us.length=yr.length:=by rw[ty.length,Ab]
   refine qbs (nmc Z ⟨_,Z,⟨_,SqL.of u⟩,?_⟩);let f:V->V:=λv=>match v with
    |.ref b=>match H b with
     |some (.tup [.int x,.int y])=>.bl (decide (x<=i) && decide (i<=y))
     |_=>.non
    |_=>.non
   refine qn7 f (λσ'=>∃p B,σ'=[p,B,oI i]) (qd8 (SqL.of u)) (qdr (by lia)) ⟨none,none,Z⟩ (λv σ' H' RR J I s1 q=>?_) (gk_tup λxs σ' H' RR RR' h z=>?_) λR H2 hp2 S l=>?_
   .obtain⟨p,B,rfl⟩:=s1;obtain⟨j,U⟩:=Bt J;obtain⟨b,t,rfl,D,m⟩:=ty.get' U;obtain⟨r,_,rfl⟩:=qq2 D;have X:f (.ref b)=.bl (decide (r.1<=i) && decide (i<=r.2)):=by show (match H b with|some (.tup [.int x,.int y])=>V.bl (decide (x<=i) && decide (i<=y))|_=>.non)=_;rw[m];rfl
    have q:=q [some (.int r.1),some (.int r.2),oI i] H' ⟨_,_,Z⟩ (Same.refl H');rw[X]at q;refine⟨_,_,Z,SqT.of (I _ _ m),Z,_,_,Z,_,_,Z,Z,(nmc Z (nmc Z (iic Z Z (nmc Z ?_))))⟩;by_cases d:r.1<=i
    .rw[decide_eq_true d,Bool.true_and]at q;exact qcs d (nmc Z (iic Z Z q))
    .rw[decide_eq_false d,CN]at q;exact qbo d q
   .obtain⟨Y,O,W,G,C,l,z⟩:=z;exact⟨Y,O,W,G,C,l,⟨z.1,h _ _ z.2⟩⟩
   have M:us.map f=(yr.map λr=>decide (r.1<=i) && decide (i<=r.2)).map V.bl:=by rw[Cf];exact qqi (g:=f) ty λb r F=>by show (match H b with|some (.tup [.int x,.int y])=>V.bl (decide (x<=i) && decide (i<=y))|_=>.non)=_;rw[F];rfl
   refine⟨R,yr.map λr=>decide (r.1<=i) && decide (i<=r.2),Z,SqL.of (by rw[l,M]),?_⟩;show Q (.bl ((yr.map λr=>decide (r.1<=i) && decide (i<=r.2)).any λb=>b)) _;rw[List.any_map];exact c _ S
theorem qrw (T:Txt K mg a):FnOk P w K mg base CX0 1 a.rA a.xN ["free_days"] spCu:=by
 refine T.dW.fn.ok qgq (λvs H Q E h=>?_) (λcdv A outer s H vs Q E hr h=>?_)
 .obtain⟨_,_,rfl,_⟩:=h
  all_goals rfl
 .obtain⟨p,bs,rfl,u,hl,k⟩:=h;refine⟨_,(qf (qu (i:=1) qgq.nd Z (Ar Z) (zh (qd qi qg ql)))
   (qf (qa8 A8 Z (qbf (pv 0)) (qaf (i:=2) qgq.nd Z (Ar Z)) (qj (qz (qcp A7 AG AH qau (pv 1) (qd (qco (zf (pv 2)) (zp zr (pv 1) (qfa qda qi) (λ_ _=>rfl)) (qv qah (zp zr (pv 1) (qfa qda qi) (λ_ _=>rfl)) qi)) qg qxb)))))
   (qj (qo (pv 1))))),?_⟩
  refine⟨qdr (by show 1<=100000;decide),λq n=>?_⟩;have y:=qx (o:=.lst [V.int 0]) n;refine(nmc Z ⟨_,Z,⟨_,SqL.of (y _ _ u)⟩,qbm (K:=K) (a:=p) (xs:=bs.map V.bl) (λi σ H'=>Same H H'/\H' q=some (.lst (((Aq (i+1)).map λk=>opn bs k).map V.int))/\∃v:Option V,σ=[oR p,oR q,v])
   ⟨y,qk,none,Z⟩ (λi σ H' _ h=>SqL.of (h.1 _ _ u)) ?_ ?_⟩)
  .rintro i x σ H' d ⟨j,c,v,rfl⟩;rw[Ah]at d;cases ex:bs[i]? with
   |none=>rw[ex]at d;cases d
   |some b =>
    rw[ex]at d;cases d;have hi:i<bs.length:=(Ac.mp ex).1;have t:∀m,((Aq (m+1)).map λk=>opn bs k).map V.int=((Aq m).map λk=>opn bs k).map V.int++[V.int (opn bs m)]:=λm=>by rw[Bv,Ax,Ax];rfl
    have e:(((Aq (i+1)).map λk=>opn bs k).map V.int).length<=90000:=by rw[Ab,Ab,As];lia
    have r:=c;rw[t]at r;have f:∀z,z=opn bs (i+1)->Same H (upd H' q (.lst (((Aq (i+1)).map λk=>opn bs k).map V.int++[V.int z])))/\upd H' q (.lst (((Aq (i+1)).map λk=>opn bs k).map V.int++[V.int z])) q=some (.lst (((Aq (i+1+1)).map λk=>opn bs k).map V.int))/\True:=λz B=>by subst B;exact⟨qan j n,by rw[qk,t (i+1)],trivial⟩
    refine(nmc Z ⟨.inl ⟨Z,_,SqL.of c⟩,(nmc Z (nmc Z ?_))⟩);cases b with
    |true =>obtain⟨l,g,_⟩:=f (opn bs i) (by rw[qlv ex];rfl);exact qdo (nmc Z (nmc Z (lxo (r) (qd7 _ _) ⟨_,_,_,Z,Z,c,qb2 e,l,g,_,Z⟩)))
    |false =>obtain⟨l,g,_⟩:=f (opn bs i+1) (by rw[qlv ex];rfl);exact qbs (nmc Z (nmc Z (lxo (r) (qd7 _ _) (iic Z Z ⟨_,_,_,Z,Z,c,qb2 e,l,g,_,Z⟩))))
  .rintro σ H' ⟨j,c,v,rfl⟩;rw[Ab]at c;exact(nmc Z (k q H' n j c))
theorem qrx (T:Txt K mg a):FnOk P w K mg base CX0 2 a.mH a.pM ["thing"] spWd:=by
 refine T.fE.fn.ok qq0 (λvs H Q E h=>?_) (λcdv A outer s H vs Q E d h=>?_)
 .obtain⟨_,rfl,_⟩:=h
  all_goals rfl
 .obtain⟨n,rfl,c,b,k⟩:=h;refine⟨_,(qj (qo (qd4 (zc (qhe T) (d.mono Ud) Z T.kT.mgx T.kT.fn.kp T.kT.bd .nil qad (qd (pv 0) qg qe)) (qdn (qp6 qf3 qf3 qi (pv 0) qi))))),?_⟩;refine(nmc Z (nmc Z (nmc Z (qdo (nmc Z (iic Z Z (nmc Z (qcs c (iic Z Z ?_)))))))));show Q (.bl (decide (n<=7))) H;rw[decide_eq_true b];exact k
theorem qp0 (T:Txt K mg a):FnOk P w K mg base CX0 3 a.mN a.nX ["week"] spRefW:=by
 refine T.fD.fn.ok qfz (λvs H Q E h=>?_) (λcdv A outer s H vs Q E u h=>?_)
 .obtain⟨_,_,rfl,_⟩:=h
  all_goals rfl
 .obtain⟨p,b,rfl,g,ok,k⟩:=h;refine⟨_,(qj (qa8 A8 Z (qk6 Z T.bP (qd (pv 0) qg qe)) (qd5 Z (qam (qaf (i:=1) qfz.nd Z (Ar Z)) (qam (qaf (i:=2) qfz.nd Z (Ar Z)) qc1))) (qj (zb (PW.pt (qdv (qt qbt (pv 1) (qb4 (v:=.int 6) Z T.yB.choose_spec ⟨_,Z⟩) (qab _)) (qdv (qc0 (zf (zc (qrx T) (u.mono Ud) Z T.fE.mgx T.fE.fn.kp T.fE.bd .nil qad (qd (pv 2) qg qe)))) (qd3 (qt qdb (pv 2) (qfb qia (pv 0) qg2 (qg3 (pv 1))) (by with_unfolding_all rfl)))))) (qj qe9) qae)))),?_⟩;have e:=ok.len;refine(nmc Z ⟨_,_,Z,g,qig (K:=K) (a:=p) (xs:=b.map V.int) (λi σ H'=>Same H H'/\∃f j:Option V,σ=[oR p,f,j]) ⟨Same.refl H,none,none,Z⟩ (λi σ H' _ h=>SqL.of (h.1 _ _ g)) ?_ ?_⟩)
  .rintro i x t σ H' c ⟨d,f,j,rfl⟩ y;rw[Ah]at c;cases ex:b[i]? with|none=>rw[ex]at c;cases c|some n =>rw[ex]at c;cases c;have l:i<b.length:=(Ac.mp ex).1;have m:=ok.rng n (A4 ex);have r:=qx (o:=.tup [V.int (i:Int),V.int n]) y;refine⟨_,_,Z,SqT.of qk,Z,_,_,Z,_,_,Z,Z,?_⟩;refine(nmc Z ⟨Z,(nmc Z (qbo (λz=>absurd (Int.ofNat.inj (V.int.inj z)) (AE (A0 l e))) (nmc Z ⟨_,Z,m.1,m.2,(nmc Z (qbs (nmc Z (nmc Z (nmc Z ⟨_,Z,_,_,Z,SqL.of (r _ _ (d _ _ g)),λq C=>?_⟩)))))⟩)))⟩);rw[qiq (b.map V.int) i (by rw[Ab];exact BG l),<- Ey];have B:=qx (o:=.lst ((b.take i).map V.int)) C;refine⟨_,_,Z,.inl (SqL.of qk),Z,qoc _,(nmc Z ?_)⟩;show if inV (.int n) ((b.take i).map V.int)=true then _ else _;rw[qqj,dup ok.nd ex];exact qbs ⟨(d.trans r).trans B,_,_,Z⟩
  .rintro σ H' ⟨d,f,j,rfl⟩;exact k _ d
theorem qtd (T:Txt K mg a):FnOk P w K mg base CX0 3 a.mY a.nI ["thing"] spYr:=by
 refine T.dD.fn.ok qss (λvs H Q E h=>?_) (λcdv A outer s H vs Q E c h=>?_)
 .obtain⟨_,_,rfl,_⟩:=h
  all_goals rfl
 .obtain⟨p,r,rfl,b,d,g,e,f,k⟩:=h;refine⟨_,(qf (zb (qc0 (PW.pt (qcf (zf (zd qie (by rfl) T.dX qct (qd (pv 0) (qd (qk1 (v:=.ty "tuple") Z T.zA qsp Z) qg qe) qe))) (qbw (qt qbt (zd qa5 (by rfl) T.kP qa6 (qd (pv 0) qg qe)) qi (qab _)))))) (qj (qo qbk)) qae)
   (qj (qo (qd4 (zc (qhm T) (c.mono Ud) Z T.gH.mgx T.gH.fn.kp T.gH.bd .nil qad (qd (zp zq (pv 0) qi (λ_ _=>rfl)) (qd (zp zq (pv 0) qi (λ_ _=>rfl)) (qd (qb4 (v:=.int 30) Z T.zT.choose_spec ⟨_,Z⟩) qg qe) zn) zn)) (qdn (qbp qcx (zp zq (pv 0) qi (λ_ _=>rfl)) (qb4 (v:=.int 364) Z T.fV.choose_spec ⟨_,Z⟩) (qab _))))))),?_⟩
  refine(nmc Z ⟨_,_,_,_,Z,.tup b,qks,(nmc Z (qdo (nmc Z ⟨_,_,Z,.inr ⟨_,SqT.of b,Z⟩,Z,(nmc Z (qbs ?_))⟩)))⟩);refine(nmc Z (txo (b) Z (nmc Z (txo (b) Z ⟨_,_,_,Z,d,g,e,(nmc Z (qdo (nmc Z (txo (b) Z (iic Z Z ?_)))))⟩))));show Q (.bl (decide (r.2<364))) H;rw[decide_eq_true f];exact k
theorem qm9 (T:Txt K mg a):FnOk P w K mg base CX0 4 a.mU a.xO ["yearly"] spRefY:=by
 refine T.dN.fn.ok qek (λvs H Q E h=>?_) (λcdv A outer s H vs Q E n h=>?_)
 .obtain⟨_,_,rfl,_⟩:=h
  all_goals rfl
 .obtain⟨p,yr,rfl,⟨us,f,j⟩,ok,k⟩:=h;refine⟨_,(qj (qa8 A8 Z (qk6 Z T.bP (qd (pv 0) qg qe)) (qd5 Z (qam (qaf (i:=1) qek.nd Z (Ar Z)) (qam (qaf (i:=2) qek.nd Z (Ar Z)) qc1))) (qj (zb (PW.pt (qdv (qt qbt (pv 1) (qb4 (v:=.int 4) Z T.yH.choose_spec ⟨_,Z⟩) (qab _)) (qd3 (qc0 (zf (zc (qtd T) (n.mono Ud) Z T.dD.mgx T.dD.fn.kp T.dD.bd .nil qad (qd (pv 2) qg qe))))))) (qj qe9) qae)))),?_⟩;have hlen:=ok.len;have lu:us.length=yr.length:=by rw[j.length,Ab]
  refine(nmc Z ⟨_,_,Z,f,qig (K:=K) (a:=p) (xs:=us) (λi σ H'=>Same H H'/\∃d e:Option V,σ=[oR p,d,e]) ⟨Same.refl H,none,none,Z⟩ (λi σ H' _ h=>SqL.of (h.1 _ _ f)) ?_ ?_⟩)
  .rintro i x t σ H' B ⟨b,d,e,rfl⟩ u;obtain⟨y,t1,rfl,m,q⟩:=j.get' B;obtain⟨r,g,rfl⟩:=qq2 m;have hi:i<yr.length:=(Ac.mp g).1;have c:=ok.rng r (A4 g);have l:=qx (o:=.tup [V.int (i:Int),V.ref y]) u;refine⟨_,_,Z,SqT.of qk,Z,_,_,Z,_,_,Z,Z,?_⟩;exact(nmc Z ⟨Z,(nmc Z (qbo (λz=>by have:=V.int.inj z;lia) (nmc Z ⟨_,_,Z,l _ _ (b _ _ q),c.1,c.2.1,c.2.2.1,c.2.2.2,(nmc Z (qbs ⟨b.trans l,_,_,Z⟩))⟩)))⟩)
  .rintro σ H' ⟨b,d,e,rfl⟩;exact k _ b
theorem qe8 (T:Txt K mg a):FnOk P w K mg base CX0 1 a.mW a.sI ["things"] spOr:=by
 refine T.kZ.fn.ok qnl (λvs H Q E h=>?_) (λcdv A outer s H vs Q E hr h=>?_)
 .obtain⟨rfl,_⟩|⟨_,rfl,_⟩:=h
  all_goals rfl
 .obtain h:=h;refine⟨_,(qj (qo (qco (qt qbz (pv 0) qap (qab _)) (zh qg) (pv 0)))),?_⟩;rcases h with ⟨rfl,k⟩|⟨p,rfl,k⟩
  .exact(nmc Z ⟨Z,(nmc Z (qcs Z ⟨qfh,λq b=>k q b⟩))⟩)
  .exact(nmc Z ⟨Z,(nmc Z (qbo (λz=>nomatch z) (nmc Z k)))⟩)
theorem okIsRow (T:Txt K mg a):FnOk P w K mg base CX0 3 a.nR a.mP ["row"] spRw:=by
 refine T.bV.fn.ok scIsRow (λvs H Q E h=>?_) (λcdv A outer s H vs Q E c h=>?_)
 .obtain⟨_,_,rfl,_⟩:=h
  all_goals rfl
 .obtain⟨p,r,rfl,b,ok,k⟩:=h;refine⟨_,(qj (qo (qd4 (zc (qhm T) (c.mono Ud) Z T.gH.mgx T.gH.fn.kp T.gH.bd .nil qad (qd (zp zq (pv 0) qi (λ_ _=>rfl)) (qd (zp zq (pv 0) qi (λ_ _=>rfl)) (qd (qb4 (v:=.int 40) Z T.zR.choose_spec ⟨_,Z⟩) qg qe) zn) zn)) (qd4 (zd qie (by rfl) T.dX qct (qd (zp zq (pv 0) qi (λ_ _=>rfl)) (qd (qk1 (v:=.ty "str") Z T.yF qxv Z) qg qe) zn)) (qdn (qbp qdb (zp zq (pv 0) qi (λ_ _=>rfl)) (qb4 (v:=.ref a.lB) Z T.yO Z) (by with_unfolding_all rfl))))))),?_⟩;obtain⟨d,i,f,g⟩:=ok;refine(nmc Z (txo (b) Z (nmc Z (txo (b) Z ⟨_,_,_,Z,d,i,f,(nmc Z (qdo (nmc Z (txo (b) Z ⟨_,_,_,_,Z,.str _,qqd,(nmc Z (qdo (nmc Z (txo (b) Z ⟨_,_,Z,.inr (T.zY _),Z,Z,?_⟩))))⟩))))⟩))));have e:inV (.str r.2.2) [.str (Aa "free"),.str (Aa "open")]=true:=by rcases g with z|z <;>rw[z] <;>decide +kernel
  show Q (.bl (inV (.str r.2.2) [.str (Aa "free"),.str (Aa "open")])) H;rw[e];exact k
theorem qp1 (T:Txt K mg a):FnOk P w K mg base CX0 4 a.tY a.nD ["rows"] spRefR:=by
 refine T.dU.fn.ok qf0 (λvs H Q E h=>?_) (λcdv A outer s H vs Q E m h=>?_)
 .obtain⟨_,_,rfl,_⟩:=h
  all_goals rfl
 .obtain⟨p,rs,rfl,⟨us,e,g⟩,hl,ok,k⟩:=h;refine⟨_,(qj (qa8 A8 Z (qk6 Z T.bP (qd (pv 0) qg qe)) (qd5 Z (qam (qaf (i:=1) qf0.nd Z (Ar Z)) (qam (qaf (i:=2) qf0.nd Z (Ar Z)) qc1))) (qj (zb (PW.pt (qdv (qt qbt (pv 1) (qb4 (v:=.int 12) Z T.yY.choose_spec ⟨_,Z⟩) (qab _)) (qd3 (qc0 (zf (zc (okIsRow T) (m.mono Ud) Z T.bV.mgx T.bV.fn.kp T.bV.bd .nil qad (qd (pv 2) qg qe))))))) (qj qe9) qae)))),?_⟩;have lu:us.length=rs.length:=by rw[g.length,Ab]
  refine(nmc Z ⟨_,_,Z,e,qig (K:=K) (a:=p) (xs:=us) (λi σ H'=>Same H H'/\∃c d:Option V,σ=[oR p,c,d]) ⟨Same.refl H,none,none,Z⟩ (λi σ H' _ h=>SqL.of (h.1 _ _ e)) ?_ ?_⟩)
  .rintro i x t σ H' y ⟨b,c,d,rfl⟩ q;obtain⟨u,t1,rfl,l,n⟩:=g.get' y;obtain⟨r,f,rfl⟩:=qk8 l;have hi:i<rs.length:=(Ac.mp f).1;have B:=ok r (A4 f);have j:=qx (o:=.tup [V.int (i:Int),V.ref u]) q;refine⟨_,_,Z,SqT.of qk,Z,_,_,Z,_,_,Z,Z,?_⟩;exact(nmc Z ⟨Z,(nmc Z (qbo (λz=>by have:=V.int.inj z;lia) (nmc Z ⟨_,_,Z,j _ _ (b _ _ n),B,(nmc Z (qbs ⟨b.trans j,_,_,Z⟩))⟩)))⟩)
  .rintro σ H' ⟨b,c,d,rfl⟩;exact k _ b
theorem qey (T:Txt K mg a):FnOk P w K mg base CX0 1 a.xF a.nQ ["_law_script","_law_k"] (spCell K):=by
 refine T.kY.fn.ok qq1 (λvs H Q E h=>?_) (λcdv A outer s H vs Q E hr h=>?_)
 .obtain⟨_,_,_,rfl,_⟩:=h
  all_goals rfl
 .obtain⟨l,f,i,rfl,b,d,k⟩:=h;refine⟨_,(qf (zb (qt qcx (pv 1) (zd qa5 (by rfl) T.kP qa6 (qd (pv 0) qg qe)) (qab _)) (qj (qo (zp zr (pv 0) (pv 1) (λ_ _=>rfl)))) qae)
   (qj (qo qi))),?_⟩
  refine(nmc Z (nmc Z ⟨_,_,Z,.inl ⟨_,b,Z⟩,(iic Z Z (nmc Z ?_))⟩));refine qba (λc=>?_) (λc=>?_)
  .exact(nmc Z (nmc Z ⟨_,_,_,_,Z,Z,b,qx8 d (of_decide_eq_true c),k⟩))
  .have e:cell f i=0:=qx9 (λz=>c (decide_eq_true z));rw[e]at k;exact k
theorem qci (T:Txt K mg a):FnOk P w K mg base CX0 2 a.mR a.mD ["_law_script","_law_k"] (spMix K):=by
 refine T.kK.fn.ok qmg (λvs H Q E h=>?_) (λcdv A outer s H vs Q E b h=>?_)
 .obtain⟨_,_,_,rfl,_⟩:=h
  all_goals rfl
 .obtain⟨l,ns,i,rfl,d,c,h1,k⟩:=h;refine⟨_,(qf (qu (i:=2) qmg.nd Z (Ar Z) (qv qah (qv qah (zc (qey T) (b.mono Ud) Z T.kY.mgx T.kY.fn.kp T.kY.bd .nil qad (qd (pv 0) (qd (pv 1) qg qe) qe)) qi) (qv qbr (pv 1) (pv 1))))
   (qj (qo (qv qay (qv qbr (qv qay (qv qbr (pv 2) qi) qi) (qv qah qi (qv qbr qi (pv 1)))) qi)))),?_⟩
  refine(nmc Z (nmc Z ⟨_,_,_,Z,d,c,(iic Z Z (nmc Z (nmc Z (iic Z Z ⟨.inr ⟨by lia,by lia⟩,(iic Z Z ?_)⟩))))⟩));dsimp only[qbq,AN,AO];refine(nmc Z (iic Z Z ⟨.inr ⟨Ud,Ud⟩,(icc Z Z (pos Ud) (nmc Z (iic Z Z ⟨.inl ⟨Ud,Ud⟩,(iic Z Z (iic Z Z ⟨.inr ⟨by lia,by lia⟩,(icc Z Z (pos Ud) ?_)⟩))⟩)))⟩));exact k
theorem qna (T:Txt K mg a):FnOk P w K mg base CX0 1 a.pO a.pQ ["_law_cell","_law_many"] spWords:=by
 refine T.gL.fn.ok qbh (λvs H Q E h=>?_) (λcdv A outer s H vs Q E hr h=>?_)
 .obtain⟨_,_,rfl,_⟩:=h
  all_goals rfl
 .obtain⟨c,m,rfl,hm,k⟩:=h;refine⟨_,(qf (qu (i:=2) qbh.nd Z (Ar Z) zg)
   (qf (qu (i:=3) qbh.nd Z (Ar Z) (qv qah qi (qv qay (pv 0) qi)))
   (qf (qu (i:=4) qbh.nd Z (Ar Z) (qv qay (qv qa4 (pv 0) qi) (pv 3)))
   (qf (qu (i:=5) qbh.nd Z (Ar Z) (zh qg))
   (qf (qa8 A8 Z (qbl Z T.kW (qd (pv 1) qg qe)) (qaf (i:=6) qbh.nd Z (Ar Z)) (qf (qu (i:=7) qbh.nd Z (Ar Z) (zp zr (zh (qd (pv 3) (qd (qv qah qi (qv qay (pv 6) (pv 3))) qg zm) qe)) (qv qay (qv qa4 (pv 0) qi) qi) (λ_ _=>rfl)))
   (qf (qu (i:=8) qbh.nd Z (Ar Z) zg)
   (qf (qa8 A8 Z (qbl Z T.kW (qd (pv 7) qg qe)) (qaf (i:=9) qbh.nd Z (Ar Z)) (qf (qu (i:=10) qbh.nd Z (Ar Z) (qv qah (qv qa4 (pv 0) qi) (qv qbr (qv qbr qi (pv 9)) (pv 9))))
   (qf (zb (qt qbt (pv 9) (zd (qnx Z) (by rfl) T.rN qqu (qd (pv 4) (qd (qv qby (pv 7) qi) qg zm) qe)) (qab _)) (qj (qu (i:=10) qbh.nd Z (Ar Z) (qv qah (pv 10) (pv 6)))) qae)
   (qj (qu (i:=8) qbh.nd Z (Ar Z) (qv qr4 (pv 8) (zp ix_str (pv 2) (qv qay (pv 10) qi) (λ_ _=>rfl))))))))
   (qj (qz (qcp A7 AG AH qau (pv 5) (qd (pv 8) qg qe))))))))
   (qj (qo (pv 5)))))))),?_⟩
  have M:=az_len;have zs:=qsz c;refine(nmc Z (icc Z Z (pos Ud) (iic Z Z ?_)));refine(nmc Z (icc Z Z ⟨Ud,Ud⟩ (nmc Z (iic Z Z ⟨(show 0<wsz c by lia),qfh,λq v=>?_⟩))));obtain⟨G,F⟩:=alc (o:=.lst []) v;generalize upd H q _=H1 at G F |-;refine(nmc Z ⟨_,Z,by lia,by lia,qcj (lo:=0) (n:=((m:Int)).toNat) (λi σ H'=>Same H H'/\H' q=some (.lst ((wds c i).map V.str))/\∃r u l e b:Option V,σ=[oI c,oI (m:Int),some (.str az),oI (wsz c),oI (c / 8 % wsz c),oR q,r,u,l,e,b]) ⟨G,F,none,none,none,none,none,Z⟩ ?_ ?_⟩)
  .rintro i σ H' I ⟨t,f,r,u,l,e,b,rfl⟩;have I:i<m:=by lia
   have ff:=qk9 c (i:Int);rw[BX];refine(nmc Z (nmc Z (nmc Z (iic Z Z ⟨(show 0<wsz c by lia),(iic Z Z ⟨qkw _ _,λR y=>?_⟩)⟩))));dsimp only[];obtain⟨g,x⟩:=alc (o:=.lst [V.int (wsz c),V.int (1+(i:Int) % wsz c)]) y;generalize upd H' R _=H3 at g x |-;refine(nmc Z (icc Z Z ⟨Ud,Ud⟩ (icc Z Z (pos Ud) (lxo (x) (far_at c (i:Int)) ?_))));refine(nmc Z ⟨_,Z,by lia,by lia,qcj (lo:=0) (n:=(qf8 c (i:Int)).toNat) (λj σ H'=>H'=H3/\∃e b:Option V,σ=[oI c,oI (m:Int),some (.str az),oI (wsz c),oI (c / 8 % wsz c),oR q,oI (i:Int),oI (qf8 c (i:Int)),some (.str ⟨(wl c (i:Int) j).toArray⟩),e,b]) ⟨Z,_,_,Z⟩ ?_ ?_⟩)
   .rintro j σ J O ⟨rfl,e,b,rfl⟩;have O:(j:Int)<qf8 c (i:Int):=by lia
    rw[BX];have B:=qyv (wl c (i:Int) j) (97+(won c (i:Int) (j:Int) % 26).toNat);rw[<- wl_succ]at B;have N:(wl c (i:Int) j).length=j:=by unfold wl;rw[Ab,As]
    apply useF (p:=λo=>o=won c (i:Int) (j:Int))
    .intro D;refine(nmc Z (icc Z Z ⟨Ud,Ud⟩ (nmc Z (iic Z Z ⟨.inl ⟨Ud,Ud⟩,(nmc Z (iic Z Z ⟨.inr ⟨by lia,by lia⟩,(iic Z Z ?_)⟩))⟩))));dsimp only[qbq,AN,AO];refine(nmc Z (nmc Z (nmc Z (iic Z Z ⟨_,_,Z,Z,(nmc Z (qba (λd=>?_) (λd=>?_)))⟩))))
     rotate_left
     .have d:¬(j:Int)=qkz c (i:Int):=λz=>d (decide_eq_true (congrArg V.int z));have C:c / 64+7*(j:Int)*(j:Int)=won c (i:Int) (j:Int):=by unfold won;rw[if_neg d]
      generalize c / 64+7*(j:Int)*(j:Int)=o at C |-;exact D o C
     .have d:(j:Int)=qkz c (i:Int):=V.int.inj (of_decide_eq_true d);exact(nmc Z (nmc Z (iic Z Z (D _ (by unfold won;rw[if_pos d])))))
    .rintro o rfl;refine(nmc Z (nmc Z (nmc Z (icc Z Z (pos Ud) ⟨_,_,_,Z,Z,qdr (by rw[M];decide),az_ix,_,_,Z,Z,qdr (by show (wl c (i:Int) j).toArray.size+1<=_;rw[Ai,N];lia),Z,oI (j:Int),oI (won c (i:Int) (j:Int)),?_⟩))));rw[B];rfl
   .rintro σ J ⟨rfl,e,b,rfl⟩;have L:((wds c i).map V.str).length<=90000:=by rw[Ab,qla];lia
    refine(nmc Z ⟨.inl ⟨Z,_,SqL.of (g _ _ f)⟩,(nmc Z ⟨_,_,_,Z,Z,g _ _ f,qb2 L,qan (t.trans g) v,?_,_,_,_,_,_,Z⟩)⟩);rw[qyw,Ax,qk];rfl
  .rintro σ H' ⟨t,f,r,u,l,e,b,rfl⟩;rw[B3]at f;exact(nmc Z (k q H' v t f))
theorem qte (T:Txt K mg a):FnOk P w K mg base CX0 1 a.lJ a.rC ["self","name","who","owes","opens","base","many","unit","still"] (qyq a):=by
 refine T.xE.fn.ok qst (λvs H Q E h=>?_) (λcdv A outer s H vs Q E hr h=>?_)
 .obtain⟨_,_,_,_,_,_,_,_,_,_,rfl,_⟩:=h
  all_goals rfl
 .obtain⟨x,m,b,c,d,f,i,l,n,g,rfl,hx,k⟩:=h;refine⟨_,(qf (qa2 (pv 0) (pv 1) Z)
   (qf (qa2 (pv 0) (pv 2) Z)
   (qf (qa2 (pv 0) (pv 3) Z)
   (qf (qa2 (pv 0) (pv 4) Z)
   (qf (qa2 (pv 0) (pv 5) Z)
   (qf (qa2 (pv 0) (pv 6) Z)
   (qf (qa2 (pv 0) (pv 7) Z)
   (qf (qa2 (pv 0) (pv 8) Z)
   (qf (qa2 (pv 0) (zh qg) Z)
   (qf (qa2 (pv 0) (zh qg) Z)
   (qf (qa2 (pv 0) (zh qg) Z)
   (qj (qa2 (pv 0) (zh qg) Z))))))))))))),?_⟩
  have b0:SameBut x H H:=λ_ _ _ e=>e;have x0:=hx;refine(nmc Z (nmc Z ⟨_,_,_,_,Z,x0,T.kD,qp T.kE Ud,(show 0<1000 by decide),?_⟩));rw[show qbi (Aa "name") b []=(rq1 b) by with_unfolding_all rfl];have b1:SameBut x H (upd H x (.ins a.kB m (rq1 b))):=b0.set;have x1:=qk (H:=H) (a:=x) (o:=.ins a.kB m (rq1 b));generalize upd H x _=H1 at b1 x1 |-;refine(nmc Z (nmc Z ⟨_,_,_,_,Z,x1,T.kD,qp T.kE Ud,(show 1<1000 by decide),?_⟩));rw[show qbi (Aa "who") c (rq1 b)=(rq2 b c) by with_unfolding_all rfl];have b2:SameBut x H (upd H1 x (.ins a.kB m (rq2 b c))):=b1.set;have x2:=qk (H:=H1) (a:=x) (o:=.ins a.kB m (rq2 b c));generalize upd H1 x _=H2 at b2 x2 |-;refine(nmc Z (nmc Z ⟨_,_,_,_,Z,x2,T.kD,qp T.kE Ud,(show 2<1000 by decide),?_⟩));rw[show qbi (Aa "owes") d (rq2 b c)=(rq3 b c d) by with_unfolding_all rfl];have b3:SameBut x H (upd H2 x (.ins a.kB m (rq3 b c d))):=b2.set;have x3:=qk (H:=H2) (a:=x) (o:=.ins a.kB m (rq3 b c d));generalize upd H2 x _=H3 at b3 x3 |-;refine(nmc Z (nmc Z ⟨_,_,_,_,Z,x3,T.kD,qp T.kE Ud,(show 3<1000 by decide),?_⟩));rw[show qbi (Aa "opens") f (rq3 b c d)=(rq4 b c d f) by with_unfolding_all rfl];have b4:SameBut x H (upd H3 x (.ins a.kB m (rq4 b c d f))):=b3.set;have x4:=qk (H:=H3) (a:=x) (o:=.ins a.kB m (rq4 b c d f));generalize upd H3 x _=H4 at b4 x4 |-;refine(nmc Z (nmc Z ⟨_,_,_,_,Z,x4,T.kD,qp T.kE Ud,(show 4<1000 by decide),?_⟩));rw[show qbi (Aa "base") i (rq4 b c d f)=(rq5 b c d f i) by with_unfolding_all rfl];have b5:SameBut x H (upd H4 x (.ins a.kB m (rq5 b c d f i))):=b4.set;have x5:=qk (H:=H4) (a:=x) (o:=.ins a.kB m (rq5 b c d f i));generalize upd H4 x _=H5 at b5 x5 |-;refine(nmc Z (nmc Z ⟨_,_,_,_,Z,x5,T.kD,qp T.kE Ud,(show 5<1000 by decide),?_⟩));rw[show qbi (Aa "many") l (rq5 b c d f i)=(rq6 b c d f i l) by with_unfolding_all rfl];have b6:SameBut x H (upd H5 x (.ins a.kB m (rq6 b c d f i l))):=b5.set;have x6:=qk (H:=H5) (a:=x) (o:=.ins a.kB m (rq6 b c d f i l));generalize upd H5 x _=H6 at b6 x6 |-;refine(nmc Z (nmc Z ⟨_,_,_,_,Z,x6,T.kD,qp T.kE Ud,(show 6<1000 by decide),?_⟩));rw[show qbi (Aa "unit") n (rq6 b c d f i l)=(rq7 b c d f i l n) by with_unfolding_all rfl];have b7:SameBut x H (upd H6 x (.ins a.kB m (rq7 b c d f i l n))):=b6.set;have x7:=qk (H:=H6) (a:=x) (o:=.ins a.kB m (rq7 b c d f i l n));generalize upd H6 x _=H7 at b7 x7 |-;refine(nmc Z (nmc Z ⟨_,_,_,_,Z,x7,T.kD,qp T.kE Ud,(show 7<1000 by decide),?_⟩));rw[show qbi (Aa "still") g (rq7 b c d f i l n)=(rq8 b c d f i l n g) by with_unfolding_all rfl];have b8:SameBut x H (upd H7 x (.ins a.kB m (rq8 b c d f i l n g))):=b7.set;have x8:=qk (H:=H7) (a:=x) (o:=.ins a.kB m (rq8 b c d f i l n g));generalize upd H7 x _=H8 at b8 x8 |-;refine⟨qfh,λp L=>?_⟩;obtain⟨s8,j⟩:=alc (o:=.lst []) L;have ah:=s8 _ _ x8;have y:p≠x:=λz=>by rw[z,x8]at L;cases L
  have al:H p=none:=b8.free y L;have ag:=b8.trans (SameBut.of s8);generalize upd H8 p _=J8 at s8 j ah ag  |-;refine(nmc Z ⟨_,_,_,_,Z,ah,T.kD,qp T.kE Ud,(show 8<1000 by decide),?_⟩);rw[show qbi (Aa "ends") (.ref p) (rq8 b c d f i l n g)=(rq9 b c d f i l n g (.ref p)) by with_unfolding_all rfl];have b9:SameBut x H (upd J8 x (.ins a.kB m (rq9 b c d f i l n g (.ref p)))):=ag.set;have x9:=qk (H:=J8) (a:=x) (o:=.ins a.kB m (rq9 b c d f i l n g (.ref p)));have j:=(qr (o:=.ins a.kB m (rq9 b c d f i l n g (.ref p))) y).trans j;generalize upd J8 x _=H9 at b9 x9 j  |-;refine⟨qfh,λr F=>?_⟩;obtain⟨s9,q⟩:=alc (o:=.lst []) F;have ai:=s9 _ _ x9;have D:r≠x:=λz=>by rw[z,x9]at F;cases F
  have am:H r=none:=b9.free D F;have Y:=qag j F;have j:=s9 _ _ j;have af:=b9.trans (SameBut.of s9);generalize upd H9 r _=J9 at s9 q ai af j |-;refine(nmc Z ⟨_,_,_,_,Z,ai,T.kD,qp T.kE Ud,(show 9<1000 by decide),?_⟩);rw[show qbi (Aa "anew") (.ref r) (rq9 b c d f i l n g (.ref p))=(qsx b c d f i l n g (.ref p) (.ref r)) by with_unfolding_all rfl];have N:SameBut x H (upd J9 x (.ins a.kB m (qsx b c d f i l n g (.ref p) (.ref r)))):=af.set;have V:=qk (H:=J9) (a:=x) (o:=.ins a.kB m (qsx b c d f i l n g (.ref p) (.ref r)));have q:=(qr (o:=.ins a.kB m (qsx b c d f i l n g (.ref p) (.ref r))) D).trans q;have j:=(qr (o:=.ins a.kB m (qsx b c d f i l n g (.ref p) (.ref r))) y).trans j;generalize upd J9 x _=H10 at N V q j |-;refine⟨qfh,λpl B=>?_⟩;obtain⟨G,t⟩:=alc (o:=.lst []) B;have S:=G _ _ V;have I:pl≠x:=λz=>by rw[z,V]at B;cases B
  have ao:H pl=none:=N.free I B;have ad:=qag j B;have ae:=qag q B;have j:=G _ _ j;have q:=G _ _ q;have M:=N.trans (SameBut.of G);generalize upd H10 pl _=J10 at G t S M j q |-;refine(nmc Z ⟨_,_,_,_,Z,S,T.kD,qp T.kE Ud,(show 10<1000 by decide),?_⟩);rw[show qbi (Aa "longer") (.ref pl) (qsx b c d f i l n g (.ref p) (.ref r))=(qrb b c d f i l n g (.ref p) (.ref r) (.ref pl)) by with_unfolding_all rfl];have O:SameBut x H (upd J10 x (.ins a.kB m (qrb b c d f i l n g (.ref p) (.ref r) (.ref pl)))):=M.set;have U:=qk (H:=J10) (a:=x) (o:=.ins a.kB m (qrb b c d f i l n g (.ref p) (.ref r) (.ref pl)));have t:=(qr (o:=.ins a.kB m (qrb b c d f i l n g (.ref p) (.ref r) (.ref pl))) I).trans t;have j:=(qr (o:=.ins a.kB m (qrb b c d f i l n g (.ref p) (.ref r) (.ref pl))) y).trans j;have q:=(qr (o:=.ins a.kB m (qrb b c d f i l n g (.ref p) (.ref r) (.ref pl))) D).trans q;generalize upd J10 x _=H11 at O U t j q |-;refine⟨qfh,λu v=>?_⟩;obtain⟨C,J⟩:=alc (o:=.lst []) v;have W:=C _ _ U;have R:u≠x:=λz=>by rw[z,U]at v;cases v
  have fpy:H u=none:=O.free R v;have dpepy:=qag j v;have dpapy:=qag q v;have dplpy:=qag t v;have j:=C _ _ j;have q:=C _ _ q;have t:=C _ _ t;have X:=O.trans (SameBut.of C);generalize upd H11 u _=J11 at C J W X j q t |-;refine(nmc Z ⟨_,_,_,_,Z,W,T.kD,qp T.kE Ud,(show 11<1000 by decide),?_⟩);rw[show qbi (Aa "yields") (.ref u) (qrb b c d f i l n g (.ref p) (.ref r) (.ref pl))=(qsy b c d f i l n g (.ref p) (.ref r) (.ref pl) (.ref u)) by with_unfolding_all rfl];have ak:SameBut x H (upd J11 x (.ins a.kB m (qsy b c d f i l n g (.ref p) (.ref r) (.ref pl) (.ref u)))):=X.set;have aj:=qk (H:=J11) (a:=x) (o:=.ins a.kB m (qsy b c d f i l n g (.ref p) (.ref r) (.ref pl) (.ref u)));have J:=(qr (o:=.ins a.kB m (qsy b c d f i l n g (.ref p) (.ref r) (.ref pl) (.ref u))) R).trans J;have j:=(qr (o:=.ins a.kB m (qsy b c d f i l n g (.ref p) (.ref r) (.ref pl) (.ref u))) y).trans j;have q:=(qr (o:=.ins a.kB m (qsy b c d f i l n g (.ref p) (.ref r) (.ref pl) (.ref u))) D).trans q;have t:=(qr (o:=.ins a.kB m (qsy b c d f i l n g (.ref p) (.ref r) (.ref pl) (.ref u))) I).trans t;generalize upd J11 x _=H12 at ak aj J j q t |-;exact k H12 p r pl u ak al am ao aj j q t ad ae Y
theorem qwi (T:Txt K mg a):FnOk P w K mg base CX0 3 a.sQ a.pZ ["_law_script","_law_at","_law_k","_law_names","_law_kinds"] (spRl55 a K):=by
 refine T.dS.fn.ok qbb (λvs H Q E h=>?_) (λcdv A outer s H vs Q E hr h=>?_)
 .obtain⟨_,_,_,_,_,_,_,rfl,_⟩:=h
  all_goals rfl
 .obtain⟨l,pn,r,Y,names,U,i,rfl,hS,hn,ln,hk,lk,hi,k⟩:=h;refine⟨_,(qf (qu (i:=5) qbb.nd Z (DN Z) (zc (qci T) (hr.mono Ud) Z T.kK.mgx T.kK.fn.kp T.kK.bd .nil qad (qd (pv 0) (qd (qv qah (pv 1) (qv qbr qi (pv 2))) qg zm) qe)))
   (qf (qu (i:=6) qbb.nd Z (Ar Z) (zc (qci T) (hr.mono Ud) Z T.kK.mgx T.kK.fn.kp T.kK.bd .nil qad (qd (pv 0) (qd (qv qah (qv qah (pv 1) (qv qbr qi (pv 2))) qi) qg zm) qe)))
   (qf (qlr (i:=7) qbb.nd Z Z (N:=["_law_j","_law_kinds","_law_one"]) (js:=[none,some 4,some 5]) (XN:=["_law_script","_law_at","_law_k","_law_names","_law_kinds","_law_one","_law_two","_law_mine","_law_base","_law_opens","_law_still","_law_unit","_law_rule_here","_law_j"]) (xs:=qaa qij) Z Z Z Uk (qbl Z T.kW (qd qi qg ql)) (λ_ _ _ _ _ _=>(qaf (i:=0) (show Cz (["_law_j","_law_kinds","_law_one"]:List Str) from by decide +kernel) Z (Ar Z) (DN Z))) (λ_ _ _ _ _ _=>qfm) (λ_ _ _ _ _ _=>(zp (qqf (K:=K) Z) (pv 1) (qv qay (qv qah (pv 2) (qv qbr (pv 0) (qv qah qi (qv qay (qv qa4 (pv 2) qi) qi)))) qi) (λ_ _=>rfl))))
   (qf (qu (i:=8) qbb.nd Z (Ar Z) qap)
   (qf (qu (i:=9) qbb.nd Z (Ar Z) (zp zr (pv 7) qi (λ_ _=>rfl)))
   (qf (zb (PW.pt (qcf (qt qkb (pv 2) qi (qab _)) (qbw (qt qkb (qv qay (qv qa4 (pv 5) qi) qi) qi (qab _))))) (qf (qu (i:=8) qbb.nd Z (Ar Z) (zp zr (pv 3) (qv qay (qv qa4 (pv 5) qi) (pv 2)) (λ_ _=>rfl)))
   (qj (qu (i:=9) qbb.nd Z (Ar Z) qap))) qae)
   (qf (qu (i:=10) qbb.nd Z (Ar Z) qap)
   (qf (zb (qt qkb (qv qay (qv qa4 (pv 6) qi) qi) qi (qab _)) (qj (qu (i:=10) qbb.nd Z (Ar Z) (zj (qd (zp zr (pv 7) qi (λ_ _=>rfl)) (qd (zp zr (pv 7) qi (λ_ _=>rfl)) qg zn) zn)))) qae)
   (qf (qu (i:=11) qbb.nd Z (Ar Z) (zp zr (zh (qd zg (qd zg (qd zg qg ql) ql) ql)) (qv qay (pv 6) qi) (λ_ _=>rfl)))
   (qf (qu (i:=12) qbb.nd Z (Ar Z) (qer T.zC (qte T) (hr.mono Ud) Z T.zO T.xE.bd .nil qad (qd (zp zr (pv 3) (pv 2) (λ_ _=>rfl)) (qd (zp zr (pv 3) (qv qah qi (qv qay (qv qa4 (pv 6) qi) qi)) (λ_ _=>rfl)) (qd (zp zr (pv 7) qi (λ_ _=>rfl)) (qd (pv 9) (qd (pv 8) (qd (qv qah qi (qv qay (qv qay (qv qa4 (pv 6) qi) qi) qi)) (qd (pv 11) (qd (pv 10) qg qe) qe) zm) qe) qe) zn) zn) zn)))
   (qf (qa8 A8 Z (qbl Z T.kW (qd (qv qay (qv qa4 (pv 6) qi) qi) qg zm)) (qaf (i:=13) qbb.nd Z (Ar Z)) (qj (qz (qcp A7 AG AH qau (qac (pv 12) Z) (qd (zp zr (pv 7) (qv qah qi (qv qbr qi (pv 13))) (λ_ _=>rfl)) qg zn)))))
   (qf (qa8 A8 Z (qbl Z T.kW (qd (qv qay (qv qa4 (pv 6) qi) qi) qg zm)) (qaf (i:=13) qbb.nd Z (Ar Z)) (qj (qz (qcp A7 AG AH qau (qac (pv 12) Z) (qd (zp zr (pv 7) (qv qah qi (qv qbr qi (pv 13))) (λ_ _=>rfl)) qg zn)))))
   (qf (qa8 A8 Z (qbl Z T.kW (qd (qv qay (qv qa4 (pv 6) qi) qi) qg zm)) (qaf (i:=13) qbb.nd Z (Ar Z)) (qj (qz (qcp A7 AG AH qau (qac (pv 12) Z) (qd (zj (qd (zp zr (pv 7) (qv qah qi (pv 13)) (λ_ _=>rfl)) (qd (qv qah qi (qv qay (qv qa4 (pv 6) qi) qi)) (qd (qv qah qi (qv qay (qv qa4 (pv 6) qi) qi)) qg zm) zm) zn)) qg zo)))))
   (qj (qo (pv 12)))))))))))))))),?_⟩
  refine(nmc Z (nmc Z (nmc Z (iic Z Z ⟨.inl ⟨Ud,Ud⟩,(iic Z Z ⟨l,Y,_,Z,hS,by lia,by lia,?_⟩)⟩))));dsimp only[qbq,AN,AO];refine(nmc Z (nmc Z (nmc Z (iic Z Z ⟨.inl ⟨Ud,Ud⟩,(iic Z Z (iic Z Z ⟨l,Y,_,Z,hS,by lia,by lia,?_⟩))⟩))));dsimp only[qbq,AN,AO];have m1:=qi1 Y (4+2*(i:Int));have m2:=qi1 Y (4+2*(i:Int)+1);generalize qf2 Y (4+2*(i:Int))=one at m1 |-;generalize qf2 Y (4+2*(i:Int)+1)=two at m2 |-;refine⟨_,Z,Ud,Ud,?_⟩;let fm:V->V:=λv=>match v with
   |.int j=>.str (U.getD ((one+j*(1+one / 11 % 10)) % 11).toNat Be)
   |_=>.non
  refine qg5 fm (λσ'=>∃v,σ'=[v,oR r,oI one]) qet (qdr (by rw[Ab,As];decide)) ⟨none,Z⟩ (λv σ' H' RR hv sm s4 q=>?_) qeu λC c8=>?_
  .obtain⟨v0,rfl⟩:=s4;obtain⟨j,M,rfl⟩:=Bd.mp hv;have M:j<10:=AV.mp M;have q:=q [oI (0+(j:Int)),oR r,oI one] ⟨_,Z⟩;exact(nmc Z (nmc Z (nmc Z (nmc Z (icc Z Z ⟨Ud,Ud⟩ (icc Z Z (pos Ud) (iic Z Z (iic Z Z ⟨.inr ⟨by lia,by lia⟩,(iic Z Z (icc Z Z (pos Ud) (lxo (sm _ _ hk) ((qg0 (Cy _ Ud) (by have:=Db (one+(0+(j:Int))*(1+one / 11 % 10)) (show (0:Int)<11 by decide);lia))) q)))⟩))))))))
  obtain⟨ms,ems,lms⟩:∃ms:List Str,((Aq ((10:Int)).toNat).map λ(j:Nat)=>V.int (0+(j:Int))).map fm=ms.map V.str/\ms.length=10:=by refine⟨(Aq 10).map λ(j:Nat)=>U.getD ((one+(0+(j:Int))*(1+one / 11 % 10)) % 11).toNat Be,?_,by rw[Ab,As]⟩;rw[Cf,Cf];rfl
  rw[ems];obtain⟨s7,e7⟩:=alc (o:=.lst (ms.map V.str)) c8;generalize upd H C _=H7 at s7 e7 |-;dsimp only[qbq,AN,AO];refine(nmc Z (lxo (e7) ((qop (j:=0) (by lia))) ?_));dsimp only[qbq,AN,AO];apply useS2 (p:=λvb vo=>∃(b:Option Nat)(o:Option Str),vb=some (bvN names b)/\vo=some (opV o)/\(∀y,b=some y->y<i)/\(b=none->∃z,o=some z)) (f:=λvb vo=>[oR l,some (.int 4),oI (i:Int),oR pn,oR r,oI one,oI two,oR C,vb,vo,none,none,none,none]) (J:=H7)
  .intro mm;have ad:∀o',o'=some (opV (some (ms.getD 0 Be)))->∃(b:Option Nat)(o:Option Str),some V.non=some (bvN names b)/\o'=some (opV o)/\(∀y,b=some y->y<i)/\(b=none->∃z,o=some z):=λo' e=>⟨none,_,Z,e,(λy z=>by cases z),λ_=>⟨_,Z⟩⟩;refine(nmc Z (iic Z Z ⟨_,Z,qba (λc1=>(nmc Z (icc Z Z ⟨Ud,Ud⟩ (icc Z Z (pos Ud) (iic Z Z ⟨_,Z,qba (λc2=>?_) (λc2=>?_)⟩))))) (λc1=>?_)⟩))
   .have c1:0<(i:Int):=of_decide_eq_true c1;have r1:=Cy (one / 330) (show (i:Int)≠0 by lia);have r2:=Db (one / 330) c1;refine(nmc Z (nmc Z (icc Z Z ⟨Ud,Ud⟩ (nmc Z (iic Z Z ⟨c1,(lxo (s7 _ _ hn) (qg0 r1 (by lia)) ?_)⟩)))));dsimp only[qbq,AN,AO];refine as2 (σ':=[oR l,some (.int 4),oI (i:Int),oR pn,oR r,oI one,oI two,oR C,some (bvN names (some (one / 330 % (i:Int)).toNat)),some (opV none),none,none,none,none]) (by rfl) ?_;exact mm _ _ ⟨some _,none,Z,Z,(λy z=>by cases z;lia),(λz=>by cases z)⟩
   .exact tn2 (σ':=[oR l,some (.int 4),oI (i:Int),oR pn,oR r,oI one,oI two,oR C,some V.non,some (opV (some (ms.getD 0 Be))),none,none,none,none]) rfl (mm _ _ (ad _ Z))
   .exact qbs (tn2 (σ':=[oR l,some (.int 4),oI (i:Int),oR pn,oR r,oI one,oI two,oR C,some V.non,some (opV (some (ms.getD 0 Be))),none,none,none,none]) Z (mm _ _ (ad _ Z)))
  rintro _ _ ⟨b,o,rfl,rfl,hb,ho⟩;apply qus (p:=λvs J=>∃(O:V)(so:Option (Str×Str)),vs=some O/\Same H7 J/\StAt (nwp H J) O so) (f:=λv=>[oR l,some (.int 4),oI (i:Int),oR pn,oR r,oI one,oI two,oR C,some (bvN names b),some (opV o),v,none,none,none])
  .intro mm;refine(nmc Z (icc Z Z ⟨Ud,Ud⟩ (icc Z Z (pos Ud) (iic Z Z ⟨_,Z,qba (λc=>?_) (λc=>?_)⟩))))
   .refine(nmc Z (lxo (e7) ((qop (j:=6) (by lia))) (nmc Z (lxo (e7) ((qop (j:=7) (by lia))) ⟨qkw _ _,λt R=>?_⟩))));refine gn2 (σ':=[oR l,some (.int 4),oI (i:Int),oR pn,oR r,oI one,oI two,oR C,some (bvN names b),some (opV o),oR t,none,none,none]) rfl ?_;exact mm (some (.ref t)) _ ⟨.ref t,some (_,_),Z,qx R,t,Z,qe7 (s7.free R) qk⟩
   .exact tn2 (σ':=[oR l,some (.int 4),oI (i:Int),oR pn,oR r,oI one,oI two,oR C,some (bvN names b),some (opV o),some .non,none,none,none]) rfl (mm (some .non) H7 ⟨.non,none,Z,Same.refl _,Z⟩)
  rintro _ J ⟨O,so,rfl,sJ,ay⟩;refine⟨qkx _ _ _,λq3 bh=>?_⟩;obtain⟨s8,e8⟩:=alc (o:=.lst [V.str (Aa "days"),V.str (Aa "weeks"),V.str (Aa "court")]) bh;generalize upd J q3 _=H8 at s8 e8 |-;refine(nmc Z (icc Z Z (pos Ud) (lxo (e8) (uix_at two) ?_)));dsimp only[qbq,AN,AO];have I:=s7.trans (sJ.trans s8);have W:=(sJ.trans s8) _ _ e7;refine(nmc Z (nmc Z (lxo (I _ _ hn) (qop (j:=i) (by lia)) (nmc Z (nmc Z (icc Z Z ⟨Ud,Ud⟩ (icc Z Z (pos Ud) (iic Z Z (lxo (I _ _ hn) (qg0 (by lia) (by lia)) (nmc Z (lxo (W) ((qop (j:=1) (by lia))) (nmc Z (nmc Z (nmc Z (icc Z Z ⟨Ud,Ud⟩ (icc Z Z (pos Ud) (icc Z Z (pos Ud) (iic Z Z (nmc Z (nmc Z (λx dx nx nd ne=>?_)))))))))))))))))))));refine⟨x,dx,_,_,_,_,_,_,_,_,Z,qk,λH9 F D pl py b9 cr bj bt S ag aw ar aj al ao=>⟨Z,?_⟩⟩;have s9:Same H8 H9:=b9.made nx nd;have keep:=qs0 (o:=.ins a.kB dx []) (u:=.own x) nx nd;have af:=keep.free cr;have ai:=keep.free bj;have au:=keep.free bt;have ak:=I.free nx;have x1:x≠F:=qix S ag;have x2:x≠D:=qix S aw;have x3:x≠pl:=qix S ar;dsimp only[qbq,AN,AO];have G:∀{d:Hp},(∀b o,b≠F->b≠D->b≠pl->H9 b=some o->d b=some o)->Same H8 d:=λ{d} k' b o e=>k' b o (qag e af) (qag e ai) (qag e au) (s9 _ _ e);refine(nmc Z (icc Z Z ⟨Ud,Ud⟩ (icc Z Z (pos Ud) ⟨_,Z,by lia,by lia,qcj (lo:=0) (n:=(two / 216 % 3).toNat) (λj σ d=>(∀b o,b≠F->b≠D->b≠pl->H9 b=some o->d b=some o)/\d F=some (.lst (((Aq j).map λq=>ms.getD (2+6*q) Be).map V.str))/\d D=some (.lst [])/\d pl=some (.lst [])/\∃g:Option V,σ=[oR l,some (.int 4),oI (i:Int),oR pn,oR r,oI one,oI two,oR C,some (bvN names b),some (opV o),some O,some (.str (qkm (uix two))),oR x,g]) ⟨λ_ _ _ _ _ e=>e,ag,aw,ar,none,Z⟩ ?_ ?_⟩)))
  .rintro j σ d M ⟨B,he,ha,m,g,rfl⟩;have M:j<2:=by lia
   have L:=G B _ _ W;refine(nmc Z (flc (B _ _ x1 x2 x3 S) (T.kD) (qp T.kE Ud) (rfl) ⟨.inl ⟨Z,_,SqL.of he⟩,(nmc Z (nmc Z (iic Z Z ⟨.inl ⟨Ud,Ud⟩,(iic Z Z (lxo (L) (qg0 (by lia) (by lia)) ⟨_,_,_,Z,Z,he,qb2 (by rw[Ab,Ab,As];lia),?_⟩))⟩)))⟩));refine⟨λb o X n2 n3 e=>by rw[qr X];exact B b o X n2 n3 e,?_,by rw[qr (B6 ao)];exact ha,by rw[qr (B6 aj)];exact m,_,Z⟩;rw[qk,qmy,show (2+6*(0+(j:Int))).toNat=2+6*j by lia]
  rintro σ J1 ⟨k1,ae,bu,cw,g,rfl⟩;generalize bi:((Aq (two / 216 % 3).toNat).map λq=>ms.getD (2+6*q) Be)=EL at ae;have cg:EL.length<=2:=by rw[<- bi,Ab,As];lia
  refine(nmc Z (icc Z Z ⟨Ud,Ud⟩ (icc Z Z (pos Ud) ⟨_,Z,by lia,by lia,qcj (lo:=0) (n:=(two / 648 % 3).toNat) (λj σ d=>(∀b o,b≠F->b≠D->b≠pl->H9 b=some o->d b=some o)/\d F=some (.lst (EL.map V.str))/\d D=some (.lst (((Aq j).map λq=>ms.getD (3+6*q) Be).map V.str))/\d pl=some (.lst [])/\∃g:Option V,σ=[oR l,some (.int 4),oI (i:Int),oR pn,oR r,oI one,oI two,oR C,some (bvN names b),some (opV o),some O,some (.str (qkm (uix two))),oR x,g]) ⟨k1,ae,bu,cw,g,Z⟩ ?_ ?_⟩)))
  .rintro j σ d M ⟨B,he,ha,m,g,rfl⟩;have M:j<2:=by lia
   have L:=G B _ _ W;refine(nmc Z (flc (B _ _ x1 x2 x3 S) (T.kD) (qp T.kE Ud) (rfl) ⟨.inl ⟨Z,_,SqL.of ha⟩,(nmc Z (nmc Z (iic Z Z ⟨.inl ⟨Ud,Ud⟩,(iic Z Z (lxo (L) (qg0 (by lia) (by lia)) ⟨_,_,_,Z,Z,ha,qb2 (by rw[Ab,Ab,As];lia),?_⟩))⟩)))⟩));refine⟨λb o X n2 n3 e=>by rw[qr n2];exact B b o X n2 n3 e,by rw[qr ao];exact he,?_,by rw[qr (B6 al)];exact m,_,Z⟩;rw[qk,qmy,show (3+6*(0+(j:Int))).toNat=3+6*j by lia]
  rintro σ J2 ⟨k2,bq,ah,c7,g,rfl⟩;generalize bz:((Aq (two / 648 % 3).toNat).map λq=>ms.getD (3+6*q) Be)=AL at ah;have bc:AL.length<=2:=by rw[<- bz,Ab,As];lia
  have ax:=I.free au;refine(nmc Z (icc Z Z ⟨Ud,Ud⟩ (icc Z Z (pos Ud) ⟨_,Z,by lia,by lia,qcj (lo:=0) (n:=(two / 1944 % 3).toNat) (λj σ d=>(∀b o,b≠F->b≠D->b≠pl->H9 b=some o->d b=some o)/\d F=some (.lst (EL.map V.str))/\d D=some (.lst (AL.map V.str))/\∃us,d pl=some (.lst us)/\Tups (nwp H d) us (((Aq j).map λq=>((ms.getD (4+q) Be,1+two / 5832 % 5,1+two / 29160 % 3):Str×Int×Int)).map qrc)/\∃g:Option V,σ=[oR l,some (.int 4),oI (i:Int),oR pn,oR r,oI one,oI two,oR C,some (bvN names b),some (opV o),some O,some (.str (qkm (uix two))),oR x,g]) ⟨k2,bq,ah,[],c7,.nil,g,Z⟩ ?_ ?_⟩)))
  .rintro j σ d M ⟨B,he,ha,us,m,ht,g,rfl⟩;have M:j<2:=by lia
   have L:=G B _ _ W;have lu:=ht.length;rw[Ab,Ab,As]at lu;have zJ:=I.trans (G B);refine(nmc Z (flc (B _ _ x1 x2 x3 S) (T.kD) (qp T.kE Ud) (rfl) ⟨.inl ⟨Z,_,SqL.of m⟩,(nmc Z (nmc Z (iic Z Z (lxo (L) (qg0 (by lia) (by lia)) (nmc Z (icc Z Z ⟨Ud,Ud⟩ (icc Z Z (pos Ud) (iic Z Z (nmc Z (icc Z Z ⟨Ud,Ud⟩ (icc Z Z (pos Ud) (iic Z Z ⟨qkx _ _ _,λt R=>?_⟩))))))))))))⟩));obtain⟨st,et⟩:=alc (o:=.tup [V.str (ms.getD (4+(0+(j:Int))).toNat Be),V.int (1+two / 5832 % 5),V.int (1+two / 29160 % 3)]) R;have bw:t≠pl:=λz=>by rw[z,m]at R;cases R
   generalize upd d t _=Jt at st et |-;refine⟨_,_,_,Z,Z,st _ _ m,qb2 (by lia),?_⟩;refine⟨λb o X n2 n3 e=>by rw[qr n3];exact st _ _ (B b o X n2 n3 e),by rw[qr aj];exact st _ _ he,by rw[qr al];exact st _ _ ha,_,qk,?_,_,Z⟩;rw[qmy];refine qj6 (qce ht λc u e=>?_) ?_
   .obtain⟨h1,h2⟩:=qmx e;refine qe7 h1 ?_;rw[qr (λz=>by rw[z,m]at h2;cases h2)];exact st _ _ h2
   .refine qe7 (zJ.free R) ?_;rw[qr bw,et,show (4+(0+(j:Int))).toNat=4+j by lia];rfl
  rintro σ J3 ⟨k3,ca,c9,cq,bf,am,g,rfl⟩;generalize aq:((Aq (two / 1944 % 3).toNat).map λq=>((ms.getD (4+q) Be,1+two / 5832 % 5,1+two / 29160 % 3):Str×Int×Int))=LL at am;have cp:LL.length<=2:=by rw[<- aq,Ab,As];lia
  have av:=G k3;refine(nmc Z (k x J3 ⟨names.getD i Be,o,b,⟨ms.getD 1 Be,EL,AL,LL,so,1+two / 3 % 12 % 7,uix two⟩⟩ (I.trans av) ak ⟨Z,hb,ho,⟨by show 1<=1+two / 3 % 12 % 7;lia,by show LL.length<=100;lia,by show EL.length<=100;lia,by show AL.length<=100;lia,λt h=>?_⟩,cg,bc,cp⟩ ⟨dx,F,D,pl,_,O,.ref py,cq,qe7 ak (k3 _ _ x1 x2 x3 S),?_,qe7 (I.free af) ca,qe7 (I.free ai) c9,qe7 ax bf,am⟩))
  .rw[<- aq]at h;obtain⟨q,_,rfl⟩:=Bd.mp h;show 0<=1+two / 5832 % 5;lia
  .exact ay.same (nwp_same (s8.trans av))
theorem qwj (T:Txt K mg a):FnOk P w K mg base CX0 4 a.xA a.pH ["_law_script","_law_names","_law_kinds"] (spBk55 a K):=by
 refine T.bZ.fn.ok qjw (λvs H Q E h=>?_) (λcdv A outer s H vs Q E D h=>?_)
 .obtain⟨_,_,_,_,_,_,rfl,_⟩:=h
  all_goals rfl
 .obtain⟨l,pn,R,r,names,v,rfl,M,hn,Y,hk,W,k⟩:=h;refine⟨_,(qf (qu (i:=3) qjw.nd Z (Ar Z) (zh qg))
   (qf (qa8 A8 Z (qbl Z T.kW (qd (qv qah qi (qv qay (zc (qci T) (D.mono Ud) Z T.kK.mgx T.kK.fn.kp T.kK.bd .nil qad (qd (pv 0) (qd qi qg ql) qe)) qi)) qg zm)) (qaf (i:=4) qjw.nd Z (Ar Z)) (qj (qz (qcp A7 AG AH qau (pv 3) (qd (zc (qwi T) (D.mono Ud) Z T.dS.mgx T.dS.fn.kp T.dS.bd .nil qad (qd (pv 0) (qd qi (qd (pv 4) (qd (pv 1) (qd (pv 2) qg qe) qe) qe) ql) qe)) qg zl)))))
   (qf (zb (qt qbt (qv qay (qv qa4 (zc (qci T) (D.mono Ud) Z T.kK.mgx T.kK.fn.kp T.kK.bd .nil qad (qd (pv 0) (qd qi qg ql) qe)) qi) qi) qi (qab _)) (qj (qz (qw0 A7 PySem.F.slot_list_reverse PySem.F.type_list_reverse qsb (pv 3)))) qae)
   (qj (qo (pv 3)))))),?_⟩
  refine⟨qfh,λd p=>?_⟩;obtain⟨G,U⟩:=alc (o:=.lst []) p;generalize upd H d _=H1 at G U |-;have m0:=qi1 r 0;refine(nmc Z ⟨l,r,0,Z,G.seq M,Ud,Ud,(icc Z Z (pos Ud) (iic Z Z ⟨_,Z,by lia,by lia,qcj (lo:=0) (n:=(1+qf2 r 0 % 4).toNat) (λi σ J=>Same H J/\∃(us:List V)(Ts:List TD),J d=some (.lst us)/\Ts.length=i/\(∀k t,Ts[k]?=some t->TdOk names t k)/\RsL a (ofl [d] J) us Ts names/\∃I:Option V,σ=[oR l,oR pn,oR R,oR d,I]) ⟨G,[],[],U,Z,(λk t e=>by cases e),⟨Z,λj t e=>by cases e⟩,none,Z⟩ ?_ ?_⟩))⟩)
  .rintro i σ J O ⟨f,us,Ts,g,S,u,q,I,rfl⟩;have O:i<4:=by lia
   refine(nmc Z ⟨.inl ⟨Z,_,SqL.of g⟩,(nmc Z (nmc Z (nmc Z (nmc Z ⟨l,pn,R,r,names,v,i,(by rw[BX];rfl),f.seq M,f _ _ hn,Y,f _ _ hk,W,O,λx C t L nx tok rb=>⟨_,_,_,Z,Z,L _ _ g,qb2 (by rw[q.1];lia),?_⟩⟩))))⟩);have N:Same (ofl [d] J) (ofl [d] (upd C d (.lst (us++[.ref x])))):=qgz (λ_ h=>h) λb o m e=>by rw[qr (λz=>m (by rw[z];simp))];exact L _ _ e
   have X:Same (nwp J C) (ofl [d] (upd C d (.lst (us++[.ref x])))):=nwp_keep λb o m e=>by
    have B:b≠d:=λz=>by rw[z,g]at m;cases m
    exact qj7 (by simp[B]) (by rw[qr B];exact e)
   refine⟨qan (f.trans L) p,_,Ts++[t],qk,by rw[Af,S];rfl,λy t' e=>?_,(q.same N).snoc (rb.same X),_,Z⟩;by_cases c:y<Ts.length
   .rw[AI c]at e;exact u y t' e
   .rw[AK (by lia)]at e;have e0:y-Ts.length=0:=by have:=(Ac.mp e).1;simpa using this
    rw[e0]at e;cases e;rw[show y=i by lia];exact tok
  rintro σ J ⟨f,us,Ts,g,S,u,q,I,rfl⟩;refine(nmc Z ⟨l,r,0,Z,f.seq M,Ud,Ud,(icc Z Z ⟨Ud,Ud⟩ (icc Z Z (pos Ud) ⟨Z,_,Z,qba (λc=>?_) (λc=>?_)⟩))⟩)
  .refine(nmc Z ⟨.inl ⟨Z,_,SqL.of g⟩,d,_,Z,Z,g,?_⟩);have N:Same (ofl [d] J) (ofl [d] (upd J d (.lst us.reverse))):=qgz (λ_ h=>h) λb o m e=>by rw[qr (λz=>m (by rw[z];simp))];exact e
   exact(nmc Z (k d _ _ Ts true p (qan f p) (by lia) (by lia) u qk (q.same N).rev))
  .exact(nmc Z (k d J us Ts false p f (by lia) (by lia) u g q))
theorem qwk (T:Txt K mg a):FnOk P w K mg base CX0 1 a.nU a.pD ["_law_rules"] (spMe55 a):=by
 refine T.dB.fn.ok qjx (λvs H Q E h=>?_) (λcdv A outer s H vs Q E hr h=>?_)
 .obtain⟨_,_,_,_,rfl,_⟩:=h
  all_goals rfl
 .obtain⟨pr,us,Ts,names,rfl,hp,hR,l4,hz,k⟩:=h;refine⟨_,(qf (qu (i:=1) qjx.nd Z (Ar Z) (zh qg))
   (qf (qa8 A8 Z (qbf (pv 0)) (qaf (i:=2) qjx.nd Z (Ar Z)) (qf (qz (qcp A7 PySem.F.slot_list_extend PySem.F.type_list_extend qu9 (pv 1) (qd (qv qoy (qv qoy (qv qoy (zh (qd (qac (pv 2) Z) qg qao)) (qac (pv 2) Z)) (qac (pv 2) Z)) (qfn (N:=["_law_row"]) (js:=[none]) (XN:=["_law_rules","_law_menu_here","_law_rule_here"]) (xs:=qaa qik) Z Z Z Uk (qbf (qac (pv 2) Z)) (λ_ _ _ _ _ _=>(qaf (i:=0) (show Cz (["_law_row"]:List Str) from by decide +kernel) Z (Ar Z) (DN Z))) (λ_ _ _ _ _ _=>qfm) (λ_ _ _ _ _ _=>(zp (qk4 (K:=K) Z) (pv 0) qi (λ_ _=>rfl))))) qg zm)))
   (qf (zb (qt qfk (qac (pv 2) Z) qap (qab _)) (qj (qz (qcp A7 AG AH qau (pv 1) (qd (qac (pv 2) Z) qg qao)))) qae)
   (qj (zb (qt qfk (qac (pv 2) Z) qap (qab _)) (qj (qz (qcp A7 PySem.F.slot_list_extend PySem.F.type_list_extend qsi (pv 1) (qd (qac (pv 2) Z) qg qao)))) qae)))))
   (qj (qo (pv 1))))),?_⟩
  refine⟨qfh,λq u=>?_⟩;obtain⟨s1,e1⟩:=alc (o:=.lst []) u;generalize upd H q _=H1 at s1 e1 |-;refine(nmc Z ⟨_,Z,⟨_,SqL.of (s1 _ _ hp)⟩,qbm (K:=K) (a:=pr) (xs:=us) (λi σ J=>Same H J/\J q=some (.lst (((Ts.take i).flatMap qew).map V.str))/\∃v2:Option V,σ=[oR pr,oR q,v2]) ⟨s1,e1,none,Z⟩ (λi σ J _ h=>SqL.of (h.1 _ _ hp)) ?_ ?_⟩)
  .rintro i v σ J hv ⟨S,n,v2,rfl⟩;have hi:i<Ts.length:=by rw[<- hR.1];exact(Ac.mp hv).1
   have I:=Ae hi;generalize Ts[i]=t at I;obtain⟨rl,e2,rb⟩:=hR.2 i t I;rw[hv]at e2;cases e2;obtain⟨dx,pe,pa,pl,w',sv,py,ul,D,g2,g3,g4,g5,g6⟩:=rb.same S;obtain⟨z1,z2,z3⟩:=hz t (A4 I);have lT:=qrl (Ts:=Ts.take i) λx hx=>hz x (DX hx);rw[Bj]at lT;have lu:ul.length=t.rd.longer.length:=by have:=g6.length;rw[Ab]at this;exact this
   generalize B:(Ts.take i).flatMap qew=pre at n lT;refine(nmc Z ⟨.inl ⟨Z,_,SqL.of n⟩,(nmc Z (flc (D) (T.kD) (qp T.kE Ud) (rfl) ⟨fit1 _,λp1 n1=>?_⟩))⟩);obtain⟨L,f1⟩:=alc (o:=.lst [V.str t.rd.owes]) n1;generalize upd J p1 _=J1 at L f1 |-;refine(nmc Z (flc (L _ _ D) (T.kD) (qp T.kE Ud) (rfl) ⟨_,_,_,_,Z,Z,f1,L _ _ g3,qdr (by rw[Ab,AU];lia),λp2 n2=>?_⟩));have R:=L.trans (qx (o:=.lst ([V.str t.rd.owes]++t.rd.ends.map V.str)) n2);have f2:=qk (H:=J1) (a:=p2) (o:=.lst ([V.str t.rd.owes]++t.rd.ends.map V.str));generalize upd J1 p2 _=J2 at R f2 |-;refine(nmc Z (flc (R _ _ D) (T.kD) (qp T.kE Ud) (rfl) ⟨_,_,_,_,Z,Z,f2,R _ _ g4,qdr (by rw[Af,Ab,Ab,AU];lia),λp3 n3=>?_⟩));have m:=R.trans (qx (o:=.lst ([V.str t.rd.owes]++t.rd.ends.map V.str++t.rd.anew.map V.str)) n3);have f3:=qk (H:=J2) (a:=p3) (o:=.lst ([V.str t.rd.owes]++t.rd.ends.map V.str++t.rd.anew.map V.str));generalize upd J2 p3 _=J3 at m f3 |-;have h6:=g6.same m;let f:V->V:=λv=>match v with
    |.ref b=>(match J3 b with|some (.tup [.str y,.int _,.int _])=>V.str y|_=>.non)
    |_=>.non
   have ae:∀(b:Addr)(r:Str×Int×Int),J3 b=some (.tup (qrc r))->f (.ref b)=.str r.1:=λb r e=>by show (match J3 b with|some (.tup [.str y,.int _,.int _])=>V.str y|_=>.non)=_;rw[e];rfl
   refine(nmc Z (flc (m _ _ D) (T.kD) (qp T.kE Ud) (rfl) ⟨_,Z,⟨_,SqL.of (m _ _ g5)⟩,?_⟩));refine qg5 f (λσ'=>∃v,σ'=[v]) (qd8 (K:=K) (SqL.of (m _ _ g5))) (qdr (by lia)) ⟨none,Z⟩ (λv σ' H' RR ak sm s4 X=>?_) qeu λp4 n4=>?_
   .obtain⟨v0,rfl⟩:=s4;obtain⟨j,hj⟩:=Bt ak;have lj:=(Ac.mp hj).1;obtain⟨b,W,G⟩:=h6.get (i:=j) (r:=qrc (t.rd.longer[j]'(by lia))) (by rw[Ah,Ae (by lia)];rfl);rw[hj]at W;cases W;have X:=X [oR b] ⟨_,Z⟩;rw[ae b _ G]at X;exact(nmc Z (txo (sm _ _ G) Z X))
   have em:ul.map f=(t.rd.longer.map (·.1)).map V.str:=by
    refine Cr λj=>?_;rw[Ah,Ah,Ah];by_cases c:j<t.rd.longer.length
    .obtain⟨b,W,G⟩:=h6.get (i:=j) (r:=qrc t.rd.longer[j]) (by rw[Ah,Ae c];rfl);rw[W,Ae c];exact congrArg some (ae b _ G)
    .rw[AR (by lia),AR (by lia)];rfl
   rw[em];have t4:=m.trans (qx (o:=.lst ((t.rd.longer.map (·.1)).map V.str)) n4);have ad:=qx (o:=.lst ((t.rd.longer.map (·.1)).map V.str)) n4 _ _ f3;have f4:=qk (H:=J3) (a:=p4) (o:=.lst ((t.rd.longer.map (·.1)).map V.str));generalize upd J3 p4 _=J4 at t4 ad f4 |-;refine⟨_,_,_,_,Z,Z,ad,f4,qdr (by rw[Af,Af,Ab,Ab,Ab,Ab,AU];lia),λp5 n5=>?_⟩;have t5:=t4.trans (qx (o:=.lst ([V.str t.rd.owes]++t.rd.ends.map V.str++t.rd.anew.map V.str++(t.rd.longer.map (·.1)).map V.str)) n5);have f5:=qk (H:=J4) (a:=p5) (o:=.lst ([V.str t.rd.owes]++t.rd.ends.map V.str++t.rd.anew.map V.str++(t.rd.longer.map (·.1)).map V.str));generalize upd J4 p5 _=J5 at t5 f5 |-;have eM:[V.str t.rd.owes]++t.rd.ends.map V.str++t.rd.anew.map V.str++(t.rd.longer.map (·.1)).map V.str=(t.rd.owes::(t.rd.ends++t.rd.anew++t.rd.longer.map (·.1))).map V.str:=by rw[Bc,Ax,Ax];simp
   rw[eM]at f5;refine⟨_,_,_,_,Z,Z,t5 _ _ n,f5,qdr (by rw[Ab,Ab,AD,Af,Af,Ab];lia),?_⟩;have U:Same H (upd J5 q (.lst (pre.map V.str++(t.rd.owes::(t.rd.ends++t.rd.anew++t.rd.longer.map (·.1))).map V.str))):=qan (S.trans t5) u;have C:upd J5 q (.lst (pre.map V.str++(t.rd.owes::(t.rd.ends++t.rd.anew++t.rd.longer.map (·.1))).map V.str)) q=some (.lst ((pre++(t.rd.owes::(t.rd.ends++t.rd.anew++t.rd.longer.map (·.1)))).map V.str)):=by rw[qk,Ax]
   generalize upd J5 q _=J6 at U C |-;have lM:(t.rd.owes::(t.rd.ends++t.rd.anew++t.rd.longer.map (·.1))).length<=7:=by rw[AD,Af,Af,Ab];lia
   obtain⟨M,eMM⟩:∃M,t.rd.owes::(t.rd.ends++t.rd.anew++t.rd.longer.map (·.1))=M:=⟨_,Z⟩;rw[eMM]at C lM;have r6:=rb.same U;obtain⟨aj,ai,af,ag,w2,Y,ah,al,d,g,k3,k4,k5,k6⟩:=id r6;apply qus (p:=λ_ J'=>Same H J'/\J' q=some (.lst ((pre++M++t.opens.toList).map V.str))) (f:=λ_=>[oR pr,oR q,oR rl])
   .intro O;cases eo:t.opens with|none =>rw[eo]at d O;exact(nmc Z (flc (d) (T.kD) (qp T.kE Ud) (rfl) ⟨Z,_,Z,qgr Z (tn2 Z (O none J6 ⟨U,by rw[C];simp⟩))⟩))|some o =>rw[eo]at d O;refine(nmc Z (flc (d) (T.kD) (qp T.kE Ud) (rfl) ⟨Z,_,Z,qml (λz=>nomatch z) (nmc Z ⟨.inl ⟨Z,_,SqL.of C⟩,(nmc Z (flc (d) (T.kD) (qp T.kE Ud) (rfl) ⟨_,_,_,Z,Z,C,qb2 (by rw[Ab,Af];lia),?_⟩))⟩)⟩));exact O none _ ⟨qan U u,by rw[qk];simp;rfl⟩
   rintro _ J7 ⟨s7,f7⟩;have r7:=rb.same s7;obtain⟨aj,ai,af,ag,w2,Y,ah,al,d,g,k3,k4,k5,k6⟩:=id r7;have e8:(Ts.take (i+1)).flatMap qew=(Ts.take i).flatMap qew++qew t:=by rw[B8,I,List.flatMap_append];simp
   have lo:t.opens.toList.length<=1:=by cases t.opens <;>simp
   cases l:t.rd.still with
   |none =>rw[l]at g;have g:Y=.non:=g;refine(nmc Z (flc (d) (T.kD) (qp T.kE Ud) (rfl) ⟨Z,_,Z,qgr (by rw[g]) (tn2 Z ⟨s7,?_,_,Z⟩)⟩));rw[f7,e8,B];unfold qew;rw[eMM,l];simp
   |some z =>rw[l]at g;obtain⟨b,eb,hb⟩:=g;refine(nmc Z (flc (d) (T.kD) (qp T.kE Ud) (rfl) ⟨Z,_,Z,qml (λz=>by rw[eb]at z;cases z) (nmc Z ⟨.inl ⟨Z,_,SqL.of f7⟩,(nmc Z (flc (d) (T.kD) (qp T.kE Ud) (rfl) ⟨_,b,_,_,Z,(by rw[eb]),f7,SqT.of hb,qdr (by rw[Ab,Af,Af];show _+2<=_;lia),qan s7 u,?_,_,Z⟩))⟩)⟩));rw[qk,e8,B];unfold qew;rw[eMM,l];simp
  .rintro σ J ⟨S,n,v2,rfl⟩;rw[hR.1,Bz]at n;exact(nmc Z (k q J u S n))
theorem qwl (T:Txt K mg a):FnOk P w K mg base CX0 3 a.tZ a.pI ["_law_script","_law_rules","_law_names","_law_first","_law_many"] (spAc55 a K):=by
 refine T.bO.fn.ok qcz (λvs H Q E h=>?_) (λcdv A outer s H vs Q E hr h=>?_)
 .obtain⟨_,_,_,_,_,_,_,_,_,rfl,_⟩:=h
  all_goals rfl
 .obtain⟨l,pr,pn,C,names,us,Ts,first,m,rfl,hS,hp,hR,l1,l4,hz,ho,hn,ln,nd,f0,hm,k⟩:=h;refine⟨_,(qf (qu (i:=5) qcz.nd Z (Ar Z) (zc (qwk T) (hr.mono Ud) Z T.dB.mgx T.dB.fn.kp T.dB.bd .nil qad (qd (pv 1) qg qe)))
   (qf (qu (i:=6) qcz.nd Z (Ar Z) (qv qah qi (qv qay (zc (qci T) (hr.mono Ud) Z T.kK.mgx T.kK.fn.kp T.kK.bd .nil qad (qd (pv 0) (qd qi qg ql) qe)) qi)))
   (qf (qu (i:=7) qcz.nd Z (Ar Z) (zh qg))
   (qf (qa8 A8 Z (qbl Z T.kW (qd (pv 4) qg qe)) (qaf (i:=8) qcz.nd Z (Ar Z)) (qf (qu (i:=9) qcz.nd Z (Ar Z) (zc (qci T) (hr.mono Ud) Z T.kK.mgx T.kK.fn.kp T.kK.bd .nil qad (qd (pv 0) (qd (qv qah qi (pv 8)) qg zm) qe)))
   (qf (qu (i:=10) qcz.nd Z (Ar Z) (zp zr (pv 5) (qv qay (pv 9) (zd qa5 (by rfl) T.kP qa6 (qd (pv 5) qg qe))) (λ_ _=>rfl)))
   (qf (zb (qt qcx (pv 8) qi (qab _)) (qj (qu (i:=10) qcz.nd Z (Ar Z) (zp zr (qfn (N:=["_law_rule_here"]) (js:=[none]) (XN:=["_law_script","_law_rules","_law_names","_law_first","_law_many","_law_menu_here","_law_stride","_law_acts_here","_law_k","_law_cell","_law_kind"]) (xs:=qaa qil) Z Z Z Uk (qbf (pv 1)) (λ_ _ _ _ _ _=>(qaf (i:=0) (show Cz (["_law_rule_here"]:List Str) from by decide +kernel) Z (Ar Z) (DN Z))) (λ_ _ _ _ _ _=>(qtr (qt qfk (qo1 (K:=K) Z (pv 0) Z) qap (qab _)))) (λ_ _ _ _ _ _=>(qo1 (K:=K) Z (pv 0) Z))) qi (λ_ _=>rfl)))) qae)
   (qj (qz (qcp A7 AG AH qau (pv 7) (qd (zj (qd (zp zr (pv 2) (qv qay (qv qah (qv qbr (pv 8) (pv 6)) (qv qa4 (pv 6) qi)) qi) (λ_ _=>rfl)) (qd (pv 10) (qd (qv qah (pv 3) (qv qay (qv qa4 (pv 9) qi) (qv qah qi (qv qbr qi (pv 8))))) qg zm) qe) zn)) qg zo))))))))
   (qj (qo (pv 7))))))),?_⟩
  refine(nmc Z ⟨pr,us,Ts,names,Z,hp,hR,l4,hz,λqm H1 nqm s1 em=>?_⟩);dsimp only[qbq,AN,AO];have lM:=qrl hz;have am:1<=(Ts.flatMap qew).length:=by
   cases Ts with|nil=>cases l1|cons t Ts=>rw[List.flatMap_cons];unfold qew;simp
  generalize Ts.flatMap qew=M at em lM am;have m1:=qi1 C 1;refine(nmc Z ⟨l,C,1,Z,s1.seq hS,Ud,Ud,(icc Z Z (pos Ud) (iic Z Z ?_))⟩);dsimp only[qbq,AN,AO];obtain⟨s,es,h1,h2⟩:∃s,1+qf2 C 1 % 22=s/\1<=s/\s<=22:=⟨_,Z,by lia,by lia⟩;rw[es];refine⟨qfh,λx S=>?_⟩;obtain⟨s2,F⟩:=alc (o:=.lst []) S;have aq:=s1.free S;generalize upd H1 x _=H2 at s2 F |-;dsimp only[qbq,AN,AO];have bm:=rb (n:=m) (by lia);refine(nmc Z ⟨_,Z,bm.1,bm.2,qcj (lo:=0) (n:=((m:Int)).toNat) (λi σ J=>Same H1 J/\∃(G:List V)(d:List Act),J x=some (.lst G)/\Tups (nwp H J) G (d.map qdy)/\d.length=i/\NmA names s d/\(∀t∈d,first<=t.2.2)/\∃v8 v9 R:Option V,σ=[oR l,oR pr,oR pn,oI first,oI (m:Int),oR qm,oI s,oR x,v8,v9,R]) ⟨s2,[],[],F,.nil,Z,(λj t e=>by cases e),(λt h=>by cases h),none,none,none,Z⟩ ?_ ?_⟩)
  .rintro i σ J hi ⟨L,G,d,D,X,la,hN,hF,v8,v9,R,rfl⟩;have hi:i<20:=by lia
   have O:=s1.trans L;have ag:=L _ _ em;rw[BX];have mc:=qi1 C (13+(i:Int));refine(nmc Z (nmc Z (iic Z Z ⟨l,C,_,Z,O.seq hS,by lia,by lia,?_⟩)));dsimp only[qbq,AN,AO];generalize qf2 C (13+(i:Int))=c at mc |-;have cm:=Db c (show (0:Int)<(M.length:Int) by lia);have c0:=Cy c (show (M.length:Int)≠0 by lia);refine(nmc Z (nmc Z (nmc Z ⟨_,_,Z,.inl ⟨_,SqL.of ag,Z⟩,(iic Z Z ⟨(by rw[Ab];lia),(lxo (ag) (qg0 (by rw[Ab];exact c0) (by rw[Ab];exact cm)) ?_)⟩)⟩)));dsimp only[qbq,AN,AO];apply qus (p:=λv J'=>∃kd:Str,v=some (.str kd)/\Same J J') (f:=λv=>[oR l,oR pr,oR pn,oI first,oI (m:Int),oR qm,oI s,oR x,oI (i:Int),oI c,v])
   .intro mm;refine(nmc Z (iic Z Z ⟨_,Z,qba (λc1=>?_) (λc1=>?_)⟩))
    .have RJ:=hR.same O;let ov:V->V:=λv=>match v with
      |.ref r=>(match J r with|some (.ins _ _ fs)=>(fs.lookup (Aa "opens")).getD .non|_=>.non)
      |_=>.non
     have y:∀(g:Addr)(t:TD)(bv:V),RuleB a J g t bv->ov (.ref g)=opV t.opens:=λg t bv rb=>by obtain⟨dx,pe,pa,pl,w',sv,py,ul,B,_⟩:=rb;show (match J g with|some (.ins _ _ fs)=>(fs.lookup (Aa "opens")).getD .non|_=>.non)=_;rw[B];rfl
     have af:∀v∈us,∃(g:Addr)(t:TD),v=.ref g/\t∈Ts/\RuleB a J g t (bvN names t.base):=λv hv=>by
      obtain⟨j,hj⟩:=Bt hv;have lj:j<Ts.length:=by rw[<- hR.1];exact(Ac.mp hj).1
      obtain⟨g,Y,F⟩:=RJ.2 j _ (Ae lj);rw[hj]at Y;cases Y;exact⟨g,_,Z,BI lj,F⟩
     refine(nmc Z ⟨_,Z,⟨_,SqL.of (O _ _ hp)⟩,?_⟩);refine qn8 (λv=>!decide (ov v=.non)) ov (λσ'=>∃v,σ'=[v]) (qd8 (K:=K) (SqL.of (O _ _ hp))) (qdr (by rw[hR.1];lia)) ⟨none,Z⟩ (λv σ' J' N RR hv sm s4 W ky=>?_) qeu λp5 al=>?_
     .obtain⟨v0,rfl⟩:=s4;obtain⟨g,t,rfl,_,rb⟩:=af v hv;have I:=y g t _ rb;obtain⟨dx,pe,pa,pl,w',sv,py,ul,B,_⟩:=rb.same sm;have W:=W [oR g] ⟨_,Z⟩;have ky:=ky [oR g] ⟨_,Z⟩;rw[I]at W ky;refine(nmc Z (flc (B) (T.kD) (qp T.kE Ud) (rfl) ⟨Z,_,Z,qba (λc2=>(nmc Z (flc (B) (T.kD) (qp T.kE Ud) (rfl) (ky c2)))) (λc2=>W ?_)⟩));cases e : !decide (opV t.opens=V.non) with|false=>rfl|true=>exact absurd e c2
     .obtain⟨o,I⟩:∃o:Str,((us.filter λv=>!decide (ov v=.non)).map ov)[0]?=some (.str o):=by
       obtain⟨t,ao,o,I⟩:=ho
       obtain⟨j,hj⟩:=Bt ao
       obtain⟨g,Y,F⟩:=RJ.2 j t hj
       have mf:(.ref g:V)∈us.filter λv=>!decide (ov v=.non):=BW.mpr ⟨A4 Y,by rw[y g t _ F,I];rfl⟩
       cases ef:us.filter λv=>!decide (ov v=.non) with
       |nil=>rw[ef]at mf;cases mf
       |cons v vs =>
        have mv:v∈us.filter λv=>!decide (ov v=.non):=by rw[ef];exact Am
        obtain⟨aj,U⟩:=BW.mp mv;obtain⟨ai,t2,rfl,_,ah⟩:=af v aj;rw[y ai t2 _ ah]at U;cases ad:t2.opens with|none=>rw[ad]at U;cases U|some o2=>exact⟨o2,by rw[Bc,y ai t2 _ ah,ad];rfl⟩
      refine⟨_,_,_,_,Z,Z,SqL.of qk,qa0 (j:=0) I,?_⟩
      refine gn2 (σ':=[oR l,oR pr,oR pn,oI first,oI (m:Int),oR qm,oI s,oR x,oI (i:Int),oI c,some (.str o)]) rfl ?_
      exact mm _ _ ⟨o,Z,qx al⟩
    .exact tn2 rfl (mm _ J ⟨_,Z,Same.refl J⟩)
   rintro _ J' ⟨kd,rfl,q⟩;have ae:=O.trans q;have d0:0<=c / 101 % (2+6*(i:Int)):=Cy _ (by lia);have r1:=Cy ((i:Int)*s+s / 2) (show (23:Int)≠0 by decide);have r2:=Db ((i:Int)*s+s / 2) (show (0:Int)<23 by decide);refine(nmc Z ⟨.inl ⟨Z,_,SqL.of (q _ _ D)⟩,(nmc Z (nmc Z (nmc Z (iic Z Z ⟨.inr ⟨by lia,by lia⟩,(nmc Z (icc Z Z ⟨Ud,Ud⟩ (iic Z Z (icc Z Z (pos Ud) (lxo (ae _ _ hn) (qg0 r1 (by lia)) (nmc Z (nmc Z (nmc Z (icc Z Z ⟨Ud,Ud⟩ (nmc Z (iic Z Z ⟨.inl ⟨Ud,Ud⟩,(iic Z Z (iic Z Z ⟨(show 0<2+6*(i:Int) by lia),(iic Z Z ⟨qkx _ _ _,λt nt=>?_⟩)⟩))⟩)))))))))))⟩))))⟩);obtain⟨st,et⟩:=alc (o:=.tup [V.str (names.getD (((i:Int)*s+s / 2) % 23).toNat Be),V.str kd,V.int (first+c / 101 % (2+6*(i:Int)))]) nt;have au:t≠x:=λz=>by rw[z,q _ _ D]at nt;cases nt
   have ar:=ae.free nt;generalize upd J' t _=Jt at st et |-;have lu:=X.length;rw[Ab]at lu;have ak:=st _ _ (q _ _ D);refine⟨_,_,_,Z,Z,ak,qb2 (by lia),qan (L.trans (q.trans st)) S,_,d++[(names.getD (((i:Int)*s+s / 2) % 23).toNat Be,kd,first+c / 101 % (2+6*(i:Int)))],qk,?_,by rw[Af,la];rfl,λj t' e=>?_,λt' h=>?_,_,_,_,Z⟩
   .rw[Ax];refine qj6 (qce X λb u e=>?_) ?_
    .obtain⟨B,g2⟩:=qmx e;refine qe7 B ?_;rw[qr (λz=>by rw[z,D]at g2;cases g2)];exact(q.trans st) _ _ g2
    .exact qe7 ar (by rw[qr au];exact et)
   .by_cases cj:j<d.length
    .rw[AI cj]at e;exact hN j t' e
    .rw[AK (by lia)]at e;have e0:j-d.length=0:=by have:=(Ac.mp e).1;simpa using this
     rw[e0]at e;cases e;rw[show j=i by lia]
   .rcases Az.mp h with h|h
    .exact hF t' h
    .rw[Aj.mp h];show first<=first+_
     lia
  .rintro σ J ⟨L,G,d,D,X,la,hN,hF,v8,v9,R,rfl⟩;exact(nmc Z (k x J G d s aq (s1.trans L) D X (by lia) h1 h2 hN hF))
theorem qry (T:Txt K mg a):FnOk P w K mg base CX0 1 a.sU a.mJ ["_law_acts_here"] spSo55:=by
 refine T.dE.fn.ok qdm (λvs H Q E h=>?_) (λcdv A outer s H vs Q E hr h=>?_)
 .obtain⟨_,_,_,rfl,_⟩:=h
  all_goals rfl
 .obtain⟨p,us,B,rfl,hp,ht,hl,k⟩:=h;refine⟨_,(qf (qu (i:=1) qdm.nd Z (Ar Z) (zh qg))
   (qf (qa8 A8 Z (qbf (pv 0)) (qaf (i:=2) qdm.nd Z (Ar Z)) (qf (qu (i:=3) qdm.nd Z (Ar Z) qi)
   (qf (qh9 A8 (PW.pt (qcf (qt qcx (pv 3) (zd qa5 (by rfl) T.kP qa6 (qd (pv 1) qg qe)) (qab _)) (qbw (qt (Lam.op_ltK hr.units) (zj (qd (zp zq (zp zr (pv 1) (pv 3) (λ_ _=>rfl)) qi (λ_ _=>rfl)) (qd (zp zq (zp zr (pv 1) (pv 3) (λ_ _=>rfl)) qi (λ_ _=>rfl)) qg zn) zn)) (zj (qd (zp zq (pv 2) qi (λ_ _=>rfl)) (qd (zp zq (pv 2) qi (λ_ _=>rfl)) qg zn) zn)) (qab _))))) (qj (qu (i:=3) qdm.nd Z (Ar Z) (qv qah (pv 3) qi))))
   (qj (qz (qcp A7 PySem.F.slot_list_insert PySem.F.type_list_insert qsk (pv 1) (qd (pv 3) (qd (pv 2) qg qe) qe)))))))
   (qj (qo (pv 1))))),?_⟩
  have lu:=ht.length;rw[Ab]at lu;refine⟨qfh,λq U=>?_⟩;obtain⟨s1,L⟩:=alc (o:=.lst []) U;generalize upd H q _=H1 at s1 L |-;dsimp only[qbq,AN,AO];refine(nmc Z ⟨_,Z,⟨_,SqL.of (s1 _ _ hp)⟩,qbm (K:=K) (a:=p) (xs:=us) (λi σ J=>Same H J/\∃(l:List V)(d:List Act),J q=some (.lst l)/\Tups H l (d.map qdy)/\d.Perm (B.take i)/\qhl d/\∃v2 v3:Option V,σ=[oR p,oR q,v2,v3]) ⟨s1,[],[],L,.nil,.refl _,.nil,none,none,Z⟩ (λi σ J _ h=>SqL.of (h.1 _ _ hp)) ?_ ?_⟩)
  .rintro i v σ J hv ⟨sJ,l,d,hq,g,D,X,v2,v3,rfl⟩;have hi:i<B.length:=by have:=(Ac.mp hv).1;lia
   have S:=Ae hi;generalize B[i]=t at S;obtain⟨b,eb,qb⟩:=ht.get (i:=i) (r:=qdy t) (by rw[Ah,S];rfl);rw[hv]at eb;cases eb;have lF:=g.length;rw[Ab]at lF;have ae:=D.length_eq;rw[Bj]at ae;dsimp only[qbq,AN,AO];refine⟨λm σ' n=>Same H n/\n q=some (.lst l)/\∃c:Nat,c+m=d.length/\(∀j x,j<c->d[j]?=some x->Lam.ltK (qc8 x) (qc8 t)=true)/\σ'=[oR p,oR q,oR b,oI (c:Int)],⟨d.length,sJ,hq,0,Nat.zero_add _,(λj x h=>by cases h),Z⟩,?_⟩;rintro m σ' n ⟨e,u,c,em,lo,rfl⟩;apply qrq (p:=λY=>Same H Y/\Y q=some (.lst l)/\∀C,d[c]?=some C->Lam.ltK (qc8 C) (qc8 t)=false) (σ:=[oR p,oR q,oR b,oI (c:Int)])
   .intro mm;refine(nmc Z (nmc Z ⟨_,_,Z,.inl ⟨_,SqL.of u,Z⟩,(iic Z Z ⟨_,Z,qba (λI=>?_) (λI=>?_)⟩)⟩))
    rotate_left
    .have I:¬(c:Int)<(l.length:Int):=λz=>I (decide_eq_true z);exact qbs (mm n ⟨e,u,λC M=>absurd (Ac.mp M).1 (by lia)⟩)
    .have I:=of_decide_eq_true I;have la:c<d.length:=by lia
     have ex:=Ae la;generalize d[c]=x at ex;obtain⟨y,ey,qy⟩:=g.get (i:=c) (r:=qdy x) (by rw[Ah,ex];rfl);refine(nmc Z (nmc Z (lxo (u) (qa0 ey) (txo (e _ _ qy) Z (nmc Z (nmc Z (lxo (u) (qa0 ey) (txo (e _ _ qy) Z ⟨qkw _ _,λt1 n1=>?_⟩))))))));obtain⟨st,L⟩:=alc (o:=.tup (Lam.encK (qc8 x))) n1;refine(nmc Z (txo ((st _ _ (e _ _ qb))) Z (nmc Z (txo ((st _ _ (e _ _ qb))) Z ⟨qkw _ _,λt2 n2=>?_⟩))));have G:=qx (o:=.tup (Lam.encK (qc8 t))) n2;have e2:=qk (H:=upd n t1 (.tup (Lam.encK (qc8 x)))) (a:=t2) (o:=.tup (Lam.encK (qc8 t)));refine⟨_,_,qc8 x,qc8 t,Z,Z,G _ _ L,e2,?_⟩;have O:=e.trans (st.trans G);have R:=G _ _ (st _ _ u);refine⟨_,Z,qba (λW=>?_) (λW=>?_)⟩
     .obtain⟨m,rfl⟩:∃f,m=f+1:=⟨m-1,by lia⟩;refine⟨λσ' n=>Same H n/\n q=some (.lst l)/\∃c:Nat,c+m=d.length/\(∀j x,j<c->d[j]?=some x->Lam.ltK (qc8 x) (qc8 t)=true)/\σ'=[oR p,oR q,oR b,oI (c:Int)],λσ2 H2 z=>⟨m,Ca m,z⟩,?_⟩;refine(nmc Z (iic Z Z ⟨O,R,c+1,by lia,λj C hj ej=>?_,Z⟩));by_cases z:j=c
      .subst z;rw[ex]at ej;cases ej;exact W
      .exact lo j C (by lia) ej
     .exact mm _ ⟨O,R,(λC M=>by rw[ex]at M;cases M;cases z:Lam.ltK (qc8 x) (qc8 t) with|false=>rfl|true=>exact absurd z W)⟩
   rintro Y ⟨sX,N,ad⟩;refine(nmc Z ⟨.inl ⟨Z,_,SqL.of N⟩,(nmc Z (nmc Z ⟨_,_,_,c,Z,Z,N,(by lia),(by lia),qan sX U,_,d.take c++t::d.drop c,qk,?_,?_,sort_ins X (by lia) lo ad,_,_,Z⟩))⟩)
   .rw[Ax,Bc,Ey,List.map_drop];exact(g.take c).app (.cons qb (g.drop c))
   .rw[B8,S];refine List.perm_middle.trans ?_;rw[Ci];exact(List.Perm.cons t D).trans (List.perm_append_comm (l₁:=[t]))
  .rintro σ J ⟨sJ,l,d,hq,g,D,X,v2,v3,rfl⟩;rw[lu,Bz]at D;exact(nmc Z (k q J l d U sJ D X hq g))
theorem qtf (T:Txt K mg a):FnOk P w K mg base CX0 1 a.pW a.xH ["_law_account"] spSd57:=by
 refine T.dP.fn.ok qb8 (λvs H Q E h=>?_) (λcdv A outer s H vs Q E hr h=>?_)
 .obtain⟨_,_,_,_,_,_,rfl,_⟩:=h
  all_goals rfl
 .obtain⟨q,C,B,st,y,r,rfl,hA,ho,k⟩:=h;refine⟨_,(qf (qwn (pv 0) (qd5 Z (qam (qaf (i:=1) qb8.nd Z (Ar Z)) (qam (qaf (i:=2) qb8.nd Z (Ar Z)) (qam (qaf (i:=3) qb8.nd Z (Ar Z)) (qam (qaf (i:=4) qb8.nd Z (Ar Z)) (qam (qaf (i:=5) qb8.nd Z (Ar Z)) (qam (qaf (i:=6) qb8.nd Z (Ar Z)) (qam (qaf (i:=7) qb8.nd Z (Ar Z)) qc1)))))))))
   (qf (qu (i:=8) qb8.nd Z (Ar Z) (qd4 (qbp (qqn hr.units) (pv 5) (zh qg) (qab _)) (qdn (qbp qbz (zp zq (zp zr (pv 5) (qfa qda qi) (λ_ _=>rfl)) qi (λ_ _=>rfl)) qap (qab _)))))
   (qf (zb (PW.pt (qcf (qt qfk (pv 6) qap (qab _)) (qbw (PW.pt (qdv (qt qbz (pv 3) qap (qab _)) (qdv (qt qf3 (pv 6) (pv 3) (qab _)) (qd3 (zf (pv 8))))))))) (qj (qo qbk)) qae)
   (qf (zb (qt qbt (pv 2) zg (qab _)) (qj (qo (qd4 (qr0 (pv 8)) (qdn (qbp qbt (zp zq (zp zr (pv 7) (qfa qda qi) (λ_ _=>rfl)) qi (λ_ _=>rfl)) zg (qab _)))))) qae)
   (qf (zb (PW.pt (qdv (qt qlh (zp zq (zp zr (pv 7) qi (λ_ _=>rfl)) qi (λ_ _=>rfl)) (pv 1) (qab _)) (qdv (qt qlh (zp zq (zp zr (pv 7) qi (λ_ _=>rfl)) qi (λ_ _=>rfl)) zg (qab _)) (qd3 (qt qcx (pv 4) qi (qab _)))))) (qj (qo qbk)) qae)
   (qj (qo (qbp qbt (pv 2) (zp zr (zh (qd zg (qd zg qg ql) ql)) (qdz qu3 (by rfl) T.tQ qqt (qd (qbp qbz (pv 6) qap (qab _)) qg qxa)) (λ_ _=>rfl)) (qab _))))))))),?_⟩
  obtain⟨hq,⟨u4,S,I⟩,⟨u6,L,t6⟩⟩:=hA;obtain⟨o1,⟨o2,U,d0,rr,R⟩,o4⟩:=ho;have l4:=I.length;rw[Ab]at l4;refine(nmc Z ⟨_,_,Z,SqT.of hq,Z,_,_,Z,_,_,Z,_,_,Z,_,_,Z,_,_,Z,_,_,Z,_,_,Z,Z,?_⟩);apply qus (p:=λv J=>v=some (.bl (qai st.ps))/\Same H J) (f:=λv=>[oR q,some (.str (nm0 st)),some (.str (swd st.over r)),some (oV y),some (.int st.units),oR C,some (oV r),oR B,v])
  .intro d;refine(nmc Z ⟨qfh,λpe W=>?_⟩);obtain⟨n,X⟩:=alc (o:=.lst []) W;generalize upd H pe _=H1 at n X |-;refine⟨_,_,_,Z,Z,SqL.of (n _ _ S),SqL.of X,_,Z,?_⟩;rcases BD st.ps with e|⟨ini,p,e⟩
   .have eu:u4=[]:=CV (by rw[l4,e];rfl);rw[eu];refine qbs ?_;refine gn2 (σ':=[oR q,some (.str (nm0 st)),some (.str (swd st.over r)),some (oV y),some (.int st.units),oR C,some (oV r),oR B,some (.bl (qai st.ps))]) (by rw[e];rfl) ?_;exact d _ H1 ⟨Z,n⟩
   .obtain⟨F,o⟩:=p;rw[e,B4]at I;obtain⟨vs,b,rfl,m,_⟩:=qj1 I;rw[show (!(vs++[V.ref b]).isEmpty)=true by simp];refine qdo (nmc Z ⟨_,Z,(lxo (n _ _ S) (qiw _ _) (txo (n _ _ m) Z ⟨Z,?_⟩))⟩);refine gn2 (σ':=[oR q,some (.str (nm0 st)),some (.str (swd st.over r)),some (oV y),some (.int st.units),oR C,some (oV r),oR B,some (.bl (qai st.ps))]) (by rw[e,B4,hal_last];rfl) ?_;exact d _ H1 ⟨Z,n⟩
  rintro _ J ⟨rfl,g⟩;apply qrq (p:=λJ'=>J'=J) (σ:=[oR q,some (.str (nm0 st)),some (.str (swd st.over r)),some (oV y),some (.int st.units),oR C,some (oV r),oR B,some (.bl (qai st.ps))])
  .intro d;cases D:r with
   |none =>rw[D]at d;exact(nmc Z ⟨Z,_,Z,qgr Z (qbs (tn2 Z (d J Z)))⟩)
   |some l =>obtain⟨⟨x,hx,xl⟩,u⟩:=o1 l D;rw[D,hx,u]at d;rw[hx,u];exact(nmc Z ⟨Z,_,Z,qml (λz=>nomatch z) (nmc Z ⟨Z,_,Z,qba (λc=>absurd (of_decide_eq_true c) (λz=>nomatch z)) (λ_=>(nmc Z (nmc Z (iic Z Z ⟨_,Z,qba (λc=>absurd (of_decide_eq_true c) (by lia)) (λ_=>(nmc Z ⟨_,Z,qbs (tn2 Z (d J Z))⟩))⟩))))⟩)⟩)
  rintro J rfl;have t:=t6.same g;refine(nmc Z ⟨Z,_,Z,qba (λc=>?_) (λc=>?_)⟩)
  .obtain⟨u,rr',x1,d1,e6⟩:=o2 (qeo.mp (V.str.inj (of_decide_eq_true c)));rw[e6,Ax]at t;obtain⟨vs,b,rfl,m⟩:=qs6 t;rw[u];refine(nmc Z ⟨_,Z,_,Z,qdo (nmc Z ⟨_,Z,(lxo (g _ _ L) (qiw _ _) (txo (m) Z ⟨Z,?_⟩))⟩)⟩);rw[decide_eq_true Z];exact k J g
  .have no:¬st.over=true:=λz=>c (decide_eq_true (congrArg V.str (qeo.mpr z)));have O:st.over=false:=by
    cases e:st.over with|false=>rfl|true=>exact absurd e no
   obtain⟨b,e0,m⟩:=t.get (i:=0) (r:=qj2 (U,d0,Aa "begins")) (by rw[R];rfl);have en:nm0 st=U:=by unfold nm0;rw[R];rfl
   have G:atI u6 0=some (.ref b):=qa0 (j:=0) e0;refine(nmc Z (lxo (g _ _ L) G (txo (m) Z (nmc Z ⟨Z,_,Z,qgr (congrArg V.str en.symm) (nmc Z (lxo (g _ _ L) G (txo (m) Z ⟨Z,_,Z,qgr Z (nmc Z (iic Z Z ⟨_,Z,qba (λc=>absurd (of_decide_eq_true c) (by lia)) (λ_=>?_)⟩))⟩)))⟩))));refine(nmc Z ⟨qkw _ _,λpl Y=>?_⟩);have M:=g.trans (qx (o:=.lst [V.str (Aa "runs"),V.str (Aa "stands")]) Y);have N:=qk (H:=J) (a:=pl) (o:=.lst [V.str (Aa "runs"),V.str (Aa "stands")]);generalize upd J pl _=J2 at M N |-;cases D:r with|none =>refine(nmc Z ⟨Z,.inr ⟨_,Z,_,_,_,_,Z,Z,SqL.of N,(show atI [V.str (Aa "runs"),V.str (Aa "stands")] 1=_ from Z),Z,?_⟩⟩);rw[O];exact k J2 M|some l =>refine(nmc Z ⟨Z,.inr ⟨_,Z,_,_,_,_,Z,Z,SqL.of N,(show atI [V.str (Aa "runs"),V.str (Aa "stands")] 0=_ from Z),Z,?_⟩⟩);rw[O];exact k J2 M
theorem qtg (T:Txt K mg a):FnOk P w K mg base CX0 1 a.rD a.tN ["_law_old","_law_new","_law_act"] spMv57:=by
 refine T.dQ.fn.ok qmh (λvs H Q E h=>?_) (λcdv A outer s H vs Q E X h=>?_)
 .obtain⟨_,_,_,_,_,_,_,_,_,_,_,_,_,_,_,rfl,_⟩:=h
  all_goals rfl
 .obtain⟨q,p4,p6,q',v,O,qa,nn,st,s0,r,st',s',U,ac,rfl,hA,af,W,ho,lr,k⟩:=h;refine⟨_,(qf (zb (PW.pt (qcf (qt qfk (zp zq (pv 0) qi (λ_ _=>rfl)) qap (qab _)) (qbw (qt qkb (zp zq (pv 2) qi (λ_ _=>rfl)) (zp zq (pv 0) qi (λ_ _=>rfl)) (qab _))))) (qj (zb (PW.pt (qdv (qt qlh (zp zq (pv 1) qi (λ_ _=>rfl)) (zp zq (pv 0) qi (λ_ _=>rfl)) (qab _)) (qd3 (qt qlh (zp zq (pv 1) qi (λ_ _=>rfl)) (zp zq (pv 0) qi (λ_ _=>rfl)) (qab _))))) (qj (qo qbk)) qae)) (qj (zb (PW.pt (qcf (qt qfk (zp zq (pv 1) qi (λ_ _=>rfl)) qap (qab _)) (qbw (qt qcx (zp zq (pv 1) qi (λ_ _=>rfl)) (zp zq (pv 2) qi (λ_ _=>rfl)) (qab _))))) (qj (qo qbk)) qae)))
   (qf (qu (i:=3) qmh.nd Z (Ar Z) (zd qa5 (by rfl) T.kP qa6 (qd (zp zq (pv 0) qi (λ_ _=>rfl)) qg zn)))
   (qf (zb (PW.pt (qdv (qt qlh (zp zq (pv 1) qi (λ_ _=>rfl)) (zp zq (pv 0) qi (λ_ _=>rfl)) (qab _)) (qdv (qt (qtz X.units) (qfb qia (zp zq (pv 1) qi (λ_ _=>rfl)) qg2 (qg3 (pv 3))) (zp zq (pv 0) qi (λ_ _=>rfl)) (qab _)) (qd3 (qt qkb (zd qa5 (by rfl) T.kP qa6 (qd (zp zq (pv 1) qi (λ_ _=>rfl)) qg zn)) (qv qah (pv 3) qi) (qab _)))))) (qj (qo qbk)) qae)
   (qf (zb (PW.pt (qcf (qt qbt (zd qa5 (by rfl) T.kP qa6 (qd (zp zq (pv 1) qi (λ_ _=>rfl)) qg zn)) (qv qah (pv 3) qi) (qab _)) (qbw (qt (op_neT X.units0) (qfb sl_tup (zp zr (zp zq (pv 1) qi (λ_ _=>rfl)) (pv 3) (λ_ _=>rfl)) qg2 (qg3 qi)) (zj (qd (zp zq (pv 2) qi (λ_ _=>rfl)) (qd (zp zq (pv 2) qi (λ_ _=>rfl)) qg zn) zn)) (qab _))))) (qj (qo qbk)) qae)
   (qf (zb (qt qbt (zp zq (pv 0) qi (λ_ _=>rfl)) zg (qab _)) (qj (qo (qbp (qo8 X.units) (zj (qd (zp zq (pv 1) qi (λ_ _=>rfl)) (qd (zp zq (pv 1) qi (λ_ _=>rfl)) (qd (zp zq (pv 1) qi (λ_ _=>rfl)) (qd (zp zq (pv 1) qi (λ_ _=>rfl)) qg zn) zn) zn) zn)) (zj (qd (zp zq (pv 0) qi (λ_ _=>rfl)) (qd (zp zq (pv 0) qi (λ_ _=>rfl)) (qd (zp zq (pv 0) qi (λ_ _=>rfl)) (qd (zp zq (pv 0) qi (λ_ _=>rfl)) qg zn) zn) zn) zn)) (qab _)))) qae)
   (qf (zb (qt qbt (zd qa5 (by rfl) T.kP qa6 (qd (zp zq (pv 1) qi (λ_ _=>rfl)) qg zn)) (pv 3) (qab _)) (qj (qo (qd4 (qbp (qo8 X.units) (zj (qd (zp zq (pv 1) qi (λ_ _=>rfl)) (qd (zp zq (pv 1) qi (λ_ _=>rfl)) qg zn) zn)) (zj (qd (zp zq (pv 0) qi (λ_ _=>rfl)) (qd (zp zq (pv 0) qi (λ_ _=>rfl)) qg zn) zn)) (qab _)) (qdn (qbp qlh (zp zq (pv 1) qi (λ_ _=>rfl)) zg (qab _)))))) qae)
   (qj (qo qbk)))))))),?_⟩
  obtain⟨g,⟨u4,h4,t4⟩,⟨I,h6,t6⟩⟩:=hA;obtain⟨d,⟨u4',ae,ad⟩,⟨R,t,N⟩⟩:=af;obtain⟨m1,m2,m3⟩:=ho;have l6:=t6.length;have ai:=N.length;rw[Ab]at l6 ai;apply qrq (p:=λJ'=>J'=H) (σ:=[oR q,oR q',oR qa,none])
  .intro S;by_cases c0:∃l,r=some l/\l<ac.2.2
   .obtain⟨l,C,lt⟩:=c0;obtain⟨es,B⟩:=m1 l C lt;refine(nmc Z (txo (g) Z ⟨Z,_,Z,qml (λz=>by rw[C]at z;cases z) (nmc Z (txo (W) Z (nmc Z (txo (g) Z ⟨_,_,Z,(by rw[C];rfl),_,Z,qba (λ_=>?_) (λc=>absurd (decide_eq_true lt) c)⟩))))⟩));exact(nmc Z (txo (d) Z (nmc Z (txo (g) Z ⟨qud _ _,_,Z,qgr (by rw[C,B]) (nmc Z (txo (d) Z (nmc Z (txo (g) Z ⟨qud _ _,_,Z,qgr (by rw[es]) (tn2 Z (S H Z))⟩))))⟩))))
   .have fu:Fut ac.2.2 U:=m2 λl e=>by
     by_cases z:ac.2.2<=l
     .exact z
     .exact absurd ⟨l,e,by lia⟩ c0
    apply useP (p:=λJ=>J=H)
    .intro m2;cases C:r with|none=>exact(nmc Z (txo (g) Z ⟨Z,_,Z,qgr (by rw[C];rfl) (qbs (m2 H Z))⟩))|some l=>exact(nmc Z (txo (g) Z ⟨Z,_,Z,qml (λz=>by rw[C]at z;cases z) (nmc Z (txo (W) Z (nmc Z (txo (g) Z ⟨_,_,Z,(by rw[C];rfl),_,Z,qba (λc=>absurd ⟨l,C,of_decide_eq_true c⟩ c0) (λ_=>m2 H Z)⟩))))⟩))
    intro J Y
    rw[Y]
    cases B:U with|none =>exact(nmc Z (txo (d) Z ⟨Z,_,Z,qgr (by rw[B];rfl) (qbs (tn2 Z (S H Z)))⟩))|some l' =>have le:=fu l' B;exact(nmc Z (txo (d) Z ⟨Z,_,Z,qml (λz=>by rw[B]at z;cases z) (nmc Z (txo (d) Z (nmc Z (txo (W) Z ⟨_,_,(by rw[B];rfl),Z,_,Z,qba (λc=>absurd (of_decide_eq_true c) (by lia)) (λ_=>tn2 Z (S H Z))⟩))))⟩))
  intro J Y;rw[Y];clear Y J;obtain⟨ex,eex,hex⟩:∃ex:List R3,st'.rows=st.rows++ex/\((ex=[]/\st'=st)\/(st.over=false/\∃w,ex=[(ac.1,ac.2.2,w)])):=by
   rcases m3 with e|⟨h1,w,h2⟩
   .exact⟨[],by rw[e,Bu],.inl ⟨Z,e⟩⟩
   .exact⟨_,h2,.inr ⟨h1,w,Z⟩⟩
  have ah:st'.rows.length=st.rows.length+ex.length:=by rw[eex,Af]
  have lx1:ex.length<=1:=by
   rcases hex with ⟨e,_⟩|⟨_,w,e⟩
   .rw[e];exact AS _
   .rw[e];exact Al 1
  refine(nmc Z (txo (g) Z ⟨_,_,Z,.inl ⟨_,SqL.of h6,Z⟩,?_⟩));refine gn2 (σ':=[oR q,oR q',oR qa,oI (I.length:Int)]) rfl ?_;refine(nmc Z (txo (d) Z (nmc Z (txo (g) Z ⟨Z,_,Z,qgr Z (nmc Z (txo (d) Z (nmc Z ⟨_,Z,O,R,Z,SqL.of t,λpc nc=>?_⟩)))⟩))));rw[qiq R I.length (by lia)];obtain⟨m,e1⟩:=alc (o:=.lst (R.take I.length)) nc;generalize upd H pc _=H1 at m e1 |-;have ag:Tups H1 (R.take I.length) (st.rows.map qj2):=by
   have:=(N.same m).take I.length;have e6:(st'.rows.map qj2).take I.length=st.rows.map qj2:=by rw[eex,Ax,List.take_append_of_le_length (by rw[Ab];lia)];exact C6 (by rw[Ab];lia)
   rw[e6]at this;exact this
  refine(nmc Z (txo (m _ _ g) Z ⟨2,Ud,.inl (qi2 e1 (m _ _ h6) ag (t6.same m) qpv),_,Z,qbs (nmc Z (txo (m _ _ d) Z ⟨_,_,Z,.inl ⟨_,SqL.of (m _ _ t),Z⟩,(nmc Z (iic Z Z (iic Z Z ⟨_,Z,qba (λc=>absurd (of_decide_eq_true c) (by lia)) (λ_=>?_)⟩)))⟩))⟩));apply qrq (p:=λJ'=>Same H J') (σ:=[oR q,oR q',oR qa,oI (I.length:Int)])
  .intro S;rcases hex with ⟨e,_⟩|⟨_,w,e⟩
   .refine(nmc Z (txo (m _ _ d) Z ⟨_,_,Z,.inl ⟨_,SqL.of (m _ _ t),Z⟩,(nmc Z (iic Z Z ⟨Z,_,Z,qba (λc=>absurd (V.int.inj (of_decide_eq_true c)) (by rw[e]at ah;show ¬_;have:([]:List R3).length=0:=rfl;lia)) (λ_=>qbs (tn2 Z (S H1 m)))⟩))⟩))
   .have le1:ex.length=1:=by rw[e];rfl
    obtain⟨b,eb,hb⟩:=(N.same m).get (i:=I.length) (r:=qj2 (ac.1,ac.2.2,w)) (by rw[eex,e,Ax,AK (by rw[Ab];lia),Ab,l6,Da];rfl);refine(nmc Z (txo (m _ _ d) Z ⟨_,_,Z,.inl ⟨_,SqL.of (m _ _ t),Z⟩,(nmc Z (iic Z Z ⟨Z,_,Z,qba (λ_=>?_) (λc=>absurd (decide_eq_true (congrArg V.int (by lia))) c)⟩))⟩));refine(nmc Z (txo (m _ _ d) Z (nmc Z (lxo (m _ _ t) (qa0 eb) ⟨_,Z,_,_,Z,SqT.of hb,(show ¬(HT.sIx 3 0 none=0/\HT.sIx 3 3 (some 2)=3) by decide),λpt L=>?_⟩))));have aj:qkq (qj2 (ac.1,ac.2.2,w)) none (some 2)=[V.str ac.1,.int ac.2.2]:=rfl;rw[aj];have j:=m.trans (qx (o:=.tup [V.str ac.1,.int ac.2.2]) L);have G:=qk (H:=H1) (a:=pt) (o:=.tup [V.str ac.1,.int ac.2.2]);generalize upd H1 pt _=H2 at j G |-;refine(nmc Z (txo (j _ _ W) Z (nmc Z (txo (j _ _ W) Z ⟨qkw _ _,λM D=>?_⟩))));obtain⟨u,F⟩:=alc (o:=.tup [V.str ac.1,.int ac.2.2]) D;generalize upd H2 M _=H3 at u F |-;refine⟨_,_,_,_,Z,Z,SqT.of (u _ _ G),SqT.of F,Z,Z,_,Z,?_⟩;rw[show qnd [V.str ac.1,.int ac.2.2] [V.str ac.1,.int ac.2.2]=true by simp[qnd,eqV]];exact qbs (tn2 Z (S H3 (j.trans u)))
  intro J n;refine(nmc Z (txo (n _ _ g) Z ⟨Z,_,Z,qba (λc=>?_) (λc=>?_)⟩))
  .have eo:=qeo.mp (V.str.inj (of_decide_eq_true c));obtain⟨rfl,rfl⟩:ex=[]/\st'=st:=by
    rcases hex with h|⟨h,_⟩
    .exact h
    .rw[eo]at h;cases h
   refine(nmc Z (txo (n _ _ d) Z (nmc Z (txo (n _ _ d) Z (nmc Z (txo (n _ _ d) Z (nmc Z (txo (n _ _ d) Z ⟨fit4 _ _ _ _,λpt L=>?_⟩))))))));have j:=n.trans (qx (o:=.tup [V.str (swd st'.over U),.int st'.units,.ref v,.ref O]) L);have G:=qk (H:=J) (a:=pt) (o:=.tup [V.str (swd st'.over U),.int st'.units,.ref v,.ref O]);generalize upd J pt _=J2 at j G |-;refine(nmc Z (txo (j _ _ g) Z (nmc Z (txo (j _ _ g) Z (nmc Z (txo (j _ _ g) Z (nmc Z (txo (j _ _ g) Z ⟨fit4 _ _ _ _,λM D=>?_⟩))))))));obtain⟨u,F⟩:=alc (o:=.tup [V.str (swd st'.over r),.int st'.units,.ref p4,.ref p6]) D;generalize upd J2 M _=J3 at u F |-;have f:=j.trans u;have x4:DkV 2 J3 (.ref v) (.ref p4):=qi2 (f _ _ ae) (f _ _ h4) (ad.same f) (t4.same f) quu;have x6:DkV 2 J3 (.ref O) (.ref p6):=qi2 (f _ _ t) (f _ _ h6) (N.same f) (t6.same f) qpv;have ew:swd st'.over U=swd st'.over r:=by rw[qeo.mpr eo,qeo.mpr eo]
   refine⟨3,Ud,.inl (.inr ⟨pt,M,_,_,Z,Z,.inr ⟨u _ _ G,F⟩,Z,λi x y a b=>?_⟩),k _ f⟩
   match i,a,b with
   |0,a,b=>cases a;cases b;rw[ew];exact qle rfl
   |1,a,b=>cases a;cases b;exact qle rfl
   |2,a,b=>cases a;cases b;exact x4
   |3,a,b=>cases a;cases b;exact x6
   |i+4,a,b=>cases a
  .have no:st.over=false:=by
    cases e:st.over with|false=>rfl|true=>exact absurd (decide_eq_true (congrArg V.str (qeo.mpr e))) c
   rcases hex with ⟨e,e'⟩|⟨_,w,e⟩
   .subst e';have lx0:ex.length=0:=by rw[e];rfl
    refine(nmc Z (txo (n _ _ d) Z ⟨_,_,Z,.inl ⟨_,SqL.of (n _ _ t),Z⟩,(nmc Z ⟨Z,_,Z,qba (λ_=>?_) (λc=>absurd (decide_eq_true (congrArg V.int (by lia))) c)⟩)⟩));refine(nmc Z (txo (n _ _ d) Z (nmc Z (txo (n _ _ d) Z ⟨qkw _ _,λpt L=>?_⟩))));have j:=n.trans (qx (o:=.tup [V.int st'.units,.ref v]) L);have G:=qk (H:=J) (a:=pt) (o:=.tup [V.int st'.units,.ref v]);generalize upd J pt _=J2 at j G |-;refine(nmc Z (txo (j _ _ g) Z (nmc Z (txo (j _ _ g) Z ⟨qkw _ _,λM D=>?_⟩))));obtain⟨u,F⟩:=alc (o:=.tup [V.int st'.units,.ref p4]) D;generalize upd J2 M _=J3 at u F |-;have f:=j.trans u;have x4:DkV 2 J3 (.ref v) (.ref p4):=qi2 (f _ _ ae) (f _ _ h4) (ad.same f) (t4.same f) quu;refine⟨3,Ud,.inl (.inr ⟨pt,M,_,_,Z,Z,.inr ⟨u _ _ G,F⟩,Z,λi x y a b=>?_⟩),_,Z,qdo (nmc Z (txo (f _ _ d) Z ⟨Z,?_⟩))⟩
    .match i,a,b with
     |0,a,b=>cases a;cases b;exact qle rfl
     |1,a,b=>cases a;cases b;exact x4
     |i+2,a,b=>cases a
    .rw[decide_eq_false (λz=>by rw[qeo.mp (V.str.inj z)]at no;cases no)];exact k _ f
   .have lx2:ex.length=1:=by rw[e];rfl
    exact(nmc Z (txo (n _ _ d) Z ⟨_,_,Z,.inl ⟨_,SqL.of (n _ _ t),Z⟩,(nmc Z ⟨Z,_,Z,qba (λc=>absurd (V.int.inj (of_decide_eq_true c)) (by lia)) (λ_=>k _ n)⟩)⟩))
theorem qth (T:Txt K mg a):FnOk P w K mg base CX0 1 a.rY a.rQ ["_law_account","_law_act"] spBe57:=by
 refine T.bU.fn.ok qsu (λvs H Q E h=>?_) (λcdv A outer s H vs Q E m h=>?_)
 .obtain⟨_,_,_,_,_,_,_,_,rfl,_⟩:=h
  all_goals rfl
 .obtain⟨q,p4,p6,qa,st,s',r,ac,rfl,u,e,n,k⟩:=h;refine⟨_,(qj (qo (qd4 (qbp qbt (zp zq (pv 0) qi (λ_ _=>rfl)) (zp zq (pv 1) qi (λ_ _=>rfl)) (qab _)) (qdn (qbp (qo8 m.units) (zp zq (pv 0) qi (λ_ _=>rfl)) (zh (qd (zj (qd (zp zq (pv 1) qi (λ_ _=>rfl)) (qd (zp zq (pv 1) qi (λ_ _=>rfl)) (qd zg qg ql) zn) zn)) qg zo)) (qab _)))))),?_⟩;obtain⟨i,_,⟨u6,p,j⟩⟩:=u;refine(nmc Z (txo (i) Z (nmc Z (txo (e) Z ⟨Z,_,Z,qba (λ_=>?_) (λc=>absurd (decide_eq_true Z) c)⟩))));refine(nmc Z (txo (i) Z (nmc Z (txo (e) Z (nmc Z (txo (e) Z ⟨qkx _ _ _,λt v=>?_⟩))))));obtain⟨d,l⟩:=alc (o:=.tup [V.str ac.1,.int ac.2.2,.str (Aa "begins")]) v;generalize upd H t _=H1 at d l |-;refine⟨fit1 _,λpl f=>?_⟩;obtain⟨b,g⟩:=alc (o:=.lst [V.ref t]) f;generalize upd H1 pl _=H2 at b g |-;rw[n]at j;exact⟨2,Ud,.inl (qi2 ((d.trans b) _ _ p) g (j.same (d.trans b)) (.cons (b _ _ l) .nil) qpv),k _ (d.trans b)⟩
theorem qnb (T:Txt K mg a):FnOk P w K mg base CX0 2 a.tW a.tD ["_law_old","_law_new","_law_act"] spSt57:=by
 refine T.fA.fn.ok qcg (λvs H Q E h=>?_) (λcdv A outer s H vs Q E m h=>?_)
 .obtain⟨_,_,_,_,_,_,_,_,_,_,_,_,_,_,_,_,_,_,rfl,_⟩:=h
  all_goals rfl
 .obtain⟨d,d',r,bs,rs,ts,Zq,Z',n,q,y,p4,p6,N,y',ae,ad,ac,rfl,hT,ah,ao,T0,ha,ho,k⟩:=h;refine⟨_,(qf (zb (qt (qtz m.units) (qdz (qlw Z) (by rfl) T.gZ qd0 (qd (pv 0) qg qe)) (qdz (qlw Z) (by rfl) T.gZ qd0 (qd (pv 1) qg qe)) (qab _)) (qj (qo qbk)) qae)
   (qf (qed A8 Z (pv 0) (qaf (i:=3) qcg.nd Z (Ar Z)) (qf (qu (i:=4) qcg.nd Z (Ar Z) (zd qa5 (by rfl) T.kP qa6 (qd (qb5 (qb9 m) (pv 0) (pv 3) (λ_ _=>rfl)) qg zn)))
   (qf (zb (qt qic (zd qa5 (by rfl) T.kP qa6 (qd (qb5 (qb9 m) (pv 1) (pv 3) (λ_ _=>rfl)) qg zn)) (zj (qd (pv 4) (qd (qv qah (pv 4) qi) qg zm) qe)) (by with_unfolding_all rfl)) (qj (qo qbk)) qae)
   (qf (qa8 A8 Z (qbl Z T.kW (qd (pv 4) qg qe)) (qaf (i:=5) qcg.nd Z (Ar Z)) (qj (zb (qc0 (zf (zc (qtg T) (m.mono Ud) Z T.dQ.mgx T.dQ.fn.kp T.dQ.bd .nil qad (qd (zp zr (qb5 (qb9 m) (pv 0) (pv 3) (λ_ _=>rfl)) (pv 5) (λ_ _=>rfl)) (qd (zp zr (qb5 (qb9 m) (pv 1) (pv 3) (λ_ _=>rfl)) (pv 5) (λ_ _=>rfl)) (qd (pv 2) qg qe) zn) zn)))) (qj (qo qbk)) qae)))
   (qf (zb (PW.pt (qcf (qt qkb (zd qa5 (by rfl) T.kP qa6 (qd (qb5 (qb9 m) (pv 1) (pv 3) (λ_ _=>rfl)) qg zn)) (pv 4) (qab _)) (qbw (qc0 (zf (zc (qth T) (m.mono Ud) Z T.bU.mgx T.bU.fn.kp T.bU.bd .nil qad (qd (zp zr (qb5 (qb9 m) (pv 1) (pv 3) (λ_ _=>rfl)) (pv 4) (λ_ _=>rfl)) (qd (pv 2) qg qe) zn))))))) (qj (qo qbk)) qae)
   (qj (qa8 A8 Z (qbf (qb5 (qb9 m) (pv 1) (pv 3) (λ_ _=>rfl))) (qaf (i:=6) qcg.nd Z (Ar Z)) (qj (zb (qc0 (zf (zc (qtf T) (m.mono Ud) Z T.dP.mgx T.dP.fn.kp T.dP.bd .nil qad (qd (pv 6) qg qe)))) (qj (qo qbk)) qae)))))))))
   (qj (qo qbk)))),?_⟩
  have n4:=T0.n4;refine(nmc Z ⟨d,_,Z,hT.1,λl1 aq=>?_⟩);obtain⟨s1,e1⟩:=alc (o:=.lst ((kvR n ts q).map λg=>kV g.1)) aq;generalize upd H l1 _=H1 at s1 e1 |-;refine(nmc Z ⟨d',_,Z,s1 _ _ ah.1,λl2 aj=>?_⟩);have X:=s1.trans (qx (o:=.lst ((kvR n ts N).map λg=>kV g.1)) aj);have af:=qx (o:=.lst ((kvR n ts N).map λg=>kV g.1)) aj _ _ e1;have e2:=qk (H:=H1) (a:=l2) (o:=.lst ((kvR n ts N).map λg=>kV g.1));generalize upd H1 l2 _=H2 at X af e2 |-;rw[kvR_keys]at af e2;refine⟨1,Ud,.inl (dk_strs af e2),_,Z,qbs ?_⟩;have T2:=hT.same X;refine(nmc Z ⟨d,_,Z,T2.1,λo=>⟨λi σ' J=>Same (upd H2 d (.frz o (.dK (kvR n ts q)))) J/\∃v3 v4 U x:Option V,σ'=[oR d,oR d',oR r,v3,v4,U,x],⟨Same.refl _,_,_,_,_,Z⟩,(λi σ' J h=>h.1 _ _ qk),?_,?_⟩⟩)
  .rintro i g σ' J ar ⟨Y,v3,v4,U,x,rfl⟩;obtain⟨M,rfl⟩:=qpq ar;have kF:∀b u,(∀g,u ≠ .dK g)->H2 b=some u->J b=some u:=λb u nu e=>Y _ _ (by
    rw[qr]
    .exact e
    .rintro rfl;rw[T2.1]at e;exact nu _ (AA e).symm)
   have C:∀{J:Hp},(∀b u,(∀g,u ≠ .dK g)->H2 b=some u->J b=some u)->AccI bs rs ts Zq i J (q i) (y i) (p4 i) (p6 i)/\AccI bs rs ts Z' i J (N i) (y' i) (ae i) (ad i):=λ{J} kk=>by
    have ak:∀b o,((∃u,o=.lst u) \/ ∃t,o=.tup t)->H2 b=some o->J b=some o:=λb o ho e=>by
     rcases ho with ⟨u,rfl⟩|⟨u,rfl⟩
     .exact kk _ _ (λ_ z=>nomatch z) e
     .exact kk _ _ (λ_ z=>nomatch z) e
    exact⟨(T2.2 i M).kp ak,((ah.same X).2 i M).kp ak⟩
   have gd:∀{J:Hp},J d=some (.frz o (.dK (kvR n ts q)))->DGet J d (.str (ts i).name) (some (.ref (q i))):=λ{J} h=>.inl ⟨_,.inr (ts i).name,.inr ⟨o,h⟩,Z,(qhc T0.nn M).symm⟩;have B:∀{J:Hp},J d'=some (.dK (kvR n ts N))->DGet J d' (.str (ts i).name) (some (.ref (N i))):=λ{J} h=>.inl ⟨_,.inr (ts i).name,.inl h,Z,(qhc T0.nn M).symm⟩;have ai:J d=some (.frz o (.dK (kvR n ts q))):=Y _ _ qk;have F:J d'=some (.dK (kvR n ts N)):=Y _ _ (by rw[qr (B6 ao)];exact X _ _ ah.1);have al:J r=some (.tup (qdy ac)):=kF _ _ (λ_ z=>nomatch z) (X _ _ ha);obtain⟨A1,A2⟩:=C kF;have eL:((Aq (Zq i).length).map λj=>V.ref (y i j)).length=(Zq i).length:=by rw[Ab,As]
   have ag:((Aq (Z' i).length).map λj=>V.ref (y' i j)).length=(Z' i).length:=by rw[Ab,As]
   have ln:=ho.ln i M;refine gn2 (σ':=[oR d,oR d',oR r,some (.str (ts i).name),v4,U,x]) rfl ?_;refine(nmc Z (nmc Z ⟨d,_,Z,gd ai,_,_,Z,.inl ⟨_,SqL.of A1.1,Z⟩,?_⟩));rw[eL];refine gn2 (σ':=[oR d,oR d',oR r,some (.str (ts i).name),oI ((Zq i).length:Int),U,x]) rfl ?_;have nw:=ho.nw i M;refine(nmc Z (nmc Z ⟨d',_,Z,B F,_,_,Z,.inl ⟨_,SqL.of A2.1,Z⟩,(nmc Z (nmc Z (iic Z Z ⟨qkw _ _,λpt aw=>?_⟩)))⟩));rw[ag];obtain⟨D,e3⟩:=alc (o:=.tup [V.int ((Zq i).length:Int),.int ((Zq i).length+1:Int)]) aw;generalize upd J pt _=J3 at D e3 |-;refine⟨_,_,Z,.inr (SqT.of e3),Z,Z,_,Z,?_⟩;have am:inV (V.int ((Z' i).length:Int)) [V.int ((Zq i).length:Int),.int ((Zq i).length+1:Int)]=true:=by rcases nw with e|⟨e,_⟩ <;>rw[e] <;>simp[inV,eqV]
   show if (!inV (V.int ((Z' i).length:Int)) [V.int ((Zq i).length:Int),.int ((Zq i).length+1:Int)])=true then _ else _;rw[am];refine qbs ?_;have bm:=rb (n:=(Zq i).length) (by rcases nw with e|⟨e,_⟩ <;>lia);have L:∀{l:Hp},Same J3 l->∀b u,(∀g,u ≠ .dK g)->H2 b=some u->l b=some u:=λ{l} z b u nu e=>z _ _ (D _ _ (kF b u nu e));refine(nmc Z ⟨_,Z,bm.1,bm.2,qcj (lo:=0) (n:=(((Zq i).length:Int)).toNat) (λj σ l=>Same J3 l/\∃U:Option V,σ=[oR d,oR d',oR r,some (.str (ts i).name),oI ((Zq i).length:Int),U,x]) ⟨Same.refl _,_,Z⟩ ?_ ?_⟩)
   .rintro j σ l O ⟨f,W,rfl⟩;have O:j<(Zq i).length:=by lia
    rw[BX];have I:j<(Z' i).length:=by rcases nw with e|⟨e,_⟩ <;>lia
    obtain⟨B1,R⟩:=C (L f);have au:=(D.trans f) _ _ ai;have G:=(D.trans f) _ _ F;obtain⟨mv,en,lr⟩:=ho.mv i M j O;have a2:=R.2 j I;rw[en]at a2;refine gn2 (σ':=[oR d,oR d',oR r,some (.str (ts i).name),oI ((Zq i).length:Int),oI (j:Int),x]) rfl ?_;refine(nmc Z (nmc Z ⟨d,_,Z,gd au,(nmc Z (lxo (B1.1) (qa0 (j:=j) (by rw[Ah,AX O];rfl)) (nmc Z (nmc Z ⟨d',_,Z,B G,(nmc Z (lxo (R.1) (qa0 (j:=j) (by rw[Ah,AX I];rfl)) (nmc Z ⟨y i j,p4 i j,p6 i j,y' i j,ae i j,ad i j,r,_,_,_,_,_,_,_,ac,Z,B1.2 j O,a2,(D.trans f) _ _ al,mv,lr,λJ4 S=>⟨_,Z,qbs ?_⟩⟩)))⟩))))⟩));exact⟨f.trans S,_,Z⟩
   rintro σ J4 ⟨S,W,rfl⟩;apply qrq (p:=λl=>Same J3 l) (σ:=[oR d,oR d',oR r,some (.str (ts i).name),oI ((Zq i).length:Int),W,x])
   .intro mm;obtain⟨B1,R⟩:=C (L S);have G:=(D.trans S) _ _ F;rcases nw with e|⟨e,ew⟩
    .refine(nmc Z (nmc Z ⟨d',_,Z,B G,_,_,Z,.inl ⟨_,SqL.of R.1,Z⟩,(nmc Z (iic Z Z ⟨_,Z,qba (λc=>absurd (of_decide_eq_true c) (by rw[ag];lia)) (λ_=>qbs (tn2 Z (mm J4 S)))⟩))⟩))
    .refine(nmc Z (nmc Z ⟨d',_,Z,B G,_,_,Z,.inl ⟨_,SqL.of R.1,Z⟩,(nmc Z (iic Z Z ⟨_,Z,qba (λ_=>?_) (λc=>absurd (decide_eq_true (by rw[ag];lia)) c)⟩))⟩));have I:(Zq i).length<(Z' i).length:=by lia
     have a2:=R.2 _ I;have en:nm0 ((Z' i).getD (Zq i).length dRS)=ac.1:=by unfold nm0;rw[ew];rfl
     rw[en]at a2;refine(nmc Z (nmc Z ⟨d',_,Z,B G,(nmc Z (lxo (R.1) (qa0 (j:=(Zq i).length) (by rw[Ah,AX I];rfl)) (nmc Z ⟨_,_,_,r,_,_,_,ac,Z,a2,(D.trans S) _ _ al,ew,λJ5 s5=>⟨_,Z,qbs (tn2 Z (mm J5 (S.trans s5)))⟩⟩)))⟩))
   intro J5 s5;obtain⟨C1,C2⟩:=C (L s5);refine(nmc Z (nmc Z ⟨d',_,Z,B ((D.trans s5) _ _ F),_,Z,⟨_,SqL.of C2.1⟩,qbm (K:=K) (a:=N i) (xs:=(Aq (Z' i).length).map λj=>.ref (y' i j)) (λj σ l=>Same J3 l/\∃x:Option V,σ=[oR d,oR d',oR r,some (.str (ts i).name),oI ((Zq i).length:Int),W,x]) ⟨s5,_,Z⟩ (λj σ l _ h=>SqL.of (C (L h.1)).2.1) ?_ ?_⟩))
   .rintro j v σ l hv ⟨f,av,rfl⟩;have O:j<(Z' i).length:=by have:=(Ac.mp hv).1;rw[Ab,As]at this;exact this
    rw[Ah,AX O]at hv;cases hv;refine gn2 (σ':=[oR d,oR d',oR r,some (.str (ts i).name),oI ((Zq i).length:Int),W,some (.ref (y' i j))]) rfl ?_;refine(nmc Z ⟨y' i j,ae i j,ad i j,_,_,_,Z,(C (L f)).2.2 j O,ho.sd i M j O,λJ6 s6=>⟨_,Z,qbs ?_⟩⟩);exact⟨f.trans s6,_,Z⟩
   .rintro σ l ⟨f,av,rfl⟩;exact⟨Y.trans (D.trans f),_,_,_,_,Z⟩
  .rintro σ' J ⟨Y,v3,v4,U,x,rfl⟩;refine k _ λb u e=>?_;have e:=X _ _ e;by_cases z:b=d
   .subst z;rw[T2.1]at e;rw[qk,<- e]
   .rw[qr z];exact Y _ _ (by rw[qr z];exact e)
theorem qti (T:Txt K mg a):FnOk P w K mg base CX0 3 a.lR a.mZ ["self","rules"] (spBInit a):=by
 refine T.xC.fn.ok qmi (λvs H Q E h=>?_) (λcdv A outer s H vs Q E hr h=>?_)
 .obtain⟨_,_,_,_,_,_,_,rfl,_⟩:=h
  all_goals rfl
 .obtain⟨x,f,Y,us,nms,bs,rk,rfl,C,r,g,t,k⟩:=h;refine⟨_,(qf (qa2 (pv 0) (zc (qm7 T) (hr.mono Ud) Z T.dO.mgx T.dO.fn.kp T.dO.bd .nil qad (qd (pv 1) qg qe)) Z)
   (qf (qa2 (pv 0) qfd Z)
   (qj (qa8 A8 Z (qbf (pv 1)) (qaf (i:=2) qmi.nd Z (Ar Z)) (qj (qg4 (qb9 hr) (qac (pv 0) Z) (qac (pv 2) Z) (pv 2) Z)))))),?_⟩
  refine(nmc Z ⟨_,us,nms,bs,rk,Z,r,g,t,λc N U s1 J=>?_⟩);have x1:=s1 _ _ C;refine(nmc Z ⟨_,_,_,_,Z,x1,T.gF,qp T.gT Ud,Ud,?_⟩);rw[put1];have F:c≠x:=λz=>by rw[z,C]at U;cases U
  have L:SameBut x H (upd N x (.ins a.kL f [(Aa "order",.ref c)])):=(SameBut.of s1).set;have O:=qk (H:=N) (a:=x) (o:=.ins a.kL f [(Aa "order",.ref c)]);have S:=(qr (o:=.ins a.kL f [(Aa "order",.ref c)]) F).trans J;generalize upd N x _=H2 at L O S |-;refine λd l=>?_;obtain⟨M,d3⟩:=alc (o:=.dK []) l;have x3:=M _ _ O;have m:d≠x:=λz=>by rw[z,O]at l;cases l
  have ad:c≠d:=λz=>by rw[<- z,S]at l;cases l
  have nd:=L.free m l;refine(nmc Z ⟨_,_,_,_,Z,x3,T.gF,qp T.gT Ud,(show 1<1000 by decide),?_⟩);rw[put2 _ _ Uk];have W:SameBut x H (upd (upd H2 d (.dK [])) x (.ins a.kL f (bfs c d))):=(L.trans (SameBut.of M)).set;have x4:=qk (H:=upd H2 d (.dK [])) (a:=x) (o:=.ins a.kL f (bfs c d));have o4:=(qr (o:=.ins a.kL f (bfs c d)) F).trans (M _ _ S);have d4:=(qr (o:=.ins a.kL f (bfs c d)) m).trans d3;generalize upd (upd H2 d (.dK [])) x _=H4 at W x4 o4 d4 |-;have G:Y≠x:=λz=>by rw[z,C]at r;cases r
  have rule:∀{H':Hp}{i:Nat}{y:V},SameBut x H H'->us[i]?=some y->RuN a.kB H' y (nm nms i) (qrj nms (bo bs i)):=λb e=>by obtain⟨p,D,fs,J,q,R,h3⟩:=g.2 _ _ e;refine⟨p,D,fs,J,b _ _ (λz=>?_) q,R,h3⟩;rw[z,C]at q;injection q with q;injection q with _ _ h5;rw[<- h5]at R;cases R
  refine(nmc Z ⟨_,Z,⟨_,SqL.of (W _ _ G r)⟩,qbm (K:=K) (a:=Y) (xs:=us) (λi σ H'=>SameBut x H H'/\H' x=some (.ins a.kL f (bfs c d))/\H' c=some (.lst ((qiy nms bs nms.length).map V.str))/\∃(v2:Option V)(kvs:List (Key×V)),σ=[oR x,oR Y,v2]/\H' d=some (.dK kvs)/\kvs.length<=i/\(kvs.map λkv=>kV kv.1)=(nms.take i).map V.str/\∀(j:Nat)(z:V),j<i->us[j]?=some z->qbn kvs (.inr (nm nms j))=some z)
   ⟨W,x4,o4,none,[],Z,d4,Al _,Z,λj z hj=>absurd hj (B0 _)⟩ (λi σ H' _ h=>SqL.of (h.1 _ _ G r)) ?_ ?_⟩)
  .rintro i y σ H' X ⟨u,B,I,v2,kvs,rfl,d5,hl,v,hg⟩;have hi:i<nms.length:=by rw[<- g.1];exact(Ac.mp X).1
   obtain⟨p,D,fs,rfl,r1,r2,r3⟩:=rule u X;refine(nmc Z (nmc Z (flc (B) (T.gF) (qp T.gT Ud) (rfl) (nmc Z (flc (r1) (T.kD) (qp T.kE Ud) (r2) ⟨d,_,Z,DPut.k (k:=.inr (nm nms i)) d5 (by rw[Bx];have:=t.sm;lia),?_⟩)))));exact⟨λb o n e=>by rw[qr (qag e nd)];exact u b o n e,(qr m.symm).trans B,(qr ad).trans I,_,_,Z,qk,A9 (qdk _ _ _) (CQ hl),bk_keys _ t.nd hi v,bk_get t.nd hi g.1 X hg⟩
  .rintro σ H' ⟨u,B,I,v2,kvs,rfl,d5,hl,v,hg⟩;rw[g.1,Bz]at v;exact k H' u λH9 qcd=>⟨f,c,d,kvs,qcd _ _ (.inr (.inl Z)) B,qcd _ _ (.inl U) I,qcd _ _ (.inl nd) d5,v,λj y e=>hg j y (Ac.mp e).1 e⟩
theorem qnw (T:Txt K mg a):FnOk P w K mg base CX0 5 a.fX a.nF ["self","week","yearly"] (spPInit a):=by
 refine T.xT.fn.ok qnm (λvs H Q E h=>?_) (λcdv A outer s H vs Q E u h=>?_)
 .obtain⟨_,_,_,_,_,_,rfl,_⟩:=h
  all_goals rfl
 .obtain⟨x,e,pw,py,b,yr,rfl,hx,hw,hy,ae,F,k⟩:=h;refine⟨_,(qf (qz (zc (qp0 T) (u.mono Ud) Z T.fD.mgx T.fD.fn.kp T.fD.bd .nil qad (qd (pv 1) qg qe)))
   (qf (qz (zc (qm9 T) (u.mono Ud) Z T.dN.mgx T.dN.fn.kp T.dN.bd .nil qad (qd (pv 2) qg qe)))
   (qf (qa2 (pv 0) (qfn (N:=["within","week","yearly"]) (js:=[none,some 1,some 2]) (XN:=["self","week","yearly"]) (xs:=qaa qc3) Z Z Z Uk (qbl Z T.kW (qd (qb4 (v:=.int 371) Z T.lG.choose_spec ⟨_,Z⟩) qg qe)) (λ_ _ _ _ _ _=>(qaf (i:=0) (show Cz (["within","week","yearly"]:List Str) from by decide +kernel) Z (Ar Z) (DN Z))) (λ_ _ _ _ _ _=>qfm) (λ_ _ _ _ _ _=>(zc (qm8 T) (u.mono Ud) Z T.bQ.mgx T.bQ.fn.kp T.bQ.bd .nil qad (qd (pv 0) (qd (pv 1) (qd (pv 2) qg qe) qe) qe)))) Z)
   (qf (qa2 (pv 0) (qfn (N:=["within","self"]) (js:=[none,some 0]) (XN:=["self","week","yearly"]) (xs:=qaa qc3) Z Z Z Uk (qbl Z T.kW (qd (qb4 (v:=.int 371) Z T.lG.choose_spec ⟨_,Z⟩) qg qe)) (λ_ _ _ _ _ _=>(qaf (i:=0) (show Cz (["within","self"]:List Str) from by decide +kernel) Z (Ar Z) (DN Z))) (λ_ _ _ _ _ _=>(qtr (qc0 (zf (zp (qqf (K:=K) Z) (qo1 (K:=K) Z (pv 1) Z) (pv 0) (λ_ _=>rfl)))))) (λ_ _ _ _ _ _=>(pv 0))) Z)
   (qj (qa2 (pv 0) (zc (qrw T) (u.mono Ud) Z T.dW.mgx T.dW.fn.kp T.dW.bd .nil qad (qd (qac (pv 0) Z) qg qao)) Z)))))),?_⟩
  refine(nmc Z ⟨_,_,Z,hw,ae,λH1 s1=>?_⟩);refine(nmc Z ⟨_,_,Z,hy.same s1,F,λH2 s2=>?_⟩);have f:=s1.trans s2;have hly:=F.len;refine⟨_,Z,Ud,Ud,?_⟩;refine qn7 (λv=>match v with | .int i=>.bl (fy b yr i)|_=>.non) (λσ'=>∃v,σ'=[v,oR pw,oR py]) qet (qdr (by rw[Ab,As];decide)) ⟨none,Z⟩ (λv σ' H' RR G n M q=>?_) qeu λc D r s3 e3=>?_
  .obtain⟨v0,rfl⟩:=M;obtain⟨j,_,rfl⟩:=Bd.mp G;exact(nmc Z (nmc Z (nmc Z ⟨_,_,_,_,_,Z,n _ _ (f _ _ hw),(hy.same f).same n,by lia,λp m=>q _ p ⟨_,Z⟩ m⟩)))
  have ah:D c=some (.lst ((fdL b yr).map V.bl)):=by rw[e3];unfold fdL;rw[Cf,Cf];refine congrArg (λl=>some (HO.lst l)) (BQ λj _=>?_);show V.bl (fy b yr (0+(j:Int)))=V.bl (fy b yr (j:Int));rw[BX]
  have t:=f.trans s3;have af:=t _ _ hx;refine(nmc Z ⟨_,_,_,_,Z,af,T.kO,qp T.gB Ud,Ud,?_⟩);rw[put1];have L:c≠x:=λz=>by rw[z,f _ _ hx]at r;cases r
  have S:SameBut x H (upd D x (.ins a.kH e [(Aa "free_days",.ref c)])):=(SameBut.of t).set;have U:=(qr (o:=.ins a.kH e [(Aa "free_days",.ref c)]) L).trans ah;have B:=qk (H:=D) (a:=x) (o:=.ins a.kH e [(Aa "free_days",.ref c)]);generalize upd D x (.ins a.kH e [(Aa "free_days",.ref c)])=H4 at S U B |-;refine⟨_,Z,Ud,Ud,?_⟩;refine qn8 (λv=>match v with | .int i=>!((fdL b yr).getD i.toNat true)|_=>false) (λv=>v) (λσ'=>∃v,σ'=[v,oR x]) qet (qdr (by rw[Ab,As];decide)) ⟨none,Z⟩ (λv σ' H' N RR G n M W ky=>?_) qeu λd g=>?_
  .obtain⟨v0,rfl⟩:=M;obtain⟨j,hj,rfl⟩:=Bd.mp G;have ad:j<371:=by simpa using hj
   have ej:(0:Int)+(j:Int)=(j:Int):=BX _;rw[ej]at W ky |-;have ag:j<(fdL b yr).length:=by rw[qfo];exact ad
   have eg:(fdL b yr)[j]?=some ((fdL b yr)[j]):=Ae ag;have eD:(fdL b yr).getD ((j:Int)).toNat true=(fdL b yr)[j]:=by rw[B3,Ak,eg];rfl
   refine(nmc Z (flc (n _ _ B) (T.kO) (qp T.gB Ud) (rfl) (nmc Z (lxo (n _ _ U) (qa0 (by rw[Ah,eg];rfl)) (nmc Z ?_)))));cases eb:(fdL b yr)[j] with|true=>exact qbs (W _ ⟨_,Z⟩ (by show (!_)=false;rw[eD,eb];rfl))|false=>exact qdo (nmc Z (ky _ ⟨_,Z⟩ (by show (!_)=true;rw[eD,eb];rfl)))
  have m:=qx (o:=.lst ((((Aq (371:Int).toNat).map λi=>V.int (0+(i:Nat))).filter λv=>match v with | .int i=>!((fdL b yr).getD i.toNat true)|_=>false).map λv=>v)) g;have e5:upd H4 d (.lst ((((Aq (371:Int).toNat).map λi=>V.int (0+(i:Nat))).filter λv=>match v with | .int i=>!((fdL b yr).getD i.toNat true)|_=>false).map λv=>v)) d=some (.lst ((odL (fdL b yr)).map V.int)):=by
   rw[qk];refine congrArg (λl=>some (HO.lst l)) ?_;unfold odL;rw[List.map_id',List.filter_map,Cf,qfo];refine(congrArg _ (List.filter_congr λi _=>?_)).trans (BQ λi _=>?_)
   .show (!((fdL b yr).getD (0+(i:Int)).toNat true))=_;rw[BX,B3]
   .show V.int (0+(i:Int))=_;rw[BX];rfl
  have x5:=m _ _ B;have Y:=m _ _ U;generalize upd H4 d (.lst ((((Aq (371:Int).toNat).map λi=>V.int (0+(i:Nat))).filter λv=>match v with | .int i=>!((fdL b yr).getD i.toNat true)|_=>false).map λv=>v))=p at m e5 x5 Y |-;refine(nmc Z ⟨_,_,_,_,Z,x5,T.kO,qp T.gB Ud,(show 1<1000 by decide),?_⟩);rw[put2 _ _ Uk];have J:d≠x:=λz=>by rw[z,B]at g;cases g
  have I:SameBut x H (upd p x (.ins a.kH e [(Aa "free_days",.ref c),(Aa "open_days",.ref d)])):=(S.trans (SameBut.of m)).set;have R:=(qr (o:=.ins a.kH e [(Aa "free_days",.ref c),(Aa "open_days",.ref d)]) L).trans Y;have X:=(qr (o:=.ins a.kH e [(Aa "free_days",.ref c),(Aa "open_days",.ref d)]) J).trans e5;have y:=qk (H:=p) (a:=x) (o:=.ins a.kH e [(Aa "free_days",.ref c),(Aa "open_days",.ref d)]);generalize upd p x (.ins a.kH e [(Aa "free_days",.ref c),(Aa "open_days",.ref d)])=H6 at I R X y |-;refine(nmc Z (flc (y) (T.kO) (qp T.gB Ud) (rfl) ⟨_,_,Z,R,by rw[qfo];decide,λp7 H7 O C e7=>?_⟩));have x7:=C _ _ y;refine(nmc Z ⟨_,_,_,_,Z,x7,T.kO,qp T.gB Ud,(show 2<1000 by decide),?_⟩);rw[put3 _ _ _ Uk Uk];have m7:p7≠x:=λz=>by rw[z,y]at O;cases O
  refine k _ ((I.trans (SameBut.of C)).set) λH9 qcd=>⟨_,c,d,p7,qcd _ _ (.inr (.inl Z)) qk,qcd _ _ (.inl (f.free r)) ((qr L).trans (C _ _ R)),qcd _ _ (.inl (S.free J g)) ((qr J).trans (C _ _ X)),qcd _ _ (.inl (I.free m7 O)) ((qr m7).trans e7),qfo _ _⟩
theorem qrz (T:Txt K mg a):FnOk P w K mg base CX0 7 a.lS a.fQ ["self","week","yearly","rows"] (spTInit a):=by
 refine T.xW.fn.ok qkl (λvs H Q E h=>?_) (λcdv A outer s H vs Q E G h=>?_)
 .obtain⟨_,_,_,_,_,_,_,_,rfl,_⟩:=h
  all_goals rfl
 .obtain⟨x,g,pw,vy,vr,p,yr,rs,rfl,hx,hw,hy,c8,bh,ay,hl,ad,k⟩:=h;refine⟨_,(qf (qa2 (pv 0) (qer T.yG (qnw T) (G.mono Ud) Z T.yC T.xT.bd .nil qad (qd (pv 1) (qd (zc (qe8 T) (G.mono Ud) Z T.kZ.mgx T.kZ.fn.kp T.kZ.bd .nil qad (qd (pv 2) qg qe)) qg zl) qe)) Z)
   (qf (qz (zc (qp1 T) (G.mono Ud) Z T.dU.mgx T.dU.fn.kp T.dU.bd .nil qad (qd (zc (qe8 T) (G.mono Ud) Z T.kZ.mgx T.kZ.fn.kp T.kZ.bd .nil qad (qd (pv 3) qg qe)) qg zl)))
   (qf (qa2 (pv 0) (zc (qwa T) (G.mono Ud) Z T.dY.mgx T.dY.fn.kp T.dY.bd .nil qad (qd (zc (qe8 T) (G.mono Ud) Z T.kZ.mgx T.kZ.fn.kp T.kZ.bd .nil qad (qd (pv 3) qg qe)) qg zl)) Z)
   (qf (qa2 (pv 0) (zh (qd qi qg ql)) Z)
   (qj (qa8 A8 Z (qbf (qac (pv 0) Z)) (qaf (i:=4) qkl.nd Z (Ar Z)) (qj (qz (qcp A7 AG AH qau (qac (pv 0) Z) (qd (qv qah (zp zr (qac (pv 0) Z) (qfa qda qi) (λ_ _=>rfl)) (qal (pv 0) T.kI T.pE (qi7 T) (G.mono Ud) T.fK.bd .nil qad (qd (pv 4) (qd (qv qah (zp zq (pv 4) qi (λ_ _=>rfl)) qi) qg zm) qe))) qg zm)))))))))),?_⟩
  have al:∀r∈rs,r.1<=r.2.1:=λr hm=>(ad r hm).2.1;obtain⟨bt,_⟩:=qxg al;have ax:=ov_nn λr hm=>(ad r hm).1;have lO:(ov rs).length<=100:=A9 (qx2 _) (A9 (qpg al) (A9 (Ef 3 hl) Ud));refine(nmc Z (nmc Z ?_));refine orP hy λpy H0 Y bf=>?_;intro f X nx nd ne;have keep:Same H0 (upd (upd H0 X (.own f)) f (.ins a.kH X [])):=λb u e=>by rw[qr (qag e nx),qr (qag e nd)];exact e
  refine⟨f,X,_,_,_,_,Z,qk,keep _ _ (Y _ _ hw),bf.same keep,bh,ay,λy b1 am=>⟨Z,?_⟩⟩;have aw:=am y λ_ _ _ e=>e;have s1:Same H y:=Y.trans (b1.made nx nd);have N:=s1 _ _ hx;have ak:f≠x:=λz=>by rw[z,Y _ _ hx]at nx;cases nx
  refine(nmc Z ⟨_,_,_,_,Z,N,T.kI,qp T.kR Ud,Ud,?_⟩);rw[put1];have aq:∀{H':Hp}{fs:List (Str×V)},H' x=some (.ins a.kG g fs)->PatAt a.kH H' f (fdL p yr)->∀o,PatAt a.kH (upd H' x o) f (fdL p yr):=λag ⟨d,a1,a2,a3,g1,I,L,F,g5⟩ o =>
   ⟨d,a1,a2,a3,by rw[qr ak];exact g1,by rw[qr (λz=>by rw[z,ag]at I;cases I)];exact I,by rw[qr (λz=>by rw[z,ag]at L;cases L)];exact L,by rw[qr (λz=>by rw[z,ag]at F;cases F)];exact F,g5⟩
  have b2:SameBut x y (upd y x (.ins a.kG g [(Aa "pattern",.ref f)])):=(SameBut.of (Same.refl y)).set;have x2:=qk (H:=y) (a:=x) (o:=.ins a.kG g [(Aa "pattern",.ref f)]);have ai:=aq N aw (.ins a.kG g [(Aa "pattern",.ref f)]);generalize upd y x (.ins a.kG g [(Aa "pattern",.ref f)])=H2 at b2 x2 ai |-;have ar:=(c8.same s1).but N b2;refine(nmc Z ?_);refine orR ar λpr Ha sa c7=>?_;refine⟨_,_,Z,c7,hl,ad,λH3 s3=>?_⟩;refine(nmc Z ?_);refine orR ((ar.same sa).same s3) λpr' Hb sb bc=>?_;refine⟨_,_,Z,bc,al,A9 hl Ud,λq H4 nq s4 bq=>?_⟩;have au:=(sa.trans s3).trans sb;have ah:=au.trans s4;have x4:=ah _ _ x2;refine(nmc Z ⟨_,_,_,_,Z,x4,T.kI,qp T.kR Ud,(show 1<1000 by decide),?_⟩);rw[put2 _ _ Uk];obtain⟨R,q4,t4⟩:=bq;have W:q≠x:=λz=>by rw[z,x4]at q4;cases q4
  have b5:SameBut x y (upd H4 x (.ins a.kG g [(Aa "pattern",.ref f),(Aa "rows",.ref q)])):=(b2.trans (SameBut.of ah)).set;have x5:=qk (H:=H4) (a:=x) (o:=.ins a.kG g [(Aa "pattern",.ref f),(Aa "rows",.ref q)]);have aj:=aq x4 (ai.same ah) (.ins a.kG g [(Aa "pattern",.ref f),(Aa "rows",.ref q)]);have q5:=(qr (o:=.ins a.kG g [(Aa "pattern",.ref f),(Aa "rows",.ref q)]) W).trans q4;have t5:Tups (upd H4 x (.ins a.kG g [(Aa "pattern",.ref f),(Aa "rows",.ref q)])) R ((ov rs).map enc):=qir ((SameBut.of (Same.refl H4)).set) x4 t4;generalize upd H4 x (.ins a.kG g [(Aa "pattern",.ref f),(Aa "rows",.ref q)])=H5 at b5 x5 aj q5 t5 |-;refine⟨qdr (by show 1<=100000;decide),λz hz=>?_⟩;obtain⟨D,z6⟩:=alc (o:=.lst [V.int 0]) hz;have x6:=D _ _ x5;refine(nmc Z ⟨_,_,_,_,Z,x6,T.kI,qp T.kR Ud,(show 2<1000 by decide),?_⟩);rw[put3 _ _ _ Uk Uk];have U:z≠x:=λe=>by rw[e,x5]at hz;cases hz
  have bw:q≠z:=λe=>by rw[<- e,q5]at hz;cases hz
  have b7:SameBut x y (upd (upd H5 z (.lst [V.int 0])) x (.ins a.kG g (tfs f q z))):=(b5.trans (SameBut.of D)).set;have x7:=qk (H:=upd H5 z (.lst [V.int 0])) (a:=x) (o:=.ins a.kG g (tfs f q z));obtain⟨d5,a1,a2,a3,g1,I,L,F,g5⟩:=aj;have nz:∀{b:Addr}{o:HO},H5 b=some o->b≠z:=λh e=>by rw[e,hz]at h;cases h
  have af:∀{b:Addr}{l:List V},H5 b=some (.lst l)->b≠x:=λh e=>by rw[e,x5]at h;cases h
  have S:=PatAt.upd (o:=.ins a.kG g (tfs f q z)) (D _ _ g1) (D _ _ I) (D _ _ L) (D _ _ F) ak (af I) (af L) (af F);have q7:=(qr (o:=.ins a.kG g (tfs f q z)) W).trans (D _ _ q5);have z7:=(qr (o:=.ins a.kG g (tfs f q z)) U).trans z6;have t7:Tups (upd (upd H5 z (.lst [V.int 0])) x (.ins a.kG g (tfs f q z))) R ((ov rs).map enc):=qir ((SameBut.of D).set) x5 t5;have ao:y z=none:=b5.free U hz;have bj:H q=none:=s1.free (b2.free W (au.free nq));generalize upd (upd H5 z (.lst [V.int 0])) x (.ins a.kG g (tfs f q z))=H7 at b7 x7 S q7 z7 t7 |-;have bz:=At.len t7;let C:Nat->Int:=λk=>(((ov rs).take k).map λr=>shf (fdL p yr) r (r.2.1+1)).sum;refine(nmc Z (flc (x7) (T.kI) (qp T.kR Ud) (rfl) ⟨_,Z,⟨_,SqL.of q7⟩,qbm (K:=K) (a:=q) (xs:=R) (λi σ H'=>SameBut x y H'/\H' x=some (.ins a.kG g (tfs f q z))/\(H' f=some (.ins a.kH d5 (pfs a1 a2 a3))/\H' a1=some (.lst ((fdL p yr).map V.bl))/\H' a2=some (.lst ((odL (fdL p yr)).map V.int))/\H' a3=some (.lst ((cuL (fdL p yr)).map V.int)))/\H' q=some (.lst R)/\Tups H' R ((ov rs).map enc)/\H' z=some (.lst (((Aq (i+1)).map C).map V.int))/\∃v:Option V,σ=[oR x,oR pw,some vy,some vr,v])
   ⟨b7,x7,S,q7,t7,z7,none,Z⟩ (λi σ H' _ h=>SqL.of h.2.2.2.1) ?_ ?_⟩))
  .rintro i w0 σ H8 bu ⟨O,M,j,q8,t8,J,v,rfl⟩;obtain⟨c,t,rfl,w1,w2⟩:=t8.get' bu;obtain⟨r,w3,rfl⟩:=qk8 w1;have hi:i<(ov rs).length:=(Ac.mp w3).1;have r0:=ax r (A4 w3);have r1:=bt.ok r (A4 w3);have eL:∀m,((Aq (m+1)).map C).map V.int=((Aq m).map C).map V.int++[V.int (C m)]:=λm=>by rw[Bv,Ax,Ax];rfl
   have bi:(((Aq (i+1)).map C).map V.int).length<=90000:=by rw[Ab,Ab,As];exact A9 (Nat.succ_le_of_lt (A0 hi lO)) Ud
   have av:=J;rw[eL]at av;refine(nmc Z (flc (M) (T.kI) (qp T.kR Ud) (rfl) ⟨.inl ⟨Z,_,SqL.of J⟩,(nmc Z (flc (M) (T.kI) (qp T.kR Ud) (rfl) (nmc Z (lxo (av) (qd7 _ _) (nmc Z ⟨_,_,_,Z,M,Z,(nmc Z (nmc Z (txo (w2) Z (iic Z Z ⟨_,_,_,_,_,_,_,_,_,Z,M,⟨_,_,_,_,j.1,j.2.1,j.2.2.1,j.2.2.2,qfo _ _⟩,w2,r0,En (Bp r0 r1),λH9 B=>?_⟩))))⟩)))))⟩));refine(iic Z Z ⟨_,_,_,Z,Z,B _ _ J,qb2 bi,?_⟩);have es:C i+shf (fdL p yr) r (r.2.1+1)=C (i+1):=by show _=((((ov rs).take (i+1)).map λr=>shf (fdL p yr) r (r.2.1+1)).sum);rw[qcl w3,Ax,List.sum_append];simp[C]
   dsimp only[];rw[es,<- eL (i+1)];refine⟨λb o n e=>by rw[qr (qag e ao)];exact B _ _ (O b o n e),by rw[qr U.symm];exact B _ _ M,?_,by rw[qr bw];exact B _ _ q8,(t8.same B).upd (B _ _ J),qk,_,Z⟩;exact PatAt.upd (B _ _ j.1) (B _ _ j.2.1) (B _ _ j.2.2.1) (B _ _ j.2.2.2) (nz g1) (nz I) (nz L) (nz F)
  .rintro σ H8 ⟨O,M,j,q8,t8,J,v,rfl⟩;rw[bz]at J;refine k H8 ((SameBut.of s1).trans O) λH9 qcd=>⟨g,f,q,z,qcd _ _ (.inr (.inl Z)) M,am H9 λb o hb ho=>?_,⟨R,qcd _ _ (.inl bj) q8,qv2 qcd t8⟩,qcd _ _ (.inl (s1.free ao)) J⟩;rcases hb with hb|rfl|⟨t,rfl⟩
   .have ae:=(Y.trans keep).free hb;exact qcd _ _ (.inl ae) (O _ _ (λe=>by rw[e,hx]at ae;cases ae) ho)
   .exact qcd _ _ (.inl (Y.free nx)) (O _ _ ak ho)
   .exact qcd _ _ (.inr (.inr ⟨t,Z⟩)) (O _ _ (λe=>by rw[e,N]at ho;cases ho) ho)
theorem okLaw (T:Txt K mg a){cL S:Addr}(hcl:a.bG.code=.ref cL)(LF:Lam.LamF mg base cL S):FnOk P w K mg base CX0 25 a.tX a.xB ["_law_script"] (qpt K S):=by
 refine T.zG.fn.ok qfg (λvs H Q E h=>?_) (λcdv A outer s H vs Q E x h=>?_)
 .obtain⟨_,_,rfl,_⟩:=h
  all_goals rfl
 .obtain⟨l,g,rfl,hS,hlen,gm,k⟩:=h;refine⟨_,(qf (qu (i:=1) qfg.nd Z (Ar Z) (zd qo6 (by rfl) T.rX boot_sorted (qd (zc (qna T) (x.mono Ud) Z T.gL.mgx T.gL.fn.kp T.gL.bd .nil qad (qd (zc (qey T) (x.mono Ud) Z T.kY.mgx T.kY.fn.kp T.kY.bd .nil qad (qd (pv 0) (qd qi qg ql) qe)) (qd qi qg ql) zl)) qg zl)))
   (qf (qu (i:=2) qfg.nd Z (Ar Z) (zc (qwj T) (x.mono Ud) Z T.bZ.mgx T.bZ.fn.kp T.bZ.bd .nil qad (qd (pv 0) (qd (pv 1) (qd (zc (qna T) (x.mono Ud) Z T.gL.mgx T.gL.fn.kp T.gL.bd .nil qad (qd (zc (qey T) (x.mono Ud) Z T.kY.mgx T.kY.fn.kp T.kY.bd .nil qad (qd (pv 0) (qd qi qg ql) qe)) (qd qi qg ql) zl)) qg zl) qe) qe)))
   (qf (qlr (i:=3) qfg.nd Z Z (N:=["_law_k","_law_script"]) (js:=[none,some 0]) (XN:=["_law_script","_law_names","_law_rules","_law_week","_law_first","_law_acts_here","_law_book_here","_law_table","_law_old","_law_name","_law_k","_law_new"]) (xs:=qaa qso) Z Z Z Uk (qbl Z T.kW (qd (qv qay (zc (qci T) (x.mono Ud) Z T.kK.mgx T.kK.fn.kp T.kK.bd .nil qad (qd (pv 0) (qd qi qg ql) qe)) qi) qg zm)) (λ_ _ _ _ _ _=>(qaf (i:=0) (show Cz (["_law_k","_law_script"]:List Str) from by decide +kernel) Z (Ar Z) (DN Z))) (λ_ _ _ _ _ _=>qfm) (λ_ _ _ _ _ _=>(qv qah qi (qv qay (qv qah (qv qa4 (zc (qci T) (x.mono Ud) Z T.kK.mgx T.kK.fn.kp T.kK.bd .nil qad (qd (pv 1) (qd qi qg ql) qe)) qi) (pv 0)) qi))))
   (qf (qu (i:=4) qfg.nd Z (Ar Z) (qv qay (zc (qey T) (x.mono Ud) Z T.kY.mgx T.kY.fn.kp T.kY.bd .nil qad (qd (pv 0) (qd qi qg ql) qe)) (qv op_pow qi qi)))
   (qf (qu (i:=5) qfg.nd Z (Ar Z) (zc (qry T) (x.mono Ud) Z T.dE.mgx T.dE.fn.kp T.dE.bd .nil qad (qd (zc (qwl T) (x.mono Ud) Z T.bO.mgx T.bO.fn.kp T.bO.bd .nil qad (qd (pv 0) (qd (pv 2) (qd (pv 1) (qd (pv 4) (qd (zd (qnx Z) (by rfl) T.rN qqu (qd qi (qd (zd (qjc Z) (by rfl) T.hX qma (qd qi (qd (qv qby (zd qa5 (by rfl) T.kP qa6 (qd (pv 0) qg qe)) qi) qg zm) ql)) qg zl) ql)) qg zl) qe) qe) qe) qe)) qg zl)))
   (qf (qu (i:=6) qfg.nd Z (Ar Z) (qer T.zQ (qti T) (x.mono Ud) Z T.zW T.xC.bd .nil qad (qd (pv 2) qg qe)))
   (qf (qu (i:=7) qfg.nd Z (Ar Z) (qer T.z4 (qrz T) (x.mono Ud) Z T.yE T.yK (dvs:=[.non,.non]) (.cons Z (.cons Z .nil)) qad (qd (pv 3) qg qe)))
   (qf (qu (i:=8) qfg.nd Z (Ar Z) (zc (qor T hcl LF) (x.mono Ud) Z T.gQ.mgx T.gQ.fn.kp T.gQ.bd .nil qad (qd (pv 6) (qd (pv 7) (qd (zh qg) qg qw8) qe) qe)))
   (qf (qed A8 Z (pv 8) (qaf (i:=9) qfg.nd Z (Ar Z)) (qj (zb (qt (qqn x.units) (qb5 (qb9 x) (pv 8) (pv 9) (λ_ _=>rfl)) (zh qg) (qab _)) (qj (qo qbk)) qae)))
   (qf (qa8 A8 Z (qbl Z T.kW (qd (zd qa5 (by rfl) T.kP qa6 (qd (pv 5) qg qe)) qg zl)) (qaf (i:=10) qfg.nd Z (Ar Z)) (qf (qu (i:=11) qfg.nd Z (Ar Z) (zc (qor T hcl LF) (x.mono Ud) Z T.gQ.mgx T.gQ.fn.kp T.gQ.bd .nil qad (qd (pv 6) (qd (pv 7) (qd (qfb qia (pv 5) qg2 (qg3 (qv qah (pv 10) qi))) qg zn) qe) qe)))
   (qf (zb (qc0 (zf (zc (qnb T) (x.mono Ud) Z T.fA.mgx T.fA.fn.kp T.fA.bd .nil qad (qd (pv 8) (qd (pv 11) (qd (zp zr (pv 5) (pv 10) (λ_ _=>rfl)) qg zn) qe) qe)))) (qj (qo qbk)) qae)
   (qj (qu (i:=8) qfg.nd Z (Ar Z) (pv 11))))))
   (qj (qo qbk)))))))))))),?_⟩
  refine(nmc Z ⟨_,_,_,Z,hS,Ud,_,26,Z,Ud,λqw H1 nw s1 e1=>?_⟩);refine⟨_,_,Z,SqL.of e1,(by rw[qla];decide),λpn C gw ar=>?_⟩;have ln:C.length=26:=ar.length_eq.trans (qla _ _);have nd:C.Nodup:=ar.nodup_iff.mpr wds_nd;obtain⟨s2,e2⟩:=alc (o:=.lst (C.map V.str)) gw;generalize upd H1 pn _=H2 at s2 e2 |-;have sA:=s1.trans s2;refine(nmc Z (nmc Z (nmc Z ⟨_,_,_,Z,sA.seq hS,Ud,_,11,Z,Ud,λpk H3 nk s3 e3=>?_⟩)));have sB:=sA.trans s3;have cq:=s3 _ _ e2;refine⟨l,pn,pk,g,C,_,Z,sB.seq hS,cq,ln,e3,(by rw[qla];decide),λU H4 us Ts rv nr s4 l1 l4 tok cx gb=>?_⟩;dsimp only[qbq,AN,AO];have sC:=sB.trans s4;have gp:=s4 _ _ cq;have R4:RsL a H4 us (if rv=true then Ts.reverse else Ts) C:=gb.same (quq λb o _ e=>e);obtain⟨nW,hnW,nW6⟩:∃n:Nat,qf2 g 2 % 7=(n:Int)/\n<=6:=⟨(qf2 g 2 % 7).toNat,by lia,by lia⟩;refine(nmc Z ⟨l,g,2,Z,sC.seq hS,Ud,Ud,(icc Z Z (pos Ud) ⟨_,Z,by lia,by lia,?_⟩)⟩);let fW:V->V:=λv=>match v with
   |.int j=>.int (1+(qf2 g 2 / 7+j) % 7)
   |_=>.non
  refine qg5 fW (λσ'=>∃v,σ'=[v,oR l]) qet (qdr (by rw[Ab,As];lia)) ⟨none,Z⟩ (λv σ' H' RR hv sm s4 qq=>?_) qeu λG e9=>?_
  .obtain⟨v0,rfl⟩:=s4;obtain⟨j,hj,rfl⟩:=Bd.mp hv;have qq:=qq [oI (0+(j:Int)),oR l] ⟨_,Z⟩;exact(nmc Z ⟨l,g,2,Z,(sC.trans sm).seq hS,Ud,Ud,(icc Z Z ⟨Ud,Ud⟩ (nmc Z (iic Z Z (icc Z Z (pos Ud) (iic Z Z qq)))))⟩)
  have eW:((Aq (qf2 g 2 % 7).toNat).map λ(j:Nat)=>V.int (0+(j:Int))).map fW=(wkF (qf2 g 2) nW).map V.int:=by unfold wkF;rw[hnW,B3,Cf,Cf];refine BQ λj _=>?_;show V.int (1+(qf2 g 2 / 7+(0+(j:Int))) % 7)=V.int (1+(qf2 g 2 / 7+(j:Int)) % 7);rw[BX]
  rw[eW];obtain⟨sW,eK⟩:=alc (o:=.lst ((wkF (qf2 g 2) nW).map V.int)) e9;generalize upd H4 G _=H5 at sW eK |-;clear eW;have bz:=wk_ok (qf2 g 2) nW6;generalize hwk:wkF (qf2 g 2) nW=wk at eK bz |-;have sD:=sC.trans sW;dsimp only[qbq,AN,AO];refine(nmc Z ⟨_,_,_,Z,sD.seq hS,Ud,(icc Z Z ⟨Ud,Ud,Ud⟩ (icc Z Z (pos Ud) ?_))⟩);have f0:=Cy (cell g 0) (show (10:Int) ^ (60:Int).toNat≠0 by decide);dsimp only[qbq,AN,AO];generalize cell g 0 % _=first at f0 |-
  obtain⟨LL,eLL⟩:∃LL:List TD,LL=if rv=true then Ts.reverse else Ts:=⟨_,Z⟩;rw[<- eLL]at R4;have i3:LL.length=Ts.length:=by rw[eLL];split <;>simp
  have cr:∀t,t∈LL↔t∈Ts:=λt=>by rw[eLL];split <;>simp
  have fc:∀t∈LL,∃k,TdOk C t k:=λt ht=>by obtain⟨k,hk⟩:=Bt ((cr t).mp ht);exact⟨k,tok k t hk⟩
  obtain⟨I,em,m2,m12⟩:∃I:Nat,(if (if 2<((g.map V.int).length:Int)-6 then ((g.map V.int).length:Int)-6 else 2)<8 then (if 2<((g.map V.int).length:Int)-6 then ((g.map V.int).length:Int)-6 else 2) else 8)=(I:Int)/\2<=I/\I<=8:=⟨(if (if 2<((g.map V.int).length:Int)-6 then ((g.map V.int).length:Int)-6 else 2)<8 then (if 2<((g.map V.int).length:Int)-6 then ((g.map V.int).length:Int)-6 else 2) else 8).toNat,by split <;>split <;>lia,by split <;>split <;>lia,by split <;>split <;>lia⟩;refine(nmc Z (nmc Z (nmc Z (nmc Z (nmc Z ⟨_,_,Z,.inl ⟨_,sD.seq hS,Z⟩,(iic Z Z ⟨_,_,Z,_,_,Z,l,U,pn,g,C,us,LL,first,I,(by rw[<- em];rfl),sD.seq hS,sW _ _ cx,R4.same sW,by lia,by lia,?_,?_,sW _ _ gp,ln,nd,f0,by lia,λpa H6 uA fj sA' na s6 ea ta la a1 a2 gn fa=>?_⟩)⟩)))))
  .intro t ht;obtain⟨k,hk⟩:=fc t ht;exact hk.ls
  .have e0:=Ae (show 0<Ts.length by lia);refine⟨_,(cr _).mpr (A4 e0),(tok 0 _ e0).op ?_⟩;cases eb:Ts[0].base with|none=>rfl|some b=>exact absurd ((tok 0 _ e0).ba b eb) (B0 _)
  clear em;rw[start12 (v:=V.ref l)]
  rotate_left
  .rfl
  have sE:=sD.trans s6;have i5:=qce ta λb u e=>(qmx e).2;have ib:=nma_nd ln nd a1 a2 (by lia) gn;refine⟨pa,uA,fj,Z,ea,i5,by lia,λpd H7 uD f nd7 s7 ax cz hd td=>?_⟩;dsimp only[qbq,AN,AO];have ldue:f.length=I:=ax.length_eq.trans la;have gu:(f.map (·.1)).Nodup:=(ax.map (·.1)).nodup_iff.mpr ib;have bw:∀t∈f,0<=t.2.2:=λt ht=>Bp f0 (fa t (ax.mem_iff.mp ht));have ft:=td.length;rw[Ab]at ft;have cg:Same H4 H7:=sW.trans (s6.trans s7);obtain⟨n,en⟩:∃n,n=Ts.length:=⟨_,Z⟩;obtain⟨Tt,hTt⟩:∃Tt:Nat->TD,∀k<n,Ts[k]?=some (Tt k):=⟨λk=>Ts.getD k (Ts[0]'(by lia)),λk hk=>by dsimp only;rw[Ak,Ae (by lia)];rfl⟩;have W:∀k<n,TdOk C (Tt k) k:=λk hk=>tok k _ (hTt k hk);have gy:∀j<n,LL[j]?=some (Tt (fR rv n j)):=λj hj=>by
   rw[<- hTt _ (qc9 hj),eLL];unfold fR;split
   .rw[Dg (by lia),en]
   .rfl
  have i4:us.length=n:=by rw[R4.1,i3,en]
  have n4:n<=4:=by lia
  have de:∀{J:Hp},Same H7 J->∀j<n,∃rl,us[j]?=some (.ref rl)/\RuleB a J rl (Tt (fR rv n j)) (bvN C (Tt (fR rv n j)).base):=λ{J} z j hj=>by obtain⟨rl,r1,r2⟩:=R4.2 j _ (gy j hj);exact⟨rl,r1,r2.same (cg.trans z)⟩
  have dt:=wd_F (rv:=rv) W n4 ln nd;obtain⟨lo,eO,gO,aO⟩:=qrn dt _ (Al _);rw[qhd]at gO aO eO;have dj:lo.length=n:=by rw[(nd_range gO.nd gO.lt aO).length_eq,As]
  refine(nmc Z (λbk bc du df neb=>?_));have aj:Same H7 (upd (upd H7 bc (.own bk)) bk (.ins a.kL bc [])):=qjy du df;refine⟨bk,bc,U,us,nmF C rv n,bsF Tt rv n,rkF rv n,Z,qk,aj _ _ (cg _ _ cx),RsL.rules i4 (de aj) W,dt,λag gx bu=>⟨Z,?_⟩⟩;have bt:Same H7 ag:=gx.made du df;have ay:=bu ag λb o _ e=>e;rw[qhd,eO]at ay;have ca:=book_F W n4 ln nd (de bt) gO dj ay;obtain⟨X,_⟩:=ts_F (rv:=rv) W n4 ln nd gO dj;dsimp only[qbq,AN,AO];have fh:=(s6.trans (s7.trans bt)) _ _ eK;refine(nmc Z (λtb bq dg dh net=>?_));have c7:Same ag (upd (upd ag bq (.own tb)) tb (.ins a.kG bq [])):=qjy dg dh;refine⟨tb,bq,G,.non,.non,wk,[],[],Z,qk,c7 _ _ fh,.inl ⟨Z,Z⟩,.inl ⟨Z,Z⟩,bz,okY0,Ud,okR0,λB ic tab=>⟨Z,?_⟩⟩;have dm:Same ag B:=ic.made dg dh;have dw:PartsOk wk [] []:=⟨bz,okY0,AS _,okR0⟩;dsimp only[qbq,AN,AO];have ah:Same H7 B:=bt.trans dm;have ak:B S=some (.tbl #[]):=((sE.trans s7).trans ah) _ _ gm;have aq:=ca.same dm;have Y:TabAt a.kH a.kG B tb (fdL wk []) (ov []):=tab B λb o _ e=>e;have R:=dw.tab;have M:=ls_ex55 dw;clear ay ca bu;generalize tsF Tt rv n lo=ts at aq X;generalize fdL wk []=bs at Y R M;generalize (ov []:List Rw)=rs at Y R M;have ai:=ah _ _ hd;have av:=td.same (s7.trans ah);have fk:Lam.LamAt B S ioP ioQ:=.inl ak;refine(nmc Z (nmc Z ⟨qfh,λpe i6=>?_⟩));obtain⟨se,ee⟩:=alc (o:=.lst []) i6;generalize upd B pe _=He at se ee |-;refine⟨bk,tb,pe,[],[],n,ts,bs,rs,Z,X,aq.same se,Y.same se,R,M,ee,.nil,Ud,(λt h=>by cases h),fk.same se,λd bi a0 q y p4 p6 dz fe gj so0 D hN17 bf hS17=>?_⟩;rw[gj.eq_nil]at D bf;refine gn2 (σ':=[oR l,oR pn,oR U,oR G,oI first,oR pd,oR bk,oR tb,oR d,none,none,none]) rfl ?_;have am:SameBut S B bi:=λb o L e=>dz b o L (se _ _ e);refine(nmc Z ⟨d,_,Z,D.1,λo=>⟨λi σ' J=>Same (upd bi d (.frz o (.dK (kvR n ts q)))) J/\∃O:Option V,σ'=[oR l,oR pn,oR U,oR G,oI first,oR pd,oR bk,oR tb,oR d,O,none,none],⟨Same.refl _,_,Z⟩,(λi σ' J h=>h.1 _ _ qk),?_,?_⟩⟩)
  .rintro i kv σ' J gz ⟨sJ,O,rfl⟩;obtain⟨F,rfl⟩:=qpq gz;have hl:J (q i)=some (.lst []):=sJ _ _ (by
    rw[qr]
    .exact(D.2 i F).1
    .intro z;have:=(D.2 i F).1;rw[z,D.1]at this;cases this)
   refine gn2 (σ':=[oR l,oR pn,oR U,oR G,oI first,oR pd,oR bk,oR tb,oR d,some (.str (ts i).name),none,none]) rfl ?_;refine(nmc Z (nmc Z ⟨d,_,Z,.inl ⟨_,.inr (ts i).name,.inr ⟨o,sJ _ _ qk⟩,Z,(qhc X.nn F).symm⟩,qfh,λp np=>⟨_,_,_,Z,Z,SqL.of (qx np _ _ hl),SqL.of qk,_,Z,qbs ⟨sJ.trans (qx np),_,Z⟩⟩⟩))
  rintro σ' J ⟨sJ,O,rfl⟩;have af:Same bi (upd J d (.dK (kvR n ts q))):=λb u e=>by
   by_cases z:b=d
   .subst z;rw[D.1]at e;rw[qk,<- e]
   .rw[qr z];exact sJ _ _ (by rw[qr z];exact e)
  generalize upd J d _=J2 at af |-;have gf:=(KpT.of ak (λb o L e=>af _ _ (am b o L e))).l ai;refine(nmc Z ⟨_,_,Z,.inl ⟨_,SqL.of gf,Z⟩,_,Z,by lia,by lia,qcj (lo:=0) (n:=((uD.length:Nat):Int).toNat) (λm σ J=>SameBut S B J/\Lam.LamAt J S ioP ioQ/\PZ n ts (qcm bs rs ts n (f.take m)) ((f.take m).getLastD dA).2.2 m/\(∀i<n,∀st∈qcm bs rs ts n (f.take m) i,HZ bs rs ts (qcm bs rs ts n (f.take m)) ((f.take m).getLastD dA).2.2 i st/\RZ st)/\∃(c:Tc)(O bh al:Option V),TdA bs rs ts (qcm bs rs ts n (f.take m)) n J c/\σ=[oR l,oR pn,oR U,oR G,oI first,oR pd,oR bk,oR tb,some (.ref c.d),O,bh,al]) ⟨λb o L e=>af _ _ (am b o L e),fe.same af,bf,hz_nil,⟨d,q,y,p4,p6⟩,_,_,_,D.same af,Z⟩ ?_ ?_⟩)
  .rintro m σ J hm ⟨au,hL,ad,ae,c,O,bh,al,ao,rfl⟩;have hm:m<f.length:=by lia
   rw[BX];have em:=Ae hm;generalize f[m]=ac at em;have et:f.take (m+1)=f.take m++[ac]:=by rw[B8,em];rfl
   have kJ:=KpT.of ak au;obtain⟨psJ,i9⟩:=hL.tbl;refine gn2 (σ':=[oR l,oR pn,oR U,oR G,oI first,oR pd,oR bk,oR tb,some (.ref c.d),O,oI (m:Int),al]) rfl ?_;refine(nmc Z (nmc Z (nmc Z (nmc Z (iic Z Z ⟨_,Z,pd,uD,Z,SqL.of (kJ.l ai),λps i8=>?_⟩)))));have fg:qkq uD none (some ((m:Int)+1))=uD.take (m+1):=qiq uD (m+1) (by lia);rw[fg];obtain⟨s1,e1⟩:=alc (o:=.lst (uD.take (m+1))) i8;generalize upd J ps _=J1 at s1 e1 |-;have bj:KpT B J1:=λb o n e=>s1 _ _ (kJ b o n e);have t1:Tups J1 (uD.take (m+1)) ((f.take (m+1)).map qdy):=by rw[Ey];exact(qs4 bj av).take (m+1)
   have ga:(f.take (m+1)).length<=20:=by rw[Bj];lia
   have cp:=hL.same s1;obtain⟨ps1,hP1⟩:=cp.tbl;refine⟨bk,tb,ps,_,f.take (m+1),n,ts,bs,rs,Z,X,qy9 bj aq,tab_T bj Y,R,M,e1,t1,ga,(λt ht=>bw t (DX ht)),cp,λd2 J2 a2 q2 y2 dr c8 gt fz dv i7 aw dk gs gc=>?_⟩;have gq:a2=f.take (m+1):=qrm dv ((dv.map (·.1)).nodup_iff.mpr (gu.sublist ((Er _ _).map _))) i7 (cz.sublist (Er _ _));rw[gq]at aw dk gs gc;refine gn2 (σ':=[oR l,oR pn,oR U,oR G,oI first,oR pd,oR bk,oR tb,some (.ref c.d),O,oI (m:Int),oR d2]) rfl ?_;have cw:SameBut S J J2:=λb o L e=>gt b o L (s1 _ _ e);have c9:SameBut S B J2:=λb o L e=>cw b o L (au b o L e);have dc:=KpT.of ak c9;have fq:=told_kp ao λb o hb e=>cw b o (cel_ne ao i9 hb e) e;have gh:c.d≠d2:=λz=>by have h1:=dk.1;rw[<- z,s1 _ _ ao.1]at h1;cases h1
   have a0:=bw ac (A4 em);have hD:=last_le cz em a0;have eZ:(tk bs rs ts (qcm bs rs ts n (f.take m)) ac n).1=qcm bs rs ts n (f.take (m+1)):=by rw[et,qj8]
   have SO:=stp_ok X ad M hD (by lia) eZ (λi F st h=>(ae i F st h).1) (λi F st h=>(ae i F st h).2);obtain⟨b,eb,qb⟩:=av.get (i:=m) (r:=qdy ac) (by rw[Ah,em];rfl);refine(nmc Z (nmc Z (nmc Z (nmc Z (lxo (dc.l ai) (qa0 eb) ⟨c.d,d2,b,bs,rs,ts,_,_,n,c.q,c.y,c.p4,c.p6,q2,y2,dr,c8,ac,Z,fq,aw,gh,X,dc _ _ (λ_ z=>nomatch z) qb,SO,λJ3 s3=>⟨_,Z,qbs ?_⟩⟩)))));have di:(f.take (m+1)).getLastD dA=ac:=by rw[et];simp
   refine(nmc Z ?_);refine gn2 (σ':=[oR l,oR pn,oR U,oR G,oI first,oR pd,oR bk,oR tb,oR d2,O,oI (m:Int),oR d2]) rfl ?_;refine⟨λb o L e=>s3 _ _ (c9 b o L e),fz.same s3,?_,λi F st h=>⟨?_,?_⟩,⟨d2,q2,y2,dr,c8⟩,_,_,_,aw.same s3,Z⟩
   .rw[<- eZ,di];exact qmv X ad M hD (by lia) (Al n)
   .rw[di];exact hz_all X ad M hD (by lia) eZ (λi F st h=>(ae i F st h).1) i F st h
   .exact rz_all X ad eZ (λi F st h=>(ae i F st h).2) i F st h
  .rintro σ J ⟨au,hL,ad,ae,c,O,bh,al,ao,rfl⟩;exact k J
end
set_option maxHeartbeats 4000000 in
theorem all_mk {l:PySem.W.OpenLaw}{w:World}{K:Ag}{h:Heap}{mg:Str->Option Value}{fa:Addr}(X:K.In h)(G:h.Ns A6 mg)(hfa:mg "law"=some (.ref fa))
  {EB B2 BB Cl EC BT CT CC f0 f1 f2 f3 f4 f5 f6 f7 f8 f9 f10 f11 f12 f13 f14 f15 f16 f17 f18 f19 f20 f21 f22 f23 f24 f25 f26 f27 f28 f29 f30 f31:Addr}{GJ GK:Option Addr}{GL:Array (Option Value)}{GM GN GO GP GQ:Value}{f32 f33 f34 f35 f36 f37 f38 f39 f40 f41 f42 f43 f44 f45 f46 f47 f48 f49 f50:Addr}{GR Gw:Option Addr}{GS:Array (Option Value)}{GT Gx Gy Gz Gh GA GB:Value}{f51 f52 f53 f54 f55 f56 f57 f58 f59 f60 f61 f62 f63 f64 f65 f66 f67 f68 f69:Addr}{GU GC:Option Addr}{GV:Array (Option Value)}{GW GD GE GF Gi GG GH:Value}{f70 f71 f72 f73 f74 f75 f76 f77 f78 f79 f80 f81:Addr}{GX Gj:Option Addr}{GY:Array (Option Value)}{GZ Gk Gm Gn G7 Gp Gq:Value}{f82:Addr}{Hc Hd:Option Addr}{Hf:Array (Option Value)}{Hg Hh Hi Hj GI Hk:Value}{Fv FI Ft FV FW FX Fw Gv Fu:Tok}{FJ:Addr}{Gr:Option Addr}{Gs:Nat}{Gf Gg:Tok}{Gu:Array (Option Value)}{cL PL:Addr}{ocL:Value}{odL:Option Addr}{vsL:Array Value}{slL:Array (Option Value)}
  (FK:AM K A6 "Book"=some (some (.ref EB)))(Fd:AM K A6 "Counting"=some (some (.ref B2)))(F3:AM K A6 "CourtDays"=some (some (.ref BB)))(Fo:AM K A6 "Pattern"=some (some (.ref Cl)))(FL:AM K A6 "Rule"=some (some (.ref EC)))(FY:AM K A6 "Run"=some (some (.ref BT)))(Fx:AM K A6 "Table"=some (some (.ref CT)))(Fy:AM K A6 "Weeks"=some (some (.ref CC)))(p0:Pm K B2 "__init__" "Counting.__init__" qez f0)(p1:Pd K "kind_of" qo9 f1)(p2:Pd K "is_whole" ql0 f2)(p3:Pd K "is_stretch_of" qfp f3)(p4:Pd K "place" qsm f4)(p5:Pd K "joined" qpa f5)(p6:Pd K "laid_over" qjk f6)(p7:Pd K "overlay" ql1 f7)(p8:Pm K B2 "days_for" "Counting.days_for" qdd f8)(p9:Pm K CC "days_for" "Weeks.days_for" qe0 f9)(p10:Pm K B2 "reach" "Counting.reach" qee f10)(p11:Pd K "long_before" qgf f11)(p12:Pm K Cl "before_year" "Pattern.before_year" qcu f12)(p13:Pm K Cl "year_with" "Pattern.year_with" qde f13)(p14:Pd K "first_week" qhw f14)(p15:Pm K Cl "nth" "Pattern.nth" qgg f15)(p16:Pd K "year_of" qpb f16)(p17:Pd K "weekday" ql2 f17)(p18:Pd K "date_of" qpc f18)(p19:Pd K "day_of_year" qhx f19)(p20:Pm K Cl "before" "Pattern.before" qef f20)(p21:Pm K CT "shift" "Table.shift" qgh f21)(p22:Pm K CT "before" "Table.before" qfq f22)(p23:Pm K CT "nth" "Table.nth" qjl f23)(p24:Pm K BB "reach" "CourtDays.reach" qdp f24)(p25:Pm K B2 "counted_in" "Counting.counted_in" qcv f25)(p26:Pm K BB "counted_in" "CourtDays.counted_in" qcn f26)(p27:Pd K "full_day" ql3 f27)(p28:Pm K CT "next_open" "Table.next_open" qeg f28)(p29:Pd K "first_due" qjm f29)(p30:Pd K "last_day" ql4 f30)(a31:AM K A6 "in_order"=some (some (.ref f31)))(l31:K.lookup f31=some ⟨GM,GJ,.func (Bk "in_order" "in_order" (qa9 qdl) (qaw qdl) (qaa qdl) .none GN GO GP GK (.ref cL) GQ),GL⟩)(c31:BE K (.ref cL) "in_order"=true)(k31:Bs K (.ref f31)=true)(p32:Pm K EB "hanging" "Book.hanging" qfr f32)(p33:Pm K EB "rule_of" "Book.rule_of" qgi f33)(p34:Pm K BT "is_over" "Run.is_over" qhy f34)(p35:Pd K "is_running" qhz f35)(p36:Pm K EC "role_in_still" "Rule.role_in_still" qdf f36)(p37:Pm K EC "role" "Rule.role" qg6 f37)(p38:Pm K BT "is_halted" "Run.is_halted" qfs f38)(p39:Pm K BT "go_on" "Run.go_on" ql5 f39)(p40:Pm K BT "finish" "Run.finish" qh0 f40)(p41:Pm K BT "lasts_to" "Run.lasts_to" qgj f41)(p42:Pm K BT "starts_on" "Run.starts_on" qft f42)(p43:Pm K BT "is_under_way" "Run.is_under_way" qeh f43)(p44:Pm K BT "set_out" "Run.set_out" qh1 f44)(p45:Pm K BT "begin_anew" "Run.begin_anew" qe1 f45)(p46:Pm K BT "lengthen" "Run.lengthen" qfu f46)(p47:Pm K BT "halt" "Run.halt" ql6 f47)(p48:Pm K BT "works" "Run.works" qjn f48)(p49:Pm K BT "feel" "Run.feel" ql7 f49)(a50:Bi K (.ref BT) "__init__"=some (some (.ref f50)))(t50:C9 K (.ref f50)=some (.type "function"))(l50:K.lookup f50=some ⟨GT,GR,.func (Bk "__init__" "Run.__init__" (qa9 qc2) (qaw qc2) (qaa qc2) GB Gx Gy Gz Gw Gh GA),GS⟩)(c50:BE K Gh "Run.__init__"=true)(k50:Bs K (.ref f50)=true)(pk50:∀(u0 u1 u2 u3 u4 u5:Value)(S:Setting),CI K S (bindArgs (Bk "__init__" "Run.__init__" (qa9 qc2) (qaw qc2) (qaa qc2) GB Gx Gy Gz Gw Gh GA) ⟨[u0,u1,u2,u3,u4,u5],[]⟩)=some [(Aa "self",u0),(Aa "rule",u1),(Aa "table",u2),(Aa "name",u3),(Aa "day",u4),(Aa "base",u5)])(p51:Pd K "take" qxt f51)(p52:Pm K BT "state_word" "Run.state_word" qe2 f52)(p53:Pm K BT "account" "Run.account" qgk f53)(p54:Pd K "history" qii f54)(p55:Pd K "untaken" ql8 f55)(p56:Pd K "hanging_order" qe3 f56)(p57:Pd K "is_free_within" qdg f57)(p58:Pd K "counted_up" qh2 f58)(p59:Pd K "is_weekday" qh3 f59)(p60:Pd K "refuse_week" qgl f60)(p61:Pd K "is_yearly" qjo f61)(p62:Pd K "refuse_yearly" qe4 f62)(p63:Pd K "list_or_empty" qfv f63)(p64:Pd K "is_row" qsn f64)(p65:Pd K "refuse_rows" qgm f65)(p66:Pd K "_law_cell_at" qh4 f66)(p67:Pd K "_law_mixed" qjp f67)(p68:Pd K "_law_words" qjq f68)(a69:Bi K (.ref EC) "__init__"=some (some (.ref f69)))(t69:C9 K (.ref f69)=some (.type "function"))(l69:K.lookup f69=some ⟨GW,GU,.func (Bk "__init__" "Rule.__init__" (qa9 qck) (qaw qck) (qaa qck) GH GD GE GF GC Gi GG),GV⟩)(c69:BE K Gi "Rule.__init__"=true)(k69:Bs K (.ref f69)=true)(pk69:∀(u0 u1 u2 u3 u4 u5 u6 u7 u8:Value)(S:Setting),CI K S (bindArgs (Bk "__init__" "Rule.__init__" (qa9 qck) (qaw qck) (qaa qck) GH GD GE GF GC Gi GG) ⟨[u0,u1,u2,u3,u4,u5,u6,u7,u8],[]⟩)=some [(Aa "self",u0),(Aa "name",u1),(Aa "who",u2),(Aa "owes",u3),(Aa "opens",u4),(Aa "base",u5),(Aa "many",u6),(Aa "unit",u7),(Aa "still",u8)])(p70:Pd K "_law_rule" qij f70)(p71:Pd K "_law_book" ql9 f71)(p72:Pd K "_law_menu" qik f72)(p73:Pd K "_law_acts" qil f73)(p74:Pd K "_law_sorted" qh5 f74)(p75:Pd K "_law_sound" qjr f75)(p76:Pd K "_law_moved" qjs f76)(p77:Pd K "_law_begun" qjt f77)(p78:Pd K "_law_step_holds" qe5 f78)(p79:Pm K EB "__init__" "Book.__init__" qju f79)(p80:Pm K Cl "__init__" "Pattern.__init__" qc3 f80)(a81:Bi K (.ref CT) "__init__"=some (some (.ref f81)))(t81:C9 K (.ref f81)=some (.type "function"))(l81:K.lookup f81=some ⟨GZ,GX,.func (Bk "__init__" "Table.__init__" (qa9 qbg) (qaw qbg) (qaa qbg) Gq Gk Gm Gn Gj G7 Gp),GY⟩)(c81:BE K G7 "Table.__init__"=true)(k81:Bs K (.ref f81)=true)(pk81:∀(u0 u1 u2 u3:Value)(S:Setting),CI K S (bindArgs (Bk "__init__" "Table.__init__" (qa9 qbg) (qaw qbg) (qaa qbg) Gq Gk Gm Gn Gj G7 Gp) ⟨[u0,u1,u2,u3],[]⟩)=some [(Aa "self",u0),(Aa "week",u1),(Aa "yearly",u2),(Aa "rows",u3)])(EQ:∀(u0 u1:Value)(S:Setting),CI K S (bindArgs (Bk "__init__" "Table.__init__" (qa9 qbg) (qaw qbg) (qaa qbg) Gq Gk Gm Gn Gj G7 Gp) ⟨[u0,u1],[]⟩)=some [(Aa "self",u0),(Aa "week",u1),(Aa "yearly",C8),(Aa "rows",C8)])(a82:AM K A6 "law"=some (some (.ref f82)))(l82:K.lookup f82=some ⟨Hg,Hc,.func (Bk "law" "law" (qa9 qso) (qaw qso) (qaa qso) .none Hh Hi Hj Hd GI Hk),Hf⟩)(c82:BE K GI "law"=true)(k82:Bs K (.ref f82)=true)(G8:AM K A6 "any"=some none)(FZ:AM K A6 "bool"=some none)(Fe:AM K A6 "enumerate"=some none)(G9:AM K A6 "int"=some none)(F4:AM K A6 "isinstance"=some none)(Ga:AM K A6 "len"=some none)(G0:AM K A6 "list"=some none)(Gb:AM K A6 "max"=some none)(Gc:AM K A6 "min"=some none)(FM:AM K A6 "range"=some none)(Fp:AM K A6 "reversed"=some none)(Fz:AM K A6 "sorted"=some none)(Ge:AM K A6 "str"=some none)(FN:AM K A6 "tuple"=some none)(EH:AM K A6 "MOST_WEEKDAYS"=some (some (.int 6 Fv)))(EW:AM K A6 "MOST_YEARLY"=some (some (.int 4 FI)))(E5:AM K A6 "MOST_YEARLY_DAYS"=some (some (.int 30 Ft)))(F5:AM K A6 "SHORT_YEAR"=some (some (.int 364 FV)))(Ff:AM K A6 "LONG_YEAR"=some (some (.int 371 FW)))(Fg:AM K A6 "MOST_ROWS"=some (some (.int 12 FX)))(EI:AM K A6 "MOST_ROW_DAYS"=some (some (.int 40 Fw)))(G3:AM K A6 "TURN"=some (some (.int 17 Gv)))(ED:AM K A6 "DAYS_OF_A_WEEK"=some (some (.int 7 Fu)))(FO:AM K A6 "WORDS"=some (some (.ref FJ)))(FA:K.lookup FJ=some ⟨.type "tuple",Gr,.seq #[.str (Aa "free") Gf,.str (Aa "open") Gg] Gs,Gu⟩)(lcL:K.lookup cL=some ⟨ocL,odL,.fields vsL,slL⟩)(vL:vsL[11]?=some (.ref PL))(FP:qne K EB=true)(FQ:mkB K EB f79=true)(FR:xNo K EB ["free_days","open_days","open_before","pattern","rows","shifts","table","name","who","owes","opens","base","many","unit","still","ends","anew","longer","yields","rule","counting","over","day","units","pauses","grants","order","by_name"]=true)(EJ:qax K EB "hanging" f32=true)(ER:qax K EB "rule_of" f33=true)(Fh:qne K B2=true)(Fi:mkB K B2 f0=true)(Fj:xNo K B2 ["free_days","open_days","open_before","pattern","rows","shifts","table","name","who","owes","opens","base","many","unit","still","ends","anew","longer","yields","rule","counting","over","day","units","pauses","grants","order","by_name"]=true)(cti_Counting_counted_in:qax K B2 "counted_in" f25=true)(cti_Counting_days_for:qax K B2 "days_for" f8=true)(cti_Counting_reach:qax K B2 "reach" f10=true)(Fk:qvp K B2=true)(ckd_Counting_Counting:(AY K (.ref B2) (.ref B2) == some true)=true)(ckd_Counting_Weeks:(AY K (.ref B2) (.ref CC) == some false)=true)(ckd_Counting_CourtDays:(AY K (.ref B2) (.ref BB) == some false)=true)(E2:qax K B2 "days_for" f8=true)(E7:qax K B2 "reach" f10=true)(D2:qax K B2 "counted_in" f25=true)(F6:qne K BB=true)(F7:mkB K BB f0=true)(F8:xNo K BB ["free_days","open_days","open_before","pattern","rows","shifts","table","name","who","owes","opens","base","many","unit","still","ends","anew","longer","yields","rule","counting","over","day","units","pauses","grants","order","by_name"]=true)(cti_CourtDays_counted_in:qax K BB "counted_in" f26=true)(cti_CourtDays_days_for:qax K BB "days_for" f8=true)(cti_CourtDays_reach:qax K BB "reach" f24=true)(F9:qvp K BB=true)(ckd_CourtDays_Counting:(AY K (.ref BB) (.ref B2) == some true)=true)(ckd_CourtDays_Weeks:(AY K (.ref BB) (.ref CC) == some false)=true)(ckd_CourtDays_CourtDays:(AY K (.ref BB) (.ref BB) == some true)=true)(E6:qax K BB "reach" f24=true)(D1:qax K BB "counted_in" f26=true)(Fq:qne K Cl=true)(Fr:mkB K Cl f80=true)(Fs:xNo K Cl ["free_days","open_days","open_before","pattern","rows","shifts","table","name","who","owes","opens","base","many","unit","still","ends","anew","longer","yields","rule","counting","over","day","units","pauses","grants","order","by_name"]=true)(Ds:qax K Cl "before_year" f12=true)(E3:qax K Cl "year_with" f13=true)(ES:qax K Cl "nth" f15=true)(E8:qax K Cl "before" f20=true)(FS:qne K EC=true)(FT:mkB K EC f69=true)(FU:xNo K EC ["free_days","open_days","open_before","pattern","rows","shifts","table","name","who","owes","opens","base","many","unit","still","ends","anew","longer","yields","rule","counting","over","day","units","pauses","grants","order","by_name"]=true)(E4:qax K EC "role_in_still" f36=true)(Fa:qax K EC "role" f37=true)(G4:qne K BT=true)(G5:mkB K BT f50=true)(G6:xNo K BT ["free_days","open_days","open_before","pattern","rows","shifts","table","name","who","owes","opens","base","many","unit","still","ends","anew","longer","yields","rule","counting","over","day","units","pauses","grants","order","by_name"]=true)(EY:qax K BT "is_over" f34=true)(EK:qax K BT "is_halted" f38=true)(Fl:qax K BT "go_on" f39=true)(EZ:qax K BT "finish" f40=true)(ET:qax K BT "lasts_to" f41=true)(EM:qax K BT "starts_on" f42=true)(E9:qax K BT "is_under_way" f43=true)(F0:qax K BT "set_out" f44=true)(EE:qax K BT "begin_anew" f45=true)(EN:qax K BT "lengthen" f46=true)(Fm:qax K BT "halt" f47=true)(Fb:qax K BT "works" f48=true)(Fn:qax K BT "feel" f49=true)(EF:qax K BT "state_word" f52=true)(EU:qax K BT "account" f53=true)(FB:qne K CT=true)(FC:mkB K CT f81=true)(FD:xNo K CT ["free_days","open_days","open_before","pattern","rows","shifts","table","name","who","owes","opens","base","many","unit","still","ends","anew","longer","yields","rule","counting","over","day","units","pauses","grants","order","by_name"]=true)(EV:qax K CT "shift" f21=true)(EO:qax K CT "before" f22=true)(Fc:qax K CT "nth" f23=true)(EA:qax K CT "next_open" f28=true)(FE:qne K CC=true)(FF:mkB K CC f0=true)(FG:xNo K CC ["free_days","open_days","open_before","pattern","rows","shifts","table","name","who","owes","opens","base","many","unit","still","ends","anew","longer","yields","rule","counting","over","day","units","pauses","grants","order","by_name"]=true)(cti_Weeks_counted_in:qax K CC "counted_in" f25=true)(cti_Weeks_days_for:qax K CC "days_for" f9=true)(cti_Weeks_reach:qax K CC "reach" f10=true)(FH:qvp K CC=true)(ckd_Weeks_Counting:(AY K (.ref CC) (.ref B2) == some true)=true)(ckd_Weeks_Weeks:(AY K (.ref CC) (.ref CC) == some true)=true)(ckd_Weeks_CourtDays:(AY K (.ref CC) (.ref BB) == some false)=true)(EG:qax K CC "days_for" f9=true)(tnL:K.lookup PL=none)
  : ∃(fd:Au)(c Pt:Addr),(∀(s:Ad)(v:Value),BindsTo s fd ⟨[v],[]⟩ [("_law_script",v)])/\PySem.W.tabIn K "in_order"=some (c,Pt)/\K.lookup Pt=none/\∀base:Heap,K.In base->base.Ns A6 mg->Lam.LamF mg base c Pt->FnOk l.prog w K mg base CX0 25 fa fd ["_law_script"] (qpt K Pt):=by
 have e:=hfa.symm.trans (Bg X G a82);cases e;obtain⟨g0,d0⟩:=qbc p0 (ps:=["self","table"]) λ_ _ _ _ _ _=>qc4 λ_ _=>rfl;obtain⟨g1,d1⟩:=qa1 X G p1 (ps:=["unit","table"]) λ_ _ _ _ _ _=>qc4 λ_ _=>rfl;obtain⟨g2,d2⟩:=qa1 X G p2 (ps:=["thing"]) λ_ _ _ _ _ _=>qcw λ_=>rfl;obtain⟨g3,d3⟩:=qa1 X G p3 (ps:=["first","last","most"]) λ_ _ _ _ _ _=>qhg λ_ _ _=>rfl;obtain⟨g4,d4⟩:=qa1 X G p4 (ps:=["stretches","day"]) λ_ _ _ _ _ _=>qc4 λ_ _=>rfl;obtain⟨g5,d5⟩:=qa1 X G p5 (ps:=["laid"]) λ_ _ _ _ _ _=>qcw λ_=>rfl;obtain⟨g6,d6⟩:=qa1 X G p6 (ps:=["laid","first","last","word"]) λ_ _ _ _ _ _=>qqs λ_ _ _ _=>rfl;obtain⟨g7,d7⟩:=qa1 X G p7 (ps:=["rows"]) λ_ _ _ _ _ _=>qcw λ_=>rfl;obtain⟨g8,d8⟩:=qbc p8 (ps:=["self","units"]) λ_ _ _ _ _ _=>qc4 λ_ _=>rfl;obtain⟨g9,d9⟩:=qbc p9 (ps:=["self","units"]) λ_ _ _ _ _ _=>qc4 λ_ _=>rfl;obtain⟨g10,d10⟩:=qbc p10 (ps:=["self","first","many"]) λ_ _ _ _ _ _=>qhg λ_ _ _=>rfl;obtain⟨g11,d11⟩:=qa1 X G p11 (ps:=["year"]) λ_ _ _ _ _ _=>qcw λ_=>rfl;obtain⟨g12,d12⟩:=qbc p12 (ps:=["self","year"]) λ_ _ _ _ _ _=>qc4 λ_ _=>rfl;obtain⟨g13,d13⟩:=qbc p13 (ps:=["self","many"]) λ_ _ _ _ _ _=>qc4 λ_ _=>rfl;obtain⟨g14,d14⟩:=qa1 X G p14 (ps:=["year"]) λ_ _ _ _ _ _=>qcw λ_=>rfl;obtain⟨g15,d15⟩:=qbc p15 (ps:=["self","many"]) λ_ _ _ _ _ _=>qc4 λ_ _=>rfl;obtain⟨g16,d16⟩:=qa1 X G p16 (ps:=["week"]) λ_ _ _ _ _ _=>qcw λ_=>rfl;obtain⟨g17,d17⟩:=qa1 X G p17 (ps:=["day"]) λ_ _ _ _ _ _=>qcw λ_=>rfl;obtain⟨g18,d18⟩:=qa1 X G p18 (ps:=["day"]) λ_ _ _ _ _ _=>qcw λ_=>rfl;obtain⟨g19,d19⟩:=qa1 X G p19 (ps:=["day"]) λ_ _ _ _ _ _=>qcw λ_=>rfl;obtain⟨g20,d20⟩:=qbc p20 (ps:=["self","day"]) λ_ _ _ _ _ _=>qc4 λ_ _=>rfl;obtain⟨g21,d21⟩:=qbc p21 (ps:=["self","row","end"]) λ_ _ _ _ _ _=>qhg λ_ _ _=>rfl;obtain⟨g22,d22⟩:=qbc p22 (ps:=["self","day"]) λ_ _ _ _ _ _=>qc4 λ_ _=>rfl;obtain⟨g23,d23⟩:=qbc p23 (ps:=["self","many"]) λ_ _ _ _ _ _=>qc4 λ_ _=>rfl;obtain⟨g24,d24⟩:=qbc p24 (ps:=["self","first","many"]) λ_ _ _ _ _ _=>qhg λ_ _ _=>rfl;obtain⟨g25,d25⟩:=qbc p25 (ps:=["self","first","last"]) λ_ _ _ _ _ _=>qhg λ_ _ _=>rfl;obtain⟨g26,d26⟩:=qbc p26 (ps:=["self","first","last"]) λ_ _ _ _ _ _=>qhg λ_ _ _=>rfl;obtain⟨g27,d27⟩:=qa1 X G p27 (ps:=["kind","start","units","pauses"]) λ_ _ _ _ _ _=>qqs λ_ _ _ _=>rfl;obtain⟨g28,d28⟩:=qbc p28 (ps:=["self","day"]) λ_ _ _ _ _ _=>qc4 λ_ _=>rfl;obtain⟨g29,d29⟩:=qa1 X G p29 (ps:=["table","day","pauses"]) λ_ _ _ _ _ _=>qhg λ_ _ _=>rfl;obtain⟨g30,d30⟩:=qa1 X G p30 (ps:=["kind","start","units","pauses"]) λ_ _ _ _ _ _=>qqs λ_ _ _ _=>rfl;obtain⟨g32,d32⟩:=qbc p32 (ps:=["self"]) λ_ _ _ _ _ _=>qcw λ_=>rfl;obtain⟨g33,d33⟩:=qbc p33 (ps:=["self","name"]) λ_ _ _ _ _ _=>qc4 λ_ _=>rfl;obtain⟨g34,d34⟩:=qbc p34 (ps:=["self"]) λ_ _ _ _ _ _=>qcw λ_=>rfl;obtain⟨g35,d35⟩:=qa1 X G p35 (ps:=["runs"]) λ_ _ _ _ _ _=>qcw λ_=>rfl;obtain⟨g36,d36⟩:=qbc p36 (ps:=["self","kind"]) λ_ _ _ _ _ _=>qc4 λ_ _=>rfl;obtain⟨g37,d37⟩:=qbc p37 (ps:=["self","kind"]) λ_ _ _ _ _ _=>qc4 λ_ _=>rfl;obtain⟨g38,d38⟩:=qbc p38 (ps:=["self"]) λ_ _ _ _ _ _=>qcw λ_=>rfl;obtain⟨g39,d39⟩:=qbc p39 (ps:=["self","day"]) λ_ _ _ _ _ _=>qc4 λ_ _=>rfl;obtain⟨g40,d40⟩:=qbc p40 (ps:=["self","day"]) λ_ _ _ _ _ _=>qc4 λ_ _=>rfl;obtain⟨g41,d41⟩:=qbc p41 (ps:=["self"]) λ_ _ _ _ _ _=>qcw λ_=>rfl;obtain⟨g42,d42⟩:=qbc p42 (ps:=["self"]) λ_ _ _ _ _ _=>qcw λ_=>rfl;obtain⟨g43,d43⟩:=qbc p43 (ps:=["self","day"]) λ_ _ _ _ _ _=>qc4 λ_ _=>rfl;obtain⟨g44,d44⟩:=qbc p44 (ps:=["self","day","base"]) λ_ _ _ _ _ _=>qhg λ_ _ _=>rfl;obtain⟨g45,d45⟩:=qbc p45 (ps:=["self","day"]) λ_ _ _ _ _ _=>qc4 λ_ _=>rfl;obtain⟨g46,d46⟩:=qbc p46 (ps:=["self","kind"]) λ_ _ _ _ _ _=>qc4 λ_ _=>rfl;obtain⟨g47,d47⟩:=qbc p47 (ps:=["self","day"]) λ_ _ _ _ _ _=>qc4 λ_ _=>rfl;obtain⟨g48,d48⟩:=qbc p48 (ps:=["self","word","day","kind"]) λ_ _ _ _ _ _=>qqs λ_ _ _ _=>rfl;obtain⟨g49,d49⟩:=qbc p49 (ps:=["self","name","day","kind"]) λ_ _ _ _ _ _=>qqs λ_ _ _ _=>rfl;obtain⟨g51,d51⟩:=qa1 X G p51 (ps:=["book","table","runs","act"]) λ_ _ _ _ _ _=>qqs λ_ _ _ _=>rfl;obtain⟨g52,d52⟩:=qbc p52 (ps:=["self","last"]) λ_ _ _ _ _ _=>qc4 λ_ _=>rfl;obtain⟨g53,d53⟩:=qbc p53 (ps:=["self"]) λ_ _ _ _ _ _=>qcw λ_=>rfl;obtain⟨g54,d54⟩:=qa1 X G p54 (ps:=["book","table","acts"]) λ_ _ _ _ _ _=>qhg λ_ _ _=>rfl;obtain⟨g55,d55⟩:=qa1 X G p55 (ps:=["name","bases","taken"]) λ_ _ _ _ _ _=>qhg λ_ _ _=>rfl;obtain⟨g56,d56⟩:=qa1 X G p56 (ps:=["rules"]) λ_ _ _ _ _ _=>qcw λ_=>rfl;obtain⟨g57,d57⟩:=qa1 X G p57 (ps:=["within","week","yearly"]) λ_ _ _ _ _ _=>qhg λ_ _ _=>rfl;obtain⟨g58,d58⟩:=qa1 X G p58 (ps:=["free_days"]) λ_ _ _ _ _ _=>qcw λ_=>rfl;obtain⟨g59,d59⟩:=qa1 X G p59 (ps:=["thing"]) λ_ _ _ _ _ _=>qcw λ_=>rfl;obtain⟨g60,d60⟩:=qa1 X G p60 (ps:=["week"]) λ_ _ _ _ _ _=>qcw λ_=>rfl;obtain⟨g61,d61⟩:=qa1 X G p61 (ps:=["thing"]) λ_ _ _ _ _ _=>qcw λ_=>rfl;obtain⟨g62,d62⟩:=qa1 X G p62 (ps:=["yearly"]) λ_ _ _ _ _ _=>qcw λ_=>rfl;obtain⟨g63,d63⟩:=qa1 X G p63 (ps:=["things"]) λ_ _ _ _ _ _=>qcw λ_=>rfl;obtain⟨g64,d64⟩:=qa1 X G p64 (ps:=["row"]) λ_ _ _ _ _ _=>qcw λ_=>rfl;obtain⟨g65,d65⟩:=qa1 X G p65 (ps:=["rows"]) λ_ _ _ _ _ _=>qcw λ_=>rfl;obtain⟨g66,d66⟩:=qa1 X G p66 (ps:=["_law_script","_law_k"]) λ_ _ _ _ _ _=>qc4 λ_ _=>rfl;obtain⟨g67,d67⟩:=qa1 X G p67 (ps:=["_law_script","_law_k"]) λ_ _ _ _ _ _=>qc4 λ_ _=>rfl;obtain⟨g68,d68⟩:=qa1 X G p68 (ps:=["_law_cell","_law_many"]) λ_ _ _ _ _ _=>qc4 λ_ _=>rfl;obtain⟨g70,d70⟩:=qa1 X G p70 (ps:=["_law_script","_law_at","_law_k","_law_names","_law_kinds"]) λ_ _ _ _ _ _=>arg5 λ_ _ _ _ _=>rfl;obtain⟨g71,d71⟩:=qa1 X G p71 (ps:=["_law_script","_law_names","_law_kinds"]) λ_ _ _ _ _ _=>qhg λ_ _ _=>rfl;obtain⟨g72,d72⟩:=qa1 X G p72 (ps:=["_law_rules"]) λ_ _ _ _ _ _=>qcw λ_=>rfl;obtain⟨g73,d73⟩:=qa1 X G p73 (ps:=["_law_script","_law_rules","_law_names","_law_first","_law_many"]) λ_ _ _ _ _ _=>arg5 λ_ _ _ _ _=>rfl;obtain⟨g74,d74⟩:=qa1 X G p74 (ps:=["_law_acts_here"]) λ_ _ _ _ _ _=>qcw λ_=>rfl;obtain⟨g75,d75⟩:=qa1 X G p75 (ps:=["_law_account"]) λ_ _ _ _ _ _=>qcw λ_=>rfl;obtain⟨g76,d76⟩:=qa1 X G p76 (ps:=["_law_old","_law_new","_law_act"]) λ_ _ _ _ _ _=>qhg λ_ _ _=>rfl;obtain⟨g77,d77⟩:=qa1 X G p77 (ps:=["_law_account","_law_act"]) λ_ _ _ _ _ _=>qc4 λ_ _=>rfl;obtain⟨g78,d78⟩:=qa1 X G p78 (ps:=["_law_old","_law_new","_law_act"]) λ_ _ _ _ _ _=>qhg λ_ _ _=>rfl;obtain⟨g79,d79⟩:=qbc p79 (ps:=["self","rules"]) λ_ _ _ _ _ _=>qc4 λ_ _=>rfl;obtain⟨g80,d80⟩:=qbc p80 (ps:=["self","week","yearly"]) λ_ _ _ _ _ _=>qhg λ_ _ _=>rfl;have F31:=qoz (st:=qdl) l31 c31 k31;have b31:=F31.binds (ps:=["acts"]) λ_ _ _ _ _ _=>qcw λ_=>rfl;have F50:=qo4 (st:=qc2) l50 c50 k50;have b50:Binds K _ ["self","rule","table","name","day","base"] []:=qo5 (ds:=[]) λus hl S=>arg6 (p:=λus=>CI K S (bindArgs _ ⟨us,[]⟩)=some (List.zip (["self","rule","table","name","day","base"]:List Str) (us++[]))) (λu0 u1 u2 u3 u4 u5=>pk50 u0 u1 u2 u3 u4 u5 S) us (by rw[Bu]at hl;exact hl);have F69:=qo4 (st:=qck) l69 c69 k69;have b69:Binds K _ ["self","name","who","owes","opens","base","many","unit","still"] []:=qo5 (ds:=[]) λus hl S=>arg9 (p:=λus=>CI K S (bindArgs _ ⟨us,[]⟩)=some (List.zip (["self","name","who","owes","opens","base","many","unit","still"]:List Str) (us++[]))) (λu0 u1 u2 u3 u4 u5 u6 u7 u8=>pk69 u0 u1 u2 u3 u4 u5 u6 u7 u8 S) us (by rw[Bu]at hl;exact hl);have F81:=qo4 (st:=qbg) l81 c81 k81;have b81:Binds K _ ["self","week","yearly","rows"] []:=qo5 (ds:=[]) λus hl S=>qqs (p:=λus=>CI K S (bindArgs _ ⟨us,[]⟩)=some (List.zip (["self","week","yearly","rows"]:List Str) (us++[]))) (λu0 u1 u2 u3=>pk81 u0 u1 u2 u3 S) us (by rw[Bu]at hl;exact hl);have F82:=qoz (st:=qso) l82 c82 k82;have b82:=F82.binds (ps:=["_law_script"]) λ_ _ _ _ _ _=>qcw λ_=>rfl;have he_TableInit_2:Binds K _ ["self","week","yearly","rows"] [.none,.none]:=qo5 λus hl S=>qc4 (p:=λus=>CI K S (bindArgs _ ⟨us,[]⟩)=some (List.zip (["self","week","yearly","rows"]:List Str) (us++[.none,.none]))) (λu0 u1=>EQ u0 u1 S) us (by rw[Af]at hl;exact Nat.add_right_cancel hl);have T:Txt K mg {bA:=f0,xD:=g0,mM:=f1,nC:=g1,r8:=f2,nO:=g2,nA:=f3,tJ:=g3,tL:=f4,nG:=g4,rW:=f5,pP:=g5,mB:=f6,rM:=g6,rE:=f7,pU:=g7,gI:=f8,dR:=g8,bI:=f9,m4:=g9,gM:=f10,dG:=g10,tO:=f11,r9:=g11,lH:=f12,pN:=g12,lW:=f13,tG:=g13,rJ:=f14,tK:=g14,hM:=f15,nY:=g15,sZ:=f16,sP:=g16,mO:=f17,tE:=g17,sY:=f18,pV:=g18,sT:=f19,xQ:=g19,fP:=f20,rT:=g20,m5:=f21,pG:=g21,lU:=f22,nZ:=g22,lV:=f23,mC:=g23,bJ:=f24,fN:=g24,gP:=f25,bN:=g25,bD:=f26,fY:=g26,nE:=f27,nL:=g27,lK:=f28,mL:=g28,rG:=f29,sM:=g29,xG:=f30,rH:=g30,nN:=f31,bG:=_,hU:=f32,sL:=g32,fM:=f33,xP:=g33,lQ:=f34,n9:=g34,rR:=f35,nV:=g35,fZ:=f36,xL:=g36,lZ:=f37,mS:=g37,hV:=f38,tH:=g38,hJ:=f39,mK:=g39,m8:=f40,rS:=g40,gX:=f41,bE:=g41,gU:=f42,bM:=g42,lA:=f43,nJ:=g43,fL:=f44,mI:=g44,m6:=f45,nT:=g45,fS:=f46,pC:=g46,lN:=f47,sV:=g47,fO:=f48,sS:=g48,fH:=f49,tU:=g49,m9:=f50,mV:=_,pX:=f51,nH:=g51,l7:=f52,mT:=g52,lC:=f53,rZ:=g53,rL:=f54,nK:=g54,tP:=f55,tI:=g55,xI:=f56,xS:=g56,xK:=f57,rP:=g57,rA:=f58,xN:=g58,mH:=f59,pM:=g59,mN:=f60,nX:=g60,mY:=f61,nI:=g61,mU:=f62,xO:=g62,mW:=f63,sI:=g63,nR:=f64,mP:=g64,tY:=f65,nD:=g65,xF:=f66,nQ:=g66,mR:=f67,mD:=g67,pO:=f68,pQ:=g68,lJ:=f69,rC:=_,sQ:=f70,pZ:=g70,xA:=f71,pH:=g71,nU:=f72,pD:=g72,tZ:=f73,pI:=g73,sU:=f74,mJ:=g74,pW:=f75,xH:=g75,rD:=f76,tN:=g76,rY:=f77,rQ:=g77,tW:=f78,tD:=g78,lR:=f79,mZ:=g79,fX:=f80,nF:=g80,lS:=f81,fQ:=_,tX:=fa,xB:=_,kL:=EB,kN:=B2,kM:=BB,kH:=Cl,kB:=EC,k8:=BT,kG:=CT,kQ:=CC,lB:=FJ}:={
  dC:=d0,
  bS:=d1,
  kT:=d2,
  gH:=d3,
  gC:=d4,
  fG:=d5,
  dZ:=d6,
  dY:=d7,
  lP:=d8,
  sG:=d9,
  lI:=d10,
  gG:=d11,
  bL:=d12,
  mF:=d13,
  gK:=d14,
  fJ:=d15,
  gR:=d16,
  dJ:=d17,
  bW:=d18,
  bX:=d19,
  bY:=d20,
  fK:=d21,
  gJ:=d22,
  hZ:=d23,
  xM:=d24,
  lL:=d25,
  mE:=d26,
  dH:=d27,
  fT:=d28,
  fC:=d29,
  kX:=d30,
  dI:=⟨F31,Bg X G a31,b31⟩,
  pA:=d32,
  rF:=d33,
  rV:=d34,
  bT:=d35,
  tT:=d36,
  xU:=d37,
  lD:=d38,
  l9:=d39,
  sK:=d40,
  gE:=d41,
  gA:=d42,
  tR:=d43,
  lE:=d44,
  tS:=d45,
  t9:=d46,
  rO:=d47,
  sR:=d48,
  pR:=d49,
  rB:=⟨F50,b50,t50⟩,
  bR:=d51,
  pK:=d52,
  xJ:=d53,
  gQ:=d54,
  fF:=d55,
  dO:=d56,
  bQ:=d57,
  dW:=d58,
  fE:=d59,
  fD:=d60,
  dD:=d61,
  dN:=d62,
  kZ:=d63,
  bV:=d64,
  dU:=d65,
  kY:=d66,
  kK:=d67,
  gL:=d68,
  xE:=⟨F69,b69,t69⟩,
  dS:=d70,
  bZ:=d71,
  dB:=d72,
  bO:=d73,
  dE:=d74,
  dP:=d75,
  dQ:=d76,
  bU:=d77,
  fA:=d78,
  xC:=d79,
  xT:=d80,
  xW:=⟨F81,b81,t81⟩,
  zG:=⟨F82,Bg X G a82,b82⟩,
  zW:=Bg X G FK,
  gF:=qgd FP,
  zQ:=qki FQ,
  gT:=FR,
  xV:=qaj EJ,
  yU:=qaj ER,
  yS:=Bg X G Fd,
  bH:=qgd Fh,
  y9:=qki Fi,
  pY:=Fj,
  yQ:=qaj cti_Counting_counted_in,
  zF:=qaj cti_Counting_days_for,
  yN:=qaj cti_Counting_reach,
  K9:=Fk,
  KB:=beq_iff_eq.mp ckd_Counting_Counting,
  K3:=beq_iff_eq.mp ckd_Counting_Weeks,
  KD:=beq_iff_eq.mp ckd_Counting_CourtDays,
  K7:=qaj E2,
  KH:=qaj E7,
  KG:=qaj D2,
  zK:=Bg X G F3,
  gD:=qgd F6,
  xY:=qki F7,
  gY:=F8,
  yA:=qaj cti_CourtDays_counted_in,
  zN:=qaj cti_CourtDays_days_for,
  z9:=qaj cti_CourtDays_reach,
  K0:=F9,
  KF:=beq_iff_eq.mp ckd_CourtDays_Counting,
  zZ:=beq_iff_eq.mp ckd_CourtDays_Weeks,
  KA:=beq_iff_eq.mp ckd_CourtDays_CourtDays,
  KC:=qaj E6,
  K5:=qaj D1,
  yC:=Bg X G Fo,
  kO:=qgd Fq,
  yG:=qki Fr,
  gB:=Fs,
  dL:=qaj Ds,
  yR:=qaj E3,
  rK:=qaj ES,
  fU:=qaj E8,
  zO:=Bg X G FL,
  kD:=qgd FS,
  zC:=qki FT,
  kE:=FU,
  zD:=qaj E4,
  yL:=qaj Fa,
  yP:=Bg X G FY,
  k7:=qgd G4,
  yV:=qki G5,
  kA:=G6,
  yX:=qaj EY,
  sH:=qaj EK,
  pJ:=qaj Fl,
  yI:=qaj EZ,
  bC:=qaj ET,
  gW:=qaj EM,
  zX:=qaj E9,
  nM:=qaj F0,
  yZ:=qaj EE,
  yJ:=qaj EN,
  zL:=qaj Fm,
  zP:=qaj Fb,
  yW:=qaj Fn,
  xZ:=qaj EF,
  zE:=qaj EU,
  yE:=Bg X G Fx,
  kI:=qgd FB,
  z4:=qki FC,
  kR:=FD,
  pE:=qaj EV,
  gS:=qaj EO,
  tV:=qaj Fc,
  xR:=qaj EA,
  zM:=Bg X G Fy,
  bK:=qgd FE,
  zI:=qki FF,
  mQ:=FG,
  zV:=qaj cti_Weeks_counted_in,
  yM:=qaj cti_Weeks_days_for,
  zU:=qaj cti_Weeks_reach,
  K6:=FH,
  KE:=beq_iff_eq.mp ckd_Weeks_Counting,
  K4:=beq_iff_eq.mp ckd_Weeks_Weeks,
  K8:=beq_iff_eq.mp ckd_Weeks_CourtDays,
  KI:=qaj EG,
  yK:=he_TableInit_2,
  yT:=Bq X G G8,
  yD:=Bq X G FZ,
  bP:=Bq X G Fe,
  tQ:=Bq X G G9,
  dX:=Bq X G F4,
  kP:=Bq X G Ga,
  gZ:=Bq X G G0,
  hX:=Bq X G Gb,
  rN:=Bq X G Gc,
  kW:=Bq X G FM,
  xX:=Bq X G Fp,
  rX:=Bq X G Fz,
  yF:=Bq X G Ge,
  zA:=Bq X G FN,
  yB:=⟨_,Bg X G EH⟩,
  yH:=⟨_,Bg X G EW⟩,
  zT:=⟨_,Bg X G E5⟩,
  fV:=⟨_,Bg X G F5⟩,
  lG:=⟨_,Bg X G Ff⟩,
  yY:=⟨_,Bg X G Fg⟩,
  zR:=⟨_,Bg X G EI⟩,
  mG:=⟨_,Bg X G G3⟩,
  zH:=⟨_,Bg X G ED⟩,
  yO:=Bg X G FO,zY:=λH=>.inr ⟨_,_,_,FA,rfl,rfl,by show 2<=A5;rw[Bx];decide,.cons ⟨_,rfl⟩ (.cons ⟨_,rfl⟩ (.nil))⟩}
 exact⟨_,cL,PL,λs v=>.of_eq rfl,Lam.tab_mk a31 l31 rfl lcL vL,tnL,λbase _ _ LF=>okLaw T rfl LF⟩
theorem walk {l:PySem.W.OpenLaw}{q:AJ}{loose:List Str}{XP:(Str->Option Value)->Heap->Prop}{YP:World->Heap->Prop}{d d':DefRec}{K:Params->Ag}(hn:l.most=some 63)(hdf:d.params.defaults=[])(hrec:(PyProof.Rows.recsOf q).find? (λe=>e.name == ("in_order" : Str))=some d')
  (hY:∀(w:World)(h:Heap),YP w h->(K w.params).In h)
  (F:∀(w:World)(mg:Str->Option Value)(fa:Addr)(h:Heap),(K w.params).In h->h.Ns A6 mg->mg d.name=some (.ref fa) ->
   ∃(fd:Au)(c Pt:Addr),(∀(s:Ad)(u:Value),BindsTo s fd ⟨[u],[]⟩ [("_law_script",u)])/\PySem.W.tabIn (K w.params) "in_order"=some (c,Pt)/\(K w.params).lookup Pt=none /\
    ∀base:Heap,(K w.params).In base->base.Ns A6 mg->Lam.LamF mg base c Pt->FnOk l.prog w (K w.params) mg base CX0 25 fa fd ["_law_script"] (qpt (K w.params) Pt)) :
  PySem.W.WalkO q loose XP YP l.row.toRowW d [] (λf vs=>PySem.call f vs) :=
 Lam.walk_tab (n:=63) (k:=25) (x := "_law_script") (dn := "in_order") (CX:=λ_=>CX0) (sp:=λw Pt=>qpt (K w.params) Pt) hn Ud hdf ⟨rfl,Ud,Ud⟩ hrec hY F (λ_ _ a Pt ns hl hP hS=>⟨a,ns,rfl,hS,hl,hP,λ_=>rfl⟩) λ_ _ _ _ _ z=>z
end K57
namespace PySem.W.Fast
def tw28164477400940026:=()
def tw5575051632207142542:=()
def tw8579547793445000140:=()
def tw4820643919129617869:=()
def tw9931503441998434555:=()
def tw2646479505608503749:=()
def tw838619159642230173:=()
def tw5991287374818814944:=()
def tw16310298934422000209:=()
def tw5550514845200031665:=()
def tw8779806103121806424:=()
def tw3212030510228865103:=()
def tw2674253815017665235:=()
def tw1157639309097517472:=()
def tw1573409771628550034:=()
def tw17856701377491268290:=()
def tw3398257179911851894:=()
def tw341519307892637411:=()
def tw17142429126960054086:=()
def tw18026618419262512390:=()
def tw15039099109134361114:=()
def tw11702118376501395468:=()
def tw17014863152855713923:=()
def tw7475070496596157927:=()
def tw8649036224054359314:=()
def tw18133517419031854457:=()
def tw1337785983523729608:=()
def tw8651202158586941557:=()
def tw14487184461214358799:=()
def tw15025395730022908239:=()
def tw5227811865597586743:=()
def tw8472946184808588220:=()
def tw14809739523217094113:=()
def tw12330823229104260844:=()
def tw9092892016215802879:=()
def tw11419039888302979765:=()
def tw4960241330948693511:=()
def tw13982050293425845393:=()
def tw2737572023563852834:=()
def tw2780755514068079558:=()
def tw10248979949580839486:=()
def tw6155182674479817874:=()
def tw10089094289174707012:=()
def tw5407545542494630860:=()
def tw799122063722666711:=()
def tw9644339636258811826:=()
def tw12474406340404875815:=()
def tw1942536304335079495:=()
def tw2722976773068625642:=()
def tw2905265469852046366:=()
def tw6011596869814595013:=()
def tw18417777027675973918:=()
def tw3206698062783343793:=()
def tw15913375353843065346:=()
def tw3479558708944194196:=()
def tw9138260589632777864:=()
def tw16322859544708264543:=()
def tw11381411023446690992:=()
def tw1125491183624718463:=()
def tw12423753650346295298:=()
def tw1007149968634675497:=()
def tw3323304290524585427:=()
def tw16122788239013221159:=()
def tw7751527561121824751:=()
def tw16857239346302692285:=()
def tw10882067039053134715:=()
def tw8889151019557476113:=()
def tw16361676984348899821:=()
def tw14294078629578812941:=()
def tw9889262441469857965:=()
def tw4931394729469712314:=()
def tw16401847685437809121:=()
def tw15489740148836969711:=()
def tw7176349975912359855:=()
def tw8276925747815682605:=()
def tw16293417090250477554:=()
def tw594849672845549401:=()
def tw6462929308639951115:=()
def tw10071638894352274201:=()
def tw71753705568780183:=()
def tw724628086689851880:=()
def tw8152620192259635747:=()
def tw12047380600505435537:=()
def tw7408733565554027353:=()
def tw16341501069188058408:=()
def tw14706838916272391393:=()
def tw10856523183575570128:=()
def tw5481076657658007251:=()
def tw15173863875395822027:=()
def tw13499240099960588642:=()
def tw369336739640043424:=()
def tw9302402346020789668:=()
def tw18101356453266220281:=()
def tw6170327355553266404:=()
def tw3575968341887865208:=()
def tw2357827736421552929:=()
def tw7208185402081475328:=()
def tw15405905293469281184:=()
def tw11441211509314278824:=()
def tw9185402413530753724:=()
def tw17187928882860176021:=()
def tw11084320205809512553:=()
def tw1050168582815681251:=()
def tw16302318983095239366:=()
def tw6386763854199032231:=()
def tw15850519373782823607:=()
def tw11856313901022468105:=()
def tw7517105374169547618:=()
def tw6140582900966353502:=()
def tw15666130322907498339:=()
def tw1569344224234203570:=()
def tw5891678248079129887:=()
def tw16720816050498584150:=()
def tw12231218512144774888:=()
def tw758210778684154750:=()
def tw7911814421342528215:=()
def tw9185486855946828366:=()
def tw14785048756301137388:=()
def tw566618618806938641:=()
def tw9127868403603115957:=()
def tw10599651559905389505:=()
def tw321560986199302818:=()
def tw14354617449309986551:=()
def tw12732805899989623027:=()
def tw6381019041942362539:=()
def tw12323928186290672615:=()
def tw10816533366669402795:=()
def tw17783609486864402307:=()
def tw11094034381198890428:=()
def tw16126773052479093018:=()
def tw9961505856163648821:=()
def tw6669303570739153655:=()
def tw13835414476564869996:=()
def tw3539950556827658656:=()
def tw1622271711786429475:=()
def tw1503409082282267655:=()
def tw16147101171747672476:=()
def tw8292611847916043236:=()
def tw18274316826468762702:=()
def tw16252317095669579746:=()
def tw13232918247881981239:=()
def tw13289419105880904553:=()
def tw4951996312304940489:=()
def tw6909395965037467816:=()
def tw15354411691748463834:=()
def tw9240877487979280115:=()
def tw1641817227351396465:=()
def tw14735134634023730284:=()
def tw15483371916997826268:=()
def tw7219251504317320780:=()
def tw15013375921351683835:=()
def tw17028361180927063635:=()
def tw11664137932279509102:=()
def tw4793829949555221771:=()
def tw14845963540264569783:=()
def tw4762731572894720543:=()
def tw16787904487138399369:=()
def tw14670051038922385214:=()
def tw13105799446460411745:=()
def tw6779938106303433390:=()
def tw17553008745688673225:=()
def tw8193674241010581858:=()
def tw11402513101296265107:=()
def tw8281905665219326356:=()
def tw3849169488895546872:=()
def tw7012969205447159581:=()
def tw11581525200612343649:=()
def tw13401764016167213112:=()
def tw7008752872162422494:=()
def tw8611784191900078148:=()
def tw16894401577118358022:=()
def tw494413793307426820:=()
def tw8460378067726435863:=()
def tw18286493445423113963:=()
def tw15428026742040330038:=()
def tw3124755370329568012:=()
def tw4547626309684526528:=()
def tw7011036282738411617:=()
def tw6939459748333125139:=()
def tw4295182717562655546:=()
def tw10340504931752261110:=()
def tw285850475761493885:=()
def tw14791812230902263127:=()
def tw15451099373722989625:=()
def tw17121412269282136555:=()
def tw17194648611567495501:=()
def tw11177673719196638565:=()
def tw13661086803789894886:=()
def tw16750150345768403777:=()
def tw7272756350593425077:=()
def tw4845931955380380302:=()
def tw10226314703549036210:=()
def tw17354509074570912782:=()
def tw4961324849910431608:=()
def tw16866775028937905132:=()
def tw11409179050022697079:=()
def tw11295654685854073072:=()
def tw514898906183066295:=()
def tw7345920634291358593:=()
def tw14651812814641758978:=()
def tw15321140823835836418:=()
def tw12939628045108895615:=()
def tw16515613890629215841:=()
def tw8019618033531391421:=()
def tw11682711202185078687:=()
def tw15018491009713005151:=()
def tw16556825896677527892:=()
def tw11581475203130399776:=()
def tw7307452827689290540:=()
def tw11546797865361787470:=()
def tw522905678761733712:=()
def tw23229484091529037:=()
def tw7587585297138311795:=()
def tw13778706179485812429:=()
def tw18039373885807271038:=()
def tw14025077040182897775:=()
def tw10037094060675674570:=()
def tw6935230409892350529:=()
def tw10262098942548938508:=()
def tw14414232619465896345:=()
def tw8774631241393198630:=()
def tw7289331536211268329:=()
def tw11403473581194998697:=()
def tw4307471416931603882:=()
def tw8301036095067307441:=()
def tw1342930564669254432:=()
def tw5228690262498730297:=()
def tw11495736800946082139:=()
def tw8177731370707099823:=()
def tw8390426958888563792:=()
def tw11889522890702304604:=()
def tw11530869987772263496:=()
def tw1782806309290038039:=()
def tw1339245526211801744:=()
def tw5077143141915198695:=()
def tw13982396419314540960:=()
def tw10636298718289804001:=()
def tw9956245571372745478:=()
def tw1304167110604457085:=()
def tw9384945580672166444:=()
def tw12632956476614612801:=()
def tw6849865501211256476:=()
def tw1518296381399706049:=()
def tw3075019831693930493:=()
def tw11637480392819348413:=()
def tw2695892770012943502:=()
def tw12913954086679629631:=()
def tw9521788096835708299:=()
def tw15500869619177500729:=()
def tw7920285776153991091:=()
def tw80687833769930876:=()
def tw1785148975798928005:=()
def tw2378790900327029733:=()
def tw10667880714288074497:=()
def tw16682953285997526113:=()
def tw8244053664574346867:=()
def tw2411083640061929445:=()
def tw735605224370162895:=()
def tw17300805885514089807:=()
def tw12326789013087374071:=()
def tw15065523608518691576:=()
def tw12276753230074340586:=()
def tw6257859078488308563:=()
def tw14807275895988289138:=()
def tw11363892630485514353:=()
def tw9944153187490852989:=()
def tw13698752738019176285:=()
def tw18276820569400689484:=()
def tw18203729008437847808:=()
def tw8828310755173112321:=()
def tw13866361006563329342:=()
def tw2347387833553278633:=()
def tw7862707551062606236:=()
def tw14232992047816692067:=()
def tw1893924087376576756:=()
def tw13292046024436425350:=()
def tw2397027765564983974:=()
def tw7967161341348520956:=()
def tw14138761856577046305:=()
def tw11401461120692911259:=()
def tw2179593839316273354:=()
def tw16659024072826073625:=()
def tw12687065722975425458:=()
def tw16346873541520909071:=()
def tw1197277163641215410:=()
def tw10064610680238503007:=()
def tw8845378138429502452:=()
def tw5366858717061117610:=()
def tw8975998480851537201:=()
def tw16593928968468936347:=()
def tw17853304019315160524:=()
def tw9516451665220176867:=()
def tw10888968177151322442:=()
def tw4346586140559666922:=()
def tw2368720362193465110:=()
def tw16421470713060239220:=()
def tw7886859498135750491:=()
def tw13787654973987549845:=()
def tw5644804329601504336:=()
def tw16855939274495596221:=()
def tw18191820153423092382:=()
def tw12918522976498880016:=()
def tw5758655637719187737:=()
def tw15488117824013189528:=()
def tw6150256172607438892:=()
def tw12688587866334821609:=()
def tw10329231736852463630:=()
def tw1402946284884987820:=()
def tw112099626084526535:=()
def tw12267087339280547080:=()
def tw4876505774615402152:=()
def tw6158255045474765555:=()
def tw17820790307432246022:=()
def tw16792307860014074546:=()
def tw1353240627180509737:=()
def tw4668898790054468395:=()
def tw7027701958342110898:=()
def tw14107090878723595185:=()
def tw8263439727406011507:=()
def tw12340901644752687746:=()
def tw12703710821762198473:=()
def tw15225566823632309520:=()
def tw4017558093678450827:=()
def tw12125445514930674459:=()
def tw7964059766420172865:=()
def tw598813342306149367:=()
def tw16819173394909562084:=()
def tw6569460807167052579:=()
def tw4500224778226056592:=()
def tw7219972054141622229:=()
def tw566824846309653986:=()
def tw5334522535621945789:=()
def tw12197594099445303841:=()
def tw4654522565344736019:=()
def tw12713004821580638247:=()
def tw1541247337148044405:=()
def tw231555318109746129:=()
def tw12330644709936977629:=()
def tw1872711911548693234:=()
def tw6181920303086678777:=()
def tw194377395518586704:=()
def tw3478810462459509601:=()
def tw6766228046038534144:=()
def tw5671678997046636201:=()
def tw6012493778013540072:=()
def tw3245030371099306742:=()
def tw8448367243295882006:=()
def tw12188674590848645848:=()
def tw10790681374738160698:=()
def tw5817444750041972312:=()
def tw15677492647717345047:=()
def tw3160830825979970554:=()
def tw12785973441594965666:=()
def tw6762416233763170921:=()
def tw1475730563445436882:=()
def tw10698329664260776437:=()
def tw9928965669299714409:=()
def tw4775281768965024577:=()
def tw10437640311801178885:=()
def tw5842227929016918120:=()
def tw5774621580125887451:=()
def tw15248155479635519166:=()
def tw13320139935859176234:=()
def tw6692402783854612016:=()
def tw8305260146511028034:=()
def tw8767118442880179285:=()
def tw14944386600769891282:=()
def tw4179881419899722:=()
def tw6258612162551414037:=()
def tw8343677307018239541:=()
def tw9420643562497152686:=()
def tw10421102106969337094:=()
def tw7616403042768137302:=()
def tw1400657679894313362:=()
def tw6320074353483031210:=()
def tw5783059935243179407:=()
def tw5427045302709060661:=()
def tw14020177806647687080:=()
def tw4978175353412861550:=()
def tw5448942834222921229:=()
def tw14843531779966501407:=()
def tw9501223575497490004:=()
def tw5653007230422401859:=()
def tw14572914550790924908:=()
def tw9799670471850799972:=()
def tw11848499229656786170:=()
def tw11157173999538568667:=()
def tw17134025290349049875:=()
def tw3178621467544748026:=()
def tw10401998075556174204:=()
def tw10288334648955899903:=()
def tw15910690241539343361:=()
def tw14314315106909185581:=()
def tw15729508589437481447:=()
def tw6992443452037430246:=()
def tw15887988986679260909:=()
def tw12115854321053198997:=()
def tw6966476667108920502:=()
def tw7310375275304341319:=()
def tw4795823141759038817:=()
def tw362801927446042254:=()
def tw8566796965749015543:=()
def tw9636057598618304908:=()
def tw9225298047201653900:=()
def tw635177499046830258:=()
def tw12213006160087765954:=()
def tw11158415483913397544:=()
def tw1687336396386243680:=()
def tw17260052084510880631:=()
def tw13081837697141400732:=()
def tw14247939302785752063:=()
def tw10929479657913271493:=()
def tw5087358678332501199:=()
def tw759614459820878238:=()
def tw9566934784135532556:=()
def tw12976597792889565516:=()
def tw17863945001465018779:=()
def tw4259525128290987068:=()
def tw11686012143473696472:=()
def tw5467821317491306366:=()
def tw7285594852425830423:=()
def tw894876176291369212:=()
def tw10741740783937227198:=()
def tw13819096438921451373:=()
def tw2525079127427287529:=()
def tw2966160764561268422:=()
def tw9921869180845194963:=()
def tw5355327416977290551:=()
def tw6009074455115196530:=()
def tw17524566836257569427:=()
def tw6322831693111937174:=()
def tw10839494270698622132:=()
def tw1345080743638819023:=()
def tw1660154661923429847:=()
def tw9298738081900335795:=()
def tw12489031780383835632:=()
def tw3435611071346454485:=()
def tw237549470237849498:=()
def tw7531392505780208098:=()
def tw10562032944406736532:=()
def tw803806314519507602:=()
def tw1547386947183525555:=()
def tw4267349304153340380:=()
def tw17855532406591714217:=()
def tw12010800607406618819:=()
def tw12904999177286383206:=()
def tw10234463070402965998:=()
def tw736680712353357771:=()
def tw236777062098071507:=()
def tw10976398908175372854:=()
def tw14581489472332982794:=()
def tw3391575469971067391:=()
def tw14276363849177805715:=()
def tw14083798153285998236:=()
def tw12258487264105262721:=()
def tw9948386088286623851:=()
def tw8206479631720482803:=()
def tw9465490416574890817:=()
def tw897533960384432368:=()
def tw5147353138503084331:=()
def tw12825274993391645223:=()
def tw38799295908266144:=()
def tw12830053956285975960:=()
def tw5167096683052279046:=()
def tw18161338541522659032:=()
def tw4930612599788903585:=()
def tw12491963890045774615:=()
def tw13545164046693026900:=()
def tw11731242097702389109:=()
def tw9200508929074739180:=()
def tw2688854845424684861:=()
def tw3828561306690788692:=()
def tw15307565657960484708:=()
def tw3733393522071046765:=()
def tw10923160184388231399:=()
def tw11966720236289435938:=()
def tw6302847655693889488:=()
def tw14858405065335889169:=()
def tw1958879965346292754:=()
def tw14186089635635757311:=()
def tw13680352369266200547:=()
def tw10081051859221197895:=()
def tw5869705903637238144:=()
def tw15391687091967625121:=()
def tw2220765836040349277:=()
def tw2938905309684237995:=()
def tw4141061041285915060:=()
def tw11405862137247774413:=()
def tw4699063209550067990:=()
def tw11039103762961320191:=()
def tw4209852999423860266:=()
def tw5281576324477288082:=()
def tw17448039983081430196:=()
def tw13964123521858419915:=()
def tw8143750774443126862:=()
def tw13044809747991925123:=()
def tw11923922107699249394:=()
def tw2001891266134375999:=()
def tw3139271034672261769:=()
def tw17999992485768311167:=()
def tw7894389058877318775:=()
def tw12960091660658273650:=()
def tw4312807651651119933:=()
def tw1767880773270372007:=()
def tw11575856337432975603:=()
def tw2866535876632004126:=()
def tw14476118953193198140:=()
def tw9407397227293209156:=()
def tw4508378223618955865:=()
def tw11064108429957142479:=()
def tw18217079354252448502:=()
def tw2264490728729023049:=()
def tw17636127088754117559:=()
def tw8299937912098467954:=()
def tw2075915635214343620:=()
def tw12616923783760502681:=()
def tw13764992378736746560:=()
def tw1741239763551403407:=()
def tw1296156777793213032:=()
def tw1455963630002235840:=()
def tw3707836815424312792:=()
def tw6099683255667685272:=()
def tw1090800716507708549:=()
def tw18326856736543532901:=()
def tw11558278318610966920:=()
def tw18056737939007860104:=()
def tw47973998598502324:=()
def tw9113829730697218644:=()
def tw4827169765329722526:=()
def tw5398175952132515288:=()
def tw17834840154754801458:=()
def tw588859847235002090:=()
def tw8171682534483708475:=()
def tw4199222790972121983:=()
def tw9029964735454959144:=()
def tw18121303939698808248:=()
def tw10783219939034135365:=()
def tw18137759467269565269:=()
def tw15700760165883556307:=()
def tw2322605580740502488:=()
def tw15097861086625751328:=()
def tw4291060571114680379:=()
def tw11782200120332614371:=()
def tw17121683786210406859:=()
def tw15565071571740819882:=()
def tw11641328832696522997:=()
def tw10567277646765984204:=()
def tw10373702533948226118:=()
def tw15034488261826381380:=()
def tw4722572568523821631:=()
def tw8089633640194173179:=()
def tw16829281167183201239:=()
def tw13767129081413115245:=()
def tw2892079002946377874:=()
def tw955569469891499639:=()
def tw13294330718454706435:=()
def tw12153337414355993041:=()
def tw10562761503933416722:=()
def tw13720061670389315828:=()
def tw10918862387620975126:=()
def tw1425527375219241301:=()
def tw15586489187983230395:=()
def tw1567785992017858190:=()
def tw4155267324690513889:=()
def tw12870606686540851071:=()
def tw11321446687876554713:=()
def tw92242515509124294:=()
def tw15977721195194555649:=()
def tw11669231353921974300:=()
def tw9463688966097094339:=()
def tw7925124503594313728:=()
def tw2653826570451686392:=()
def tw13405931352968239810:=()
def tw15442612776453796098:=()
def tw11307068178803082490:=()
def tw10633380701467092184:=()
def tw6193549632719924345:=()
def tw2557439043846961152:=()
def tw3451018165653050313:=()
def tw6146474888329401233:=()
def tw10373354499540953923:=()
def tw9214113254010792806:=()
def tw5568879202414806686:=()
def tw6888274261363654428:=()
def tw13050675259798909372:=()
def tw2054756537131604012:=()
def tw18344065466514518767:=()
def tw2236015941319423597:=()
def tw11594676454673005669:=()
def tw10258332480814649610:=()
def tw7133827763276996348:=()
def tw8768256866690322734:=()
def tw714532073326393034:=()
def tw15040581148393724632:=()
def tw9262183456872365157:=()
def tw6921125058759916836:=()
def tw10413353407843282602:=()
def tw12860752395017916156:=()
def tw2668891511816428325:=()
def tw2965224487108659110:=()
def tw10175201210934114172:=()
def tw6338079032597529673:=()
def tw6648579807617806668:=()
def tw16978642824054970782:=()
def tw10415394881437074880:=()
def tw842890309343224973:=()
def tw11175798391378533892:=()
def tw13103869113944748796:=()
def tw2546990787108669111:=()
def tw12270997911821233938:=()
def tw4906051553937168231:=()
def tw11116156723996891012:=()
def tw825058527358890125:=()
def tw14609706924075755948:=()
def tw2772805889776828928:=()
def tw11795558366675999993:=()
def tw3953899467917374472:=()
def tw11907279444637257009:=()
def tw10563874070549430862:=()
def tw10156150611808375709:=()
def tw353043850324416543:=()
def tw4989880828109498104:=()
def tw17588825210823791920:=()
def tw4354789320115827437:=()
def tw9601884324937228273:=()
def tw6751417884372591177:=()
def tw11592588213323095373:=()
def tw1203402662040763096:=()
def tw8673697220529745557:=()
def tw5934578482212905310:=()
def tw12489340489817659318:=()
def tw10902090627960381086:=()
def tw18059257718868111073:=()
def tw5289363823674482760:=()
def tw8680468122921855738:=()
def tw7957883794235208554:=()
def tw11228879811898012784:=()
def tw7393605967516807486:=()
def tw13636880073656098238:=()
def tw8199309507235257665:=()
def tw5795943481238731750:=()
def tw1762949661797527329:=()
def tw4522355662739194772:=()
def tw4703074811726280543:=()
end PySem.W.Fast
open PySem PySem.W PyProof.Rows
set_option maxRecDepth 100000 in
set_option maxHeartbeats 0 in
theorem PySem.Challenge.cw_termcourt_k57_past_days_stay_holds : PySem.Challenge.rw_termcourt_k57_past_days_stay.Holds := by
 w_on; o_law; k_head; (case hw=>w_witness2)
 k_fill
 refine K57.walk (l:=PySem.Challenge.rw_termcourt_k57_past_days_stay) rfl rfl (by rfl) (λw h Y=>PySem.W.km_in_of Y) ?F
 case F =>
  intro w mg fa h KX G hmg
  refine' K57.all_mk KX G hmg ?FK ?Fd ?F3 ?Fo ?FL ?FY ?Fx ?Fy ?p0 ?p1 ?p2 ?p3 ?p4 ?p5 ?p6 ?p7 ?p8 ?p9 ?p10 ?p11 ?p12 ?p13 ?p14 ?p15 ?p16 ?p17 ?p18 ?p19 ?p20 ?p21 ?p22 ?p23 ?p24 ?p25 ?p26 ?p27 ?p28 ?p29 ?p30 ?a31 ?l31 ?c31 ?k31 ?p32 ?p33 ?p34 ?p35 ?p36 ?p37 ?p38 ?p39 ?p40 ?p41 ?p42 ?p43 ?p44 ?p45 ?p46 ?p47 ?p48 ?p49 ?a50 ?t50 ?l50 ?c50 ?k50 ?pk50 ?p51 ?p52 ?p53 ?p54 ?p55 ?p56 ?p57 ?p58 ?p59 ?p60 ?p61 ?p62 ?p63 ?p64 ?p65 ?p66 ?p67 ?p68 ?a69 ?t69 ?l69 ?c69 ?k69 ?pk69 ?p70 ?p71 ?p72 ?p73 ?p74 ?p75 ?p76 ?p77 ?p78 ?p79 ?p80 ?a81 ?t81 ?l81 ?c81 ?k81 ?pk81 ?EQ ?a82 ?l82 ?c82 ?k82 ?G8 ?FZ ?Fe ?G9 ?F4 ?Ga ?G0 ?Gb ?Gc ?FM ?Fp ?Fz ?Ge ?FN ?EH ?EW ?E5 ?F5 ?Ff ?Fg ?EI ?G3 ?ED ?FO ?FA ?lcL ?vL ?FP ?FQ ?FR ?EJ ?ER ?Fh ?Fi ?Fj ?cti_Counting_counted_in ?cti_Counting_days_for ?cti_Counting_reach ?Fk ?ckd_Counting_Counting ?ckd_Counting_Weeks ?ckd_Counting_CourtDays ?E2 ?E7 ?D2 ?F6 ?F7 ?F8 ?cti_CourtDays_counted_in ?cti_CourtDays_days_for ?cti_CourtDays_reach ?F9 ?ckd_CourtDays_Counting ?ckd_CourtDays_Weeks ?ckd_CourtDays_CourtDays ?E6 ?D1 ?Fq ?Fr ?Fs ?Ds ?E3 ?ES ?E8 ?FS ?FT ?FU ?E4 ?Fa ?G4 ?G5 ?G6 ?EY ?EK ?Fl ?EZ ?ET ?EM ?E9 ?F0 ?EE ?EN ?Fm ?Fb ?Fn ?EF ?EU ?FB ?FC ?FD ?EV ?EO ?Fc ?EA ?FE ?FF ?FG ?cti_Weeks_counted_in ?cti_Weeks_days_for ?cti_Weeks_reach ?FH ?ckd_Weeks_Counting ?ckd_Weeks_Weeks ?ckd_Weeks_CourtDays ?EG ?tnL
  (case FK|Fd|F3|Fo|FL|FY|Fx|Fy=>k_is)
  (case p0=>refine' K57.pm_of ?pa ?pt ?pl ?pc ?pk; (case pa|pt|pl|pc|pk=>k_is))
  (case p1|p2|p3|p4|p5|p6|p7=>refine' K57.pd_of ?pa ?pl ?pc ?pk; (case pa|pl|pc|pk=>k_is))
  (case p8|p9|p10=>refine' K57.pm_of ?pa ?pt ?pl ?pc ?pk; (case pa|pt|pl|pc|pk=>k_is))
  (case p11=>refine' K57.pd_of ?pa ?pl ?pc ?pk; (case pa|pl|pc|pk=>k_is))
  (case p12|p13=>refine' K57.pm_of ?pa ?pt ?pl ?pc ?pk; (case pa|pt|pl|pc|pk=>k_is))
  (case p14=>refine' K57.pd_of ?pa ?pl ?pc ?pk; (case pa|pl|pc|pk=>k_is))
  (case p15=>refine' K57.pm_of ?pa ?pt ?pl ?pc ?pk; (case pa|pt|pl|pc|pk=>k_is))
  (case p16|p17|p18|p19=>refine' K57.pd_of ?pa ?pl ?pc ?pk; (case pa|pl|pc|pk=>k_is))
  (case p20|p21|p22|p23|p24|p25|p26=>refine' K57.pm_of ?pa ?pt ?pl ?pc ?pk; (case pa|pt|pl|pc|pk=>k_is))
  (case p27=>refine' K57.pd_of ?pa ?pl ?pc ?pk; (case pa|pl|pc|pk=>k_is))
  (case p28=>refine' K57.pm_of ?pa ?pt ?pl ?pc ?pk; (case pa|pt|pl|pc|pk=>k_is))
  (case p29|p30=>refine' K57.pd_of ?pa ?pl ?pc ?pk; (case pa|pl|pc|pk=>k_is))
  (case a31|l31|c31|k31=>k_is)
  (case p32|p33|p34=>refine' K57.pm_of ?pa ?pt ?pl ?pc ?pk; (case pa|pt|pl|pc|pk=>k_is))
  (case p35=>refine' K57.pd_of ?pa ?pl ?pc ?pk; (case pa|pl|pc|pk=>k_is))
  (case p36|p37|p38|p39|p40|p41|p42|p43|p44|p45|p46|p47|p48|p49=>refine' K57.pm_of ?pa ?pt ?pl ?pc ?pk; (case pa|pt|pl|pc|pk=>k_is))
  (case a50|t50|l50|c50|k50=>k_is)
  (case pk50=>intros; kernel_rfl)
  (case p51=>refine' K57.pd_of ?pa ?pl ?pc ?pk; (case pa|pl|pc|pk=>k_is))
  (case p52|p53=>refine' K57.pm_of ?pa ?pt ?pl ?pc ?pk; (case pa|pt|pl|pc|pk=>k_is))
  (case p54|p55|p56|p57|p58|p59|p60|p61|p62|p63|p64|p65|p66|p67|p68=>refine' K57.pd_of ?pa ?pl ?pc ?pk; (case pa|pl|pc|pk=>k_is))
  (case a69|t69|l69|c69|k69=>k_is)
  (case pk69=>intros; kernel_rfl)
  (case p70|p71|p72|p73|p74|p75|p76|p77|p78=>refine' K57.pd_of ?pa ?pl ?pc ?pk; (case pa|pl|pc|pk=>k_is))
  (case p79|p80=>refine' K57.pm_of ?pa ?pt ?pl ?pc ?pk; (case pa|pt|pl|pc|pk=>k_is))
  (case a81|t81|l81|c81|k81=>k_is)
  (case pk81|EQ=>intros; kernel_rfl)
  (case a82|l82|c82|k82|G8|FZ|Fe|G9|F4|Ga|G0|Gb|Gc|FM|Fp|Fz|Ge|FN|EH|EW|E5|F5|Ff|Fg|EI|G3|ED|FO|FA|lcL=>k_is)
  (case vL=>exact rfl)
  (case FP|FQ|FR|EJ|ER|Fh|Fi|Fj|cti_Counting_counted_in|cti_Counting_days_for|cti_Counting_reach|Fk|ckd_Counting_Counting|ckd_Counting_Weeks|ckd_Counting_CourtDays|E2|E7|D2|F6|F7|F8|cti_CourtDays_counted_in|cti_CourtDays_days_for|cti_CourtDays_reach|F9|ckd_CourtDays_Counting|ckd_CourtDays_Weeks|ckd_CourtDays_CourtDays|E6|D1|Fq|Fr|Fs|Ds|E3|ES|E8|FS|FT|FU|E4|Fa|G4|G5|G6|EY|EK|Fl|EZ|ET|EM|E9|F0|EE|EN|Fm|Fb|Fn|EF|EU|FB|FC|FD|EV|EO|Fc|EA|FE|FF|FG|cti_Weeks_counted_in|cti_Weeks_days_for|cti_Weeks_reach|FH|ckd_Weeks_Counting|ckd_Weeks_Weeks|ckd_Weeks_CourtDays|EG|tnL=>kernel_rfl)
end
